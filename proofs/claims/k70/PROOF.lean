import PyProof.Rows.All
import Wide.All
import OpenK.AllK
import Wide.FinOn
import Lean
import PyProof.EqAt
import PyProof.EqKinds
import PyProof.TupleCall
import PyProof.NeKinds
import PyProof.SliceStr2
import PyProof.ConsumeWalk
import KE.KDictSum
import PyProof.DictWalks
import PyProof.AttrMissSeq
import KE.KDictOf
import PyProof.WalksS
import PyProof.Walks
import PyProof.DictList
import PyProof.MeetsDict
import PyProof.FactsAll.dict_3
import PyProof.MinMaxWalk
import PyProof.WalkInts
import PyProof.Rows.CallKwBuiltin
import PyProof.MaxThree
import PyProof.Rows.SortRunsK
import PyProof.Rows.SortShellK
import KE.KSortTup
import PyProof.DictRoadsH
import PyProof.DictIter
import KE.KDictList
import PyProof.ZipIter
import PyProof.TupleIter
import PyProof.WalksMore
import PyProof.SumWalkG
import PyProof.DictValues
import PyProof.FactsAll.dict_4
import PySem.SetOps
import OpenK.KMore
import PyProof.ListRange
import PyProof.DictItems
import PyProof.CallStr
import KE.KIntText
import PyProof.StrCalls2
import PyProof.Rows.StrItems
import PyProof.FactsAll.NoneType
import KE.KTryOn
import PyProof.Draws
import PyProof.EnumMake
import PyProof.Rows.Range3
import KE.KRevIter
import PyProof.ListStr
import PyProof.NsDelKeeps
import PyProof.RulesAs
import KE.KIsAll
import PyProof.ExcArgsOwn
import KE.KFind
import PyProof.ExcInit
import KE.KTryMore
import PySem.Challenge.RW_wirechannel_k70_rows_of_piles
abbrev J':=PySem.W.Frag
set_option hygiene false
set_option compiler.extract_closed false
noncomputable section
local macro_rules|`(tactic|omega)=>`(tactic|first|decide|lia)
local macro_rules|`(tactic|ext)=>`(tactic|omega)
local macro_rules|`(tactic|show $t)=>`(tactic|refine $t)
set_option Elab.async false
set_option linter.all false
set_option maxRecDepth 100000
def aa:=@PySem.wpAny_bind
def ae:=@List.length_map
def af:=@PySem.wpAny_pure
def ag:=@PySem.Heap.get?_push_of_some
def ah:=@List.getElem?_eq_getElem
def ai:=@Array.length_toList
def aj:=@Bool.false_eq_true
def ao:=@List.mem_cons
def aq:=@List.size_toArray
def ar:=@List.length_append
def au:=@PyProof.Rows.wpS_bind
def av:=@List.mem_append
def aw:=@PySem.Heap.lt_size
def ax:=@PySem.Heap.get?_push_size
def ay:=@Nat.le_refl
def az:=@List.map_cons
def aA:=@PyProof.Rows.wpS_pure
def aB:=@List.getElem?_eq_some_iff
def aD:=@Bool.false_ne_true
def aE:=@List.mem_cons_of_mem
def aF:=@Nat.ne_of_lt
def aG:=@List.getElem?_map
def aH:=@List.length_cons
def aI:=@List.map_append
def aJ:=@Nat.le_trans
def aK:=@Nat.lt_of_lt_of_le
def aL:=@List.length_take
def aM:=@List.mem_of_getElem?
def aN:=@Nat.zero_le
def aO:=@PySem.PassesOwn.never
def aP:=@if_false
def aQ:=@if_true
def aR:=@List.mem_map
def aS:=@List.map_map
def aT:=@Array.getElem_toList
def aU:=@List.mem_filter
def aV:=@PySem.W.mg_none_of
def aW:=@List.mem_append_right
def aX:=@List.length_filter_le
def aY:=@PySem.Heap.get?_update_other
def aZ:=@Option.some.injEq
def a9:=@List.append_nil
def ba:=@List.pairwise_append
def bg:=@Int.emod_nonneg
def bh:=@PySem.wpAny_holding
def bj:=@decide_eq_false_iff_not
def bp:=@List.append_assoc
def br:=@List.mem_singleton
def bw:=@Int.emod_lt_of_pos
def bx:=@List.take_of_length_le
def bz:=@List.take_add_one
def bA:=@Array.getElem_mem
def bB:=@List.take_append_drop
def bC:=@Array.toList_append
def bD:=@List.not_mem_nil
def bE:=@decide_eq_true_eq
def bF:=@PySem.W.mg_of
def bG:=@List.drop_eq_getElem_cons
def bH:=@List.mem_range
def bI:=@Array.mem_toList_iff
def bJ:=@PyProof.Rows.wpS_forRange
def bK:=@Bool.not_eq_true'
def bL:=@List.forall_mem_cons
def bM:=@List.mem_cons_self
def bN:=@List.pairwise_cons
def bO:=@decide_false
def bP:=@List.getElem_of_mem
def bQ:=@List.nodup_cons
def bR:=@List.getElem?_cons_succ
def bS:=@List.take_length
def bT:=@Nat.lt_succ_of_lt
def bU:=@List.length_range
def bV:=@Array.toList_push
def bW:=@List.eq_nil_of_length_eq_zero
def bX:=@PySem.Around.under_plainId
def bY:=@decide_true
def bZ:=@PySem.wpAny_mono
def b8:=@Nat.le_succ
def b9:=@List.mem_map_of_mem
namespace L2
open PySem PySem.Spec PyProof.Rows
noncomputable abbrev Key:=Sum Int Str
noncomputable def Jc:Key->Value->Bool
 | .inl k,v=>Value.isInt k v
 | .inr x,v=>Value.isStrOf x v
noncomputable def NY(w:World):Key->Int
 | .inl k=>hashInt k
 | .inr x=>hashStr w x
theorem uq:∀{k:Key}{v:Value},Jc k v=true->(∃i t,k=Sum.inl i/\v=Value.int i t)\/(∃x t,k=Sum.inr x/\v=Value.str x t)
 | .inl i,v,h=>by
  obtain⟨t,e⟩:=Value.isInt_shape (k:=i) (v:=v) h;show .inl ⟨i,t,rfl,e⟩
 | .inr x,v,h=>by
  obtain⟨t,e⟩:=Value.isStrOf_shape (x:=x) (v:=v) h;show .inr ⟨x,t,rfl,e⟩
theorem Ql(a b:Int):decide ((Sum.inl a:Key)=Sum.inl b)=(a==b):=by
 by_cases e:a=b
 .subst e;simp
 have h:¬(Sum.inl a:Key)=Sum.inl b:=λq=>e (Sum.inl.inj q)
 rw[decide_eq_false h];show(beq_eq_false_iff_ne.mpr e).symm
theorem Qk(a b:Str):decide ((Sum.inr a:Key)=Sum.inr b)=decide (a=b):=by
 by_cases e:a=b
 .subst e;simp
 have h:¬(Sum.inr a:Key)=Sum.inr b:=λq=>e (Sum.inr.inj q)
 rw[decide_eq_false h,decide_eq_false e]
theorem Qj(a:Int)(b:Str):decide ((Sum.inl a:Key)=Sum.inr b)=false:=decide_eq_false (λq=>nomatch q)
theorem Qi(a:Str)(b:Int):decide ((Sum.inr a:Key)=Sum.inl b)=false:=decide_eq_false (λq=>nomatch q)
noncomputable def Kd(prog:Program)(w:World):PySem.KeyKind prog w Key where
 is:=Jc
 hash:=NY w
 inj:=λv a b ha hb=>by
  rcases uq ha with⟨i,t,rfl,rfl⟩ | ⟨x,t,rfl,rfl⟩
  .rcases uq hb with⟨j,u,rfl,e⟩ | ⟨y,u,rfl,e⟩
   .injection e with c _;rw[c]
   show nomatch e
  rcases uq hb with⟨j,u,rfl,e⟩ | ⟨y,u,rfl,e⟩
  .exact nomatch e
  injection e with c _;rw[c]
 byValue:=λk v h=>by
  rcases uq h with⟨i,t,rfl,rfl⟩ | ⟨x,t,rfl,rfl⟩<;>rfl
 pyHash:=λd h=>by
  rcases uq d with⟨i,t,rfl,rfl⟩ | ⟨x,t,rfl,rfl⟩
  .exact wpAny_pyHash_int h
  show wpAny_pyHash_str h
 eqBool:=λf d h=>by
  rcases uq f with⟨i,t,rfl,rfl⟩ | ⟨x,t,rfl,rfl⟩
  .rcases uq d with⟨j,u,rfl,rfl⟩ | ⟨y,u,rfl,rfl⟩
   .rw[Ql] at h;show wpAny_eqBool_int h
   rw[Qj] at h;show SeqAt.EqAt.int_str i t y u _ _ _ _ h
  rcases uq d with⟨j,u,rfl,rfl⟩ | ⟨y,u,rfl,rfl⟩
  .rw[Qi] at h;show SeqAt.EqAt.str_int x t j u _ _ _ _ h
  rw[Qk] at h;show wpAny_eqBool_str h
 «strs»:=λk x t v h=>by
  rcases uq h with⟨i,u,rfl,e⟩ | ⟨y,u,rfl,e⟩
  .exact nomatch e
  injection e with c _
  subst c;cases v<;>rfl
inductive V where
 | non | bl (b:Bool) | int (i:Int) | str (x:Str) | Dz (b:Array UInt8) | Dx (b:UInt64) | ref (a:Addr) | ty (n:String)
 deriving DecidableEq
def RelV:V->Value->Prop
 | .non,u=>u=Value.none
 | .bl b,u=>u=Value.bool b
 | .int i,u=>∃t,u=Value.int i t
 | .str x,u=>∃t,u=Value.str x t
 | .Dz b,u=>∃t,u=Value.bytes b t
 | .Dx b,u=>∃t,u=Value.float b t
 | .ref a,u=>u=Value.ref a
 | .ty n,u=>u=Value.type n
abbrev Vals:List V->List Value->Prop:=Paired RelV
theorem Vals.length{xs:List V}{a:List Value}(r:Vals xs a):xs.length=a.length:=Paired.length r
theorem Vals.get:∀{xs:List V}{us:List Value}{i:Nat}{x:V},Vals xs us->xs[i]?=some x->∃u,us[i]?=some u/\RelV x u
 | _,_,_,_,.nil,e=>by simp at e
 | _,_,0,_,.cons r _,e=>by simp at e;subst e;show⟨_,rfl,r⟩
 | _,_,i+1,x,.cons _ t,e=>by
  obtain⟨u,b,a⟩:=Vals.get (i:=i) (x:=x) t (by simpa using e);show⟨u,by simpa using b,a⟩
theorem Vals.set{x:V}{u:Value}(r:RelV x u):∀{xs:List V}{us:List Value}(i:Nat),Vals xs us->Vals (xs.set i x) (us.set i u)
 | _,_,_,.nil=>.nil
 | _,_,0,.cons _ t=>.cons r t
 | _,_,i+1,.cons q t=>.cons q (Vals.set r i t)
theorem Vals.append{xs ys:List V}{a ws:List Value}(h:Vals xs a)(s:Vals ys ws):Vals (xs++ys) (a++ws):=by
 induction h with
 | nil=>show s
 | cons r t b=>show .cons r b
theorem Vals.take:∀{xs:List V}{us:List Value}(n:Nat),Vals xs us->Vals (xs.take n) (us.take n)
 | _,_,0,_=>.nil
 | _,_,_+1,.nil=>.nil
 | _,_,n+1,.cons r t=>.cons r (Vals.take n t)
theorem Vals.drop:∀{xs:List V}{us:List Value}(n:Nat),Vals xs us->Vals (xs.drop n) (us.drop n)
 | _,_,0,r=>r
 | _,_,_+1,.nil=>.nil
 | _,_,n+1,.cons _ t=>Vals.drop n t
def pN:Option V->Option Value->Prop
 | some v,some u=>RelV v u
 | none,none=>True
 | _,_=>False
def KV{a:Type}:List (a×V)->List (a×Value)->Prop:=Paired λ(p:a×V)(q:a×Value)=>p.1=q.1/\RelV p.2 q.2
noncomputable def kV:Key->V
 | .inl i=>.int i
 | .inr x=>.str x
inductive HO where
 /-- a list -/
 | lst (xs:List V)
 /-- a tuple (never changes) -/
 | tup (xs:List V)
 /-- a dict Ai keys are ints and texts;one Ai keys are tuples of ints and texts (rC empty one is both) -/
 | dK (dG:List (Key×V)) (ep:Nat) | dT (dG:List (List Key×V)) (bs:List Addr×Nat)
 /-- a set of ints: its members,its size -/
 | set (S:Int->Bool) (n:Nat)
 /-- an instance of rC class at C,its dict at dx,its attributes -/
 | ins (C dx:Addr) (fs:List (Str×V))
 /-- rC dict of rC instance at x -/
 | own (x:Addr)
 /-- rC dict of an exception -/
 | xd (fs:List (Str×V))
 /-- a bound method,f of x -/
 | met (f x:Addr)
 /-- a range object lo,lo+1,.. below hi -/
 | vA (lo hi:Int)
 /-- a Ap W8 is known to rC object (rC sj;a dict while a loop walks it): read,never written while it is so -/
 | lJ (o:Obj) (u:HO)
 /-- a code AF table -/
 | vy (ps:Array Value)
 /-- any other Ap,by F8 is true of its one object (a def of Mz own: Zf a S n:=HO.ext λh=>..) -/
 | ext (φ:Heap->Prop)
noncomputable abbrev Hp:=Addr->Option HO
noncomputable def upd(H:Hp)(a:Addr)(o:HO):Hp:=λb=>if b=a then some o else H b
theorem jb{H:Hp}{a:Addr}{o:HO}:upd H a o a=some o:=by unfold upd;rw[if_pos rfl]
theorem eG{H:Hp}{a b:Addr}{o:HO}(h:b≠a):upd H a o b=H b:=by unfold upd;rw[if_neg h]
theorem Oi{H:Hp}{a b:Addr}{o u:HO}(h:H a=some o)(h':H b=some u)(d:o≠u):a≠b:=by
 intro e;subst e;rw[h] at h';show d (Option.some.inj h')
theorem kf{H:Hp}{a b:Addr}{o:HO}(h:H a=some o)(h':H b=none):a≠b:=by
 intro e;subst e;rw[h] at h';cases h'
section
variable(P:Program)(w:World)
def eV(H:Hp)(h:Heap)(a:Addr):HO->Prop
 | .lst xs=>xs.length<=sizeLine/\∃(its:List Value)(n:Nat),Vals xs its/\h.get? a=some { cls:=.type "list",data:=.seq its.toArray n }
 | .tup xs=>xs.length<=sizeLine/\∃its:List Value,Vals xs its/\IsTup h a its.toArray
 | .dK c ep=>c.length<=sizeLine/\(a==sysModules)=false/\∃g,KV c g/\h.DictAt (Kd P w) a g ep
 | .dT c bs=>c.length<=sizeLine/\(a==sysModules)=false/\∃xs:List (List Key×Addr×Value),xs.map (λx=>x.2.1)=bs.1/\
   Paired (λ(p:List Key×V)(q:List Key×Addr×Value)=>p.1=q.1/\H q.2.1=some (.tup (p.1.map kV))/\RelV p.2 q.2.2) c xs/\
   ∃o es ep,h.get? a=some o/\o.ExactDict/\o.data=.dict es ep/\es.toList=xs.map (entryOfKey (tupleKind (Kd P w)))/\(xs.map (·.1)).Nodup/\ep=bs.2
 | .set S n=>h.SetOf (intKind P w) a S n
 | .ins C d fs=>H d=some (.own a)/\fs.length<=1000/\d≠a/\h.get? a=some (PySem.W.instObj C d)/\
   ∃b,h.Ns1 d b/\(∀f,pN (fs.lookup f) (b f))/\PySem.Within b (fs.map (·.1))
 | .own _=>∃o,h.get? a=some o
 | .xd fs=>∃b,h.Ns1 a b/\∀f,pN (fs.lookup f) (b f)
 | .vA lo hi=>∃t u v,h.get? a=some { cls:=.type "range",data:=.fields #[.int lo t,.int hi u,.int 1 v] }
 | .lJ o u=>h.get? a=some o/\eV H h a u
 | .vy ps=>h.get? a=some { cls:=.none,data:=.fields ps }
 | .met f x=>h.get? a=some (PySem.W.methodObj (.ref f) (.ref x))
 | .ext e=>e h/\(∃o,h.get? a=some o)/\∀j i:Heap,e j->(∀o,j.get? a=some o->i.get? a=some o)->e i
def kh(H:Hp)(h:Heap):Prop:=∀a o,H a=some o->eV P w H h a o
end
section
variable{P:Program}{w:World}{H H':Hp}{h h':Heap}{a:Addr}{o:HO}
theorem eV.lt(x:eV P w H h a o):a<h.objs.size:=by
 cases o with
 | lst xs=>obtain⟨_,_,_,_,e⟩:=x;show aw e
 | tup xs=>obtain⟨_,_,_,p⟩:=x;show p.lt
 | dK b ep=>obtain⟨_,_,_,_,o,_,e,_⟩:=x;show aw e
 | dT b bs=>obtain⟨_,_,_,_,_,o,_,_,e,_⟩:=x;show aw e
 | set S n=>obtain⟨o,_,_,_,e,_⟩:=x;show aw e
 | ins C d fs=>obtain⟨_,_,_,e,_⟩:=x;show aw e
 | own y=>obtain⟨_,e⟩:=x;show aw e
 | xd fs=>obtain⟨_,⟨_,_,_,e,_⟩,_⟩:=x;show aw e
 | vA lo hi=>obtain⟨_,_,_,e⟩:=x;show aw e
 | lJ ob u=>obtain⟨e,_⟩:=x;show aw e
 | vy ps=>show aw (show h.get? a=some _ from x)
 | met f y=>show aw (show h.get? a=some _ from x)
 | ext c=>obtain⟨_,⟨_,e⟩,_⟩:=x;show aw e
theorem Paired.GC{d c:Type}{F G:d->c->Prop}{e:List d}{g:List c}(h:Paired F e g)(f:∀a b,F a b->G a b):Paired G e g:=by
 induction h with
 | nil=>show .nil
 | cons r t i=>show .cons (f _ _ r) i
theorem eV.lA(x:eV P w H h a o)(k:∀b u,(b=a\/H b=some (.own a))->h.get? b=some u->h'.get? b=some u)
  (l:∀b,H b=some (.own a)->H' b=some (.own a)) (ht:∀b xs,H b=some (.tup xs)->H' b=some (.tup xs)):eV P w H' h' a o:=by
 induction o with
 | lst xs=>obtain⟨z,its,n,r,e⟩:=x;show⟨z,its,n,r,k _ _ (.inl rfl) e⟩
 | tup xs=>obtain⟨z,its,r,ob,e,c⟩:=x;show⟨z,its,r,ob,k _ _ (.inl rfl) e,c⟩
 | dK s ep=>obtain⟨z,y,i,r,ob,es,e,c⟩:=x;show⟨z,y,i,r,ob,es,k _ _ (.inl rfl) e,c⟩
 | dT s bs=>
  obtain⟨z,y,xs,A,r,ob,es,ep,e,c⟩:=x;show⟨z,y,xs,A,Paired.GC r λp q z=>⟨z.1,ht _ _ z.2.1,z.2.2⟩,ob,es,ep,k _ _ (.inl rfl) e,c⟩
 | set S n=>obtain⟨ob,es,ep,t,e,c⟩:=x;show⟨ob,es,ep,t,k _ _ (.inl rfl) e,c⟩
 | ins C D fs=>
  obtain⟨d,z,ne,e,g,⟨od,es,ep,m,c⟩,r⟩:=x;show⟨l _ d,z,ne,k _ _ (.inl rfl) e,g,⟨od,es,ep,k _ _ (.inr d) m,c⟩,r⟩
 | own y=>obtain⟨ob,e⟩:=x;show⟨ob,k _ _ (.inl rfl) e⟩
 | xd fs=>obtain⟨g,⟨od,es,ep,e,c⟩,r⟩:=x;show⟨g,⟨od,es,ep,k _ _ (.inl rfl) e,c⟩,r⟩
 | vA lo hi=>obtain⟨t,u,v,e⟩:=x;show⟨t,u,v,k _ _ (.inl rfl) e⟩
 | lJ ob u j=>obtain⟨e,q⟩:=x;show⟨k _ _ (.inl rfl) e,j q⟩
 | vy ps=>
  have e:h.get? a=some { cls:=.none,data:=.fields ps }:=x;show h'.get? a=some { cls:=.none,data:=.fields ps };show k a _ (.inl rfl) e
 | met f y=>
  have e:h.get? a=some (PySem.W.methodObj (.ref f) (.ref y)):=x;show h'.get? a=some (PySem.W.methodObj (.ref f) (.ref y));show k a _ (.inl rfl) e
 | ext B=>obtain⟨p,⟨o,e⟩,st⟩:=x;show⟨st _ _ p λo q=>k _ _ (.inl rfl) q,⟨o,k _ _ (.inl rfl) e⟩,st⟩
theorem kh.lt(x:kh P w H h)(e:H a=some o):a<h.objs.size:=(x a o e).lt
theorem kh.fresh(x:kh P w H h)(e:h.objs.size<=a):H a=none:=by
 cases q:H a with
 | none=>rfl
 | some u=>show absurd (aK (x.lt q) e) (Nat.lt_irrefl _)
theorem kh.kept(x:kh P w H h)(k:∀b u,h.get? b=some u->h'.get? b=some u):kh P w H h':=λa o e=>
 (x a o e).lA (λb u _ q=>k b u q) (λ_ q=>q) λ_ _ q=>q
theorem kh.laid(x:kh P w H h)(k:∀b u,h.get? b=some u->h'.get? b=some u)(d:h.objs.size<=a)(new:eV P w (upd H a o) h' a o):kh P w (upd H a o) h':=λb u e=>by
 have hn:=x.fresh d;by_cases hb:b=a
 .subst hb;rw[jb] at e;cases e;show new
 rw[eG hb] at e;show(x b u e).lA (λc v _ q=>k c v q) (λc q=>by rw[eG (kf q hn)];show q) λc xs q=>by rw[eG (kf q hn)];show q
end
def Rd(H:Hp)(a:Addr)(u:HO):Prop:=H a=some u\/∃o,H a=some (.lJ o u)
theorem Rd.ok{P:Program}{w:World}{H:Hp}{h:Heap}{a:Addr}{u:HO}(r:Rd H a u)(x:kh P w H h):eV P w H h a u:=by
 rcases r with r | ⟨o,r⟩
 .exact x a u r
 obtain⟨_,q⟩:=x a _ r;show q
def DG:Option HO->Prop
 | some (.lst _)=>True
 | some (.dK _ _)=>True
 | some (.dT _ _)=>True
 | some (.set _ _)=>True
 | some (.ins _ _ _)=>True
 | some (.ext _)=>True
 | _=>False
section
variable{P:Program}{w:World}{H:Hp}{h h':Heap}{x e:Addr}{o':HO}
theorem kh.write(ok:kh P w H h)(d:DG (H x))(he:e=x\/H e=some (.own x))(k:∀b u,b≠e->h.get? b=some u->h'.get? b=some u)(j:∃u,h'.get? e=some u)
  (new:eV P w (upd H x o') h' x o'):kh P w (upd H x o') h':=λb u q=>by
 have i:∀c y,H c=some (.own y)->c≠x:=λc y r z=>by subst z;rw[r] at d;show d
 have m:∀c xs,H c=some (.tup xs)->c≠x:=λc xs r z=>by subst z;rw[r] at d;show d
 by_cases hb:b=x
 .subst hb;rw[jb] at q;cases q;show new
 rw[eG hb] at q;by_cases a:b=e
 .have g:H b=some (.own x):=by
   rcases he with z | z
   .exact absurd (a.trans z) hb
   rw[a];show z
  rw[q] at g;cases g;obtain⟨v,l⟩:=j;show⟨v,by rw[a];show l⟩
 show(ok b u q).lA (λc v f r=>k c v ?_ r) (λc r=>by rw[eG (i c b r)];show r) λc xs r=>by rw[eG (m c xs r)];show r
 rcases f with rfl | f
 .exact a
 rintro rfl;rcases he with z | z
 .exact i c b f z
 rw[f] at z;cases z;show hb rfl
end
structure Un(fs ex:List Addr)(H H':Hp)(h h':Heap):Prop where
 keep:∀b o,h.get? b=some o->H b=none->b∉fs->b∉ex->h'.get? b=some o
 slot:∀b o,h.get? b=some o->H b=none->b∈fs->b∉ex->∃sl,h'.get? b=some { o with slots:=sl }
 free:∀b o,h.get? b=some o->H b=none->b∉ex->H' b=none
 there:∀b o,h.get? b=some o->b∉ex->∃o',h'.get? b=some o'
 kQ:∀b xs,H b=some (.tup xs)->H' b=some (.tup xs)
 kz:∀b o u,H b=some (.lJ o u)->H' b=some (.lJ o u)
 kR:∀b ps,H b=some (.vy ps)->∃more,H' b=some (.vy (ps++more))
section
variable{fs Dw ex ZS:List Addr}{H H1 H2:Hp}{h h1 h2 h':Heap}{a x e:Addr}{o:HO}
theorem Un.any(u:Un fs ex H H1 h h1){b:Addr}{ob:Obj}(q:h.get? b=some ob)(n:H b=none)(hx:b∉ex):∃sl,h1.get? b=some { ob with slots:=sl }:=by
 by_cases hb:b∈fs
 .exact u.slot b ob q n hb hx
 show⟨ob.slots,u.keep b ob q n hb hx⟩
theorem Un.kept(k:∀b u,h.get? b=some u->h'.get? b=some u):Un fs ex H H h h':=
 ⟨λb ob q _ _ _=>k b ob q,λb ob q _ _ _=>⟨ob.slots,k b ob q⟩,λ_ _ _ n _=>n,λb ob q _=>⟨ob,k b ob q⟩,λ_ _ q=>q,λ_ _ _ q=>q,λ_ ps q=>⟨#[],by rw[q];simp⟩⟩
theorem Un.refl:Un fs ex H H h h:=Un.kept λ_ _ q=>q
theorem Un.laid(k:∀b u,h.get? b=some u->h'.get? b=some u)(c:h.objs.size<=a)(hn:H a=none):Un fs ex H (upd H a o) h h' where
 keep:=λb u q _ _ _=>k b u q
 slot:=λb u q _ _ _=>⟨u.slots,k b u q⟩
 free:=λb u q n _=>by rw[eG (aF (aK (aw q) c))];show n
 there:=λb u q _=>⟨u,k b u q⟩
 kQ:=λb xs q=>by rw[eG (kf q hn)];show q
 kz:=λb u xs q=>by rw[eG (kf q hn)];show q
 kR:=λb ps q=>⟨#[],by rw[eG (kf q hn),q];simp⟩
theorem Un.write(a:DG (H x))(he:e=x\/H e=some (.own x))(k:∀b u,b≠e->h.get? b=some u->h'.get? b=some u)(d:∃u,h'.get? e=some u):Un fs ex H (upd H x o) h h':=by
 have hx:∀b,H b=none->b≠x:=λb n z=>by subst z;rw[n] at a;show a
 have hb:∀b,H b=none->b≠e:=λb n z=>by
  subst z;rcases he with r | r
  .exact hx b n r
  rw[n] at r;cases r
 have hm:∀b u,H b=some u->¬DG (some u)->b≠x:=λb u q nm z=>by subst z;rw[q] at a;show nm a
 show⟨λb u q n _ _=>k b u (hb b n) q,λb u q n _ _=>⟨u.slots,k b u (hb b n) q⟩,λb u q n _=>by rw[eG (hx b n)];show n,λb u q _=>?_,
  λb xs q=>by rw[eG (hm b _ q λz=>z)];show q,λb u xs q=>by rw[eG (hm b _ q λz=>z)];show q,λb ps q=>⟨#[],by rw[eG (hm b _ q λz=>z),q];simp⟩⟩
 by_cases c:b=e
 .subst c;show d
 show⟨u,k b u c q⟩
end
noncomputable def An(h:Heap)(H:Hp):List Addr:=(List.range h.objs.size).filter λa=>(H a).isSome
noncomputable def ue(h:Heap)(H:Hp):Heap:=PySem.W.hideAll h (An h H)
theorem Ue(h:Heap)(H:Hp):(ue h H).objs.size=h.objs.size:=PySem.W.hideAll_size _ _
theorem SA{h:Heap}{H:Hp}{b:Addr}{o:Obj}(e:h.get? b=some o)(n:H b=none):(ue h H).get? b=some o:=
 PySem.W.hideAll_get _ e λhm=>by
  have q:(H b).isSome=true:=(aU.mp hm).2;rw[n] at q;simp at q
theorem QI{h:Heap}{H:Hp}{b:Addr}{o:Obj}(e:(ue h H).get? b=some o):h.get? b=some o/\H b=none:=by
 have a:h.get? b=some o:=PySem.W.of_hideAll (An h H) e;show⟨a,?_⟩;cases q:H b with
 | none=>rfl
 | some x=>
  have hm:b∈An h H:=aU.mpr ⟨bH.mpr (aw a),by simp[q]⟩;have z:(ue h H).get? b=none:=PySem.W.hideAll_none (An h H) hm;rw[z] at e;cases e
noncomputable def QH(g h:Heap)(L:Addr):List (Addr×Obj):=(List.range h.objs.size).filterMap λa=>if a=L\/(g.get? a).isSome=true then none else(h.get? a).map λo=>(a,o)
noncomputable def mP(g h:Heap)(L d:Addr):List (Addr×Obj):=(QH g h L).filter λp=>decide (p.1≠d)
structure Mod(K:J')(mg:Str->Option Value)(base:Heap):Prop where
 sC:K.In base
 glob:base.Ns mainGlobals mg
 blt:∃mb,base.Ns builtinsNs mb/\∀x:Str,x≠"__name__"->mb x=bootBuiltins x
 nolimit:base.NoLimit
structure Cx where
 prog:Program
 w:World
 K:J'
 mg:Str->Option Value
 base:Heap
 A:Around
 N:List Str
 eK:Shared
 qX:Hp
 env:Env
 outer:List Env
 stack:List Env
 ex:List Addr
 fn:Str->Bool
 calm:Bool
 pn:List (Addr×Obj)
 xe:Value->Shared->Prop
noncomputable def jZ(l:List Env):List Addr:=l.filterMap (·.frame)
noncomputable abbrev Cx.fs(X:Cx):List Addr:=jZ X.outer
def oM(a:Scope)(x:Str):Prop:=a.names.lookup x=some .local\/a.names.lookup x=some .cell\/a.names.lookup x=some .free
def Loc(a:Scope)(x:Str):Prop:=a.names.lookup x=some .local\/a.names.lookup x=some .cell
def Look(env:Env)(h:Heap)(m:Str->Option Value)(x:Str)(u:Value):Prop:=
 (env.kindOf x=some .local/\m x=some u)\/((env.kindOf x=some .cell\/env.kindOf x=some .free)/\∃c,env.cells.lookup x=some c/\h.IsCell c (some u))
structure Cx.Ok(X:Cx):Prop where
 mod:Mod X.K X.mg X.base
 kind:X.env.scope.kind=.function
 glob:X.env.globals=mainGlobals
 blt:X.env.builtins=builtinsNs
 above:X.eK.heap.objs.size<=X.env.locals
 inj:∀x y c,X.env.cells.lookup x=some c->X.env.cells.lookup y=some c->x=y
 has:∀x,(X.env.kindOf x=some .cell\/X.env.kindOf x=some .free)->∃c,X.env.cells.lookup x=some c
 cab:∀x c,X.fn x=true->X.env.cells.lookup x=some c->X.eK.heap.objs.size<=c
 hd:X.calm=true->X.A.handled=none
 frames:X.A.frames=some X.stack
 Aw:X.stack=X.outer\/(X.stack=X.env::X.outer/\X.env.frame=some X.env.locals)
 exf:∀b∈X.ex,b≠X.env.locals/\∀x c,X.env.cells.lookup x=some c->c≠b
 bs:∀b o,X.base.get? b=some o->X.eK.heap.get? b=some o/\X.qX b=none
 uS:X.base.objs.size<=X.eK.heap.objs.size
 qJ:∀b o,X.base.get? b=some o->b∉X.ex
 qS:∀b∈X.ex,b∉X.fs
 iQ:X.eK.heap.FunFrames X.base X.outer
 sS:∀b∈X.fs,X.qX b=none
structure Inv(X:Cx)(K':List (Addr×Obj))(σ:List (Option V))(H:Hp)(s:Shared):Prop where
 ok:X.Ok
 os:s.os=X.eK.os
 bare:AllBare s.gens
 base:Un X.fs X.ex X.qX H X.eK.heap s.heap
 loc:∃m,s.heap.Ns X.env.locals m/\∀(i:Nat)(x:Str)(v:V),X.N[i]?=some x->σ[i]?=some (some v)->oM X.env.scope x->∃u,RelV v u/\Look X.env s.heap m x u
 cell:∀x c,X.env.cells.lookup x=some c->∃v,s.heap.IsCell c v
 free:H X.env.locals=none
 gJ:∀x c,X.env.cells.lookup x=some c->H c=none
 pin:∀p∈X.pn++K',s.heap.get? p.1=some p.2/\H p.1=none/\p.1≠X.env.locals/\p.1∉X.fs/\∀v,p.2.data≠.cell v
 dD:kh X.prog X.w H s.heap
 len:σ.length=X.N.length
section
variable{X:Cx}{K':List (Addr×Obj)}{σ:List (Option V)}{H H':Hp}{s:Shared}{h':Heap}
theorem Cx.Ok.Gy(ok:X.Ok){b:Addr}{o:Obj}(e:X.base.get? b=some o):b∉X.fs:=λhb=>by
 have:=(ok.iQ.mem hb).1;rw[e] at this;cases this
theorem Inv.bs(I:Inv X K' σ H s):∀b o,X.base.get? b=some o->s.heap.get? b=some o/\H b=none:=λb o e=>
 ⟨I.base.keep b o (I.ok.bs b o e).1 (I.ok.bs b o e).2 (I.ok.Gy e) (I.ok.qJ b o e),I.base.free b o (I.ok.bs b o e).1 (I.ok.bs b o e).2 (I.ok.qJ b o e)⟩
theorem Inv.bk(I:Inv X K' σ H s):∀b o,X.base.get? b=some o->s.heap.get? b=some o:=λb o e=>(I.bs b o e).1
theorem Inv.mod(I:Inv X K' σ H s):Mod X.K X.mg X.base:=I.ok.mod
theorem Inv.mf(I:Inv X K' σ H s):X.K.In s.heap:=I.ok.mod.sC.keeps I.bk
theorem Inv.lt(I:Inv X K' σ H s):X.env.locals<s.heap.objs.size:=let⟨_,hn,_⟩:=I.loc;hn.lt
theorem Inv.sz(I:Inv X K' σ H s):X.eK.heap.objs.size<=s.heap.objs.size:=aJ I.ok.above (Nat.le_of_lt I.lt)
theorem Inv.Gx(I:Inv X K' σ H s){a:Addr}(h:s.heap.objs.size<=a):a∉X.fs:=λhb=>by
 obtain⟨_,o,b,_⟩:=I.ok.iQ.mem hb;show absurd (aK (aw b) (aJ I.sz h)) (Nat.lt_irrefl _)
theorem Inv.sV(I:Inv X K' σ H s):∀x c,X.env.cells.lookup x=some c->c≠X.env.locals:=λx c e z=>by
 obtain⟨v,o,a,hd⟩:=I.cell x c e;obtain⟨m,⟨f,es,ep,d,b,_⟩,_⟩:=I.loc;rw[z,d] at a;cases a;rw[b] at hd;cases hd
theorem Inv.iQ(I:Inv X K' σ H s):s.heap.FunFrames X.base X.outer:=by
 have all:∀(l:List Env),(∀b∈jZ l,b∈X.fs)->X.eK.heap.FunFrames X.base l->s.heap.FunFrames X.base l:=by
  intro l;induction l with
  | nil=>intro _ _;trivial
  | cons env r d=>
   intro c h;obtain⟨i,⟨L,o,hf,hn,g,hd⟩,f⟩:=h;have a:L∈X.fs:=c L (by unfold jZ;rw[List.filterMap_cons,hf];show bM);obtain⟨sl,e⟩:=I.base.slot L o g (I.ok.sS L a) a λz=>I.ok.qS L z a
   show⟨i,⟨L,_,hf,hn,e,hd⟩,d (λb hb=>c b (by unfold jZ;rw[List.filterMap_cons,hf];show aE _ hb)) f⟩
 show all X.outer (λ_ hb=>hb) I.ok.iQ
theorem Inv.stack(I:Inv X K' σ H s):s.heap.FunFrames X.base X.stack:=by
 rcases I.ok.Aw with e | ⟨e,hf⟩
 .rw[e];show I.iQ
 rw[e];obtain⟨m,hn,_⟩:=I.loc;show .cons (by rw[I.ok.kind];decide) hf hn ?_ I.iQ;show Heap.get?_none_of_le (aJ I.ok.uS I.ok.above)
theorem Inv.px(I:Inv X K' σ H s):∀b∈jZ X.stack,b∈X.env.locals::X.fs:=λb hb=>by
 rcases I.ok.Aw with e | ⟨e,hf⟩
 .rw[e] at hb;show aE _ hb
 rw[e] at hb;unfold jZ at hb;rw[List.filterMap_cons,hf] at hb;show hb
theorem Inv.pX(I:Inv X K' σ H s):∀b∈jZ X.stack,H b=none:=λb hb=>by
 rcases ao.mp (I.px b hb) with e | hb
 .rw[e];show I.free
 obtain⟨_,o,a,_⟩:=I.ok.iQ.mem hb;show I.base.free b o a (I.ok.sS b hb) λz=>I.ok.qS b z hb
theorem Inv.step{g':Array GenState}{t':Nat}{d':Drawn}{ch:List Addr}(I:Inv X K' σ H s)
  (g:∀b∈ch,(b∈X.ex\/X.eK.heap.objs.size<=b)/\b≠X.env.locals/\(∀x c,X.env.cells.lookup x=some c->c≠b)/\∀p∈X.pn++K',p.1≠b)
  (keep:∀b o,b≠X.env.locals->b∉X.fs->b∉ch->s.heap.get? b=some o->H b=none->h'.get? b=some o)
  (slot:∀b o,b≠X.env.locals->b∈X.fs->b∉ch->s.heap.get? b=some o->H b=none->∃sl,h'.get? b=some { o with slots:=sl }) (free:∀b o,b∉ch->s.heap.get? b=some o->H b=none->H' b=none)
  (there:∀b o,b∉ch->s.heap.get? b=some o->∃h,h'.get? b=some h)
  (kQ:∀b xs,H b=some (.tup xs)->H' b=some (.tup xs)) (kz:∀b o u,H b=some (.lJ o u)->H' b=some (.lJ o u)) (kR:∀b ps,H b=some (.vy ps)->∃more,H' b=some (.vy (ps++more)))
  (ns:∀m,s.heap.Ns X.env.locals m->h'.Ns X.env.locals m) (dD:kh X.prog X.w H' h') (hg:AllBare g') :
  Inv X K' σ H' { s with heap:=h',gens:=g',drawn:=d',toks:=t' }:=by
 have D:∀b o,X.eK.heap.get? b=some o->b≠X.env.locals:=λb o e=>aF (aK (aw e) I.ok.above)
 have y:∀b o,X.eK.heap.get? b=some o->b∉X.ex->b∉ch:=λb o e hx hb=>by
  rcases(g b hb).1 with z | z
  .exact hx z
  show absurd (aK (aw e) z) (Nat.lt_irrefl _)
 have cellK:∀x c,X.env.cells.lookup x=some c->∀v,s.heap.IsCell c v->h'.IsCell c v:=λx c e v ⟨o,f,hd⟩=>by
  have t:c∉ch:=λz=>(g c z).2.2.1 x c e rfl
  by_cases C:c∈X.fs
  .obtain⟨sl,q⟩:=slot c o (I.sV x c e) C t f (I.gJ x c e);show⟨_,q,hd⟩
  show⟨o,keep c o (I.sV x c e) C t f (I.gJ x c e),hd⟩
 show⟨I.ok,I.os,hg,⟨λb o e n hb hx=>?_,λb o e n hb hx=>?_,λb o e n hx=>?_,λb o e hx=>?_,λb xs e=>kQ b xs (I.base.kQ b xs e),λb o xs e=>kz b o xs (I.base.kz b o xs e),λb ps e=>?_⟩,?_,λx c e=>?_,?_,λx c e=>?_,λp B=>?_,dD,I.len⟩
 .exact keep b o (D b o e) hb (y b o e hx) (I.base.keep b o e n hb hx) (I.base.free b o e n hx)
 .obtain⟨sl,a⟩:=I.base.slot b o e n hb hx;obtain⟨K,j⟩:=slot b _ (D b o e) hb (y b o e hx) a (I.base.free b o e n hx);show⟨K,j⟩
 .obtain⟨h,a⟩:=I.base.there b o e hx;show free b h (y b o e hx) a (I.base.free b o e n hx)
 .obtain⟨h,a⟩:=I.base.there b o e hx;show there b h (y b o e hx) a
 .obtain⟨F,a⟩:=I.base.kR b ps e;obtain⟨E,j⟩:=kR b _ a;show⟨F++E,by rw[j,Array.append_assoc]⟩
 .obtain⟨m,hn,G⟩:=I.loc;show⟨m,ns m hn,λi x v a j J=>?_⟩;obtain⟨u,r,l⟩:=G i x v a j J;show⟨u,r,?_⟩;rcases l with l | ⟨k,c,e,z⟩
  .exact .inl l
  show .inr ⟨k,c,e,cellK x c e _ z⟩
 .obtain⟨v,z⟩:=I.cell x c e;show⟨v,cellK x c e v z⟩
 .obtain⟨m,⟨o,_,_,f,_⟩,_⟩:=I.loc;show free _ o (λz=>(g _ z).2.1 rfl) f I.free
 .obtain⟨v,o,f,hd⟩:=I.cell x c e;show free c o (λz=>(g c z).2.2.1 x c e rfl) f (I.gJ x c e)
 obtain⟨e,n,ne,A,d⟩:=I.pin p B;have t:p.1∉ch:=λz=>(g p.1 z).2.2.2 p B rfl
 show⟨keep p.1 p.2 ne A t e n,free p.1 p.2 t e n,ne,A,d⟩
theorem Inv.un{t':Nat}(I:Inv X K' σ H s)(u:Un X.fs [] H H' s.heap h')(dD:kh X.prog X.w H' h'):Inv X K' σ H' { s with heap:=h',toks:=t' }:=by
 obtain⟨m,⟨o,es,ep,c,r⟩,_⟩:=id I.loc;obtain⟨sl,h⟩:=u.any c I.free (by simp)
 show I.step (g':=s.gens) (d':=s.drawn) (ch:=[]) (λ_ z=>nomatch z) (λb o _ hb _ e n=>u.keep b o e n hb (by simp)) (λb o _ hb _ e n=>u.slot b o e n hb (by simp)) (λb o _ e n=>u.free b o e n (by simp)) (λb o _ e=>u.there b o e (by simp)) u.kQ u.kz u.kR (λj hm=>by
  obtain⟨i,g,d,a,f⟩:=hm;rw[c] at a;cases a;show⟨_,g,d,h,f⟩) dD I.bare
theorem Inv.call{g':Array GenState}{t':Nat}{d':Drawn}{ch:List Addr}(I:Inv X K' σ H s)(u:Un (jZ X.stack) ch H H' s.heap h')(dD:kh X.prog X.w H' h')(hg:AllBare g')
  (f:∀b∈ch,(b∈X.ex\/X.eK.heap.objs.size<=b)/\b≠X.env.locals/\(∀x c,X.env.cells.lookup x=some c->c≠b)/\∀p∈X.pn++K',p.1≠b) :
  Inv X K' σ H' { s with heap:=h',gens:=g',drawn:=d',toks:=t' }:=by
 obtain⟨m,⟨o,es,ep,h,r⟩,_⟩:=id I.loc;obtain⟨sl,d⟩:=u.any h I.free λz=>(f _ z).2.1 rfl
 show I.step (ch:=ch) f (λb o d hb a e n=>u.keep b o e n (λz=>(ao.mp (I.px b z)).elim d hb) a) (λb o _ _ a e n=>u.any e n a) (λb o a e n=>u.free b o e n a) (λb o a e=>u.there b o e a) u.kQ u.kz u.kR (λq hm=>by
  obtain⟨l,k,i,g,j⟩:=hm;rw[h] at g;cases g;show⟨_,k,i,d,j⟩) dD hg
theorem Inv.turned{t':Nat}{it:Addr}(I:Inv X K' σ H s)(k:∀b o,b≠it->s.heap.get? b=some o->h'.get? b=some o)(hn:H it=none)(f:it≠X.env.locals)
  (j:it∈X.ex\/X.eK.heap.objs.size<=it) (i:∀x c,X.env.cells.lookup x=some c->c≠it) (h:∀p∈X.pn++K',p.1≠it):Inv X K' σ H { s with heap:=h',toks:=t' }:=by
 have d:∀b u,H b=some u->b≠it:=λb u e z=>by rw[z,hn] at e;cases e
 show I.step (g':=s.gens) (d':=s.drawn) (ch:=[it]) (λb hb=>?_) (λb o _ _ a e _=>k b o (λz=>a (by simp[z])) e) (λb o _ _ a e _=>⟨o.slots,k b o (λz=>a (by simp[z])) e⟩) (λ_ _ _ _ n=>n)
  (λb o a e=>⟨o,k b o (λz=>a (by simp[z])) e⟩) (λ_ _ e=>e) (λ_ _ _ e=>e) (λb ps e=>⟨#[],by rw[e];simp⟩) (λm hm=>?_) (λb u e=>?_) I.bare
 .have e:b=it:=by simpa using hb
  subst e;show⟨j,f,i,h⟩
 .obtain⟨o,es,ep,g,r⟩:=hm;show⟨o,es,ep,k _ o (Ne.symm f) g,r⟩
 show(I.dD b u e).lA (λc v a q=>k c v ?_ q) (λ_ q=>q) λ_ _ q=>q
 rcases a with z | z
 .rw[z];show d b u e
 show d c _ z
theorem Inv.tok(I:Inv X K' σ H s)(t:Nat):Inv X K' σ H { s with toks:=t }:=I.un (h':=s.heap) (t':=t) Un.refl I.dD
theorem Inv.kept{t':Nat}(I:Inv X K' σ H s)(k:∀b u,s.heap.get? b=some u->h'.get? b=some u):Inv X K' σ H { s with heap:=h',toks:=t' }:=I.un (Un.kept k) (I.dD.kept k)
theorem Inv.laid{a:Addr}{o:HO}{t':Nat}(I:Inv X K' σ H s)(k:∀b u,s.heap.get? b=some u->h'.get? b=some u)(c:s.heap.objs.size<=a)(new:eV X.prog X.w (upd H a o) h' a o) :
  Inv X K' σ (upd H a o) { s with heap:=h',toks:=t' }:=I.un (Un.laid k c (I.dD.fresh c)) (I.dD.laid k c new)
theorem Inv.write{x e:Addr}{o:HO}{t':Nat}(I:Inv X K' σ H s)(c:DG (H x))(he:e=x\/H e=some (.own x))(k:∀b u,b≠e->s.heap.get? b=some u->h'.get? b=some u)(a:∃u,h'.get? e=some u)
  (new:eV X.prog X.w (upd H x o) h' x o):Inv X K' σ (upd H x o) { s with heap:=h',toks:=t' }:=I.un (Un.write c he k a) (I.dD.write c he k a new)
theorem Inv.pY{a:List (Addr×Obj)}(I:Inv X K' σ H s)(h:∀p∈a,s.heap.get? p.1=some p.2/\H p.1=none/\p.1≠X.env.locals/\p.1∉X.fs/\∀v,p.2.data≠.cell v):Inv X a σ H s:=
 ⟨I.ok,I.os,I.bare,I.base,I.loc,I.cell,I.free,I.gJ,λp b=>(av.mp b).elim (λz=>I.pin p (List.mem_append_left _ z)) (h p),I.dD,I.len⟩
theorem EW{N:List Str}(c:N.Nodup){i j:Nat}{x:Str}(a:N[i]?=some x)(b:N[j]?=some x):i=j:=by
 obtain⟨g,e⟩:=aB.mp a;obtain⟨f,d⟩:=aB.mp b;show(List.getElem_inj c).mp (e.trans d.symm)
theorem Lj{M:Model}{A:Around}{E:Value->Shared->Prop}{i:Nat}{x:Str}{v:V}{u:Value}{Q:Unit->Shared->Prop}(I:Inv X K' σ H s)(hN:X.N.Nodup)(hi:X.N[i]?=some x)(hx:Loc X.env.scope x)(r:RelV v u)
  (h:∀K,Inv X K' (σ.set i (some v)) H K->(∃a,Heap.SameBut a s.heap K.heap/\(a=X.env.locals\/X.env.cells.lookup x=some a))->Q () K) (hf:X.fn x=true\/X.env.scope.names.lookup x=some .local:=by first | show .inl rfl | show .inr rfl | assumption):wpAny M A (storeName X.env x u) Q E s:=by
 obtain⟨m,hn,Z⟩:=id I.loc;have sQ:(X.env.scope.kind==.class||(X.env.scope.kind==.module&&X.env.locals != X.env.globals))=false:=by rw[I.ok.kind];rfl
 have A7:i<σ.length:=by rw[I.len];show(aB.mp hi).1
 have sV:=I.sV;have tracked:∀{a:Addr}{h':Heap},(∃o,s.heap.get? a=some o/\H a=none)->Heap.SameBut a s.heap h'->kh X.prog X.w H h':=λ{a h'} ha f b ob e=>by
  obtain⟨_,_,fM⟩:=ha;show(I.dD b ob e).lA (λc D l q=>(f.2 c ?_).trans q) (λ_ q=>q) λ_ _ q=>q
  rintro rfl;rcases l with rfl | l
  .rw[fM] at e;cases e
  rw[fM] at l;cases l
 rcases hx with B | B
 .refine wpAny_storeName_local B hn (λh' Hq f=>?_) sQ;obtain⟨oL,_,_,sL,_⟩:=id hn;show h _ ⟨I.ok,I.os,I.bare,⟨λb o e n hb hx=>?_,λb o e n hb hx=>?_,I.base.free,λb o e hx=>?_,I.base.kQ,I.base.kz,I.base.kR⟩,⟨_,Hq,λj y G g t S=>?_⟩,λy c e=>?_,I.free,I.gJ,λp R=>?_,tracked ⟨oL,sL,I.free⟩ f,by simpa using I.len⟩ ⟨_,f,.inl rfl⟩
  .exact(f.2 b (aF (aK (aw e) I.ok.above))).trans (I.base.keep b o e n hb hx)
  .obtain⟨sl,g⟩:=I.base.slot b o e n hb hx;show⟨sl,(f.2 b (aF (aK (aw e) I.ok.above))).trans g⟩
  .obtain⟨O,g⟩:=I.base.there b o e hx;show⟨O,(f.2 b (aF (aK (aw e) I.ok.above))).trans g⟩
  .by_cases C:j=i
   .subst C;rw[hi] at g;cases g;rw[List.getElem?_set_self A7] at t;cases t;show⟨u,r,.inl ⟨B,by simp⟩⟩
   rw[List.getElem?_set_ne (Ne.symm C)] at t;obtain⟨J,L,q⟩:=Z j y G g t S;show⟨J,L,?_⟩;rcases q with⟨k,e⟩ | ⟨k,c,e,z⟩
   .refine .inl ⟨k,?_⟩;have:y≠x:=λe=>C (EW hN g (e▸hi))
    simp[this,e]
   show .inr ⟨k,c,e,z.sameBut f (sV y c e)⟩
  .obtain⟨D,z⟩:=I.cell y c e;show⟨D,z.sameBut f (sV y c e)⟩
  obtain⟨e,n,ne,P,d⟩:=I.pin p R;show⟨(f.2 p.1 ne).trans e,n,ne,P,d⟩
 have T:X.fn x=true:=by
  rcases hf with z | z
  .exact z
  rw[z] at B;cases B
 obtain⟨c,l⟩:=I.ok.has x (.inl B);obtain⟨D,z⟩:=I.cell x c l;show wpAny_storeName_cell I.ok.kind B l z (λh' W f=>?_);obtain⟨Y,U,Hl⟩:=id z;show h { s with heap:=h' } ⟨I.ok,I.os,I.bare,⟨λb o e n hb hx=>?_,λb o e n hb hx=>?_,I.base.free,λb o e hx=>?_,I.base.kQ,I.base.kz,I.base.kR⟩,⟨m,hn.sameBut f (Ne.symm (sV x c l)),λj y G g t S=>?_⟩,λy F e=>?_,I.free,I.gJ,λp R=>?_,tracked ⟨Y,U,I.gJ x c l⟩ f,by simpa using I.len⟩ ⟨c,f,.inr l⟩
 .exact(f.2 b (aF (aK (aw e) (I.ok.cab x c T l)))).trans (I.base.keep b o e n hb hx)
 .obtain⟨sl,g⟩:=I.base.slot b o e n hb hx;show⟨sl,(f.2 b (aF (aK (aw e) (I.ok.cab x c T l)))).trans g⟩
 .obtain⟨O,g⟩:=I.base.there b o e hx;show⟨O,(f.2 b (aF (aK (aw e) (I.ok.cab x c T l)))).trans g⟩
 .by_cases C:j=i
  .subst C;rw[hi] at g;cases g;rw[List.getElem?_set_self A7] at t;cases t;show⟨u,r,.inr ⟨.inl B,c,l,W⟩⟩
  rw[List.getElem?_set_ne (Ne.symm C)] at t;obtain⟨J,L,q⟩:=Z j y G g t S;show⟨J,L,?_⟩;rcases q with q | ⟨k,F,e,z'⟩
  .exact .inl q
  show .inr ⟨k,F,e,z'.sameBut f ?_⟩;rintro rfl;show C (EW hN g (I.ok.inj _ _ _ e l▸hi))
 .by_cases Ng:F=c
  .subst Ng;show⟨_,W⟩
  obtain⟨w2,z2⟩:=I.cell y F e;show⟨w2,z2.sameBut f Ng⟩
 obtain⟨e,n,ne,P,d⟩:=I.pin p R;show⟨(f.2 p.1 ?_).trans e,n,ne,P,d⟩;intro q;rw[q,U] at e;have q':Y=p.2:=Option.some.inj e;show d D (by rw[<-q'];show Hl)
theorem EV{M:Model}{A:Around}{E:Value->Shared->Prop}{i:Nat}{x:Str}{v:V}{u:Value}{Q:Unit->Shared->Prop}(I:Inv X K' σ H s)(c:X.N.Nodup)(hi:X.N[i]?=some x)(hx:Loc X.env.scope x)(r:RelV v u)
  (h:∀a,Inv X K' (σ.set i (some v)) H a->Q () a) (b:X.fn x=true\/X.env.scope.names.lookup x=some .local:=by first | show .inl rfl | show .inr rfl | assumption):wpAny M A (storeName X.env x u) Q E s:=
 Lj I c hi hx r (λa d _=>h a d) b
theorem Inv.Bq{a:Shared}{ch:List Addr}(I:Inv X K' σ H s)(g:a.os=s.os)(u:Un (jZ X.stack) ch H H' s.heap a.heap)(dD:kh X.prog X.w H' a.heap)(hg:AllBare a.gens)
  (d:∀b∈ch,(b∈X.ex\/X.eK.heap.objs.size<=b)/\b≠X.env.locals/\(∀x c,X.env.cells.lookup x=some c->c≠b)/\∀p∈X.pn++K',p.1≠b):Inv X K' σ H' a:=by
 obtain⟨h',g',d',t',f⟩:=a;have e:f=s.os:=g;subst e;show I.call (g':=g') (t':=t') (d':=d') u dD hg d
end
noncomputable abbrev XK:=Value->Option Addr->Hp->Prop
noncomputable abbrev St:=List (Option V)
noncomputable abbrev VK:=V->Hp->Prop
noncomputable abbrev TE:=St->Hp->VK->Prop
noncomputable abbrev TT:=St->Hp->(Bool->Hp->Prop)->Prop
noncomputable abbrev TA:=St->Hp->(List V->Hp->Prop)->Prop
structure Ends where
 nx:St->Hp->Prop
 rt:VK
 bk:St->Hp->Prop:=λ_ _=>False
 ct:St->Hp->Prop:=λ_ _=>False
noncomputable abbrev TS:=Ends->St->Hp->Prop
def EP(X:Cx)(d:List (Addr×Obj))(b:St)(Q:VK)(u:Value)(c:Shared):Prop:=∃v a,Inv X d b a c/\RelV v u/\Q v a
def TP(X:Cx)(e:List (Addr×Obj))(c:St)(Q:Bool->Hp->Prop)(b:Bool)(d:Shared):Prop:=∃a,Inv X e c a d/\Q b a
def AP(X:Cx)(f:List (Addr×Obj))(c:St)(Q:List V->Hp->Prop)(d:List Value)(e:Shared):Prop:=∃a b,Inv X f c b e/\Vals a d/\Q a b
def SP(X:Cx)(d:List (Addr×Obj))(D:Ends)(f:Flow)(c:Shared):Prop:=
 match f with
 | .next=>∃b a,Inv X d b a c/\D.nx b a
 | .brk=>∃b a,Inv X d b a c/\D.bk b a
 | .cont=>∃b a,Inv X d b a c/\D.ct b a
 | .ret u=>∃v b a,Inv X d b a c/\RelV v u/\D.rt v a
def PE(X:Cx)(e:Expr)(t:TE):Prop:=
 ∀(a:List (Addr×Obj))(s:Shared)(σ:St)(H:Hp)(Q:VK),Inv X a σ H s->t σ H Q->wpAny (model X.prog X.w) X.A (eval e X.env) (EP X a σ Q) X.xe s
def PT(X:Cx)(e:Expr)(t:TT):Prop:=
 ∀(a:List (Addr×Obj))(s:Shared)(σ:St)(H:Hp)(Q:Bool->Hp->Prop),Inv X a σ H s->t σ H Q->wpAny (model X.prog X.w) X.A (isTrue e X.env (eval e X.env)) (TP X a σ Q) X.xe s
def PW(X:Cx)(e:Expr)(t:TT):Prop:=
 ∀(whole:Sem Value)(a:List (Addr×Obj))(s:Shared)(σ:St)(H:Hp)(Q:Bool->Hp->Prop),Inv X a σ H s->t σ H Q->wpAny (model X.prog X.w) X.A (isTrue e X.env whole) (TP X a σ Q) X.xe s
theorem PW.pt{X:Cx}{e:Expr}{t:TT}(h:PW X e t):PT X e t:=h _
def PA(X:Cx)(es:List Expr)(t:TA):Prop:=
 ∀(pos:Pos)(a:List (Addr×Obj))(s:Shared)(σ:St)(H:Hp)(Q:List V->Hp->Prop),Inv X a σ H s->t σ H Q->wpAny (model X.prog X.w) X.A (spliced (backTo pos (starEach es X.env))) (AP X a σ Q) X.xe s
def PS(X:Cx)(st:Stmt)(t:TS):Prop:=
 ∀(a:List (Addr×Obj))(s:Shared)(σ:St)(H:Hp)(D:Ends),Inv X a σ H s->t D σ H->wpAny (model X.prog X.w) X.A (exec st X.env) (SP X a D) X.xe s
def nW(X:Cx)(st:List Stmt)(t:TS):Prop:=
 ∀(a:List (Addr×Obj))(s:Shared)(σ:St)(H:Hp)(D:Ends),Inv X a σ H s->t D σ H->wpAny (model X.prog X.w) X.A (execs st X.env) (SP X a D) X.xe s
theorem ez{b:Type}{t:Sem b}{Q c:b->Shared->Prop}{M:Model}{A:Around}{E:Value->Shared->Prop}{s:Shared}(h:wpAny M A t Q E s)(d:∀a s,Q a s->c a s):wpAny M A t c E s:=bZ h d λ_ _ x=>x
section
variable{X:Cx}
theorem bin{a b:Expr}{k j:TE}(ha:PE X a k)(hb:PE X b j){e:List (Addr×Obj)}{s:Shared}{c:St}{H:Hp}{R:V->V->Hp->Prop}(I:Inv X e c H s)(h:k c H λx H1=>j c H1 λy d=>R x y d)
  {i:Type} {Q:i->Shared->Prop} {f:Value->Value->Sem i}
  (q:∀v u s2 x y d,Inv X e c d s2->RelV x v->RelV y u->R x y d->wpAny (model X.prog X.w) X.A (f v u) Q X.xe s2) :
  wpAny (model X.prog X.w) X.A (eval a X.env) (λv r=>wpAny (model X.prog X.w) X.A (eval b X.env) (λu p=>wpAny (model X.prog X.w) X.A (f v u) Q X.xe p) X.xe r) X.xe s:=by
 show ez (ha e s c H _ I h) λv s1 g=>?_
 obtain⟨x,H1,I1,m,o⟩:=g;show ez (hb e s1 c H1 _ I1 o) λu s2 g=>?_
 obtain⟨y,d,I2,l,n⟩:=g;show q v u s2 x y d I2 m l n
def DL(i:Nat):TE:=λσ H Q=>∃v,σ[i]?=some (some v)/\Q v H
def tC(v:V):TE:=λ_ H Q=>Q v H
theorem rB{i:Nat}{x:Str}{pos:Pos}(k:X.N[i]?=some x)(g:oM X.env.scope x)(hd:(x==("__debug__":Str))=false:=by decide)(f:(x==("__classdict__":Str))=false:=by decide):PE X (.Name x pos) (DL i):=by
 intro n s σ H Q I h;obtain⟨v,e,h⟩:=h;obtain⟨m,hn,j⟩:=I.loc;obtain⟨u,r,l⟩:=j i x v k e g;have fin:EP X n σ Q u s:=⟨v,H,I,r,h⟩
 rcases l with⟨a,hm⟩ | ⟨a,c,d,b⟩
 .exact wpAny_Name (wpAny_loadName_local I.ok.kind a hn hm fin) hd
 rcases a with a | a
 .exact wpAny_Name (wpAny_loadName_cell I.ok.kind a d b fin) hd
 show wpAny_Name (wpAny_loadName_free I.ok.kind a d b fin f) hd
theorem Qh{i j pos}:PE X (.Constant (.int i) j pos) (tC (.int i)):=λ_ _ _ H _ I h=>wpAny_Constant_int ⟨.int i,H,I.tok _,⟨_,rfl⟩,h⟩
theorem Oh{b j pos}:PE X (.Constant (.bool b) j pos) (tC (.bl b)):=λ_ _ _ H _ I h=>Constant_bool ⟨.bl b,H,I,rfl,h⟩
theorem Qg{j pos}:PE X (.Constant .none j pos) (tC .non):=λ_ _ _ H _ I h=>Constant_none ⟨.non,H,I,rfl,h⟩
theorem Qf{x j pos}:PE X (.Constant (.str x) j pos) (tC (.str x)):=λ_ _ _ H _ I h=>Calls.Constant_str ⟨.str x,H,I.tok _,⟨_,rfl⟩,h⟩
def Gl(X:Cx)(x:Str):Prop:=X.env.kindOf x=some .globalImplicit
theorem ye{E:Value->Shared->Prop}{b:List (Addr×Obj)}{s:Shared}{a:St}{H:Hp}{x:Str}{u:Value}{pos:Pos}{Q:Value->Shared->Prop}(I:Inv X b a H s)(hg:Gl X x)(hm:X.mg x=some u)(h:Q u s)
  (hd:(x==("__debug__":Str))=false:=by decide):wpAny (model X.prog X.w) X.A (eval (.Name x pos) X.env) Q E s:=
 Calls.Name_function_global I.ok.kind hg (Calls.loadGlobal_global (by rw[I.ok.glob];show I.mod.glob.keeps I.bk) hm h) hd
theorem tO{E:Value->Shared->Prop}{e:List (Addr×Obj)}{s:Shared}{a:St}{H:Hp}{x:Str}{u:Value}{pos:Pos}{Q:Value->Shared->Prop}(I:Inv X e a H s)(hg:Gl X x)(hm:X.mg x=none)(b:bootBuiltins x=some u)(h:Q u s)
  (hn:x≠"__name__":=by decide) (hd:(x==("__debug__":Str))=false:=by decide):wpAny (model X.prog X.w) X.A (eval (.Name x pos) X.env) Q E s:=by
 obtain⟨f,d,c⟩:=I.mod.blt;show Calls.Name_function_global I.ok.kind hg (Calls.loadGlobal_builtin (by rw[I.ok.glob];show I.mod.glob.keeps I.bk) hm (by rw[I.ok.blt];show d.keeps I.bk) ((c x hn).trans b) h) hd
theorem Kc{x:Str}{v:V}{u:Value}{pos:Pos}(hg:Gl X x)(hm:X.mg x=some u)(r:RelV v u)(hd:(x==("__debug__":Str))=false:=by decide):PE X (.Name x pos) (tC v):=
 λ_ _ _ H _ I h=>ye I hg hm ⟨v,H,I,r,h⟩ hd
theorem Kb{x:Str}{v:V}{u:Value}{pos:Pos}(hg:Gl X x)(hm:X.mg x=none)(a:bootBuiltins x=some u)(r:RelV v u)(hn:x≠"__name__":=by decide)(hd:(x==("__debug__":Str))=false:=by decide):PE X (.Name x pos) (tC v):=
 λ_ _ _ H _ I h=>tO I hg hm a ⟨v,H,I,r,h⟩ hn hd
variable{a b:Expr}{ta tb:TE}{pos:Pos}
def PC(X:Cx)(d:CmpOp)(a b:Expr)(t:TE):Prop:=
 ∀(c:List (Addr×Obj))(s:Shared)(σ:St)(H:Hp)(Q:VK),Inv X c σ H s->t σ H Q->
  wpAny (model X.prog X.w) X.A (eval a X.env) (λv f=>wpAny (model X.prog X.w) X.A (eval b X.env) (λu e=>wpAny (model X.prog X.w) X.A (compareOp d v u) (EP X c σ Q) X.xe e) X.xe f) X.xe s
theorem Sz(b:Expr){a:CmpOp}(h:a≠.In)(c:a≠.NotIn):behindInMarks a b=false:=by
 have e:(a==CmpOp.In)=false:=by cases a<;>first | rfl | show absurd rfl h
 have d:(a==CmpOp.NotIn)=false:=by cases a<;>first | rfl | show absurd rfl c
 cases b<;>simp[behindInMarks,e,d]
def tB(t:TE):TT:=λσ H Q=>t σ H λx H1=>∃c,x=.bl c/\Q c H1
theorem Zo{e:CmpOp}{t:TE}(h:PC X e a b t)(f:behindInMarks e b=false:=by first | show Sz _ (by decide) (by decide) | rfl):PT X (.Compare a [e] [b] pos) (tB t):=by
 intro l s σ H Q I hw;show wpAny_isTrue_Compare1 (ez (h l s σ H _ I hw) λv s1 f=>ez f λu s2 j=>ez j λc s3 k=>?_) f;obtain⟨x,H1,I1,g,i⟩:=k;obtain⟨d,rfl,q⟩:=i;cases g;show wpAny_truthy_bool ⟨H1,I1,q⟩
theorem QC{e:Expr}{t:TE}(h:PE X e t)(he:∀whole,isTrue e X.env whole=(do let v <-whole;standAt e.pos;holding [v] (truthy v)):=by intro _;rfl):PT X e (tB t):=by
 intro f s σ H Q I hw;show isTrue_plain (ez (h f s σ H _ I hw) λv s1 c=>?_) (he _);obtain⟨x,H1,I1,a,b⟩:=c;obtain⟨d,rfl,q⟩:=b;cases a;show wpAny_truthy_bool ⟨H1,I1,q⟩
variable{tA C6:TT}{mP:List Expr}
def NX(t u:TT):TT:=λσ H Q=>t σ H λc H1=>if c=true then u σ H1 Q else Q false H1
def Xc(t u:TT):TT:=λσ H Q=>t σ H λc H1=>if c=true then Q true H1 else u σ H1 Q
def NW(t:TT):TT:=λσ H Q=>t σ H λc H1=>Q (!c) H1
theorem QG(ha:PT X a tA):PW X (.BoolOp .And [a] pos) tA:=by
 intro d b s σ H Q I h;show isTrue_and (ez (ha b s σ H Q I h) λc s1 e=>?_);cases c with
 | true=>show isTrue_and_nil e
 | false=>show e
theorem QB(ha:PT X a tA):PW X (.BoolOp .Or [a] pos) tA:=by
 intro d b s σ H Q I h;show isTrue_or (ez (ha b s σ H Q I h) λc s1 e=>?_);cases c with
 | false=>show isTrue_or_nil e
 | true=>show e
theorem QA(ha:PT X a tA)(hb:PW X (.BoolOp .And (b::mP) pos) C6):PW X (.BoolOp .And (a::b::mP) pos) (NX tA C6):=by
 intro f e s σ H Q I h;show isTrue_and (ez (ha e s σ H _ I h) λc s1 g=>?_);obtain⟨H1,I1,d⟩:=g;cases c with
 | true=>show hb f e s1 σ H1 Q I1 d
 | false=>show⟨H1,I1,d⟩
theorem Og(ha:PT X a tA)(hb:PW X (.BoolOp .Or (b::mP) pos) C6):PW X (.BoolOp .Or (a::b::mP) pos) (Xc tA C6):=by
 intro f e s σ H Q I h;show isTrue_or (ez (ha e s σ H _ I h) λc s1 g=>?_);obtain⟨H1,I1,d⟩:=g;cases c with
 | true=>show⟨H1,I1,d⟩
 | false=>show hb f e s1 σ H1 Q I1 d
theorem Qz(ha:PT X a tA):PT X (.UnaryOp .Not a pos) (NW tA):=by
 intro b s σ H Q I h;show isTrue_not (ha b s σ H (λc H1=>Q (!c) H1) I h)
def Of(ta:TE):TE:=λσ H Q=>ta σ H λx H1=>∃c,x=.bl c/\Q (.bl (!c)) H1
theorem Qy(ha:PE X a ta):PE X (.UnaryOp .Not a pos) (Of ta):=by
 intro f s σ H Q I h;show UnaryOp_ (ez (ha f s σ H _ I h) λv s1 e=>?_);obtain⟨x,H1,I1,d,b⟩:=e;obtain⟨c,rfl,b⟩:=b;cases d;show not_of (wpAny_truthy_bool ⟨.bl (!c),H1,I1,rfl,b⟩)
def Xd(t:TT)(ta tb:TE):TE:=λσ H Q=>t σ H λc H1=>if c=true then ta σ H1 Q else tb σ H1 Q
theorem Sy{c:Expr}(g:PT X c tA)(ha:PE X a ta)(hb:PE X b tb):PE X (.IfExp c a b pos) (Xd tA ta tb):=by
 intro e s σ H Q I h;show wpAny_IfExp (ez (g e s σ H _ I h) λd s1 i=>?_);obtain⟨H1,I1,f⟩:=i;cases d with
 | true=>show ha e s1 σ H1 Q I1 f
 | false=>show hb e s1 σ H1 Q I1 f
end
def fT(K:J')(H:Hp)(a:Addr)(xs:List V):Prop:=
 Rd H a (.lst xs)\/
  ∃(o:Obj)(its:Array Value)(n:Nat),K.lookup a=some o/\o.cls=.type "list"/\o.dict=none/\o.data=.seq its n/\its.size<=sizeLine/\Vals xs its.toList
def gR(K:J')(H:Hp)(a:Addr)(xs:List V):Prop:=
 Rd H a (.tup xs)\/
  ∃(o:Obj)(its:Array Value)(n:Nat),K.lookup a=some o/\o.cls=.type "tuple"/\o.data=.seq its n/\its.size<=sizeLine/\Vals xs its.toList
noncomputable def NV:Value->Option V
 | .none=>some .non
 | .bool b=>some (.bl b)
 | .int i _=>some (.int i)
 | .str x _=>some (.str x)
 | .bytes b _=>some (.Dz b)
 | .float b _=>some (.Dx b)
 | .ref a=>some (.ref a)
 | .type n=>some (.ty n)
 | _=>none
theorem RelV.abs{x:V}{u:Value}(r:RelV x u):NV u=some x:=by
 cases x with
 | non=>cases r;rfl
 | bl _=>cases r;rfl
 | int _=>obtain⟨t,rfl⟩:=r;rfl
 | str _=>obtain⟨t,rfl⟩:=r;rfl
 | Dz _=>obtain⟨t,rfl⟩:=r;rfl
 | Dx _=>obtain⟨t,rfl⟩:=r;rfl
 | ref _=>cases r;rfl
 | ty _=>cases r;rfl
theorem RelV.inj{x y:V}{u:Value}(r:RelV x u)(q:RelV y u):x=y:=Option.some.inj (r.abs.symm.trans q.abs)
theorem Vals.inj{xs ys:List V}{a:List Value}(h:Vals xs a)(k:Vals ys a):xs=ys:=by
 induction h generalizing ys with
 | nil=>cases k;rfl
 | cons r t c=>
  cases k with
  | cons b t'=>rw[r.inj b,c t']
section
variable{X:Cx}{K':List (Addr×Obj)}{σ:St}{H:Hp}{s:Shared}{a:Addr}{xs ys:List V}
theorem fT.of{K:J'}(h:H a=some (.lst xs)):fT K H a xs:=.inl (.inl h)
theorem gR.of{K:J'}(h:H a=some (.tup xs)):gR K H a xs:=.inl (.inl h)
theorem Inv.list(I:Inv X K' σ H s)(h:fT X.K H a xs):∃its:List Value,Vals xs its/\PlainL s.heap a its.toArray/\xs.length<=sizeLine:=by
 rcases h with h | ⟨o,its,n,c,d,hd,b,hz,r⟩
 .obtain⟨z,its,n,r,e⟩:=h.ok I.dD;show⟨its,r,⟨_,n,e,rfl,rfl,rfl⟩,z⟩
 show⟨its.toList,r,⟨o,n,I.mf a o c,d,hd,by simpa using b⟩,?_⟩;have e:=r.length;simp only[ai] at e;ext
theorem Inv.tuple(I:Inv X K' σ H s)(h:gR X.K H a xs):∃its:List Value,Vals xs its/\IsTup s.heap a its.toArray/\xs.length<=sizeLine:=by
 rcases h with h | ⟨o,its,n,c,d,b,hz,r⟩
 .obtain⟨z,its,r,p⟩:=h.ok I.dD;show⟨its,r,p,z⟩
 show⟨its.toList,r,⟨o,I.mf a o c,d,n,by simpa using b⟩,?_⟩;have e:=r.length;simp only[ai] at e;ext
theorem Inv.i4(I:Inv X K' σ H s)(h:fT X.K H a xs)(h':fT X.K H a ys):xs=ys:=by
 obtain⟨its,r,⟨o,n,e,_,_,d⟩,_⟩:=I.list h;obtain⟨its',c,⟨g,i,b,_,_,d'⟩,_⟩:=I.list h';rw[e] at b;cases b;rw[d] at d';injection d' with f _
 have:its=its':=by simpa using congrArg Array.toList f
 subst this;show r.inj c
theorem Inv.mS(I:Inv X K' σ H s)(h:gR X.K H a xs)(h':gR X.K H a ys):xs=ys:=by
 obtain⟨its,r,⟨o,e,_,n,d⟩,_⟩:=I.tuple h;obtain⟨its',c,⟨g,b,_,i,d'⟩,_⟩:=I.tuple h';rw[e] at b;cases b;rw[d] at d';injection d' with f _
 have:its=its':=by simpa using congrArg Array.toList f
 subst this;show r.inj c
end
noncomputable abbrev Cx.mB(X:Cx)(E:Value->Shared->Prop):Cx:={ X with xe:=E }
noncomputable abbrev Cx.tX(X:Cx):Cx:=X.mB λ_ _=>False
theorem Cx.Ok.mB{X:Cx}(ok:X.Ok)(E:Value->Shared->Prop):(X.mB E).Ok:=
 ⟨ok.mod,ok.kind,ok.glob,ok.blt,ok.above,ok.inj,ok.has,ok.cab,ok.hd,ok.frames,ok.Aw,ok.exf,ok.bs,ok.uS,ok.qJ,ok.qS,ok.iQ,ok.sS⟩
theorem Cx.Ok.iX{X:Cx}{E:Value->Shared->Prop}(ok:(X.mB E).Ok):X.Ok:=
 ⟨ok.mod,ok.kind,ok.glob,ok.blt,ok.above,ok.inj,ok.has,ok.cab,ok.hd,ok.frames,ok.Aw,ok.exf,ok.bs,ok.uS,ok.qJ,ok.qS,ok.iQ,ok.sS⟩
section
variable{X:Cx}{K':List (Addr×Obj)}{σ:St}{H:Hp}{s:Shared}{E:Value->Shared->Prop}
theorem Inv.mB(I:Inv X K' σ H s)(E:Value->Shared->Prop):Inv (X.mB E) K' σ H s:=⟨I.ok.mB E,I.os,I.bare,I.base,I.loc,I.cell,I.free,I.gJ,I.pin,I.dD,I.len⟩
theorem Inv.iX(I:Inv (X.mB E) K' σ H s):Inv X K' σ H s:=⟨I.ok.iX,I.os,I.bare,I.base,I.loc,I.cell,I.free,I.gJ,I.pin,I.dD,I.len⟩
theorem SP.iX{D:Ends}{f:Flow}{c:Shared}(h:SP (X.mB E) K' D f c):SP X K' D f c:=by
 cases f with
 | next=>obtain⟨a,b,I,q⟩:=h;show⟨a,b,I.iX,q⟩
 | brk=>obtain⟨a,b,I,q⟩:=h;show⟨a,b,I.iX,q⟩
 | cont=>obtain⟨a,b,I,q⟩:=h;show⟨a,b,I.iX,q⟩
 | ret u=>obtain⟨v,a,b,I,r,q⟩:=h;show⟨v,a,b,I.iX,r,q⟩
theorem nW.tX{st:List Stmt}{t:TS}(h:nW X.tX st t):nW X st t:=λK' s σ H D I hw=>
 bZ (h K' s σ H D (I.mB _) hw) (λ_ _ q=>q.iX) λ_ _ z=>False.elim z
end
section
variable{X:Cx}{st:Stmt}{mP:List Stmt}{t u:TS}{e:Expr}{te:TE}{pos:Pos}
def Oe:TS:=λD σ H=>D.nx σ H
def NU(t u:TS):TS:=λD σ H=>t { D with nx:=u D } σ H
theorem Ka:nW X [] Oe:=λ_ _ σ H _ I h=>wpAny_execs_nil ⟨σ,H,I,h⟩
theorem EU(c:PS X st t)(b:nW X mP u):nW X (st::mP) (NU t u):=by
 intro a s σ H D I h;show wpAny_execs_cons (ez (c a s σ H { D with nx:=u D } I h) λf s1 q=>?_);cases f with
 | next=>
  obtain⟨d,g,e,q⟩:=q;show b a s1 d g D e q
 | ret v=>show q
 | brk=>show q
 | cont=>show q
theorem Ek(a:PS X st t):nW X [st] t:=by
 intro b s σ H D I h;show wpAny_execs_cons (ez (a b s σ H D I h) λf s1 q=>?_);cases f with
 | next=>show wpAny_execs_nil q
 | ret v=>show q
 | brk=>show q
 | cont=>show q
theorem Inv.quiet{b:List (Addr×Obj)}{a:St}{H:Hp}{s:Shared}(I:Inv X b a H s):interactive X.env=false:=by simp[interactive,I.ok.kind]
def OM(te:TE):TS:=λD σ H=>te σ H λ_ H1=>D.nx σ H1
theorem zj(he:PE X e te)(b:swapsWith e none pos.line X.env=pure false:=by rfl):PS X (.Expr e pos) (OM te):=by
 intro d s σ H D I h;show wpAny_Expr_any (ez (he d s σ H _ I h) λv s1 c=>by obtain⟨x,H1,I1,f,a⟩:=c;show⟨σ,H1,I1,a⟩) I.quiet b
def NT(te:TE):TS:=λD σ H=>te σ H D.rt
theorem Eh(he:PE X e te):PS X (.Return (some e) pos) (NT te):=by
 intro d s σ H D I h;show wpAny_Return_some (ez (he d s σ H _ I h) λv s1 c=>by obtain⟨x,H1,I1,a,b⟩:=c;show⟨x,σ,H1,I1,a,b⟩)
def NS(c:TT)(t u:TS):TS:=λD σ H=>c σ H λb H1=>if b=true then t D σ H1 else u D σ H1
theorem Jd{c:Expr}{a b:List Stmt}{tc:TT}(g:PT X c tc)(ha:nW X a t)(hb:nW X b u):PS X (.If c a b pos) (NS tc t u):=by
 intro e s σ H D I h;show wpAny_If (ez (g e s σ H _ I h) λd s1 i=>?_);obtain⟨H1,I1,f⟩:=i;cases d with
 | true=>show ha e s1 σ H1 D I1 f
 | false=>show hb e s1 σ H1 D I1 f
end
noncomputable abbrev TG:=V->St->Hp->(St->Hp->Prop)->Prop
noncomputable abbrev uU:=List V->St->Hp->(St->Hp->Prop)->Prop
def PG(X:Cx)(a:Expr)(t:TG):Prop:=
 ∀(c:List (Addr×Obj))(s:Shared)(σ:St)(H:Hp)(v:V)(u:Value)(Q:St->Hp->Prop),Inv X c σ H s->RelV v u->t v σ H Q->
  wpAny (model X.prog X.w) X.A (assign a X.env u) (λ_ e=>∃b d,Inv X c b d e/\Q b d) X.xe s
def yK(X:Cx)(ts:List Expr)(t:uU):Prop:=
 ∀(c:List (Addr×Obj))(s:Shared)(σ:St)(H:Hp)(a:List V)(us:List Value)(Q:St->Hp->Prop),Inv X c σ H s->Vals a us->t a σ H Q->
  wpAny (model X.prog X.w) X.A (assignInOrder ((assignEach ts X.env).map (·.2)) us) (λ_ e=>∃b d,Inv X c b d e/\Q b d) X.xe s
noncomputable abbrev DS:=V->V->V->Hp->(Hp->Prop)->Prop
def IH(X:Cx)(t:DS):Prop:=
 ∀(b:List (Addr×Obj))(s:Shared)(σ:St)(H:Hp)(o i v:V)(ov a u:Value)(Q:Hp->Prop),Inv X b σ H s->RelV o ov->RelV i a->RelV v u->t o i v H Q->
  wpAny (model X.prog X.w) X.A (setItem ov a u) (λ_ d=>∃c,Inv X b σ c d/\Q c) X.xe s
section
variable{X:Cx}{pos:Pos}
def y8(i:Nat):TG:=λv σ H Q=>Q (σ.set i (some v)) H
theorem QF{i:Nat}{x:Str}(b:X.N.Nodup)(hi:X.N[i]?=some x)(hx:Loc X.env.scope x)(a:X.fn x=true\/X.env.scope.names.lookup x=some .local:=by first | show .inl rfl | show .inr rfl | assumption):PG X (.Name x pos) (y8 i):=by
 intro e s σ H v u Q I r h;show wpAny_assign_Name (EV I b hi hx r (λd c=>⟨_,H,c,h⟩) a)
noncomputable def NR:uU:=λa σ H Q=>a=[]/\Q σ H
noncomputable def OL(t:TG)(u:uU):uU:=λa σ H Q=>∃v r,a=v::r/\t v σ H λb c=>u r b c Q
theorem QE:yK X [] NR:=by
 intro b s σ H a us Q I r h;obtain⟨e,h⟩:=h;subst e;cases r;show assignInOrder_nil ⟨σ,H,I,h⟩
theorem Sx{e:Expr}{es:List Expr}{t:TG}{u:uU}(i:PG X e t)(g:yK X es u)
  (f:(assignEach (e::es) X.env).map (·.2)=assign e X.env::(assignEach es X.env).map (·.2):=by rfl):yK X (e::es) (OL t u):=by
 intro a s σ H l us Q I r h;obtain⟨v,m,j,h⟩:=h;subst j;cases r with
 | cons r c=>
  rw[f];show assignInOrder_cons (ez (i a s σ H _ _ _ I r h) λ_ s1 k=>?_);obtain⟨b,H1,I1,d⟩:=k;show g a s1 b H1 _ _ Q I1 c d
def NQ(K:J')(n:Nat)(t:uU):TG:=λv σ H Q=>∃a xs,v=.ref a/\gR K H a xs/\xs.length=n/\t xs σ H Q
theorem Qw{es:List Expr}{k:Nat}{t:uU}{n:Nat}(i:X.calm=true)(h:yK X es t)
  (hn:(assignEach es X.env).length=n:=by rfl) (j:(assignEach es X.env).findIdx? (·.1)=none:=by rfl):PG X (.Tuple es k pos) (NQ X.K n t):=by
 intro d s σ H v u Q I r hw;obtain⟨a,xs,l,f,g,hw⟩:=hw;subst l;cases r;obtain⟨its,c,ht,hz⟩:=I.tuple f;show assign_Tuple_tuple (I.ok.hd i) ht (by simp[hn,<-g,c.length]) j λh' hx=>?_
 have I1:Inv X d σ H { s with heap:=h' }:=I.kept (t':=s.toks) λb o e=>hx b o (aF (aw e)) e
 show h d _ σ H xs _ Q I1 (by simpa using c) hw
def NP(a b:TE)(t:DS):TG:=λv σ H Q=>a σ H λo H1=>b σ H1 λi d=>t o i v d λc=>Q σ c
theorem Qv{o i:Expr}{d e:TE}{t:DS}(n:PE X o d)(hi:PE X i e)(m:IH X t)
  (ha:∀v,assign (.Subscript o i pos) X.env v=(do
   let ov <-holding [v] (eval o X.env)
   let a <-holding [v,ov] (eval i X.env)
   standAt pos
   holding [v,ov,a] (setItem ov a v)
   release [v,ov,a] []):=by intro _;rfl):PG X (.Subscript o i pos) (NP d e t):=by
 intro c s σ H v u Q I r h;rw[ha];show aa (bh (ez (n c s σ H _ I h) λov s1 b=>?_));obtain⟨x,H1,I1,g,l⟩:=b;show aa (bh (ez (hi c s1 σ H1 _ I1 l) λa s2 b=>?_));obtain⟨y,q,I2,f,k⟩:=b;show aa (wpAny_standAt (aa (bh (ez (m c s2 σ q x y v ov a u _ I2 g f r k) λ_ s3 b=>?_))));obtain⟨p,I3,j⟩:=b;show wpAny_release ⟨σ,p,I3,j⟩
def yV(te:TE)(g:TG):TS:=λD σ H=>te σ H λx H1=>g x σ H1 D.nx
theorem Jy{a e:Expr}{te:TE}{g:TG}(he:PE X e te)(hg:PG X a g)(f:swapsWithSole [a] e pos.line X.env=pure false:=by rfl)(hw:swappedStores [a] e X.env=pure none:=by rfl)
  (i:(assignEach [a] X.env).map (·.2)=[assign a X.env]:=by rfl):PS X (.Assign [a] e pos) (yV te g):=by
 intro b s σ H D I h;show wpAny_Assign_stores (ez (he b s σ H _ I h) λv s1 j=>?_) f hw;obtain⟨x,H1,I1,c,d⟩:=j;rw[i];show ez (hg b s1 σ H1 x v _ I1 c d) λ_ s2 q=>q
theorem Eg{i:Nat}{x:Str}{e:Expr}{te:TE}{a:Pos}(g:X.N.Nodup)(hi:X.N[i]?=some x)(hx:Loc X.env.scope x)(he:PE X e te)(d:swapsWith e (some (.Name x a)) pos.line X.env=pure false:=by rfl)(f:X.fn x=true\/X.env.scope.names.lookup x=some .local:=by first | show .inl rfl | show .inr rfl | assumption) :
  PS X (.Assign [.Name x a] e pos) (yV te (y8 i)):=by
 intro k s σ H D I h;show wpAny_Assign_Name (ez (he k s σ H _ I h) λv s1 j=>?_) d;obtain⟨y,H1,I1,b,c⟩:=j;show EV I1 g hi hx b (λs2 I2=>⟨_,H1,I2,c⟩) f
end
section
variable{X:Cx}{pos:Pos}
def Qu(c:TT)(f:TS):TS:=λD σ H=>∃W:Nat->St->Hp->Prop,(∃m,W m σ H)/\∀m σ H,W m σ H->
 c σ H λb H1=>if b=true then ∃N:St->Hp->Prop,(∀d e,N d e->∃a,a<m/\W a d e)/\f { D with nx:=N,ct:=N,bk:=D.nx } σ H1 else D.nx σ H1
theorem Sw{c:Expr}{body:List Stmt}{tc:TT}{m:TS}(o:PassesOwn (model X.prog X.w) X.A X.env X.xe)(y:PT X c tc)(hb:nW X body m):PS X (.While c body [] pos) (Qu tc m):=by
 intro l s σ H D I h;obtain⟨W,⟨m0,u⟩,turn⟩:=h;show wpAny_While (codeAny_whileLoop (λn x=>∃q t,Inv X l q t x/\W n q t) ?_ m0 ⟨σ,H,I,u⟩);rintro n s1 ⟨e,H1,I1,w1⟩;show wpAny_passesOwn o (ez (y l s1 e H1 _ I1 (turn n e H1 w1)) λb s2 z=>?_);obtain⟨r,I2,i⟩:=z;cases b with
 | true=>
  obtain⟨N,p,i⟩:=i;rw[if_pos rfl];show wpAny_passesOwn o (ez (hb l s2 e r _ I2 i) λf s3 g=>?_);cases f with
  | next=>
   obtain⟨a,d,I3,n3⟩:=g;obtain⟨k,hm,j⟩:=p a d n3;show⟨k,hm,a,d,I3,j⟩
  | cont=>
   obtain⟨a,d,I3,n3⟩:=g;obtain⟨k,hm,j⟩:=p a d n3;show⟨k,hm,a,d,I3,j⟩
  | brk=>show g
  | ret v=>show g
 | false=>
  rw[if_neg aD];show wpAny_execs_nil ⟨e,r,I2,i⟩
end
structure It where
 go:Nat->Hp->Prop
 C4:Nat->Hp->V->Hp->Prop
 stop:Nat->Hp->Prop
def kC(X:Cx)(a:List (Addr×Obj))(H:Hp)(b:Addr):Prop:=
 H b=none/\b≠X.env.locals/\b∉X.fs/\(b∈X.ex\/X.eK.heap.objs.size<=b)/\(∀x c,X.env.cells.lookup x=some c->c≠b)/\∀p∈X.pn++a,p.1≠b
theorem Inv.pI{X:Cx}{a:List (Addr×Obj)}{f:St}{H d:Hp}{s:Shared}{b:Addr}(I:Inv X a f H s)(hb:s.heap.objs.size<=b)(hn:d b=none):kC X a d b:=by
 show⟨hn,Nat.ne_of_gt (aK I.lt hb),I.Gx hb,.inr (aJ I.sz hb),λx c e z=>?_,λp g z=>?_⟩
 .obtain⟨v,q⟩:=I.cell x c e;show absurd (aK q.lt (by rw[z];show hb)) (Nat.lt_irrefl _)
 show absurd (aK (aw (I.pin p g).1) (by rw[z];show hb)) (Nat.lt_irrefl _)
structure Turn(P:Program)(w:World)(K:J')(tg:Expr)(J:It)(fp:List Addr)(it:Addr)(tn:Nat->Heap->Prop):Prop where
 mem:it∈fp
 obj:∀i h,tn i h->∀b∈fp,∃o,h.get? b=some o/\∀v,o.data≠.cell v
 keep:∀i h h',tn i h->(∀b∈fp,∀o,h.get? b=some o->h'.get? b=some o)->tn i h'
 item:∀(X:Cx),X.prog=P->X.w=w->X.K=K->X.calm=true->∀(i:Nat)(K':List (Addr×Obj))(s:Shared)(σ:St)(H:Hp)(E:Value->Shared->Prop),Inv X K' σ H s->(∀b∈fp,kC X K' H b)->tn i s.heap->J.go i H->
  wpAny (model P w) X.A (pyNext (.ref it)) (λr s1=>∃u,r=some u/\
   wpAny (model P w) X.A (letOwnedTupleGo tg (.ref it) u) (λ_ s2=>∃x H',Inv X K' σ H' s2/\RelV x u/\J.C4 i H x H'/\tn (i+1) s2.heap/\∀b∈fp,H' b=none) E s1) E s
 done:∀(X:Cx),X.prog=P->X.w=w->X.K=K->X.calm=true->∀(i:Nat)(K':List (Addr×Obj))(s:Shared)(σ:St)(H:Hp)(E:Value->Shared->Prop),Inv X K' σ H s->(∀b∈fp,kC X K' H b)->tn i s.heap->J.stop i H->
  wpAny (model P w) X.A (pyNext (.ref it)) (λr s1=>r=none/\Inv X K' σ H s1) E s
 self:∀(A:Around)(i:Nat)(s:Shared)(Q:Value->Shared->Prop)(E:Value->Shared->Prop),tn i s.heap->Q (.ref it) s->wpAny (model P w) A (pyIter (.ref it)) Q E s
noncomputable abbrev TI:=St->Hp->(It->Hp->Prop)->Prop
def DF(X:Cx)(e:List (Addr×Obj))(f:St)(g:Expr)(R:It->Hp->Prop)(h:Value)(d:Shared):Prop:=
 ∃(it:Addr)(fp:List Addr)(c:Nat->Heap->Prop)(J:It)(a:Hp),h=.ref it/\Inv X e f a d/\Turn X.prog X.w X.K g J fp it c/\c 0 d.heap/\(∀b∈fp,kC X e a b)/\R J a
def PI(X:Cx)(d a:Expr)(c:TI):Prop:=
 ∀(b:List (Addr×Obj))(s:Shared)(σ:St)(H:Hp)(R:It->Hp->Prop),Inv X b σ H s->c σ H R->
  wpAny (model X.prog X.w) X.A (eval a X.env) (λv s1=>wpAny (model X.prog X.w) X.A (pyIter v) (DF X b σ d R) X.xe s1) X.xe s
theorem BW{M:Model}{A:Around}{E:Value->Shared->Prop}{s:Shared}{c:Expr}{it:Addr}{u:Value}{o:Obj}{n:String}{b:Array Value}{Q:Unit->Shared->Prop}(d:s.heap.get? it=some o)(e:o.cls=.type n)(hd:o.data=.fields b)
  (hn:["enumerate","zip","dict_itemiterator","dict_reverseitemiterator","odict_iterator","itertools.zip_longest","itertools.pairwise"].contains n=false) (a:Q () s):wpAny M A (letOwnedTupleGo c (.ref it) u) Q E s:=by
 unfold letOwnedTupleGo;cases c<;>first
  | show af a
  | (cases u<;>first
    | show af a
    | (show aa (wpAny_load d ?_)
       rw[e,hd];show wpAny M A (if (["enumerate","zip","dict_itemiterator","dict_reverseitemiterator","odict_iterator","itertools.zip_longest","itertools.pairwise"].contains n&&b[0]?==some (rawInt _))=true then _ else _) Q E s;rw[if_neg (by intro h;rw[hn,Bool.false_and] at h;cases h)];show af a))
noncomputable def Il(K:J')(a:Addr):It:=
 ⟨λi H=>∃xs x,fT K H a xs/\xs[i]?=some x,λi H x b=>b=H/\∀xs,fT K H a xs->xs[i]?=some x,λi H=>∃xs,fT K H a xs/\xs.length<=i⟩
noncomputable def Ik(K:J')(a:Addr):It:=
 ⟨λi H=>∃xs x,gR K H a xs/\xs[i]?=some x,λi H x b=>b=H/\∀xs,gR K H a xs->xs[i]?=some x,λi H=>∃xs,gR K H a xs/\xs.length<=i⟩
noncomputable def Bz(lo:Int)(n:Nat):It:=⟨λi _=>i<n,λi H x a=>a=H/\x=.int (lo+i),λi _=>n<=i⟩
theorem Ud{P:Program}{w:World}{K:J'}{y:Expr}(a it:Addr):Turn P w K y (Il K a) [it] it (λi h=>h.IsListIter it a i) where
 mem:=by simp
 obj:=λi h st b hb=>by
  have e:b=it:=by simpa using hb
  subst e;obtain⟨o,e,c,d⟩:=st;show⟨o,e,λv z=>by rw[d] at z;cases z⟩
 keep:=λi h h' st k=>st.at λo e=>k it (by simp) o e
 item:=by
  intro X j hw l q i t s σ H E I hf st hg;subst j hw l;obtain⟨xs,x,f,hx⟩:=hg;obtain⟨its,g,p,hz⟩:=I.list f;obtain⟨u,D,B⟩:=g.get hx;obtain⟨f0,f1,f2,n,f4,m⟩:=hf it (by simp);show wpAny_pyNext_list_item st p.isList (x:=u) (by simpa using D) λh' r A=>?_
  have I1:Inv X t σ H { s with heap:=h' }:=I.turned (t':=s.toks) (λb o hb e=>(A.2 b hb).trans e) f0 f1 n f4 m;obtain⟨o,e,c,d⟩:=id r;show⟨u,rfl,BW (s:={ s with heap:=h' }) e c d (by decide) ⟨x,H,I1,B,⟨rfl,λys C=>by rw[I.i4 C f];show hx⟩,r,λb hb=>(hf b hb).1⟩⟩
 done:=by
  intro X j hw l q i t s σ H E I hf st hg;subst j hw l;obtain⟨xs,f,hx⟩:=hg;obtain⟨its,g,p,hz⟩:=I.list f;obtain⟨f0,f1,f2,n,f4,m⟩:=hf it (by simp);have G:=g.length;show wpAny_pyNext_list_end (I.ok.hd q) st p.isList (by simp;ext) λh' F=>⟨rfl,I.turned (t':=s.toks) (λb o hb e=>F b o hb e) f0 f1 n f4 m⟩
 self:=λ_ _ _ _ _ st h=>wpAny_pyIter_listiter st h
theorem Uu{P:Program}{w:World}{K:J'}{y:Expr}(a it:Addr):Turn P w K y (Ik K a) [it] it (λi h=>h.IsTupleIter it a i) where
 mem:=by simp
 obj:=λi h st b hb=>by
  have e:b=it:=by simpa using hb
  subst e;obtain⟨o,e,c,d⟩:=st;show⟨o,e,λv z=>by rw[d] at z;cases z⟩
 keep:=λi h h' st k=>st.at λo e=>k it (by simp) o e
 item:=by
  intro X j hw l q i t s σ H E I hf st hg;subst j hw l;obtain⟨xs,x,f,hx⟩:=hg;obtain⟨its,g,p,hz⟩:=I.tuple f;obtain⟨u,D,B⟩:=g.get hx;obtain⟨f0,f1,f2,n,f4,m⟩:=hf it (by simp);show wpAny_pyNext_tuple_item st (show s.heap.IsTuple a its.toArray from p) (x:=u) (by simpa using D) λh' r A=>?_
  have I1:Inv X t σ H { s with heap:=h' }:=I.turned (t':=s.toks) (λb o hb e=>(A.2 b hb).trans e) f0 f1 n f4 m;obtain⟨o,e,c,d⟩:=id r;show⟨u,rfl,BW (s:={ s with heap:=h' }) e c d (by decide) ⟨x,H,I1,B,⟨rfl,λys C=>by rw[I.mS C f];show hx⟩,r,λb hb=>(hf b hb).1⟩⟩
 done:=by
  intro X j hw l q i t s σ H E I hf st hg;subst j hw l;obtain⟨xs,f,hx⟩:=hg;obtain⟨its,g,p,hz⟩:=I.tuple f;obtain⟨f0,f1,f2,n,f4,m⟩:=hf it (by simp);have G:=g.length;show wpAny_pyNext_tuple_end (I.ok.hd q) st (show s.heap.IsTuple a its.toArray from p) (by simp;ext) λh' F=>⟨rfl,I.turned (t':=s.toks) (λb o hb e=>F b o hb e) f0 f1 n f4 m⟩
 self:=λ_ _ _ _ _ st h=>wpAny_pyIter_tupleiter st h
theorem Ut{P:Program}{w:World}{K:J'}{p:Expr}(it:Addr)(lo:Int)(n:Nat):Turn P w K p (Bz lo n) [it] it (λi h=>IsRangeIter h it (lo+(i:Nat)*1) ((n:Int)-(i:Nat)) 1) where
 mem:=by simp
 obj:=λi h st b hb=>by
  have e:b=it:=by simpa using hb
  subst e
  show⟨_,st,λv z=>by
   have m:Data.fields _=Data.cell v:=z;cases m⟩
 keep:=λi h h' st k=>k it (by simp) _ st
 item:=by
  intro X c hw d a i l s σ H E I hf st hg;subst c hw d;obtain⟨f0,f1,f2,g,f4,f⟩:=hf it (by simp);have W:=Walks.range (prog:=X.prog) (w:=X.w) (I.ok.hd a) it lo 1 n;show W.item i s _ _ hg st λv h' tk r j q=>?_
  obtain⟨t,rfl⟩:=r;have I1:Inv X l σ H { s with heap:=h',toks:=tk }:=I.turned (λb o hb e=>q b o (by simpa using hb) e) f0 f1 g f4 f;show⟨_,rfl,BW (s:={ s with heap:=h',toks:=tk }) (n:="range_iterator") j rfl rfl (by decide) ⟨.int (lo+i),H,I1,⟨t,?_⟩,⟨rfl,rfl⟩,j,λb hb=>(hf b hb).1⟩⟩;rw[Int.mul_one]
 done:=by
  intro X c hw d a i l s σ H E I hf st hg;subst c hw d;obtain⟨f0,f1,f2,g,f4,f⟩:=hf it (by simp);show wpAny_pyNext_range_end (I.ok.hd a) st (by have:n<=i:=hg;ext) λh' u=>⟨rfl,I.turned (t':=s.toks) (λb o hb e=>u b o hb e) f0 f1 g f4 f⟩
 self:=λ_ _ _ _ _ st h=>wpAny_pyIter_rangeiter st h
section
variable{X:Cx}{tg:Expr}
theorem Le{c:List (Addr×Obj)}{a:St}{H:Hp}{s:Shared}{R:It->Hp->Prop}{E:Value->Shared->Prop}{lo hi:Int}{t u v:Tok}{tk:Nat}(I:Inv X c a H s)(h:-(2 ^ 62)<=lo)(g:lo<2 ^ 62)(f:-(2 ^ 62)<=hi)(d:hi<2 ^ 62)
  (q:R (Bz lo (hi-lo).toNat) H):wpAny (model X.prog X.w) X.A (pyIter (.ref s.heap.objs.size)) (DF X c a tg R) E { s with heap:=s.heap.push { cls:=.type "range",data:=.fields #[.int lo t,.int hi u,.int 1 v] },toks:=tk }:=by
 show wpAny_pyIter_range (IsRange.new ..) (small_one h g f d) ?_;have I1:Inv X c a H { s with heap:=s.heap.push { cls:=.type "range",data:=.fields #[.int lo t,.int hi u,.int 1 v] },toks:=tk }:=I.kept λb o e=>ag _ e
 show⟨(s.heap.push { cls:=.type "range",data:=.fields #[.int lo t,.int hi u,.int 1 v] }).objs.size,[(s.heap.push { cls:=.type "range",data:=.fields #[.int lo t,.int hi u,.int 1 v] }).objs.size],_,_,H,rfl,
  I1.kept (t':=tk) λb o e=>ag _ e,Ut _ lo (hi-lo).toNat,?_,λb hb=>?_,q⟩
 .have j:lo+((0:Nat):Int)*1=lo:=by simp
  have i:(((hi-lo).toNat:Nat):Int)-((0:Nat):Int)=Builtin.Range.rangeSize lo hi 1:=by rw[rangeSize_one];split<;>ext
  show IsRangeIter _ _ (lo+((0:Nat):Int)*1) ((((hi-lo).toNat:Nat):Int)-((0:Nat):Int)) 1;rw[j,i];show ax _ rfl
 have e:b=(s.heap.push { cls:=.type "range",data:=.fields #[.int lo t,.int hi u,.int 1 v] }).objs.size:=by simpa using hb
 subst e;show I1.pI (ay _) (I1.dD.fresh (ay _))
def OK(b:TA):TI:=λσ H R=>b σ H λa H1=>∃j:Int,a=[.int j]/\-(2 ^ 62)<=j/\j<2 ^ 62/\R (Bz 0 j.toNat) H1
def OJ(b:TA):TI:=λσ H R=>b σ H λa H1=>∃i j:Int,a=[.int i,.int j]/\(-(2 ^ 62)<=i/\i<2 ^ 62/\-(2 ^ 62)<=j/\j<2 ^ 62)/\R (Bz i (j-i).toNat) H1
theorem Uc{a:Expr}{c:TA}{p pos:Pos}(hg:Gl X "range")(hm:X.mg "range"=none)(ha:PA X [a] c)(i:starEach [a] X.env=[(false,eval a X.env)]:=by rfl):PI X tg (.Call (.Name "range" p) [a] [] pos) (OK c):=by
 intro l s σ H R I h;show Call_ (tO I hg hm boot_range (PyProof.Rows.callWith_type1 (ez (ha pos l s σ H _ I h) λus s1 k=>?_) i rfl));obtain⟨m,H1,I1,f,b⟩:=k;obtain⟨j,e,b,g,q⟩:=b;subst e;cases f with
 | cons r d=>
  cases d;obtain⟨t,rfl⟩:=r;show call_range_1 (Le I1 (by ext) (by ext) b g (by simpa using q))
theorem Ub{a b:Expr}{f:TA}{p pos:Pos}(hg:Gl X "range")(hm:X.mg "range"=none)(ha:PA X [a,b] f)(u:starEach [a,b] X.env=[(false,eval a X.env),(false,eval b X.env)]:=by rfl)(g:starEach [b] X.env=[(false,eval b X.env)]:=by rfl) :
  PI X tg (.Call (.Name "range" p) [a,b] [] pos) (OJ f):=by
 intro v s σ H R I h;show Call_ (tO I hg hm boot_range (PyProof.Rows.callWith_type1 (ez (ha pos v s σ H _ I h) λus s1 ⟨w,H1,I1,k,d⟩=>?_) (by rw[u,g]) (by rw[g];rfl)));obtain⟨i,j,e,⟨d,o,n,m⟩,q⟩:=d;subst e;cases k with
 | cons r c=>
  cases c with
  | cons l c=>
   cases c;obtain⟨t,rfl⟩:=r;obtain⟨t',rfl⟩:=l;show call_range_2 (Le I1 d o n m q)
def NO(d:TI)(g:TG)(e:TS):TS:=λD σ H=>d σ H λJ H1=>∃W:Nat->Nat->St->Hp->Prop,(∃m,W 0 m σ H1)/\∀i m σ H,W i m σ H->
 (J.stop i H/\D.nx σ H)\/(J.go i H/\∃N:St->Hp->Prop,(∀c a,N c a->∃b,b<m/\W (i+1) b c a)/\∀x a,J.C4 i H x a->g x σ a λf h=>e { D with nx:=N,ct:=N,bk:=D.nx } f h)
noncomputable def za(fp:List Addr)(h:Heap):List (Addr×Obj):=fp.filterMap λb=>(h.get? b).map λo=>(b,o)
theorem CQ{fp:List Addr}{h:Heap}{b:Addr}{o:Obj}(hb:b∈fp)(e:h.get? b=some o):(b,o)∈za fp h:=List.mem_filterMap.mpr ⟨b,hb,by rw[e];rfl⟩
theorem Ua{fp:List Addr}{h:Heap}{p:Addr×Obj}(a:p∈za fp h):p.1∈fp/\h.get? p.1=some p.2:=by
 obtain⟨b,hb,e⟩:=List.mem_filterMap.mp a;cases q:h.get? b with
 | none=>rw[q] at e;cases e
 | some o=>
  rw[q] at e;have c:(b,o)=p:=Option.some.inj e;subst c;show⟨hb,q⟩
theorem Inv.pinned{a:List (Addr×Obj)}{c:St}{H:Hp}{s:Shared}{fp:List Addr}(I:Inv X a c H s)(i:∀b∈fp,kC X a H b)(h:∀b∈fp,∃o,s.heap.get? b=some o/\∀v,o.data≠.cell v):Inv X (a++za fp s.heap) c H s:=
 I.pY λp g=>(av.mp g).elim (λz=>I.pin p (aW _ z)) λz=>by
  obtain⟨hb,e⟩:=Ua z;obtain⟨f0,f1,f2,_⟩:=i p.1 hb;obtain⟨o,f,d⟩:=h p.1 hb;rw[e] at f;cases f;show⟨e,f0,f1,f2,d⟩
theorem Inv.jK{b pl:List (Addr×Obj)}{a:St}{H:Hp}{s:Shared}(I:Inv X (b++pl) a H s):Inv X b a H s:=I.pY λp c=>I.pin p (aW _ (List.mem_append_left _ c))
theorem Pk{c:Expr}{body:List Stmt}{M:TI}{g:TG}{P:TS}{pos:Pos}(B:PassesOwn (model X.prog X.w) X.A X.env X.xe)(R:X.calm=true)(hi:PI X tg c M)(hg:PG X tg g)(hb:nW X body P)
  (hs:∀x,foldedSetIterable c X.env x=pure x:=by intro _;rfl):PS X (.For tg c body [] pos) (NO M g P):=by
 intro t s σ H D I h;show wpAny_For (ez (hi t s σ H _ I h) λv s1 h1=>ez h1 λGP s2 h2=>?_) hs;obtain⟨it,fp,O,J,H2,e,I2,T,dX,f2,W,⟨m0,w0⟩,turn⟩:=h2;subst e
 -- F8 stays true of rC xh objects through rC loop
 have F:∀{l:Hp},(∀b∈fp,l b=none)->∀b∈fp,kC X t l b:=λhn b hb=>⟨hn b hb,(f2 b hb).2⟩
 show codeAny_forLoop_any (λn Q=>∃i C l,Inv X t C l Q/\O i Q.heap/\(∀b∈fp,l b=none)/\W i n C l) ?_ m0 ⟨0,σ,H2,I2,dX,λb hb=>(f2 b hb).1,w0⟩;rintro n s3 ⟨i,z,E,I3,V,S,w3⟩;rcases turn i n z E w3 with⟨stop,qn⟩ | ⟨go,N,hN,step⟩
 .refine wpAny_passesOwn B (ez (T.done X rfl rfl rfl R i t s3 z E X.xe I3 (F S) V stop) λr s4 q=>?_);obtain⟨K,I4⟩:=q;subst K;show wpAny_execs_nil ⟨z,E,I4,qn⟩
 show wpAny_passesOwn B (ez (T.item X rfl rfl rfl R i t s3 z E X.xe I3 (F S) V go) λr s4 q=>?_);obtain⟨u,K,h4⟩:=q;subst K;show wpAny_passesOwn B (ez h4 λ_ s5 q=>?_);obtain⟨x,U,I5,r5,Y,L,Y3⟩:=q;have Zk:=I5.pinned (F Y3) (T.obj _ _ L);show wpAny_passesOwn B (ez (hg _ s5 z U x u _ Zk r5 (step x U Y)) λ_ s6 q=>?_);obtain⟨NN,H6,I6,q6⟩:=q;show wpAny_passesOwn B (ez (hb _ s6 NN H6 _ I6 q6) λf G p=>?_);have again:∀{a:St}{k:Hp},Inv X (t++za fp s5.heap) a k G->N a k->∃m,m<n/\∃i C l,Inv X t C l G/\O i G.heap/\(∀b∈fp,l b=none)/\W i m C l:=λ{a k} j y=>by
  obtain⟨m',hm,w7⟩:=hN a k y;show⟨m',hm,i+1,a,k,j.jK,T.keep _ _ _ L λb hb o e=>(j.pin (b,o) (aW _ (aW _ (CQ hb e)))).1,λb hb=>?_,w7⟩;obtain⟨o,e,d⟩:=T.obj _ _ L b hb;show(j.pin (b,o) (aW _ (aW _ (CQ hb e)))).2.1
 cases f with
 | next=>obtain⟨a,k,j,y⟩:=p;show again j y
 | cont=>obtain⟨a,k,j,y⟩:=p;show again j y
 | brk=>obtain⟨a,k,j,p⟩:=p;show⟨a,k,j.jK,p⟩
 | ret v=>obtain⟨Z,a,k,j,r7,p⟩:=p;show⟨Z,a,k,j.jK,r7,p⟩
end
noncomputable abbrev R2:=V->V->Hp->VK->Prop
def i6(X:Cx)(f:Value->Value->Sem Value)(r:R2):Prop:=
 ∀(a:List (Addr×Obj))(s:Shared)(σ:St)(H:Hp)(x y:V)(v u:Value)(Q:VK),Inv X a σ H s->RelV x v->RelV y u->r x y H Q->
  wpAny (model X.prog X.w) X.A (f v u) (EP X a σ Q) X.xe s
def Ig(X:Cx)(f:Value->Sem Value)(r:V->Hp->VK->Prop):Prop:=
 ∀(a:List (Addr×Obj))(s:Shared)(σ:St)(H:Hp)(x:V)(v:Value)(Q:VK),Inv X a σ H s->RelV x v->r x H Q->
  wpAny (model X.prog X.w) X.A (f v) (EP X a σ Q) X.xe s
def dZ(X:Cx)(f:Value)(r:List V->Hp->VK->Prop):Prop:=
 ∀(a:List (Addr×Obj))(s:Shared)(σ:St)(H:Hp)(xs:List V)(us:List Value)(Q:VK),Inv X a σ H s->Vals xs us->r xs H Q->
  wpAny (model X.prog X.w) X.A (call f us) (EP X a σ Q) X.xe s
def Ar(r:R2)(b a:TE):TE:=λσ H Q=>b σ H λx H1=>a σ H1 λy c=>r x y c Q
def Xa(r:V->Hp->VK->Prop)(a:TE):TE:=λσ H Q=>a σ H λx H1=>r x H1 Q
def rI(C:Int->Int->Prop)(g:Int->Int->V):R2:=λx y H Q=>∃i j,x=.int i/\y=.int j/\C i j/\Q (g i j) H
def qH(g:Int->Int->V):R2:=λx y H Q=>∃i j,x=.int i/\y=.int j/\Q (g i j) H
def rU(g:Int->V):V->Hp->VK->Prop:=λx H Q=>∃i,x=.int i/\Q (g i) H
section
variable{X:Cx}{a b c:Expr}{ta tb tc:TE}{pos:Pos}
theorem DR(ha:PE X a ta)(hb:PE X b tb){e:List (Addr×Obj)}{s:Shared}{c:St}{H:Hp}{R:V->V->Hp->Prop}(I:Inv X e c H s)
  (h:ta c H λx H1=>tb c H1 λy d=>R x y d) {Q:Value->Shared->Prop} {f:Value->Value->Sem Value}
  (n:∀v u s2 x y d,Inv X e c d s2->RelV x v->RelV y u->R x y d->wpAny (model X.prog X.w) X.A (f v u) Q X.xe s2) :
  wpAny (model X.prog X.w) X.A (eval a X.env) (λv o=>wpAny (model X.prog X.w) X.A (eval b X.env) (λu m=>wpAny (model X.prog X.w) X.A (f v u) Q X.xe m) X.xe o) X.xe s:=by
 show ez (ha e s c H _ I h) λv s1 g=>?_
 obtain⟨x,H1,I1,j,l⟩:=g;show ez (hb e s1 c H1 _ I1 l) λu s2 g=>?_
 obtain⟨y,d,I2,i,k⟩:=g;show n v u s2 x y d I2 j i k
theorem OI{c:Operator}{r:R2}(f:i6 X (binaryOp c) r)(ha:PE X a ta)(hb:PE X b tb):PE X (.BinOp a c b pos) (Ar r ta tb):=by
 intro g s σ H Q I h;show wpAny_BinOp (DR ha hb I h λv u s2 x y i I2 e d q=>f g s2 σ i x y v u Q I2 e d q)
theorem OH{b:UnaryOp}{r:V->Hp->VK->Prop}(f:Ig X (unaryOp b) r)(ha:PE X a ta):PE X (.UnaryOp b a pos) (Xa r ta):=by
 intro c s σ H Q I h;show UnaryOp_ (ez (ha c s σ H _ I h) λv s1 g=>by obtain⟨x,H1,I1,d,e⟩:=g;show f c s1 σ H1 x v Q I1 d e)
theorem Dc{f:Value->Value->Sem Value}{C:Int->Int->Prop}{g:Int->Int->Int}
  (a:∀(i j:Int)(t u:Tok)(s:Shared)(Q:Value->Shared->Prop)(E:Value->Shared->Prop),C i j->Q (.int (g i j) s.toks) { s with toks:=s.toks+1 }->wpAny (model X.prog X.w) X.A (f (.int i t) (.int j u)) Q E s) :
  i6 X f (rI C λi j=>.int (g i j)):=by
 intro e s σ H x y v u Q I c b h;obtain⟨i,j,rfl,rfl,d,q⟩:=h;obtain⟨t,rfl⟩:=c;obtain⟨t',rfl⟩:=b;show a i j t t' s _ _ d ⟨.int (g i j),H,I.tok _,⟨_,rfl⟩,q⟩
theorem IG{f:Value->Value->Sem Value}{g:Int->Int->Int}
  (a:∀(i j:Int)(t u:Tok)(s:Shared)(Q:Value->Shared->Prop)(E:Value->Shared->Prop),Q (.int (g i j) s.toks) { s with toks:=s.toks+1 }->wpAny (model X.prog X.w) X.A (f (.int i t) (.int j u)) Q E s) :
  i6 X f (qH λi j=>.int (g i j)):=by
 intro d s σ H x y v u Q I c b h;obtain⟨i,j,rfl,rfl,q⟩:=h;obtain⟨t,rfl⟩:=c;obtain⟨t',rfl⟩:=b;show a i j t t' s _ _ ⟨.int (g i j),H,I.tok _,⟨_,rfl⟩,q⟩
theorem BK{f:Value->Value->Sem Value}{g:Int->Int->Bool}
  (a:∀(i j:Int)(t u:Tok)(s:Shared)(Q:Value->Shared->Prop)(E:Value->Shared->Prop),Q (.bool (g i j)) s->wpAny (model X.prog X.w) X.A (f (.int i t) (.int j u)) Q E s) :
  i6 X f (qH λi j=>.bl (g i j)):=by
 intro d s σ H x y v u Q I c b h;obtain⟨i,j,rfl,rfl,q⟩:=h;obtain⟨t,rfl⟩:=c;obtain⟨t',rfl⟩:=b;show a i j t t' s _ _ ⟨.bl (g i j),H,I,rfl,q⟩
def kE(i j:Int):Prop:=0<j/\j<1073741824
def o8(i j:Int):Prop:=0<=j/\j<=1000000/\i.natAbs<2 ^ 64
def iR(i j:Int):Prop:=(-(2 ^ 64)<i/\i<2 ^ 64)\/(-(2 ^ 64)<j/\j<2 ^ 64)
theorem iR.ok{i j:Int}(h:iR i j):IntMulOk i j:=by
 rcases h with⟨b,a⟩ | ⟨b,a⟩
 .exact .of_left (intBits_le_64 b a)
 show .of_right (intBits_le_64 b a)
theorem w5:i6 X (binaryOp .Add) (qH λi j=>.int (i+j)):=IG λ_ _ _ _ _ _ _ q=>add_int q
theorem Pj:i6 X (binaryOp .Sub) (qH λi j=>.int (i-j)):=IG λ_ _ _ _ _ _ _ q=>sub_int q
theorem Ph:i6 X (binaryOp .Mult) (rI iR λi j=>.int (i*j)):=Dc λ_ _ _ _ _ _ _ a q=>mul_int q a.ok
theorem QD:i6 X (binaryOp .FloorDiv) (rI kE λi j=>.int (i/j)):=Dc λi j _ _ _ _ _ a q=>by
 have c:(0:Int)<j:=a.1;have b:j<1073741824:=a.2;show floordiv_int (by ext) (by rw[Int.fdiv_eq_ediv_of_nonneg i (by ext)];show q) (.inl (PyProof.noPylong_small (by ext)))
theorem Pg:i6 X (binaryOp .Mod) (rI (λ_ j=>0<j) λi j=>.int (i%j)):=Dc λi j _ _ _ _ _ a q=>by
 have b:(0:Int)<j:=a;show mod_int' (by ext) (by rw[Int.fmod_eq_emod_of_nonneg i (by ext)];show q)
theorem Pf:i6 X (binaryOp .Pow) (rI o8 λi j=>.int (i ^ j.toNat)):=Dc λ_ _ _ _ _ _ _ a q=>pow_int_small a.1 a.2.1 a.2.2 q
theorem W4{f:Value->Sem Value}{g:Int->Int}
  (a:∀(i:Int)(t:Tok)(s:Shared)(Q:Value->Shared->Prop)(E:Value->Shared->Prop),Q (.int (g i) s.toks) { s with toks:=s.toks+1 }->wpAny (model X.prog X.w) X.A (f (.int i t)) Q E s) :
  Ig X f (rU λi=>.int (g i)):=by
 intro c s σ H x v Q I b h;obtain⟨i,rfl,q⟩:=h;obtain⟨t,rfl⟩:=b;show a i t s _ _ ⟨.int (g i),H,I.tok _,⟨_,rfl⟩,q⟩
theorem Pe:Ig X (unaryOp .USub) (rU λi=>.int (-i)):=W4 λ_ _ _ _ _ q=>neg_int q
end
section
variable{X:Cx}{a b c:Expr}{ta tb tc:TE}{pos:Pos}
theorem Ef{c:List (Addr×Obj)}{a:St}{H:Hp}{s:Shared}{Q:VK}{k b:Bool}(I:Inv X c a H s)(q:Q (.bl k) H)(e:k=b):EP X c a Q (.bool b) s:=by
 subst e;show⟨.bl k,H,I,rfl,q⟩
theorem IQ:i6 X (compareOp .Lt) (qH λi j=>.bl (decide (i<j))):=BK λ_ _ _ _ _ _ _ q=>lt_int q
theorem BV:i6 X (compareOp .LtE) (qH λi j=>.bl (decide (i<=j))):=BK λ_ _ _ _ _ _ _ q=>le_int q
theorem OG:i6 X (compareOp .Gt) (qH λi j=>.bl (decide (j<i))):=BK λ_ _ _ _ _ _ _ q=>gt_int q
theorem OF:i6 X (compareOp .GtE) (qH λi j=>.bl (decide (j<=i))):=BK λ_ _ _ _ _ _ _ q=>ge_int q
theorem qI:i6 X (compareOp .In) (λx y H Q=>∃i j,x=.str i/\y=.str j/\Q (.bl (!(Builtin.Str.occurrences j i 0 j.length 1).isEmpty)) H):=by
 intro c s σ H x y v u Q I b a h;obtain⟨i,j,rfl,rfl,q⟩:=h;obtain⟨t,rfl⟩:=b;obtain⟨t',rfl⟩:=a;show in_str (Ef I q rfl)
theorem Pd:i6 X (compareOp .Is) (λx y H Q=>y=.non/\Q (.bl (decide (x=.non))) H):=by
 intro c s σ H x y v u Q I a b h;obtain⟨rfl,q⟩:=h;cases b;show is_none_gen (Ef I q ?_);cases x<;>first
  | (cases a;rfl)
  | (obtain⟨t,rfl⟩:=a;rfl)
theorem Q4:i6 X (compareOp .IsNot) (λx y H Q=>y=.non/\Q (.bl (!decide (x=.non))) H):=by
 intro c s σ H x y v u Q I a b h;obtain⟨rfl,q⟩:=h;cases b;show isnot_none_gen (Ef I q ?_);cases x<;>first
  | (cases a;rfl)
  | (obtain⟨t,rfl⟩:=a;rfl)
theorem i6.or{f:Value->Value->Sem Value}{r c:R2}(h:i6 X f r)(h':i6 X f c):i6 X f (λx y H Q=>r x y H Q\/c x y H Q):=by
 intro d s σ H x y v u Q I b a q;rcases q with q | q
 .exact h d s σ H x y v u Q I b a q
 show h' d s σ H x y v u Q I b a q
theorem Jx(b:Expr){a:CmpOp}(h:a≠.In:=by decide)(c:a≠.NotIn:=by decide):behindInMarks a b=false:=by
 have e:(a==CmpOp.In)=false:=by cases a<;>first | rfl | show absurd rfl h
 have d:(a==CmpOp.NotIn)=false:=by cases a<;>first | rfl | show absurd rfl c
 cases b<;>simp[behindInMarks,e,d]
theorem Q3{c:CmpOp}{r:R2}(f:i6 X (compareOp c) r)(ha:PE X a ta)(hb:PE X b tb)(hm:behindInMarks c b=false):PE X (.Compare a [c] [b] pos) (Ar r ta tb):=by
 intro g s σ H Q I h;show wpAny_Compare1 (DR ha hb I h λv u s2 x y i I2 e d q=>f g s2 σ i x y v u Q I2 e d q) hm
def D5(t:TE):TT:=λσ H Q=>t σ H λx a=>∃k,x=.bl k/\Q k a
theorem Q2{f:CmpOp}{r:R2}(p:i6 X (compareOp f) r)(ha:PE X a ta)(hb:PE X b tb)(hm:behindInMarks f b=false):PT X (.Compare a [f] [b] pos) (D5 (Ar r ta tb)):=by
 intro g s σ H Q I h;show wpAny_isTrue_Compare1 (ez (ha g s σ H _ I h) λv s1 d=>?_) hm;obtain⟨x,H1,I1,l,o⟩:=d;show ez (hb g s1 σ H1 _ I1 o) λu s2 d=>?_
 obtain⟨y,t,I2,j,n⟩:=d;show ez (p g s2 σ t x y v u _ I2 l j n) λc s3 d=>?_
 obtain⟨z,q,I3,i,k,e,m⟩:=d;subst e;cases i;show wpAny_truthy_bool ⟨q,I3,m⟩
def Jw(r c:R2)(ta tb tc:TE):TE:=λσ H Q=>ta σ H λx H1=>tb σ H1 λy e=>r x y e λz a=>∃k,z=.bl k/\
 (if k=true then tc σ a λb d=>c y b d Q else Q (.bl false) a)
theorem Sv{j i:CmpOp}{r m:R2}(K:i6 X (compareOp j) r)(J:i6 X (compareOp i) m)(ha:PE X a ta)(hb:PE X b tb)(L:PE X c tc)
  (hm:lastMarks [j,i] [b,c]=false:=by with_unfolding_all rfl):PT X (.Compare a [j,i] [b,c] pos) (D5 (Jw r m ta tb tc)):=by
 intro g s σ H Q I h;show isTrue_chain (ez (ha g s σ H _ I h) λv s1 f=>?_) hm;obtain⟨x,H1,I1,B,F⟩:=f;show test_link (ez (hb g s1 σ H1 _ I1 F) λu s2 f=>?_);obtain⟨y,S,I2,l,E⟩:=f;show ez (K g s2 σ S x y v u _ I2 B l E) λd s3 f=>?_
 obtain⟨z,o,I3,A,k,e,n⟩:=f;subst e;cases A;show wpAny_truthy_bool ?_;cases k with
 | false=>
  obtain⟨U,N,G⟩:=n;cases N;show ite_ff ⟨o,I3,G⟩
 | true=>
  show ite_tt (test_last (ez (L g s3 σ o _ I3 n) λq s4 f=>?_));obtain⟨p,R,I4,w,D⟩:=f;show ez (J g s4 σ R y p u q _ I4 l w D) λd' s5 f=>?_
  obtain⟨T,P,O,t,k2,M,C⟩:=f;subst M;cases t;show wpAny_truthy_bool ⟨P,O,C⟩
theorem ya:(sizeLine:Nat)<2 ^ 63:=by rw[sizeLine_eq];decide
theorem pB:i6 X (binaryOp .Add) (λx y H Q=>∃i j,x=.str i/\y=.str j/\i.length+j.length<=sizeLine/\Q (.str (i++j)) H):=by
 intro c s σ H x y v u Q I b a h;obtain⟨i,j,rfl,rfl,hz,q⟩:=h;obtain⟨t,rfl⟩:=b;obtain⟨t',rfl⟩:=a;show add_str (λt' tk=>⟨.str (i++j),H,I.tok _,⟨_,rfl⟩,q⟩) hz
theorem l7{x:V}{a:List Value}(r:Vals [x] a):∃u,a=[u]/\RelV x u:=by
 cases r with
 | cons c b=>cases b;show⟨_,rfl,c⟩
theorem xV{x y:V}{b:List Value}(r:Vals [x,y] b):∃u a,b=[u,a]/\RelV x u/\RelV y a:=by
 cases r with
 | cons f e=>
  cases e with
  | cons d c=>cases c;show⟨_,_,rfl,f,d⟩
theorem T9(b:X.calm=true):dZ X (.builtin "max") (λxs H Q=>∃i j,xs=[.int i,.int j]/\Q (.int (if j>i then j else i)) H):=by
 intro d s σ H xs us Q I r h;obtain⟨i,j,rfl,q⟩:=h;obtain⟨u,c,rfl,⟨t,rfl⟩,⟨t',rfl⟩⟩:=xV r;show max_two_ints (I.ok.hd b) λh' tk k=>⟨_,H,I.kept k,?_,q⟩
 by_cases a:j>i
 .rw[if_pos a,if_pos a];show⟨_,rfl⟩
 rw[if_neg a,if_neg a];show⟨_,rfl⟩
theorem T8(b:X.calm=true):dZ X (.builtin "min") (λxs H Q=>∃i j,xs=[.int i,.int j]/\Q (.int (if j<i then j else i)) H):=by
 intro d s σ H xs us Q I r h;obtain⟨i,j,rfl,q⟩:=h;obtain⟨u,c,rfl,⟨t,rfl⟩,⟨t',rfl⟩⟩:=xV r;show min_two_ints (I.ok.hd b) λh' tk k=>⟨_,H,I.kept k,?_,q⟩
 by_cases a:j<i
 .rw[if_pos a,if_pos a];show⟨_,rfl⟩
 rw[if_neg a,if_neg a];show⟨_,rfl⟩
theorem T7:dZ X (.type "int") (λxs H Q=>(∃i,xs=[.int i]/\Q (.int i) H)\/∃k,xs=[.bl k]/\Q (.int (if k then 1 else 0)) H):=by
 intro b s σ H xs us Q I r h;rcases h with⟨i,rfl,q⟩ | ⟨k,rfl,q⟩
 .obtain⟨u,rfl,t,rfl⟩:=l7 r;show call_int_int ⟨.int i,H,I,⟨_,rfl⟩,q⟩
 obtain⟨u,rfl,a⟩:=l7 r;cases a;show call_int_bool ⟨.int (if k then 1 else 0),H,I.tok _,⟨_,rfl⟩,q⟩
end
structure qW(h:Heap)(x dx C:Addr)(mA:Str->Option Value):Prop where
 obj:h.get? x=some (PySem.W.instObj C dx)
 ns:h.Ns1 dx mA
 ne:dx≠x
theorem T6{h:Heap}{c:Addr}{b:Str->Option Value}(n:h.Ns1 c b):∃od,h.get? c=some od/\∀name,PySem.W.lookIn name od=some (b name):=by
 obtain⟨o,es,ep,g,hd,i,_,hm⟩:=n;show⟨o,g,λname=>?_⟩;have e:=hm name;unfold nsFind findBy at e;rw[<-Array.find?_toList] at e;unfold PySem.W.lookIn;rw[hd];dsimp only;split
 .rename_i y q;rw[q] at e;show congrArg some e
 rename_i q;rw[q] at e;have a:es.toList.any (·.refKey)=false:=by
  rw[List.any_eq_false];intro y f;obtain⟨z,t,d⟩:=i y (bI.mp f);simp[DictEntry.refKey,d]
 have j:¬es.toList.any (·.refKey)=true:=by rw[a];show aD
 rw[if_neg j];show congrArg some e
theorem qW.look{h:Heap}{x b C:Addr}{a:Str->Option Value}(I:qW h x b C a):∃od,PySem.W.InstAt h x (PySem.W.instObj C b) C (some od)/\∀name,PySem.W.lookIn name od=some (a name):=
 let⟨od,c,d⟩:=T6 I.ns
 ⟨od,⟨I.obj,rfl,rfl,c⟩,d⟩
section
variable{prog:Program}{w:World}{A:Around}{E:Value->Shared->Prop}{s:Shared}{K:J'}{x dx C f:Addr}{mA:Str->Option Value}{name:Str}{v:Value}
theorem Q0{a:Bool}{Q:Value->Shared->Prop}(X:K.In s.heap)(I:qW s.heap x dx C mA)(hg:PySem.W.plainGet K C name=true)(hh:PySem.W.hasDictIn K C=true)
  (ha:PySem.W.findIn K (.ref C) name=some none) (c:mA name=some v) (b:PySem.W.handedIn v=true) (h:Q v { s with toks:=s.toks+1 }) :
  wpAny (model prog w) A (getAttr (.ref x) name a) Q E s:=by
 obtain⟨od,J,d⟩:=I.look;show PySem.W.get_value X J (PySem.W.plainGet_of hg).1 (PySem.W.findObj_own hh ha rfl (by rw[d,c])) b h
theorem QZ{ns:List Str}{Q:Unit->Shared->Prop}(X:K.In s.heap)(I:qW s.heap x dx C mA)
  (g:PySem.W.findIn K (.ref C) "__setattr__"=some (some (.builtin "object.__setattr__"))) (i:PySem.W.plainOver K C=true) (ht:PySem.W.takerIn K C name=some none) (hh:PySem.W.hasDictIn K C=true)
  (hw:PySem.Within mA ns) (n:ns.length<=sizeLine)
  (h:∀h',qW h' x dx C (λy=>if y=name then some v else mA y)->Heap.SameBut dx s.heap h'->Q () { s with heap:=h',toks:=s.toks+2 }) :
  wpAny (model prog w) A (setAttr (.ref x) name v) Q E s:=by
 obtain⟨od,J,m⟩:=I.look;show PySem.W.set_plain X J g (PySem.W.osa_open (s:={ s with toks:=s.toks+1 }) (r:=none) X J i ht λb=>?_);obtain⟨cd,j,f⟩:=PySem.W.any_some hh;have hx:s.heap.get? x=some ⟨.ref C,some dx,.plain,#[]⟩:=I.obj;show aa (af (aa (aa (wpAny_loadPart hx (aa (PySem.W.Looks.here (s:={ s with toks:=s.toks+1 }) (PySem.W.looks_clsIn X j) ?_))))));rw[f];show af (a:=some dx) (aa (af (aa ?_)));show wpAny_nsSet1 (s:={ s with toks:=s.toks+1 }) I.ns λh' d c=>?_
 obtain⟨oD,p,o,k,l,e⟩:=d.count (PySem.Within.cons name v hw);show aa (wpAny_lookBehind k (by rw[l];show pastItsLine_dict (aJ e (by rw[aH];ext))) ?_);show af (h _ ⟨(c.2 _ (Ne.symm I.ne)).trans I.obj,d,I.ne⟩ c)
theorem Su{R:Result->Shared->Prop}{a:List Value}{b:List (Str×Value)}(X:K.In s.heap)(hm:PySem.W.makesIn K C=true)
  (hi:PySem.W.findIn K (.ref C) "__init__"=some (some (.ref f))) (c:PySem.W.typeIn K (.ref f)=some (.type "function"))
  (h:codeAny (model prog w) (A.under (.builtin "type.__call__" ⟨.ref C::a,b⟩)) (.call (.ref f) ⟨.ref (s.heap.objs.size+1)::a,b⟩) (PySem.W.InitBack (s.heap.objs.size+1) R)
   { s with heap:=(s.heap.push PySem.W.emptyDict).push (PySem.W.instObj C s.heap.objs.size) }) :
  codeAny (model prog w) A (.call (.ref C) ⟨a,b⟩) R s:=by
 obtain⟨hh,g,d,t,os⟩:=s;show PySem.W.make_core (PySem.W.makes_of X hm) (PySem.W.looks_findIn X hi) (λself=>PySem.W.bind_fn X self c) (.inl rfl) h
end
noncomputable def mO(f:Str)(v:V):List (Str×V)->List (Str×V)
 | []=>[(f,v)]
 | (g,x)::r=>if g=f then(g,v)::r else(g,x)::mO f v r
theorem L5(f g:Str)(v:V):∀fs:List (Str×V),(mO f v fs).lookup g=if g=f then some v else fs.lookup g
 | []=>by
  show List.lookup g [(f,v)]=_;by_cases h:g=f
  .have hb:(g==f)=true:=beq_iff_eq.mpr h;simp only[List.lookup,hb,if_pos h]
  have hb:(g==f)=false:=beq_eq_false_iff_ne.mpr h;simp only[List.lookup,hb,if_neg h]
 | (k,x)::r=>by
  have b:=L5 f g v r;rw[show mO f v ((k,x)::r)=(if k=f then(k,v)::r else(k,x)::mO f v r) from rfl];by_cases a:k=f
  .rw[if_pos a];by_cases h:g=k
   .have hb:(g==k)=true:=beq_iff_eq.mpr h;simp only[List.lookup,hb,if_pos (h.trans a)]
   have hb:(g==k)=false:=beq_eq_false_iff_ne.mpr h;simp only[List.lookup,hb,if_neg (λe:g=f=>h (e.trans a.symm))]
  rw[if_neg a];by_cases h:g=k
  .have hb:(g==k)=true:=beq_iff_eq.mpr h;simp only[List.lookup,hb,if_neg (λe:g=f=>a (h.symm.trans e))]
  have hb:(g==k)=false:=beq_eq_false_iff_ne.mpr h;simp only[List.lookup,hb];show b
theorem Ff(f:Str)(v:V):∀fs:List (Str×V),f∈(mO f v fs).map (·.1)/\∀g,g∈fs.map (·.1)->g∈(mO f v fs).map (·.1)
 | []=>⟨by simp[mO],λg h=>by simp at h⟩
 | (k,x)::r=>by
  obtain⟨i1,b⟩:=Ff f v r;rw[show mO f v ((k,x)::r)=(if k=f then(k,v)::r else(k,x)::mO f v r) from rfl];by_cases a:k=f
  .rw[if_pos a];subst a;show⟨by simp,λg h=>by simpa using h⟩
  rw[if_neg a];show⟨?_,λg h=>?_⟩
  .rw[az];show aE _ i1
  rw[az] at h ⊢;rcases ao.mp h with e | e
  .exact ao.mpr (.inl e)
  show aE _ (b g e)
theorem L4(f:Str)(v:V):∀fs:List (Str×V),(mO f v fs).length<=fs.length+1
 | []=>by simp[mO]
 | (k,x)::r=>by
  have b:=L4 f v r;rw[show mO f v ((k,x)::r)=(if k=f then(k,v)::r else(k,x)::mO f v r) from rfl];by_cases a:k=f
  .rw[if_pos a,aH,aH];ext
  rw[if_neg a,aH,aH];ext
theorem pN.some_of{v:V}{o:Option Value}(r:pN (some v) o):∃u,o=some u/\RelV v u:=by
 cases o with
 | none=>show(show False from r).elim
 | some u=>show⟨u,rfl,r⟩
theorem T5{v:V}{u:Value}(r:RelV v u):PySem.W.handedIn u=true:=by
 cases v with
 | non=>cases (show u=Value.none from r);rfl
 | bl b=>cases (show u=Value.bool b from r);rfl
 | int i=>obtain⟨t,e⟩:=(show ∃t,u=Value.int i t from r);cases e;rfl
 | str x=>obtain⟨t,e⟩:=(show ∃t,u=Value.str x t from r);cases e;rfl
 | Dz b=>obtain⟨t,e⟩:=(show ∃t,u=Value.bytes b t from r);cases e;rfl
 | Dx b=>obtain⟨t,e⟩:=(show ∃t,u=Value.float b t from r);cases e;rfl
 | ref a=>cases (show u=Value.ref a from r);rfl
 | ty n=>cases (show u=Value.type n from r);rfl
section
variable{P:Program}{w:World}{H H':Hp}{h h':Heap}{a C dx:Addr}{fs Dw:List (Str×V)}
theorem J9(dD:kh P w H h)(e:H a=some (.ins C dx fs)):∃b,qW h a dx C b/\(∀f,pN (fs.lookup f) (b f))/\PySem.Within b (fs.map (·.1))/\fs.length<=1000/\H dx=some (.own a):=by
 obtain⟨d,z,ne,ob,b,n,r,q⟩:=(show eV P w H h a (.ins C dx fs) from dD a _ e)
 show⟨b,⟨ob,n,ne⟩,r,q,z,d⟩
end
structure v7(K:J')(C:Addr):Prop where
 pg:PySem.W.plainGet K C Str.empty=true
 hd:PySem.W.hasDictIn K C=true
 po:PySem.W.plainOver K C=true
 sa:PySem.W.findIn K (.ref C) "__setattr__"=some (some (.builtin "object.__setattr__"))
theorem v7.get{K:J'}{C:Addr}(c:v7 K C)(f:Str):PySem.W.plainGet K C f=true:=c.pg
def dg(K:J')(C:Addr)(f:Str):Prop:=PySem.W.findIn K (.ref C) f=some none
theorem dg.Aq{K:J'}{C:Addr}{f:Str}(n:dg K C f):PySem.W.takerIn K C f=some none:=by
 unfold PySem.W.takerIn;rw[show PySem.W.findIn K (.ref C) f=some none from n];rfl
section
variable{X:Cx}{K':List (Addr×Obj)}{σ:St}{H:Hp}{s:Shared}{a C dx:Addr}{fs:List (Str×V)}{f:Str}{v:V}{A:Around}{E:Value->Shared->Prop}
theorem Us{b:Bool}{Q:Value->Shared->Prop}(I:Inv X K' σ H s)(e:H a=some (.ins C dx fs))(c:v7 X.K C)(n:dg X.K C f)(l:fs.lookup f=some v)
  (h:∀u d,Inv X K' σ H d->RelV v u->Q u d):wpAny (model X.prog X.w) A (getAttr (.ref a) f b) Q E s:=by
 obtain⟨i,O,r,_,_,_⟩:=J9 I.dD e;obtain⟨u,j,g⟩:=pN.some_of (v:=v) (o:=i f) (by rw[<-l];show r f);show Q0 I.mf O (c.get f) c.hd n j (T5 g) (h u _ (I.tok _) g)
theorem Ur{y:V}{u:Value}{Q:Unit->Shared->Prop}(I:Inv X K' σ H s)(e:H a=some (.ins C dx fs))(c:v7 X.K C)(n:dg X.K C f)(v:fs.length<1000)(p:RelV y u)
  (h:∀j,Inv X K' σ (upd H a (.ins C dx (mO f y fs))) j->Q () j):wpAny (model X.prog X.w) A (setAttr (.ref a) f u) Q E s:=by
 obtain⟨k,O,r,i,_,l⟩:=J9 I.dD e;have hz:(fs.map (·.1)).length<=sizeLine:=by rw[ae,sizeLine_eq];ext
 show QZ I.mf O c.sa c.po n.Aq c.hd i hz λh' d m=>h _ ?_
 have hd:∃o,h'.get? dx=some o:=let⟨o,_,_,t,_⟩:=d.ns;⟨o,t⟩
 show I.write (x:=a) (e:=dx) (by rw[e];show True.intro) (.inr l) (λb q hb z=>(m.2 b hb).trans z) hd ?_;show⟨by rw[eG O.ne];show l,?_,O.ne,d.obj,_,d.ns,λg=>?_,λg hg=>?_⟩
 .have:=L4 f y fs;ext
 .show pN ((mO f y fs).lookup g) (if g=f then some u else k g);rw[L5];by_cases q:g=f
  .rw[if_pos q,if_pos q];show p
  rw[if_neg q,if_neg q];show r g
 by_cases q:g=f
 .rw[q];show(Ff f y fs).1
 show(Ff f y fs).2 g (i g λz=>hg ?_);show(if g=f then some u else k g)=none;rw[if_neg q];show z
theorem Inv.made(I:Inv X K' σ H s):Inv X K' σ (upd (upd H s.heap.objs.size (.own (s.heap.objs.size+1))) (s.heap.objs.size+1) (.ins C s.heap.objs.size []))
  { s with heap:=(s.heap.push PySem.W.emptyDict).push (PySem.W.instObj C s.heap.objs.size) }:=by
 have c:(s.heap.push PySem.W.emptyDict).get? s.heap.objs.size=some PySem.W.emptyDict:=ax s.heap rfl;have g:((s.heap.push PySem.W.emptyDict).push (PySem.W.instObj C s.heap.objs.size)).get? (s.heap.objs.size+1)=some (PySem.W.instObj C s.heap.objs.size):=by
  have:=ax (s.heap.push PySem.W.emptyDict) (o:=PySem.W.instObj C s.heap.objs.size) rfl;rwa [Heap.size_push] at this
 have f:(s.heap.push PySem.W.emptyDict).Ns s.heap.objs.size (λ_=>none):=⟨PySem.W.emptyDict,#[],_,c,rfl,(λe he=>absurd he (by simp)),λ_=>rfl⟩
 have I1:=I.laid (a:=s.heap.objs.size) (o:=.own (s.heap.objs.size+1)) (h':=s.heap.push PySem.W.emptyDict) (t':=s.toks) (λb u q=>ag _ q) (ay _) ⟨_,c⟩;show I1.laid (a:=s.heap.objs.size+1) (o:=.ins C s.heap.objs.size []) (t':=s.toks) (λb u q=>ag _ q) (Nat.le_of_eq (Heap.size_push _ _)) ?_;have ne:s.heap.objs.size≠s.heap.objs.size+1:=aF (Nat.lt_succ_self _);show⟨by rw[eG ne,jb],aN _,ne,g,λ_=>none,(Heap.Ns1.of_empty f).at λo q=>ag _ q,λ_=>True.intro,λy d=>absurd rfl d⟩
theorem QY{prog:Program}{w:World}{env:Env}{e:Expr}{f:Str}{pos:Pos}{s:Shared}{Q:Value->Shared->Prop}(hb:attributeBase e f env (eval e env)=eval e env)
  (h:wpAny (model prog w) A (eval e env) (λo a=>wpAny (model prog w) A (getAttr o f true) Q E a) E s):wpAny (model prog w) A (eval (.Attribute e f pos) env) Q E s:=
 Attribute_any_ h (by rw[arm_eval_Attribute,hb])
end
def Od(K:J')(b:TE)(f:Str):TE:=λσ H Q=>b σ H λx H1=>∃a C c fs v,x=.ref a/\H1 a=some (.ins C c fs)/\v7 K C/\dg K C f/\fs.lookup f=some v/\Q v H1
def Oc(K:J')(e d:TE)(f:Str):TS:=λD σ H=>d σ H λy H1=>e σ H1 λx c=>∃a C b fs,x=.ref a/\c a=some (.ins C b fs)/\v7 K C/\dg K C f/\fs.length<1000/\
 D.nx σ (upd c a (.ins C b (mO f y fs)))
section
variable{X:Cx}{o e value:Expr}{f:Str}{pos pos' uu:Pos}{ta tv:TE}
theorem Pb(he:PE X e ta)(hb:attributeBase e f X.env (eval e X.env)=eval e X.env):PE X (.Attribute e f pos) (Od X.K ta f):=by
 intro j s σ H Q I h;show QY hb (ez (he j s σ H _ I h) λu s1 i=>?_);obtain⟨x,H1,I1,b,a,C,m,fs,v,ex,g,c,n,l,q⟩:=i;subst ex;obtain rfl:u=Value.ref a:=b;show Us I1 g c n l λk s2 I2 d=>⟨v,H1,I2,d,q⟩
theorem Pa(ha:PE X o ta)(j:PE X value tv)(k:swapsWith value (some (.Attribute o f pos')) pos.line X.env=pure false):PS X (.Assign [.Attribute o f pos'] value pos) (Oc X.K ta tv f):=by
 intro d s σ H D I h;show plainObj_wpAny_Assign_Attribute (ez (j d s σ H _ I h) λu s1 b=>?_) k;obtain⟨y,H1,I1,e,q⟩:=b;show ez (ha d s1 σ H1 _ I1 q) λov s2 b=>?_
 obtain⟨x,r,I2,g,a,C,p,fs,ex,m,c,n,l,i⟩:=b;subst ex;obtain rfl:ov=Value.ref a:=g;show Ur I2 m c n l e λs3 I3=>⟨σ,_,I3,i⟩
end
structure eC(k:Nat)(A:Around):Prop where
 hd:A.handled=none
 dp:A.depth+3*k+5<recursionLimit
 un:A.units+16*k+200<cLine
theorem eC.mono{j k:Nat}{A:Around}(r:eC k A)(h:j<=k):eC j A:=⟨r.hd,by have:=r.dp;ext,by have:=r.un;ext⟩
theorem eC.deeper{k:Nat}{A:Around}(r:eC (k+1) A)(env:Env):eC k (A.deeper env):=
 ⟨r.hd,by have:=r.dp;show A.depth+1+3*k+5<_;ext,by have:=r.un;show A.units+3+16*k+200<_;ext⟩
theorem Uq{A:Around}{C:Addr}{a:List Value}{b:List (Str×Value)}:(A.under (.builtin "type.__call__" ⟨.ref C::a,b⟩)).depth=A.depth+1:=by
 first | rfl | simp[Around.under,Code.weight,Code.isCreation,Code.isGuard,Code.isCaller,Code.frames,Code.isFrame,guardIds]
theorem Up{A:Around}{C:Addr}{a:List Value}{b:List (Str×Value)}:(A.under (.builtin "type.__call__" ⟨.ref C::a,b⟩)).units=A.units+1:=by
 first | rfl | simp[Around.under,Code.cUnits,Code.frames,Code.isFrame]
theorem eC.make{k:Nat}{A:Around}(r:eC (k+1) A)(C:Addr)(a:List Value)(b:List (Str×Value)):eC k (A.under (.builtin "type.__call__" ⟨.ref C::a,b⟩)):=
 ⟨r.hd,by have:=r.dp;rw[Uq];ext,by have:=r.un;rw[Up];ext⟩
theorem eC.depth{k:Nat}{A:Around}(r:eC k A):A.depth<recursionLimit:=by have:=r.dp;ext
theorem eC.units{k:Nat}{A:Around}(r:eC k A):A.units+64<cLine:=by have:=r.un;ext
noncomputable def DQ:TA:=λ_ H Q=>Q [] H
noncomputable def D4(a:TE)(tr:TA):TA:=λσ H Q=>a σ H λx H1=>tr σ H1 λxs b=>Q (x::xs) b
section
variable{X:Cx}{e:Expr}{es:List Expr}{te:TE}{t:TA}{pos:Pos}
theorem pj:PA X [] DQ:=λ_ _ _ _ H Q I h=>Calls.spliced_nil ⟨[],H,I,.nil,h⟩
theorem mZ(ha:PE X e te)(j:PA X es t)(i:starEach (e::es) X.env=(false,eval e X.env)::starEach es X.env:=by rfl):PA X (e::es) (D4 te t):=by
 intro pos b s σ H Q I h;rw[i];show wpAny _ _ (spliced ((false,eval e X.env)::backTo pos (starEach es X.env))) _ _ s;show Calls.spliced_cons (ez (ha b s σ H _ I h) λu s1 a=>?_);obtain⟨x,H1,I1,d,g⟩:=a;show ez (j pos b s1 σ H1 _ I1 g) λus s2 a=>by obtain⟨xs,k,I2,c,f⟩:=a;show⟨x::xs,k,I2,.cons d c,f⟩
def Ob(t:TA):TE:=λσ H Q=>t σ H λxs H1=>xs.length<=sizeLine/\∀p,H1 p=none->Q (.ref p) (upd H1 p (.tup xs))
def Oa(t:TA):TE:=λσ H Q=>t σ H λxs H1=>xs.length<=sizeLine/\∀p,H1 p=none->Q (.ref p) (upd H1 p (.lst xs))
theorem Jv{a}(h:PA X es t):PE X (.Tuple es a pos) (Ob t):=by
 intro d s σ H Q I c;show wpAny_Tuple_spliced (ez (h pos d s σ H _ I c) λus s1 ⟨xs,H1,I1,r,z,q⟩=>⟨by rw[<-r.length];show z,?_⟩);have hf:H1 s1.heap.objs.size=none:=I1.dD.fresh (ay _);show⟨.ref s1.heap.objs.size,upd H1 s1.heap.objs.size (.tup xs),I1.laid (t':=s1.toks) (λb u e=>ag _ e) (ay _) ?_,rfl,q _ hf⟩;show⟨z,us,r,⟨_,ax _ rfl,rfl,_,rfl⟩⟩
theorem O9(h:PA X es t):PE X (.List es pos) (Oa t):=by
 intro c s σ H Q I a;show wpAny_List_spliced (ez (h pos c s σ H _ I a) λus s1 ⟨xs,H1,I1,r,z,q⟩=>⟨by rw[<-r.length];show z,?_⟩);have hf:H1 s1.heap.objs.size=none:=I1.dD.fresh (ay _);show⟨.ref s1.heap.objs.size,upd H1 s1.heap.objs.size (.lst xs),I1.laid (t':=s1.toks) (λb u e=>ag _ e) (ay _) ?_,rfl,q _ hf⟩;show⟨z,us,0,r,ax _ rfl⟩
end
noncomputable abbrev Sp:=List V->Hp->VK->XK->Prop
noncomputable abbrev tw:=List Env->Hp->Shared->XK->Value->Shared->Prop
structure pO(P:Program)(w:World)(K:J')(mg:Str->Option Value)(base:Heap)(A:Around)(outer:List Env)(s:Shared)(H:Hp):Prop where
 frames:A.frames=some outer
 mod:Mod K mg base
 bs:∀b o,base.get? b=some o->s.heap.get? b=some o/\H b=none
 uS:base.objs.size<=s.heap.objs.size
 iQ:s.heap.FunFrames base outer
 sS:∀b∈jZ outer,H b=none
 dD:kh P w H s.heap
 bare:AllBare s.gens
def CE(outer:List Env)(P:Program)(w:World)(H:Hp)(s:Shared)(Q:VK)(u:Value)(a:Shared):Prop:=
 ∃v b,a.os=s.os/\AllBare a.gens/\Un (jZ outer) [] H b s.heap a.heap/\kh P w b a.heap/\RelV v u/\Q v b
def CR(b:tw)(outer:List Env)(P:Program)(w:World)(H:Hp)(s:Shared)(Q:VK)(E:XK)(r:Result)(a:Shared):Prop:=
 match r with
 | .ok (.ret u)=>CE outer P w H s Q u a
 | .ok _=>False
 | .error e=>b outer H s E e a
structure iu(P:Program)(w:World)(K:J')(mg:Str->Option Value)(base:Heap)(CX:tw)(k:Nat)(f:Addr)(fd:FuncData)(ps:List Str)(sp:Sp):Prop where
 len:∀vs H Q E,sp vs H Q E->vs.length=ps.length
 run:∀(A:Around)(outer:List Env)(s:Shared)(H:Hp)(args:Args)(us:List Value)(vs:List V)(Q:VK)(E:XK),eC k A->pO P w K mg base A outer s H->BindsTo s fd args (ps.zip us)->Vals vs us->sp vs H Q E->
  codeAny (model P w) A (.call (.ref f) args) (CR CX outer P w H s Q E) s
theorem pO.make{P:Program}{w:World}{K:J'}{mg:Str->Option Value}{base:Heap}{A:Around}{outer:List Env}{s:Shared}{H:Hp}(e:pO P w K mg base A outer s H)(C:Addr)(a:List Value)(b:List (Str×Value)) :
  pO P w K mg base (A.under (.builtin "type.__call__" ⟨.ref C::a,b⟩)) outer s H:=⟨by first | show e.frames | (simpa[Around.under,Code.envs,Code.isFrame,pushEnvs] using e.frames),e.mod,e.bs,e.uS,e.iQ,e.sS,e.dD,e.bare⟩
section
variable{X:Cx}{K':List (Addr×Obj)}{σ:St}{H:Hp}{s s':Shared}
theorem Inv.qT(I:Inv X K' σ H s):pO X.prog X.w X.K X.mg X.base X.A X.stack s H:=
 ⟨I.ok.frames,I.ok.mod,I.bs,aJ I.ok.uS I.sz,I.stack,I.pX,I.dD,I.bare⟩
theorem Inv.after{Q:VK}{u:Value}(I:Inv X K' σ H s)(h:CE X.stack X.prog X.w H s Q u s'):EP X K' σ Q u s':=by
 obtain⟨v,c,os,bare,un,dD,r,q⟩:=h;obtain⟨hh,g,d,t,a⟩:=s';obtain rfl:a=s.os:=os;show⟨v,c,I.call (h':=hh) (g':=g) (d':=d) (t':=t) (ch:=[]) un dD bare (λb z=>absurd z (by simp)),r,q⟩
end
def OE(b:Sp)(dvs:List V)(E:XK)(t:TA):TE:=λσ H Q=>t σ H λa H1=>b (a++dvs) H1 Q E
def OD(C:Addr)(c:Sp)(dvs:List V)(E:XK)(t:TA):TE:=λσ H Q=>t σ H λb H1=>∀x a,H1 x=none->H1 a=none->a≠x->
 c (.ref x::(b++dvs)) (upd (upd H1 a (.own x)) x (.ins C a [])) (λv d=>v=.non/\Q (.ref x) d) E
def Binds(K:J')(a:FuncData)(ps:List Str)(ds:List Value):Prop:=
 ∀(s:Shared)(us:List Value),K.In s.heap->(us++ds).length=ps.length->BindsTo s a ⟨us,[]⟩ (ps.zip (us++ds))
theorem Binds.all{K:J'}{b:FuncData}{ps:List Str}(h:∀us:List Value,us.length=ps.length->bindArgs b ⟨us,[]⟩=pure (ps.zip us)):Binds K b ps []:=λs us _ a=>by
 rw[a9] at a ⊢;show .of_eq (h us a)
def wu(c:tw)(X:Cx)(E:XK):Prop:=∀(b:List (Addr×Obj))(σ:St)(H:Hp)(s:Shared)(e:Value)(a:Shared),Inv X b σ H s->c X.stack H s E e a->X.xe e a
section
variable{X:Cx}{CX:tw}{k:Nat}{f C:Addr}{fd:FuncData}{ps:List Str}{sp:Sp}{dvs:List V}{ds:List Value}{E:XK}{x m:Str}{p pos apos:Pos}{e o:Expr}{es:List Expr}{ta:TE}{t:TA}
theorem O8{g:List (Addr×Obj)}{d:St}{H:Hp}{s:Shared}{Q:VK}{a:List Value}{c:List V}(F:iu X.prog X.w X.K X.mg X.base CX k f fd ps sp)(l:eC k X.A)(hb:Binds X.K fd ps ds)(hd:Vals dvs ds)(hx:wu CX X E)
  (I:Inv X g d H s) (r:Vals c a) (h:sp (c++dvs) H Q E):wpAny (model X.prog X.w) X.A (call (.ref f) a) (EP X g d Q) X.xe s:=by
 have i:Vals (c++dvs) (a++ds):=r.append hd;have m:(a++ds).length=ps.length:=by rw[<-i.length];show F.len _ _ _ _ h
 show wpAny_call (codeAny_mono (F.run X.A X.stack s H ⟨a,[]⟩ (a++ds) (c++dvs) Q E l I.qT (hb s a I.mf m) i h) λr j b=>?_);cases r with
 | error e=>show hx g d H s e j I b
 | ok n=>
  cases n with
  | ret u=>show I.after b
  | next=>show False.elim b
  | brk=>show False.elim b
  | cont=>show False.elim b
theorem Ej(F:iu X.prog X.w X.K X.mg X.base CX k f fd ps sp)(b:eC k X.A)(hg:Gl X x)(hm:X.mg x=some (.ref f))(c:PySem.W.keepIn X.K (.ref f)=true)(hb:Binds X.K fd ps ds)(hd:Vals dvs ds)(hx:wu CX X E)
  (ha:PA X (e::es) t) (a:(x==("__debug__":Str))=false:=by decide) (he:starEach (e::es) X.env=(false,eval e X.env)::starEach es X.env:=by rfl) (d:(backTo pos (starEach es X.env)).any (·.1)=false:=by rfl) :
  PE X (.Call (.Name x p) (e::es) [] pos) (OE sp dvs E t):=by
 intro i s σ H Q I h;show wpAny_Call_Name_kw (ye I hg hm ?_ a);show PySem.W.callWith_K (h₀:=X.base) I.ok.mod.sC c (ez (ha pos i s σ H _ I h) λus s1 g=>?_) he d;obtain⟨j,H1,I1,r,q⟩:=g;show⟨I1.mf,?_⟩;show O8 F b hb hd hx I1 r q
structure Mk(K:J')(C f:Addr):Prop where
 makes:PySem.W.makesIn K C=true
 init:PySem.W.findIn K (.ref C) "__init__"=some (some (.ref f))
 fn:PySem.W.isFn K (.ref f)=true
 kp:PySem.W.keepIn K (.ref C)=true
theorem Ss{i:List (Addr×Obj)}{d:St}{H:Hp}{s:Shared}{Q:VK}{a:List Value}{g:List V}(M:Mk X.K C f)(F:iu X.prog X.w X.K X.mg X.base CX k f fd ps sp)(p:eC (k+1) X.A)(hb:Binds X.K fd ps ds)(hd:Vals dvs ds)
  (hx:wu CX X E) (I:Inv X i d H s) (r:Vals g a)
  (h:∀x c,H x=none->H c=none->c≠x->sp (.ref x::(g++dvs)) (upd (upd H c (.own x)) x (.ins C c [])) (λv y=>v=.non/\Q (.ref x) y) E) :
  wpAny (model X.prog X.w) X.A (call (.ref C) a) (EP X i d Q) X.xe s:=by
 have l:=h (s.heap.objs.size+1) s.heap.objs.size (I.dD.fresh (b8 _)) (I.dD.fresh (ay _)) (aF (Nat.lt_succ_self _));have I2:=Inv.made (C:=C) I;have j:Vals (V.ref (s.heap.objs.size+1)::(g++dvs)) (Value.ref (s.heap.objs.size+1)::(a++ds)):=.cons rfl (r.append hd);have q:(Value.ref (s.heap.objs.size+1)::a++ds).length=ps.length:=by
  have e:=j.length;rw[F.len _ _ _ _ l] at e;show e.symm
 show wpAny_call (Su (f:=f) I.mf M.makes M.init (beq_iff_eq.mp M.fn) (codeAny_mono (F.run _ X.stack _ _ ⟨Value.ref (s.heap.objs.size+1)::a,[]⟩ (Value.ref (s.heap.objs.size+1)::(a++ds)) _ _ E (p.make C a [])
  (I2.qT.make C a []) (hb _ (Value.ref (s.heap.objs.size+1)::a) I2.mf q) j l) λr m b=>?_))
 cases r with
 | error e=>show hx i d _ _ e m I2 b
 | ok t=>
  cases t with
  | ret u=>
   obtain⟨v,z,I3,n,ev,o⟩:=I2.after b;subst ev;show⟨n,⟨V.ref (s.heap.objs.size+1),z,I3,rfl,o⟩⟩
  | next=>show False.elim b
  | brk=>show False.elim b
  | cont=>show False.elim b
theorem QX(M:Mk X.K C f)(F:iu X.prog X.w X.K X.mg X.base CX k f fd ps sp)(b:eC (k+1) X.A)(hg:Gl X x)(hm:X.mg x=some (.ref C))(hb:Binds X.K fd ps ds)(hd:Vals dvs ds)(hx:wu CX X E)
  (ha:PA X (e::es) t) (a:(x==("__debug__":Str))=false:=by decide) (he:starEach (e::es) X.env=(false,eval e X.env)::starEach es X.env:=by rfl) (c:(backTo pos (starEach es X.env)).any (·.1)=false:=by rfl) :
  PE X (.Call (.Name x p) (e::es) [] pos) (OD C sp dvs E t):=by
 intro g s σ H Q I h;show wpAny_Call_Name_kw (ye I hg hm ?_ a);show PySem.W.callWith_K (h₀:=X.base) I.ok.mod.sC M.kp (ez (ha pos g s σ H _ I h) λus s1 d=>?_) he c;obtain⟨i,H1,I1,r,q⟩:=d;show⟨I1.mf,?_⟩;show Ss M F b hb hd hx I1 r q
end
def PK(X:Cx)(b:List Keyword)(t:TA):Prop:=
 ∀(pos:Pos)(a:List (Addr×Obj))(s:Shared)(σ:St)(H:Hp)(Q:List V->Hp->Prop),Inv X a σ H s->t σ H Q->wpAny (model X.prog X.w) X.A (evalAll ((backToKw pos (keywordEach b X.env)).map (·.2))) (AP X a σ Q) X.xe s
section
variable{X:Cx}{CX:tw}{k:Nat}{f C:Addr}{fd:FuncData}{ps ks:List Str}{sp:Sp}{E:XK}{x m:Str}{p pos apos GN:Pos}{e o:Expr}{es:List Expr}{AU:List Keyword}{te ta:TE}{t tk:TA}{nm:Option Str}
theorem O7:PK X [] DQ:=λ_ _ _ _ H Q I h=>wpAny_evalAll_nil ⟨[],H,I,.nil,h⟩
theorem QW(ha:PE X e te)(i:PK X AU t):PK X (⟨nm,e,GN⟩::AU) (D4 te t):=by
 intro pos b s σ H Q I h;show wpAny _ _ (evalAll ((do let v <-eval e X.env;standAt pos;pure v)::(backToKw pos (keywordEach AU X.env)).map (·.2))) _ _ s;show wpAny_evalAll_cons (aa (ez (ha b s σ H _ I h) λu s1 a=>?_));obtain⟨x,H1,I1,d,g⟩:=a;show aa (wpAny_standAt (af ?_));show ez (i pos b s1 σ H1 _ I1 g) λus s2 a=>by obtain⟨xs,j,I2,c,f⟩:=a;show⟨x::xs,j,I2,.cons d c,f⟩
variable{g:List Value->List Value->List Value}{gV:List V->List V->List V}
end
structure cB(N P:List Str)(sc:Scope):Prop where
 kind:sc.kind=.function
 co:sc.isCoroutine=false
 gen:sc.isGenerator=false
 nd:N.Nodup
 pre:N.take P.length=P
 par:∀x∈P,sc.names.lookup x=some .local\/sc.names.lookup x=some .cell
 xa:∀y∈sc.names,y.2≠.free
theorem Li{a:Str->Option NameKind}{x:Str}:∀{binds:List (Str×Value)}{m:Str->Option Value},(∀v,(x,v)∉binds)->bindL a binds m x=m x
 | [],_,_=>rfl
 | (n,v)::r,m,h=>by
  unfold bindL;rw[Li λw hw=>h w (aE _ hw)];split
  .have:x≠n:=by rintro rfl;show h v bM
   simp[this]
  rfl
theorem Lh{a:Str->Option NameKind}{x:Str}:∀{binds:List (Str×Value)}{m:Str->Option Value},(∀v,(x,v)∉binds)->bindC a binds m x=m x
 | [],_,_=>rfl
 | (n,v)::r,m,h=>by
  unfold bindC;rw[Lh λw hw=>h w (aE _ hw)];split
  .rfl
  have:x≠n:=by rintro rfl;show h v bM
  simp[this]
theorem Lg{a:Str->Option NameKind}{x:Str}{v:Value}:∀{P:List Str}{b:List Value}{i:Nat}{m:Str->Option Value},P.Nodup->P[i]?=some x->b[i]?=some v->a x=some .local->
  bindL a (P.zip b) m x=some v
 | [],_,_,_,_,h,_,_=>by simp at h
 | _::_,[],_,_,_,_,h,_=>by simp at h
 | p::P,w::b,0,m,nd,d,c,e=>by
  simp at d c;subst d;subst c;show bindL a ((p,w)::P.zip b) m p=_;unfold bindL;rw[Li λv f=>(bQ.mp nd).1 (List.of_mem_zip f).1,if_pos e];simp
 | p::P,w::b,i+1,m,nd,d,c,e=>by
  show bindL a ((p,w)::P.zip b) m x=_;unfold bindL;show Lg (i:=i) (bQ.mp nd).2 (by simpa using d) (by simpa using c) e
theorem Lf{a:Str->Option NameKind}{x:Str}{v:Value}:∀{P:List Str}{b:List Value}{i:Nat}{m:Str->Option Value},P.Nodup->P[i]?=some x->b[i]?=some v->a x≠some .local->
  bindC a (P.zip b) m x=some v
 | [],_,_,_,_,h,_,_=>by simp at h
 | _::_,[],_,_,_,_,h,_=>by simp at h
 | p::P,w::b,0,m,nd,d,c,e=>by
  simp at d c;subst d;subst c;show bindC a ((p,w)::P.zip b) m p=_;unfold bindC;rw[Lh λv f=>(bQ.mp nd).1 (List.of_mem_zip f).1,if_neg e];simp
 | p::P,w::b,i+1,m,nd,d,c,e=>by
  show bindC a ((p,w)::P.zip b) m x=_;unfold bindC;show Lf (i:=i) (bQ.mp nd).2 (by simpa using d) (by simpa using c) e
noncomputable def mn(N:List Str)(a:List V):St:=a.map some++List.replicate (N.length-a.length) none
noncomputable def nY(d:tw)(P:Program)(w:World)(K:J')(mg:Str->Option Value)(base:Heap)(N:List Str)(a:Str)(scope:Scope)(f:Addr)(b:Value)(A:Around)(outer:List Env)(s:Shared)(H:Hp)(E:XK):Cx where
 prog:=P
 w:=w
 K:=K
 mg:=mg
 base:=base
 A:=A.deeper (envOfC a scope s.heap.objs.size f b)
 N:=N
 eK:=s
 qX:=H
 env:=envOfC a scope s.heap.objs.size f b
 outer:=outer
 stack:=envOfC a scope s.heap.objs.size f b::outer
 ex:=[]
 calm:=true
 fn:=λ_=>true
 pn:=[]
 xe:=λe g=>wpAny (model P w) (A.deeper (envOfC a scope s.heap.objs.size f b)) (leaving (envOfC a scope s.heap.objs.size f b) e) (λ_ c=>d outer H s E e c) (λh c=>d outer H s E h c) g
theorem Ld{a:Scope}{n:Nat}{x:Str}(h:a.names.lookup x=some .cell):∃c,(cellsFrom n a.names []).lookup x=some c:=by
 have q:=PySem.W.cellsFrom_some a.names n [] (.inl h);show Option.isSome_iff_exists.mp q
theorem T4{L:tw}{P:Program}{w:World}{K:J'}{mg:Str->Option Value}{base:Heap}{N ps:List Str}{d:Str}{scope:Scope}{f:Addr}{B:Value}{A:Around}{outer:List Env}{s F:Shared}{H:Hp}{E:XK}{C:List Value}{l:List V}
  (S:cB N ps scope) (hd:A.handled=none) (j:pO P w K mg base A outer s H) (O:l.length=ps.length) (r:Vals l C)
  (x:InCallC s s.heap.objs.size (bindL (envOfC d scope s.heap.objs.size f B).kindOf (ps.zip C) λ_=>none) (cellsFrom (s.heap.objs.size+1) scope.names []) (bindC (envOfC d scope s.heap.objs.size f B).kindOf (ps.zip C) λ_=>none) F) :
  Inv (nY L P w K mg base N d scope f B A outer s H E) [] (mn N l) H F:=by
 have R:ps.length<=N.length:=by have:=congrArg List.length S.pre;rw[aL] at this;ext
 obtain⟨t,tk,rfl,I⟩:=x.done;have D:∀b:Addr,b∉(nY L P w K mg base N d scope f B A outer s H E).ex:=λb z=>absurd (show b∈([]:List Addr) from z) (by simp)
 show⟨⟨j.mod,S.kind,rfl,rfl,ay _,λy z c t g=>?_,λy m=>?_,λy c _ h=>?_,λ_=>hd,Around.frames_deeper j.frames,.inr ⟨rfl,rfl⟩,λb z=>absurd z (D b),j.bs,j.uS,λb _ _=>D b,λb z=>absurd z (D b),j.iQ,j.sS⟩,
  rfl,j.bare,Un.kept I,⟨_,x.toInCall.ns,λi y v t g Q=>?_⟩,λy c h=>⟨_,x.cell y c h⟩,j.dD.fresh (ay _),λy c h=>?_,λp o=>absurd (show p∈([]:List (Addr×Obj)) from o) (by simp),j.dD.kept I,?_⟩
 .exact name_of_addr x.apart (PySem.mem_of_lookup t) (PySem.mem_of_lookup g)
 .have m:scope.names.lookup y=some .cell\/scope.names.lookup y=some .free:=m;rcases m with m | m
  .exact Ld m
  show absurd rfl (S.xa _ (PySem.mem_of_lookup m))
 .exact Nat.le_of_lt (x.above y c (PySem.mem_of_lookup h))
 .have hi:i<l.length:=by
   unfold mn at g;by_cases hi:i<l.length
   .exact hi
   rw[List.getElem?_append_right (by simpa using hi)] at g;rw[List.getElem?_replicate] at g;split at g<;>cases g
  have ha:l[i]?=some v:=by
   unfold mn at g;rw[List.getElem?_append_left (by simpa using hi),aG] at g;cases e:l[i]? with
   | none=>rw[e] at g;cases g
   | some a=>rw[e] at g;cases g;rfl
  obtain⟨u,G,M⟩:=r.get ha;have o:ps[i]?=some y:=by
   rw[<-S.pre,List.getElem?_take_of_lt (by ext)];show t
  have J:ps.Nodup:=by rw[<-S.pre];show S.nd.sublist (List.take_sublist _ _)
  show⟨u,M,?_⟩;rcases S.par y (aM o) with k | k
  .exact .inl ⟨k,Lg J o G k⟩
  obtain⟨c,e⟩:=Ld (n:=s.heap.objs.size+1) k;show .inr ⟨.inl k,c,e,?_⟩;have q:=x.cell y c e;rw[Lf J o G (by show scope.names.lookup y≠_;rw[k];decide)] at q;show q
 .exact j.dD.fresh (Nat.le_of_lt (x.above y c (PySem.mem_of_lookup h)))
 unfold mn;show _=N.length;rw[ar,ae,List.length_replicate];ext
theorem D3{p:tw}{P:Program}{w:World}{K:J'}{mg:Str->Option Value}{base:Heap}{k:Nat}{f:Addr}{name a:Str}{c:Arguments}{body:List Stmt}{scope:Scope}{G kV l pm h ct R:Value}{L od:Option Addr}
  {T:Array (Option Value)} {N ps:List Str} {z:Sp} (U:K.lookup f=some ⟨R,od,.func (PySem.W.fnOf name a c body scope G kV l pm L h ct),T⟩) (X:PySem.W.codeIn K h a=true) (S:cB N ps scope)
  (len:∀d H Q E,z d H Q E->d.length=ps.length)
  (M:∀(A:Around)(outer:List Env)(s:Shared)(H:Hp)(d:List V)(Q:VK)(E:XK),eC k (A.deeper (envOfC a scope s.heap.objs.size f h))->z d H Q E->
   ∃t,nW (nY p P w K mg base N a scope f h A outer s H E) body t/\t { nx:=λ_ g=>Q .non g,rt:=Q } (mn N d) H) :
  iu P w K mg base p (k+1) f (PySem.W.fnOf name a c body scope G kV l pm L h ct) ps z:=by
 show⟨len,λA outer s H args us d Q E D j hb r F=>?_⟩;have hl:=len _ _ _ _ F;have KX:K.In s.heap:=j.mod.sC.keeps λb o e=>(j.bs b o e).1
 have lim:s.heap.NoLimit:=j.mod.nolimit.keeps λb o e=>(j.bs b o e).1
 have O:∀y∈ps.zip us,scope.names.lookup y.1=some .local\/(scope.names.lookup y.1=some .cell/\((cellsFrom (s.heap.objs.size+1) scope.names []).lookup y.1).isSome=true):=λ⟨n,v⟩ Y=>by
  rcases S.par n (List.of_mem_zip Y).1 with q | q
  .exact .inl q
  show .inr ⟨q,PySem.W.cellsFrom_some _ _ _ (.inl q)⟩
 show codeAny_call_function D.depth (KX _ _ U) rfl S.co S.gen rfl (PySem.W.codeRec_of KX X) (hb _ _ _ _ ?_);show wpAny_newFunctionEnv_cells S.kind O λenv he s1 x=>?_
 subst he;show⟨lim.keeps x.toInCall.keep,codeAny_func ?_⟩;obtain⟨t,ht,Z⟩:=M A outer s H d Q E (D.deeper _) F;have I:Inv (nY p P w K mg base N a scope f h A outer s H E) [] (mn N d) H s1:=T4 S D.hd j hl r x;show bZ (ht [] s1 (mn N d) H _ I Z) (λfl B i=>?_) λe B i=>i
 have fin:∀{m:St}{g:Hp}{v:V}{u:Value},Inv (nY p P w K mg base N a scope f h A outer s H E) [] m g B->RelV v u->Q v g->CE outer P w H s Q u B:=
  λ{m g v u} J C q=>⟨v,g,J.os,J.bare,J.base,J.dD,C,q⟩
 cases fl with
 | ret u=>
  obtain⟨v,m,g,J,C,q⟩:=i;show fin J C q
 | next=>
  obtain⟨m,g,J,q⟩:=i;show fin (v:=V.non) (u:=Value.none) J rfl q
 | brk=>
  obtain⟨_,_,_,q⟩:=i;show False.elim q
 | cont=>
  obtain⟨_,_,_,q⟩:=i;show False.elim q
section
variable{X:Cx}{x:Str}{p pos:Pos}{e:Expr}{es:List Expr}{t:TA}{id T:String}{r:List V->Hp->VK->Prop}
def Ga(r:List V->Hp->VK->Prop)(t:TA):TE:=λσ H Q=>t σ H λa H1=>r a H1 Q
theorem wC(i:dZ X (.builtin id) r)(hg:Gl X x)(hm:X.mg x=none)(g:bootBuiltins x=some (.builtin id))(ha:PA X (e::es) t)(hn:x≠"__name__":=by decide)(f:(x==("__debug__":Str))=false:=by decide)
  (he:starEach (e::es) X.env=(false,eval e X.env)::starEach es X.env:=by rfl) (j:(backTo pos (starEach es X.env)).any (·.1)=false:=by rfl):PE X (.Call (.Name x p) (e::es) [] pos) (Ga r t):=by
 intro a s σ H Q I h;show wpAny_Call_Name_kw (tO I hg hm g ?_ hn f);show PyProof.Rows.callWith_builtin1 (ez (ha pos a s σ H _ I h) λus s1 k=>by obtain⟨b,H1,I1,c,d⟩:=k;show i a s1 σ H1 b us Q I1 c d) he j
theorem CS(i:dZ X (.type T) r)(hg:Gl X x)(hm:X.mg x=none)(g:bootBuiltins x=some (.type T))(ha:PA X (e::es) t)(hn:x≠"__name__":=by decide)(f:(x==("__debug__":Str))=false:=by decide)
  (he:starEach (e::es) X.env=(false,eval e X.env)::starEach es X.env:=by rfl) (j:(backTo pos (starEach es X.env)).any (·.1)=false:=by rfl):PE X (.Call (.Name x p) (e::es) [] pos) (Ga r t):=by
 intro a s σ H Q I h;show wpAny_Call_Name_kw (tO I hg hm g ?_ hn f);show PyProof.Rows.callWith_type1 (ez (ha pos a s σ H _ I h) λus s1 k=>by obtain⟨b,H1,I1,c,d⟩:=k;show i a s1 σ H1 b us Q I1 c d) he j
end
end L2
namespace HT
open PySem PyProof.Rows
noncomputable def lexLt:List Int->List Int->Bool
 | [],[]=>false
 | [],_::_=>true
 | _::_,[]=>false
 | x::xs,y::ys=>if x=y then lexLt xs ys else decide (x<y)
theorem pC(x y:Int)(xs ys:List Int):lexLt (x::xs) (y::ys)=if x=y then lexLt xs ys else decide (x<y):=rfl
theorem su(A:Around)(s:Shared)(a:Int)(t:Tok)(c:Int)(u:Tok)(prog:Program)(w:World)(E:Value->Shared->Prop)(Q:Value->Shared->Prop)(h:Q (.bool (decide (a<c))) s) :
  wpAny (model prog w) A (richCompare .Lt (.int a t) (.int c u)) Q E s:=
 (PyProof.Rows.lt_int h:wpAny (model prog w) A (compareOp .Lt (.int a t) (.int c u)) Q E s)
section
variable{prog:Program}{w:World}{A:Around}{E:Value->Shared->Prop}{s:Shared}
noncomputable def eR(n d:Nat):Option Int->Nat
 | none=>d
 | some v=>if v<0 then(v+(n:Int)).toNat else min v.toNat n
theorem kj(n d:Nat)(hd:d<=n)(o:Option Int):eR n d o<=n:=by
 cases o with
 | none=>show hd
 | some v=>
  show(if v<0 then(v+(n:Int)).toNat else min v.toNat n)<=n;by_cases a:v<0
  .rw[if_pos a];ext
  rw[if_neg a];show Nat.min_le_right _ _
theorem ni(v:Int)(n d:Nat):(if v<0 then max (v+(n:Int)) 0 else min v (n:Int))=((eR n d (some v):Nat):Int):=by
 show(if v<0 then max (v+(n:Int)) 0 else min v (n:Int))=(((if v<0 then(v+(n:Int)).toNat else min v.toNat n):Nat):Int)
 by_cases a:v<0
 .simp only[if_pos a];ext
 simp only[if_neg a];ext
theorem Uo(lo hi:Option Int)(n:Nat):Builtin.Slice.sliceAdjust lo hi 1 (n:Int)=(((eR n 0 lo:Nat):Int),((eR n n hi:Nat):Int)):=by
 have a:¬((1:Int)<0):=by ext
 unfold Builtin.Slice.sliceAdjust;simp only[a,aP];show Prod.ext ?_ ?_
 .cases lo with
  | none=>rfl
  | some v=>show ni v n 0
 cases hi with
 | none=>rfl
 | some v=>show ni v n n
theorem Um(i j:Nat):Builtin.Slice.slicePlaces (i:Int) (j:Int) 1=j-i:=by
 unfold Builtin.Slice.slicePlaces;have a:(1:Int)>0:=by ext
 simp only[a,aQ,Int.ediv_one];split<;>ext
theorem LU{v:Value}{o:Option Int}{Q:Option Int->Shared->Prop}(p:IsPart v o)(h:Q o s):wpAny (model prog w) A (Builtin.Slice.slicePartIndex v) Q E s:=by
 cases p with
 | none=>show slicePart_none h
 | int i t=>show slicePart_int h
theorem Wn{sl:Addr}{c b:Value}{lo hi:Option Int}{n:Nat}{Q:Int×Int×Nat->Shared->Prop}(f:s.heap.IsSliceOf sl c b .none)(pl:IsPart c lo)(e:IsPart b hi)
  (h:Q (((eR n 0 lo:Nat):Int),1,eR n n hi-eR n 0 lo) s):wpAny (model prog w) A (Builtin.Slice.sliceApplied (.ref sl) (pure (n:Int))) Q E s:=by
 obtain⟨os,d,g,a⟩:=id f;unfold Builtin.Slice.sliceApplied Builtin.Slice.sliceFields;show aa (aa (wpAny_field d a (x:=c) rfl (aa (wpAny_field d a (x:=b) rfl (aa (wpAny_field d a (x:=.none) rfl (af ?_)))))));show aa (slicePart_none ?_);show wpAny _ _ (if ((1:Int)==0)=true then _ else _) _ _ s;rw[if_neg (by decide)];show aa (LU pl (aa (LU e (aa (af ?_)))));show wpAny _ _ (match Builtin.Slice.sliceAdjust lo hi 1 (n:Int) with | (lo,hi)=>pure (lo,(1:Int),Builtin.Slice.slicePlaces lo hi 1)) _ _ s;rw[Uo lo hi n];show wpAny _ _ (pure (((eR n 0 lo:Nat):Int),(1:Int),Builtin.Slice.slicePlaces ((eR n 0 lo:Nat):Int) ((eR n n hi:Nat):Int) 1)) _ _ s;rw[Um];show af h
theorem Sr(xs:Array Value)(i k:Nat):((List.range k).filterMap λ(m:Nat)=>xs[((i:Int)+(m:Int)*1).toNat]?).toArray=((xs.toList.drop i).take k).toArray:=by
 have e:(λ(m:Nat)=>xs[((i:Int)+(m:Int)*1).toNat]?)=λm=>xs[i+m]?:=by
  funext m
  have:((i:Int)+(m:Int)*1).toNat=i+m:=by ext
  rw[this]
 rw[e];have:=pick_run xs i k;rw[List.filterMap_map] at this;have a:((λx=>xs[x]?)∘λx=>i+x)=λm=>xs[i+m]?:=rfl
 rw[a] at this;rw[this]
theorem jY{t sl:Addr}{a:Array Value}{d c:Value}{lo hi:Option Int}{Q:Value->Shared->Prop}(ht:IsTup s.heap t a)(e:s.heap.IsSliceOf sl d c .none)(pl:IsPart d lo)(g:IsPart c hi)
  (hw:¬(eR a.size 0 lo=0/\eR a.size a.size hi=a.size))
  (h:Q (.ref s.heap.objs.size) { s with heap:=s.heap.push { cls:=.type "tuple",data:=.seq ((a.toList.drop (eR a.size 0 lo)).take (eR a.size a.size hi-eR a.size 0 lo)).toArray } })
  (r:a.size<=sizeLine):wpAny (model prog w) A (getItem (.ref t) (.ref sl)) Q E s:=by
 have b:sizeOk (.seq ((a.toList.drop (eR a.size 0 lo)).take (eR a.size a.size hi-eR a.size 0 lo)).toArray):=by
  show((a.toList.drop (eR a.size 0 lo)).take (eR a.size a.size hi-eR a.size 0 lo)).toArray.size<=sizeLine;rw[aq,aL,List.length_drop,ai];ext
 have p:eR a.size a.size hi<=a.size:=kj _ _ (ay _) hi;obtain⟨os,k,j,l⟩:=id e;have i:s.TypeIs (.ref sl) "slice":=⟨os,k,j⟩
 unfold getItem;try with_reducible show bh ?_
 first | show aa (af ?_) | skip
 show aa (wpAny_sequenceKey ht.typeIs (by decide) ?_);show aa (wpAny_callSpecial?_slot (name:=Str.ofString "__getitem__") ht.typeIs PyProof.Rows.slot_tuple_getitem
  (wpAny_call_entry PyProof.Rows.slot_tuple_getitem ht.typeIs entry_tuple_getitem ?_ (args_tuple_getitem _ _)))
 show wpAny _ _ (Builtin.Tuple.tupleItemsOf (.ref t) >>= _) _ _ s;show aa (tupleItemsOf_ ht ?_);show aa (wpAny_typeOf i ?_);rw[if_pos (by decide)];show aa (Wn e pl g ?_);have f:¬((((eR a.size 0 lo:Nat):Int)==0&&(1:Int)==1&&(eR a.size a.size hi-eR a.size 0 lo)==a.size)=true):=by
  intro q;rw[Bool.and_eq_true,Bool.and_eq_true] at q;have o:((eR a.size 0 lo:Nat):Int)=0:=eq_of_beq q.1.1;have n:eR a.size a.size hi-eR a.size 0 lo=a.size:=eq_of_beq q.2;show hw ⟨by ext,by ext⟩
 show wpAny _ _ (if (((eR a.size 0 lo:Nat):Int)==0&&(1:Int)==1&&(eR a.size a.size hi-eR a.size 0 lo)==a.size)=true then _ else _) _ _ s;rw[if_neg f,Sr];first
  | show aa (m:=Builtin.Tuple.tupleExact _) (wpAny_newObj_type (af ⟨_,rfl,af h⟩) b)
  | show aa (m:=Builtin.Tuple.tupleExact _) (wpAny_newObj_type (aa (af (af ⟨_,rfl,af h⟩))) b)
  | show aa (aa (m:=Builtin.Tuple.tupleExact _) (wpAny_newObj_type (af (af ⟨_,rfl,af h⟩)) b))
  | show aa (aa (m:=Builtin.Tuple.tupleExact _) (wpAny_newObj_type (af ⟨_,rfl,af h⟩) b))
end
end HT
namespace L2
open PySem PySem.Spec PyProof.Rows
noncomputable abbrev TO:=St->Hp->(Option Int->Hp->Prop)->Prop
def PO(X:Cx)(e:Option Expr)(t:TO):Prop:=
 ∀(a:List (Addr×Obj))(s:Shared)(σ:St)(H:Hp)(Q:Option Int->Hp->Prop),Inv X a σ H s->t σ H Q->
  wpAny (model X.prog X.w) X.A (evalPart e X.env) (λu c=>∃o b,Inv X a σ b c/\IsPart u o/\Q o b) X.xe s
noncomputable def QV:TO:=λ_ H Q=>Q none H
noncomputable def OC(t:TE):TO:=λσ H Q=>t σ H λx H1=>∃i,x=.int i/\Q (some i) H1
theorem yj{ns:List Int}:∀{us:List Value},Vals (ns.map V.int) us->IntsAre us ns:=by
 induction ns with
 | nil=>intro us r;rw[List.map_nil] at r;cases r;show .nil
 | cons n ns c=>
  intro us r;rw[az] at r;cases r with
  | cons b a=>
   obtain⟨t,e⟩:=b;subst e;show .cons n t (c a)
section
variable{X:Cx}{e:Expr}{te:TE}{lo hi:Option Expr}{tl th:TO}{pos p2:Pos}
theorem QU:PO X none QV:=by
 intro a s σ H Q I h;rw[evalPart_none];show af ⟨none,H,I,.none,h⟩
theorem QT(h:PE X e te):PO X (some e) (OC te):=by
 intro d s σ H Q I hw;rw[evalPart_some];show ez (h d s σ H _ I hw) λu s1 c=>?_
 obtain⟨x,H1,I1,a,b⟩:=c;obtain⟨i,rfl,q⟩:=b;obtain⟨t,rfl⟩:=a;show⟨some i,H1,I1,.int i t,q⟩
def vU(X:Cx)(r:V->Option Int->Option Int->Hp->VK->Prop):Prop:=
 ∀(c:List (Addr×Obj))(s:Shared)(σ:St)(H:Hp)(x:V)(v b a:Value)(lo hi:Option Int)(sl:Addr)(Q:VK),Inv X c σ H s->RelV x v->s.heap.IsSliceOf sl b a .none->IsPart b lo->IsPart a hi->r x lo hi H Q->
  ∃T id,typeLookup (.type T) "__getitem__"=pure (some (.builtin id))/\s.TypeIs v T/\wpAny (model X.prog X.w) X.A (getItem v (.ref sl)) (EP X c σ Q) X.xe s
theorem vU.or{r d:V->Option Int->Option Int->Hp->VK->Prop}(h:vU X r)(h':vU X d):vU X (λx lo hi H Q=>r x lo hi H Q\/d x lo hi H Q):=by
 intro f s σ H x v b a lo hi sl Q I c e pl pu q;rcases q with q | q
 .exact h f s σ H x v b a lo hi sl Q I c e pl pu q
 show h' f s σ H x v b a lo hi sl Q I c e pl pu q
def Xb(r:V->Option Int->Option Int->Hp->VK->Prop)(te:TE)(tl th:TO):TE:=λσ H Q=>te σ H λx H1=>tl σ H1 λl b=>th σ b λu a=>r x l u a Q
theorem Sq{r:V->Option Int->Option Int->Hp->VK->Prop}(o:vU X r)(he:PE X e te)(p:PO X lo tl)(n:PO X hi th):PE X (.Subscript e (.Slice lo hi none p2) pos) (Xb r te tl th):=by
 intro a s σ H Q I h;show Subscript_ (ez (he a s σ H _ I h) λv s1 c=>?_);obtain⟨x,H1,I1,i,m⟩:=c;show wpAny_Slice (ez (p a s1 σ H1 _ I1 m) λf s2 c=>?_);obtain⟨l,y,I2,pl,k⟩:=c;show ez (n a s2 σ y _ I2 k) λd s3 c=>?_
 obtain⟨u,g,I3,pu,j⟩:=c;rw[evalPart_none];show af ?_;have I4:Inv X a σ g { s3 with heap:=s3.heap.push { cls:=.type "slice",data:=.fields #[f,d,.none] } }:=I3.kept (t':=s3.toks) λb ob q=>ag _ q
 obtain⟨T,id,t,ht,hg⟩:=o a { s3 with heap:=s3.heap.push { cls:=.type "slice",data:=.fields #[f,d,.none] } } σ g x v f d l u s3.heap.objs.size Q I4 i (Heap.IsSliceOf.new ..) pl pu j;show wpAny (model X.prog X.w) X.A (subscriptTail e (.Slice lo hi none p2) v (.ref s3.heap.objs.size)) (EP X a σ Q) X.xe { s3 with heap:=s3.heap.push { cls:=.type "slice",data:=.fields #[f,d,.none] } };show tail_any (ops:=[.ref s3.heap.objs.size,v]) ht t hg (by with_unfolding_all rfl)
noncomputable def tD(xs:List V)(lo hi:Option Int):List V:=(xs.drop (HT.eR xs.length 0 lo)).take (HT.eR xs.length xs.length hi-HT.eR xs.length 0 lo)
theorem LZ(xs:List V)(lo hi:Option Int):(tD xs lo hi).length<=xs.length:=by
 unfold tD;rw[aL,List.length_drop];ext
def N9(K:J'):V->Option Int->Option Int->Hp->VK->Prop:=λx lo hi H Q=>∃a xs,x=.ref a/\gR K H a xs/\
 ¬(HT.eR xs.length 0 lo=0/\HT.eR xs.length xs.length hi=xs.length)/\∀p,H p=none->Q (.ref p) (upd H p (.tup (tD xs lo hi)))
theorem O6:vU X (N9 X.K):=by
 intro g s σ H x v f e lo hi sl Q I c d pl pu h;obtain⟨a,xs,rfl,hx,hw,q⟩:=h;cases c;obtain⟨its,r,ht,hz⟩:=I.tuple hx;have hlen:its.toArray.size=xs.length:=by rw[aq];show r.length.symm
 show⟨"tuple",_,PyProof.Rows.slot_tuple_getitem.lookup,ht.typeIs,?_⟩;show HT.jY ht d pl pu (by rw[hlen];show hw) ?_ (by rw[hlen];show hz);rw[hlen];show⟨.ref s.heap.objs.size,_,I.laid (t':=s.toks) (o:=.tup (tD xs lo hi)) (λb ob q=>ag _ q) (ay _) ?_,rfl,q _ (I.dD.fresh (ay _))⟩;show⟨aJ (LZ xs lo hi) hz,_,(r.drop (HT.eR xs.length 0 lo)).take (HT.eR xs.length xs.length hi-HT.eR xs.length 0 lo),IsTup.new _ _⟩
end
noncomputable def qK(n:Nat)(i:Int):Option Nat:=if 0<=i then(if i<n then some i.toNat else none) else if -(n:Int)<=i then some (i+n).toNat else none
noncomputable def fN{a:Type}(xs:List a)(i:Int):Option a:=(qK xs.length i).bind λj=>xs[j]?
theorem J8{n:Nat}{i:Int}{j:Nat}(h:qK n i=some j):seqIndex? i n=some j/\j<n/\-(n:Int)<=i/\i<n:=by
 unfold qK at h;by_cases h0:0<=i
 .rw[if_pos h0] at h;by_cases a:i<n
  .rw[if_pos a] at h;have e:i.toNat=j:=Option.some.inj h;show⟨by rw[seqIndex_of h0 a,e],by ext,by ext,a⟩
  rw[if_neg a] at h;cases h
 rw[if_neg h0] at h;by_cases a:-(n:Int)<=i
 .rw[if_pos a] at h;have e:(i+n).toNat=j:=Option.some.inj h;show⟨by rw[seqIndex_neg (by ext) a,e],by ext,a,by ext⟩
 rw[if_neg a] at h;cases h
theorem wB{a:Type}{xs:List a}{i:Int}{v:a}(h:fN xs i=some v):∃j,seqIndex? i xs.length=some j/\xs[j]?=some v/\j<xs.length/\-(xs.length:Int)<=i/\i<xs.length:=by
 unfold fN at h;cases e:qK xs.length i with
 | none=>rw[e] at h;cases h
 | some j=>
  rw[e] at h;obtain⟨f,d,c,b⟩:=J8 e;show⟨j,f,h,d,c,b⟩
def Co(b:Expr):Prop:=∀o i,subscripted b false o i=operate [o,i] (getItem o i)
def uV(X:Cx)(r:R2):Prop:=
 ∀(value slice:Expr)(a:List (Addr×Obj))(s:Shared)(σ:St)(H:Hp)(x y:V)(v u:Value)(Q:VK),Inv X a σ H s->RelV x v->RelV y u->r x y H Q->
  subscripted slice false v u=operate [v,u] (getItem v u)->wpAny (model X.prog X.w) X.A (subscriptTail value slice v u) (EP X a σ Q) X.xe s
def NI(X:Cx)(b:String)(r:V->List V->Hp->VK->Prop):Prop:=
 ∀(a:List (Addr×Obj))(s:Shared)(σ:St)(H:Hp)(x:V)(xs:List V)(v:Value)(us:List Value)(Q:VK),Inv X a σ H s->RelV x v->Vals xs us->r x xs H Q->
  wpAny (model X.prog X.w) X.A (call (.builtin b) (v::us)) (EP X a σ Q) X.xe s
section
variable{X:Cx}{a b:Expr}{ta tb:TE}{pos:Pos}
theorem uV.or{r c:R2}(h:uV X r)(h':uV X c):uV X (λx y H Q=>r x y H Q\/c x y H Q):=by
 intro value slice e s σ H x y v u Q I b a q d;rcases q with q | q
 .exact h value slice e s σ H x y v u Q I b a q d
 show h' value slice e s σ H x y v u Q I b a q d
theorem D2{r:R2}(f:uV X r)(ha:PE X a ta)(hb:PE X b tb)(e:Co b):PE X (.Subscript a b pos) (Ar r ta tb):=by
 intro g s σ H Q I h;show Subscript_ (DR ha hb I h λv u s2 x y i I2 d c q=>f a b g s2 σ i x y v u Q I2 d c q (e _ _))
def IF(K:J'):R2:=λx y H Q=>∃p xs i v,x=.ref p/\y=.int i/\fT K H p xs/\fN xs i=some v/\Q v H
def IE(K:J'):R2:=λx y H Q=>∃p xs i v,x=.ref p/\y=.int i/\gR K H p xs/\fN xs i=some v/\Q v H
def ID:R2:=λx y H Q=>∃z i c,x=.str z/\y=.int i/\z.length<=sizeLine/\fN z.cps.toList i=some c/\Q (.str ⟨#[c]⟩) H
theorem qd:uV X (IF X.K):=by
 intro value slice e s σ H x y v u Q I k g h c;obtain⟨p,xs,i,z,rfl,rfl,m,he,q⟩:=h;cases k;obtain⟨t,rfl⟩:=g;obtain⟨its,r,pl,hz⟩:=I.list m;obtain⟨j,a,B,C,A,o⟩:=wB he;obtain⟨w,d,l⟩:=r.get B;have n:=r.length;have hn:=ya;have fin:EP X e σ Q w s:=⟨z,H,I,l,q⟩
 by_cases h0:0<=i
 .have b:i.toNat=j:=by
   rw[seqIndex_of h0 o] at a;show Option.some.inj a
  show item_listR pl.isList h0 (by ext) (by rw[b];simpa using d) fin c
 have b:(i+(its.toArray.size:Int)).toNat=j:=by
  rw[seqIndex_neg (by ext) A] at a;rw[aq,<-n];show Option.some.inj a
 show subscriptTail_builtinR (x:=w) pl.isList.typeIs slot_list_getitem.lookup
  (wpAny_getItem_list_neg (Q:=λr f=>r=w/\EP X e σ Q r f) pl.isList (by ext) (by rw[aq]<;>ext) (by ext) (by rw[b];simpa using d) ⟨rfl,fin⟩) c
theorem xg:uV X (IE X.K):=by
 intro value slice a s σ H x y v u Q I d c h f;obtain⟨p,xs,i,z,rfl,rfl,g,he,q⟩:=h;cases d;obtain⟨t,rfl⟩:=c;obtain⟨its,r,pl,hz⟩:=I.tuple g;obtain⟨j,m,l,B,A,o⟩:=wB he;obtain⟨w,n,e⟩:=r.get l;have k:=r.length;have hn:=ya;have fin:EP X a σ Q w s:=⟨z,H,I,e,q⟩
 show subscriptTail_builtinR (x:=w) pl.typeIs slot_tuple_getitem.lookup
  (getItem_tuple (j:=j) (Q:=λr b=>r=w/\EP X a σ Q r b) pl (by ext) (by ext) (by rw[aq,<-k];show m) (by simpa using n) ⟨rfl,fin⟩) f
theorem O5:uV X ID:=by
 intro value slice p s σ H x y v u Q I d b h e;obtain⟨z,i,c,rfl,rfl,hz,he,q⟩:=h;obtain⟨t,rfl⟩:=d;obtain⟨t',rfl⟩:=b;obtain⟨j,a,l,o,k,g⟩:=wB he;have f:z.cps.toList.length=z.length:=by simp[Str.length]
 rw[f] at a k g;have hn:=ya
 show tail_any (typeIs_str s z t) slot_str_getitem.lookup (getItem_str (c:=c) (by
  have n:decide (i < -(2 ^ 63:Int))=false:=decide_eq_false (by ext);have m:decide (i>=2 ^ 63)=false:=decide_eq_false (by ext)
  rw[n,m,Bool.or_false]) (by rw[a];simpa using l) ⟨.str ⟨#[c]⟩,H,I.tok _,⟨_,rfl⟩,q⟩) e
def My(K:J'):R2:=λx y H Q=>IF K x y H Q\/IE K x y H Q\/ID x y H Q
theorem Ju:uV X (My X.K):=qd.or (xg.or O5)
theorem UA(its:List Value)(n j:Nat)(u:Value):Obj.mapSeq (·.setIfInBounds j u) { cls:=.type "list",data:=.seq its.toArray n }={ cls:=.type "list",data:=.seq (its.set j u).toArray n }:=by
 simp[Obj.mapSeq]
theorem Inv.lst{b:List (Addr×Obj)}{a:St}{H:Hp}{s:Shared}{p:Addr}{xs:List V}(I:Inv X b a H s)(h:H p=some (.lst xs)) :
  ∃(its:List Value)(n:Nat),Vals xs its/\s.heap.get? p=some { cls:=.type "list",data:=.seq its.toArray n }/\xs.length<=sizeLine:=by
 obtain⟨z,its,n,r,e⟩:=I.dD p _ h;show⟨its,n,r,e,z⟩
theorem Inv.xb{g:List (Addr×Obj)}{c:St}{H:Hp}{s:Shared}{p:Addr}{xs ys:List V}{its its':List Value}{n a:Nat}{f:Obj->Obj}(I:Inv X g c H s)(h:H p=some (.lst xs))
  (i:s.heap.get? p=some { cls:=.type "list",data:=.seq its.toArray n }) (d:f { cls:=.type "list",data:=.seq its.toArray n }={ cls:=.type "list",data:=.seq its'.toArray a }) (r:Vals ys its') (hz:ys.length<=sizeLine) (t:Nat) :
  Inv X g c (upd H p (.lst ys)) { s with heap:=s.heap.update p f,toks:=t }:=by
 have e:(s.heap.update p f).get? p=some { cls:=.type "list",data:=.seq its'.toArray a }:=by
  rw[Heap.get?_update_self f i (by rw[d]<;>rfl),d]
 show I.write (x:=p) (e:=p) (by rw[h];trivial) (.inl rfl) (λb u hb q=>(aY _ _ (Ne.symm hb)).trans q) ⟨_,e⟩ ?_;show⟨hz,its',a,r,e⟩
def OB:V->V->V->Hp->(Hp->Prop)->Prop:=λo i v H Q=>∃p xs k j,o=.ref p/\i=.int k/\H p=some (.lst xs)/\qK xs.length k=some j/\Q (upd H p (.lst (xs.set j v)))
theorem So:IH X OB:=by
 intro y s σ H o i v ov z u Q I ro w m h;obtain⟨p,xs,k,j,rfl,rfl,e,x,q⟩:=h;cases ro;obtain⟨t,rfl⟩:=w;obtain⟨its,n,r,b,hz⟩:=I.lst e;obtain⟨a,A,g,f⟩:=J8 x;have c:=r.length;have hn:=ya;have l:Inv X y σ (upd H p (.lst (xs.set j v))) { s with heap:=s.heap.update p (Obj.mapSeq (·.setIfInBounds j u)) }:=
  I.xb e b (UA its n j u) (r.set m j) (by rw[List.length_set];show hz) s.toks
 by_cases h0:0<=k
 .have d:k.toNat=j:=by
   rw[seqIndex_of h0 f] at a;show Option.some.inj a
  show PySem.W.ki_setAt b h0 (by ext) (by rw[aq,<-c];show f) (by rw[d];show⟨_,l,q⟩)
 have d:(k+(its.toArray.size:Int)).toNat=j:=by
  rw[seqIndex_neg (by ext) g] at a;rw[aq,<-c];show Option.some.inj a
 show PySem.W.ki_setBack b (by ext) (by rw[aq,<-c];show g) (by ext) (by rw[d];show⟨_,l,q⟩)
theorem U9(lo hi:Option Int)(n:Nat):(sliceBounds lo hi none n).1=((HT.eR n 0 lo:Nat):Int)/\(sliceBounds lo hi none n).2.1=((HT.eR n n hi:Nat):Int)/\(sliceBounds lo hi none n).2.2=1:=by
 show⟨?_,?_,rfl⟩
 .cases lo with
  | none=>simp[sliceBounds,HT.eR]
  | some i=>
   simp only[sliceBounds,HT.eR,Option.getD_none,show(1:Int)>0 by decide,aQ];by_cases h:i<0
   .simp only[h,aQ]<;>ext
   simp only[h,aP]<;>ext
 cases hi with
 | none=>simp[sliceBounds,HT.eR]
 | some i=>
  simp only[sliceBounds,HT.eR,Option.getD_none,show(1:Int)>0 by decide,aQ];by_cases h:i<0
  .simp only[h,aQ]<;>ext
  simp only[h,aP]<;>ext
theorem Vk(its:List Value)(lo hi:Option Int):slicePick its.toArray lo hi none=((its.drop (HT.eR its.length 0 lo)).take (HT.eR its.length its.length hi-HT.eR its.length 0 lo)).toArray:=by
 obtain⟨c,b,a⟩:=U9 lo hi its.toArray.size;unfold slicePick;rw[c,b,a];simp only[sliceRange_one,pick_run,aq]<;>rfl
def N8(K:J'):V->Option Int->Option Int->Hp->VK->Prop:=λx lo hi H Q=>∃a xs,x=.ref a/\fT K H a xs/\∀p,H p=none->Q (.ref p) (upd H p (.lst (tD xs lo hi)))
theorem ux:vU X (N8 X.K):=by
 intro g s σ H x v f e lo hi sl Q I c d pl pu h;obtain⟨a,xs,rfl,hx,q⟩:=h;cases c;obtain⟨its,r,ht,hz⟩:=I.list hx;have hlen:=r.length;show⟨"list",_,slot_list_getitem.lookup,ht.isList.typeIs,?_⟩;show wpAny_getItem_list_slice ht.isList d pl pu .none (by simp) ?_ (by rw[aq]<;>ext);rw[Vk,<-hlen];show⟨.ref s.heap.objs.size,_,I.laid (t':=s.toks) (o:=.lst (tD xs lo hi)) (λb ob q=>ag _ q) (ay _) ?_,rfl,q _ (I.dD.fresh (ay _))⟩;show⟨aJ (LZ xs lo hi) hz,_,0,(r.drop (HT.eR xs.length 0 lo)).take (HT.eR xs.length xs.length hi-HT.eR xs.length 0 lo),ax _ rfl⟩
noncomputable def BU:V->Bool
 | .non=>true
 | .bl _=>true
 | .int _=>true
 | .str _=>true
 | _=>false
noncomputable def HY:V->V->Bool
 | .non,.non=>true
 | .bl a,.bl b=>a==b
 | .bl a,.int b=>(if a then 1 else 0)==b
 | .int a,.bl b=>a==(if b then 1 else 0)
 | .int a,.int b=>a==b
 | .str a,.str b=>a==b
 | _,_=>false
theorem Jt{A:Around}{s:Shared}{y x:V}{u v:Value}(d:RelV y u)(c:RelV x v)(f:BU y=true)(e:BU x=true):SeqAt.EqAt A s u v (HY y x):=by
 cases y with
 | non=>
  cases d;cases x with
  | non=>cases c;show SeqAt.EqAt.same _
  | bl b=>cases c;show SeqAt.EqAt.none_bool b
  | int b=>obtain⟨t,rfl⟩:=c;show SeqAt.EqAt.none_int b t
  | str b=>obtain⟨t,rfl⟩:=c;show SeqAt.EqAt.none_str b t
  | _=>show absurd (show false=true from e) aD
 | bl a=>
  cases d;cases x with
  | non=>cases c;show SeqAt.EqAt.bool_none a
  | bl b=>cases c;show SeqAt.EqAt.bool_bool a b
  | int b=>obtain⟨t,rfl⟩:=c;show SeqAt.EqAt.bool_int a b t
  | str b=>obtain⟨t,rfl⟩:=c;show SeqAt.EqAt.bool_str a b t
  | _=>show absurd (show false=true from e) aD
 | int a=>
  obtain⟨t',rfl⟩:=d;cases x with
  | non=>cases c;show SeqAt.EqAt.int_none a t'
  | bl b=>cases c;show SeqAt.EqAt.int_bool a t' b
  | int b=>obtain⟨t,rfl⟩:=c;show SeqAt.EqAt.int_int a t' b t
  | str b=>obtain⟨t,rfl⟩:=c;show SeqAt.EqAt.int_str a t' b t
  | _=>show absurd (show false=true from e) aD
 | str a=>
  obtain⟨t',rfl⟩:=d;cases x with
  | non=>cases c;show SeqAt.EqAt.str_none a t'
  | bl b=>cases c;show SeqAt.EqAt.str_bool a t' b
  | int b=>obtain⟨t,rfl⟩:=c;show SeqAt.EqAt.str_int a t' b t
  | str b=>obtain⟨t,rfl⟩:=c;show SeqAt.EqAt.str_str a t' b t
  | _=>show absurd (show false=true from e) aD
 | _=>show absurd (show false=true from f) aD
theorem m6:i6 X (compareOp .NotIn) (λx y H Q=>∃i j,x=.str i/\y=.str j/\Q (.bl (!(!(Builtin.Str.occurrences j i 0 j.length 1).isEmpty))) H):=by
 intro c s σ H x y v u Q I b a h;obtain⟨i,j,rfl,rfl,q⟩:=h;obtain⟨t,rfl⟩:=b;obtain⟨t',rfl⟩:=a;show notIn_str ⟨.bl _,H,I,rfl,q⟩
theorem j5:dZ X (.builtin "len") (λxs H Q=>∃p ys,xs=[.ref p]/\(fT X.K H p ys\/gR X.K H p ys)/\Q (.int ys.length) H):=by
 intro d s σ H xs us Q I r h;obtain⟨p,ys,rfl,a,q⟩:=h;obtain⟨u,rfl,c⟩:=l7 r;cases c;have hn:=ya;rcases a with a | a
 .obtain⟨its,b,pl,hz⟩:=I.list a;have hlen:=b.length;show Calls.call_len_list pl.isList (by simp only[aq]<;>ext) ⟨.int ys.length,H,I.tok _,⟨s.toks+1,by rw[aq,hlen]⟩,q⟩
 obtain⟨its,b,pl,hz⟩:=I.tuple a;have hlen:=b.length;show len_tuple pl (by simp only[aq]<;>ext) ⟨.int ys.length,H,I.tok _,⟨s.toks+1,by rw[aq,hlen]⟩,q⟩
theorem U8:dZ X (.builtin "len") (λxs H Q=>∃z,xs=[.str z]/\z.length<=sizeLine/\Q (.int z.length) H):=by
 intro a s σ H xs us Q I r h;obtain⟨z,rfl,hz,q⟩:=h;obtain⟨u,rfl,t,rfl⟩:=l7 r;have hn:=ya;show len_str (by ext) ⟨.int z.length,H,I.tok _,⟨_,rfl⟩,q⟩
theorem dZ.or{f:Value}{r a:List V->Hp->VK->Prop}(h:dZ X f r)(h':dZ X f a):dZ X f (λxs H Q=>r xs H Q\/a xs H Q):=by
 intro b s σ H xs us Q I rs q;rcases q with q | q
 .exact h b s σ H xs us Q I rs q
 show h' b s σ H xs us Q I rs q
theorem U7:dZ X (.type "list") (λxs H Q=>∃p ys,xs=[.ref p]/\(fT X.K H p ys\/gR X.K H p ys)/\∀l,H l=none->Q (.ref l) (upd H l (.lst ys))):=by
 intro k s σ H xs us Q I r h;obtain⟨p,ys,rfl,d,q⟩:=h;obtain⟨u,rfl,j⟩:=l7 r;cases j;have fin:∀(its:List Value),Vals ys its->ys.length<=sizeLine->∀(h':Heap)(c:Nat),(∀b i,s.heap.get? b=some i->h'.get? b=some i)->
   h'.get? s.heap.objs.size=some { cls:=.type "list",dict:=none,data:=.seq its.toArray c,slots:=#[] }->EP X k σ Q (.ref s.heap.objs.size) { s with heap:=h' }:=λits a hz h' c kp e=>
  ⟨.ref s.heap.objs.size,_,I.laid (t':=s.toks) kp (ay _) (show eV X.prog X.w _ h' _ (.lst ys) from⟨hz,its,c,a,e⟩),rfl,q _ (I.dD.fresh (ay _))⟩
 rcases d with d | d
 .obtain⟨its,a,pl,hz⟩:=I.list d;have hlen:=a.length;obtain⟨o,f,g,n,hd⟩:=pl.isList;show call_list_seq p (.inl rfl) f g hd (λh' c kp e=>fin its a hz h' c kp e) (by simp only[aq]<;>ext)
 obtain⟨its,a,pl,hz⟩:=I.tuple d;have hlen:=a.length;obtain⟨o,f,g,n,hd⟩:=pl;show call_list_seq p (.inr rfl) f g hd (λh' c kp e=>fin its a hz h' c kp e) (by simp only[aq]<;>ext)
def F9(K:J')(T:String)(x:V)(H:Hp):Prop:=match x with
 | .str _=>T="str"
 | .int _=>T="int"
 | .ref p=>(T="list"/\∃xs,fT K H p xs)\/(T="tuple"/\∃o,K.lookup p=some o/\o.cls=.type "tuple"/\o.dict=none)\/
   (T="dict"/\((∃a ep,H p=some (.dK a ep))\/∃a bs,H p=some (.dT a bs)))\/(T="set"/\∃S n,H p=some (.set S n))
 | _=>False
theorem O4{k:List (Addr×Obj)}{f:St}{H:Hp}{s:Shared}{T:String}{x:V}{v:Value}(I:Inv X k f H s)(r:RelV x v)(ty:F9 X.K T x H) :
  s.TypeIs v T/\∀a,v=.ref a->∃ob,s.heap.get? a=some ob/\ob.dict=none:=by
 cases x with
 | str z=>
  obtain⟨t,rfl⟩:=r;cases (show T="str" from ty);show⟨typeIs_str s z t,λ_ e=>nomatch e⟩
 | int i=>
  obtain⟨t,rfl⟩:=r;cases (show T="int" from ty);show⟨typeIs_int s i t,λ_ e=>nomatch e⟩
 | ref p=>
  cases r;rcases ty with⟨rfl,xs,g⟩ | ⟨rfl,o,b,h,hd⟩ | ⟨rfl,b⟩ | ⟨rfl,S,n,b⟩
  .obtain⟨its,_,pl,_⟩:=I.list g;show⟨pl.isList.typeIs,λa e=>?_⟩;cases e;obtain⟨o,n,e,c,hd,_⟩:=pl;show⟨o,e,hd⟩
  .refine⟨⟨o,I.mf p o b,h⟩,λa e=>?_⟩;cases e;show⟨o,I.mf _ o b,hd⟩
  .have z:∃o,s.heap.get? p=some o/\o.ExactDict:=by
    rcases b with⟨j,ep,b⟩ | ⟨j,bs,b⟩
    .obtain⟨_,_,_,_,o,_,e,ex,_⟩:=I.dD p _ b;show⟨o,e,ex⟩
    obtain⟨_,_,_,_,_,o,_,_,e,ex,_⟩:=I.dD p _ b;show⟨o,e,ex⟩
   obtain⟨o,e,ex⟩:=z;show⟨⟨o,e,ex.1⟩,λa d=>?_⟩;cases d;show⟨o,e,ex.2.1⟩
  obtain⟨o,_,_,_,e,ex,_⟩:=I.dD p _ b;show⟨⟨o,e,ex.1⟩,λa d=>?_⟩;cases d;show⟨o,e,ex.2.1⟩
 | _=>show False.elim ty
def As(K:J')(T:String)(r:V->List V->Hp->VK->Prop)(a:TE)(t:TA):TE:=λσ H Q=>a σ H λx H1=>F9 K T x H1/\t σ H1 λxs b=>r x xs b Q
variable{o e:Expr}{es:List Expr}{to:TE}{t:TA}{name:Str}{apos gq:Pos}{T id:String}{r:V->List V->Hp->VK->Prop}
theorem y7(m:PlainAttrs T)(slot:Slot T name id)(A:typeOf (.builtin id)=pure (.type "method_descriptor"))(hm:NI X id r)(u:PE X o to)(ha:PA X (e::es) t)
  (p:attributeBase o name X.env (eval o X.env)=eval o X.env:=by rfl)
  (f:((backTo gq (starEach (e::es) X.env)).all (λx=>!x.1)&&(backToKw gq (keywordEach [] X.env)).all (λx=>x.1.isSome)
   && decide ((e::es).length+([]:List Keyword).length+(if ([]:List Keyword).isEmpty then 0 else 1)<30))=true:=by rfl)
  (i:(apos.endLine==gq.line)=true:=by rfl) (q:starEach (e::es) X.env=(false,eval e X.env)::starEach es X.env:=by rfl) (n:(backTo gq (starEach es X.env)).any (·.1)=false:=by rfl) :
  PE X (.Call (.Attribute o name apos) (e::es) [] gq) (As X.K T r to t):=by
 intro b s σ H Q I h;show wpAny_Call_method_late p f i rfl (ez (u b s σ H _ I h) λv s1 a=>?_);obtain⟨x,H1,I1,c,ty,l⟩:=a;obtain⟨y,w⟩:=O4 I1 c ty;show⟨T,id,m,slot,A,y,w,?_⟩;have d:=ha gq b s1 σ H1 _ I1 l;rw[q] at d ⊢;show Calls.callWith_builtin (by show(false||(backTo gq (starEach es X.env)).any (·.1))=false;rw[n]<;>rfl) (Calls.evalArgs_plain ?_);show ez d λus s2 a=>by obtain⟨g,z,I2,j,k⟩:=a;show hm b s2 σ z x g v us Q I2 c j k
end
def Ih(X:Cx)(b:String)(r:V->List V->Hp->VK->Prop):Prop:=
 ∀(a:List (Addr×Obj))(s:Shared)(σ:St)(H:Hp)(x:V)(xs:List V)(v:Value)(us:List Value)(Q:VK),Inv X a σ H s->RelV x v->Vals xs us->r x xs H Q->
  wpAny (model X.prog X.w) X.A (call (.builtin b) (v::us)) (EP X a σ Q) X.xe s
theorem Vals.one{x:V}{a:List Value}(h:Vals [x] a):∃u,a=[u]/\RelV x u:=by
 cases h with
 | cons r t=>cases t;show⟨_,rfl,r⟩
theorem Vals.eraseIdx:∀{xs:List V}{us:List Value}(i:Nat),Vals xs us->Vals (xs.eraseIdx i) (us.eraseIdx i)
 | _,_,_,.nil=>.nil
 | _,_,0,.cons _ t=>t
 | _,_,i+1,.cons r t=>.cons r (Vals.eraseIdx i t)
theorem Lx{a:Type}:∀(l:List a)(i:Nat),(l.eraseIdx i).length<=l.length
 | [],_=>ay _
 | _::_,0=>b8 _
 | _::r,i+1=>Nat.succ_le_succ (Lx r i)
section
variable{X:Cx}{K':List (Addr×Obj)}{σ:St}{H:Hp}{s:Shared}{l b:Addr}{xs ys zs:List V}
theorem Inv.xc{its its':List Value}{n:Nat}{f:Array Value->Array Value}{t':Nat}(I:Inv X K' σ H s)(d:H l=some (.lst xs))
  (e:s.heap.get? l=some { cls:=.type "list",data:=.seq its.toArray n }) (c:f its.toArray=its'.toArray) (a:Vals ys its') (hz:ys.length<=sizeLine) :
  Inv X K' σ (upd H l (.lst ys)) { s with heap:=s.heap.update l (Obj.mapSeq f),toks:=t' }:=by
 have q:=PySem.IsL.update e f;rw[c] at q;show I.write (x:=l) (e:=l) (by rw[d];show trivial) (.inl rfl) (λg u hb b=>(aY s.heap (Obj.mapSeq f) (Ne.symm hb)).trans b) ⟨_,q⟩ ?_;show⟨hz,its',_,a,q⟩
theorem Inv.AN{its:List Value}{t':Nat}(I:Inv X K' σ H s)(a:Vals ys its)(hz:ys.length<=sizeLine) :
  Inv X K' σ (upd H s.heap.objs.size (.lst ys)) { s with heap:=s.heap.push { cls:=.type "list",data:=.seq its.toArray },toks:=t' }:=
 I.laid (λ_ _ q=>ag _ q) (ay _) ⟨hz,its,0,a,ax _ rfl⟩
theorem Inv.fresh(I:Inv X K' σ H s):H s.heap.objs.size=none:=I.dD.fresh (ay _)
theorem Inv.uA(I:Inv X K' σ H s)(a:H l=some (.lst xs)):xs.length<=sizeLine/\∃(its:List Value)(n:Nat),Vals xs its/\xs.length=its.length/\s.heap.get? l=some { cls:=.type "list",data:=.seq its.toArray n }:=by
 obtain⟨z,its,n,r,e⟩:=I.dD l _ a;show⟨z,its,n,r,r.length,e⟩
theorem Sn{n:Nat}(h:n<=sizeLine):Builtin.List.listTooLong n=false:=by
 unfold Builtin.List.listTooLong;show decide_eq_false (by ext)
end
section
variable{X:Cx}
def EB:V->List V->Hp->VK->Prop:=λx a H Q=>∃l xs y,x=.ref l/\a=[y]/\H l=some (.lst xs)/\xs.length<sizeLine/\Q .non (upd H l (.lst (xs++[y])))
theorem Fe:Ih X "list.append" EB:=by
 intro i s σ H x f v us Q I b c h;obtain⟨l,xs,y,rfl,rfl,a,hz,q⟩:=h;cases b;obtain⟨u,rfl,d⟩:=c.one;obtain⟨z,its,n,r,g,e⟩:=I.uA a;show call_meets F.slot_list_append ⟨_,e,rfl⟩ F.entry_list_append (F.args_list_append_2 _ _) (PySem.list_append l its.toArray n u (by rw[aq];ext)) ⟨e,?_⟩;show⟨.non,_,I.xc (its':=its++[u]) a e (by simp) (r.append (.cons d .nil)) ?_,rfl,q⟩;rw[ar,List.length_singleton];ext
def Kg:V->List V->Hp->VK->Prop:=λx a H Q=>∃l b xs zs,x=.ref l/\a=[.ref b]/\H l=some (.lst xs)/\H b=some (.lst zs)/\xs.length+zs.length<=sizeLine/\Q .non (upd H l (.lst (xs++zs)))
theorem Ul:Ih X "list.extend" Kg:=by
 intro y s σ H x t v us Q I d f h;obtain⟨l,b,xs,zs,rfl,rfl,c,j,hz,q⟩:=h;cases d;obtain⟨u,rfl,g⟩:=f.one;cases g;obtain⟨z,its,n,r,w,e⟩:=I.uA c;obtain⟨p,a,n2,i,A,m⟩:=I.uA j;have k:its.toArray.size+a.toArray.size<=sizeLine:=by rw[aq,aq];ext
 have o:¬(!its.toArray.isEmpty&&Builtin.List.listTooLong (its.toArray.size+a.toArray.size))=true:=by
  rw[Sn k,Bool.and_false];show aD
 show call_meets F.slot_list_extend ⟨_,e,rfl⟩ F.entry_list_extend (F.args_list_extend_2 _ _)
  (AutoSeq1.list_extend_list_list_0 l its.toArray n b a.toArray n2 o (by rw[aq];ext) (by ext)) ⟨e,m,?_⟩
 show⟨.non,_,I.xc (its':=its++a) c e (by simp) (r.append i) ?_,rfl,q⟩;rw[ar];ext
end
section
variable{prog:Program}{w:World}{A:Around}{E:Value->Shared->Prop}{s:Shared}
end
end L2
namespace NM
open PySem PySem.W PySem.Calls PyProof.Rows
theorem Wr{P:Params}{h:Heap}:∀(ns:List Int)(c:List Value),WellAll P h c (ns.map WData.int)->IntsAre c ns:=by
 intro ns;induction ns with
 | nil=>
  intro c w;rw[List.map_nil] at w;cases w;show .nil
 | cons n ns d=>
  intro c w;rw[az] at w;cases w with
  | cons a b=>
   cases a;show .cons _ _ (d _ b)
theorem Uk{l:OpenLaw}{n:Nat}(hn:l.most=some n){P:Params}{h:Heap}{args:List WData}{b:List Value}
  (g:l.row.toRowW.claim.pre args=true) (j:WellAll P h b args) :
  ∃a f ns,b=[Value.ref a]/\args=[WData.list (ns.map WData.int)]/\h.get? a=some { cls:=.type "list",data:=.seq f.toArray }/\IntsAre f ns/\ns.length<=n:=by
 have t:WShape.hasAll [] args [.list .int]=true:=(pre_splitW g).1;have i:l.pre.holds [] { args:=args }=true:=(pre_splitW g).2;obtain⟨d,r,rfl,s,p⟩:=hasAllW_cons t;obtain rfl:=hasAllW_nil p;obtain⟨xs,rfl,o⟩:=hasW_list s;obtain⟨ns,rfl⟩:=items_int o;have hlen:ns.length<=n:=by
  unfold OpenLaw.pre at i;have e:(WTm.not (.lt (.lit (.int (n:Int))) (.len (.arg 0)))).holds [] { args:=[.list (ns.map .int)] }=true:=by
   have e:=(holds_andW i).1;rw[hn] at e;show e
  have c:=condW_of e (w_not (w_lt w_lit (w_len_list (w_arg rfl))));rw[ae] at c;show Nat.le_of_not_lt λq=>?_
  have k:(n:Int)<((ns.length:Nat):Int):=by ext
  first
   | (rw[decide_eq_true k] at c;show absurd c (by decide))
   | (simp at c;ext)
 cases j with
 | cons w1 w2=>
  cases w2;cases w1 with
  | list m u=>show⟨_,_,ns,rfl,rfl,m,Wr ns _ u,hlen⟩
theorem Uj(l:OpenLaw)(args:List WData):l.row.toRowW.claim.post args (.bool true) args=true:=
 postW_of (r:=l.row.toRowW) (X:=(true==true))
  (show WShape.has [] (.bool true) .bool=true by first | rfl | decide | simp[WShape.has,WShape.arms,WShape.armsAll])
  (show(WTm.eq .res (.lit (.bool true))).value [] { args:=args,res:=some (.bool true),after:=args }=some (.bool (true==true)) from w_eq_bool (w_res rfl) w_lit) rfl
theorem oJ{l:OpenLaw}{n:Nat}{q:Program}{b:List Str}{k:(Str->Option Value)->Heap->Prop}{j:World->Heap->Prop}{d:DefRec}
  (hn:l.most=some n) (B:d.params.defaults=[])
  (call:∀(w:World)(eK c:Shared)(mg h:Str->Option Value)(fa:Addr)(o:Obj)(pm cd doc:Value)(a:Addr)(e:List Value)(ns:List Int),
   Ground q b [] k w eK mg h c.heap->j w c.heap->
   c.heap.get? fa=some o->o.data=.func (docDef d.name d.params d.body d.scope pm cd doc)->c.heap.CodeRec cd d.name->mg d.name=some (.ref fa)->
   c.heap.get? a=some { cls:=.type "list",data:=.seq e.toArray }->IntsAre e ns->ns.length<=n->c.gens=#[]->
   codeAny (model l.prog w) callerA (.call (.ref fa) ⟨[.ref a],[]⟩) (λr g=>r=.ok (.ret (.bool true))/\OldK c.heap g.heap/\g.os=c.os/\AllBare g.gens) c) :
  WalkO q b k j l.row.toRowW d [] (λf e=>PySem.call f e):=by
 intro w eK c mg h G Y fa o pm cd doc A kV v hd t i sN hg args vals as s D C m E;obtain rfl:A=.none:=Dflts.none i B;obtain rfl:kV=.none:=Dflts.noKw i;obtain⟨a,e,ns,rfl,rfl,p,hints,hlen⟩:=Uk hn s m;show enter_call (codeAny_mono (call w eK c mg h fa o pm cd doc a e ns G Y v (fd_plain hd) t sN p hints hlen hg) λr g u=>?_);obtain⟨rfl,z,y,x⟩:=u;show⟨.inl ⟨.bool true,.bool true,[],rfl,λ_=>rfl,.bool true,Uj l _,λ_=>⟨List.Pairwise.nil,λ_ hm=>(nomatch hm)⟩⟩,z,y,x⟩
end NM
namespace L2
open PySem PySem.Spec PyProof.Rows
theorem Fd:∀{a:List Value}{ns:List Int},IntsAre a ns->Vals (ns.map V.int) a
 | _,_,.nil=>.nil
 | _,_,.cons n t h=>.cons ⟨t,rfl⟩ (Fd h)
def IC(H:Hp):Prop:=∀b,H b=none\/∃o xs,H b=some (.lJ o (.lst xs))
theorem Sm{P:Program}{w:World}{K:J'}{mg l:Str->Option Value}{N:tw}{k:Nat}{fa a:Addr}{J:FuncData}{x:Str}{y:Sp}{c:Shared}{g:List Value}{ns:List Int}
  (KX:K.In c.heap) (D:c.heap.Ns mainGlobals mg) (hb:c.heap.Ns builtinsNs l) (YJ:∀x:Str,x≠"__name__"->l x=bootBuiltins x) (Hr:c.heap.NoLimit) (hg:c.gens=#[])
  (ha:c.heap.get? a=some { cls:=.type "list",data:=.seq g.toArray }) (hi:IntsAre g ns) (E:ns.length<=sizeLine) (W:eC k callerA)
  (F:∀base:Heap,K.In base->base.Ns mainGlobals mg->iu P w K mg base N k fa J [x] y) (Bi:∀(s:Shared)(u:Value),BindsTo s J ⟨[u],[]⟩ [(x,u)])
  (Q:∀H:Hp,IC H->fT K H a (ns.map V.int)->y [.ref a] H (λv _=>v=.bl true) λ_ _ _=>False)
  (YU:∀H e f,N [] H c (λ_ _ _=>False) e f->False) :
  codeAny (model P w) callerA (.call (.ref fa) ⟨[.ref a],[]⟩) (λr f=>r=.ok (.ret (.bool true))/\OldK c.heap f.heap/\f.os=c.os/\AllBare f.gens) c:=by
 have A:=Fd hi;have GK:=hi.length
 -- from an abstract heap in Ml nothing but B R may be tracked
 have core:∀H:Hp,IC H->fT K H a (ns.map V.int)->kh P w H c.heap->(∀b,H b≠none->b=a)->(H a≠none->K.lookup a=none)->
   codeAny (model P w) callerA (.call (.ref fa) ⟨[.ref a],[]⟩) (λr f=>r=.ok (.ret (.bool true))/\OldK c.heap f.heap/\f.os=c.os/\AllBare f.gens) c:=by
  intro H G X dD I Z;have C:∀{b:Addr}{o:Obj},c.heap.get? b=some o->H b=none->(ue c.heap H).get? b=some o:=λe n=>SA e n
  have AH:∀{b:Addr}{o:Obj}{es:Array DictEntry}{ep:Nat},c.heap.get? b=some o->o.data=.dict es ep->H b=none:=λ{b o es ep} e d=>by
   cases q:H b with
   | none=>rfl
   | some u=>
    have t:b=a:=I b (by rw[q];simp);subst t;rw[ha] at e;cases e;have d':Data.seq g.toArray _=Data.dict es ep:=d;cases d'
  have j:∀{b:Addr}{m:Str->Option Value},c.heap.Ns b m->(ue c.heap H).Ns b m:=λ{b m} ⟨o,es,ep,e,d,r⟩=>⟨o,es,ep,C e (AH e d),d,r⟩
  have M:K.In (ue c.heap H):=λb o e=>C (KX b o e) (by
   cases q:H b with
   | none=>rfl
   | some u=>
    have t:b=a:=I b (by rw[q];simp);subst t
    rw[Z (by rw[q];simp)] at e;cases e)
  have Y:Mod K mg (ue c.heap H):=⟨M,j D,⟨l,j hb,YJ⟩,let⟨U,h1,h2⟩:=Hr;⟨U,j h1,h2⟩⟩
  have e0:pO P w K mg (ue c.heap H) callerA [] c H:=⟨rfl,Y,λb o e=>QI e,Nat.le_of_eq (Ue _ _),trivial,λb hb=>absurd (show b∈([]:List Addr) from hb) (by simp),dD,.of_eq hg⟩
  show codeAny_mono ((F _ M (j D)).run callerA [] c H ⟨[.ref a],[]⟩ [.ref a] [.ref a] _ _ W e0 (Bi c (.ref a)) (.cons rfl .nil) (Q H G X)) λr f h=>?_
  cases r with
  | error e=>show(YU H e f h).elim
  | ok fl=>
   cases fl with
   | next=>show False.elim h
   | brk=>show False.elim h
   | cont=>show False.elim h
   | ret u=>
    obtain⟨v,H',os,bare,un,Hj,S,q⟩:=h;have T:v=.bl true:=q;subst T;obtain rfl:u=Value.bool true:=S;show⟨rfl,OldK.of_keep λb o e=>?_,os,bare⟩;cases q:H b with
    | none=>show un.keep b o e q (by intro z;show absurd (show b∈([]:List Addr) from z) (by simp)) (by simp)
    | some u=>
     rcases G b with z | ⟨ob,xs,z⟩
     .rw[q] at z;cases z
     have O:=un.kz b ob _ z;obtain⟨L,_⟩:=dD b _ z;obtain⟨e2,_⟩:=Hj b _ O;rw[e] at L;cases L;show e2
 cases p:K.lookup a with
 | some o=>
  -- B R is one of B AJ own objects
  have e:=KX a o p;rw[ha] at e;cases e;show core (λ_=>none) (λ_=>.inl rfl) (.inr ⟨_,g.toArray,_,p,rfl,rfl,rfl,by rw[aq,GK];show E,by simpa using A⟩) (λb u z=>by have i:(none:Option HO)=some u:=z;cases i) (λb z=>absurd rfl z) λz=>absurd rfl z
 | none=>
  show core (λb=>if b=a then some (.lJ { cls:=.type "list",data:=.seq g.toArray } (.lst (ns.map V.int))) else none) (λb=>?_) (.inl (.inr ⟨{ cls:=.type "list",data:=.seq g.toArray },if_pos rfl⟩)) (λb u z=>?_) (λb z=>?_) λ_=>p
  .by_cases hb:b=a
   .exact .inr ⟨_,_,if_pos hb⟩
   show .inl (if_neg hb)
  .by_cases hb:b=a
   .have i:=(if_pos hb).symm.trans z;cases i;subst hb;show⟨ha,by rw[ae];show E,g,_,A,ha⟩
   have i:=(if_neg hb).symm.trans z;cases i
  by_cases hb:b=a
  .exact hb
  show absurd (if_neg hb) z
noncomputable abbrev jE{K:J'}{h:Heap}(_:K.In h):J':=K
def Kf(s:Stmt)(j:Nat):Stmt:=match s with
 | .ClassDef _ _ _ body _ _ _ _ _ _ _=>body.getD j (.Pass ⟨0,0,0,0⟩)
 | _=>.Pass ⟨0,0,0,0⟩
noncomputable def e8(s:Stmt):Arguments:=match s with
 | .FunctionDef _ a _ _ _ _ _ _ _ _=>a
 | _=>{ posonlyargs:=[],args:=[],vararg:=none,kwonlyargs:=[],kw_defaults:=[],kwarg:=none,defaults:=[] }
noncomputable def c7(s:Stmt):List Stmt:=match s with
 | .FunctionDef _ _ b _ _ _ _ _ _ _=>b
 | _=>[]
noncomputable def cw(s:Stmt):Scope:=match s with
 | .FunctionDef _ _ _ _ _ _ sc _ _ _=>sc
 | _=>{ kind:=.function,names:=[],isGenerator:=false,isCoroutine:=false }
abbrev nX:tw:=λ_ _ _ _ _ _=>False
abbrev E0:XK:=λ_ _ _=>False
theorem IP{X:Cx}:wu nX X E0:=λ_ _ _ _ _ _ _ h=>h.elim
structure nr(dV:Value)(K:J')(x qual:Str)(st:Stmt)(f:Addr)(fd:FuncData):Prop where
 ex:∃(oc:Value)(od:Option Addr)(kV doc pm:Value)(an:Option Addr)(cV ct:Value)(nR:Array (Option Value)),
  fd=PySem.W.fnOf x qual (e8 st) (c7 st) (cw st) dV kV doc pm an cV ct/\K.lookup f=some ⟨oc,od,.func fd,nR⟩/\PySem.W.codeIn K cV qual=true
 kp:PySem.W.keepIn K (.ref f)=true
noncomputable abbrev DJ:=nr .none
section
variable{P:Program}{w:World}{K:J'}{mg:Str->Option Value}{base:Heap}
theorem nr.ok{m:Value}{x a:Str}{st:Stmt}{f:Addr}{e:FuncData}{N ps:List Str}{k:Nat}{d:Sp}(F:nr m K x a st f e)(S:cB N ps (cw st))(len:∀b H Q E,d b H Q E->b.length=ps.length)
  (i:∀(c:Value)(A:Around)(outer:List Env)(s:Shared)(H:Hp)(b:List V)(Q:VK)(E:XK),eC k (A.deeper (envOfC a (cw st) s.heap.objs.size f c))->d b H Q E->
   ∃t,nW (nY nX P w K mg base N a (cw st) f c A outer s H E).tX (c7 st) t/\t { nx:=λ_ n=>Q .non n,rt:=Q } (mn N b) H):iu P w K mg base nX (k+1) f e ps d:=by
 obtain⟨o,od,kV,doc,pm,an,c,ct,p,rfl,lk,j⟩:=F.ex;show D3 lk j S len λA outer s H b Q E l g=>?_
 obtain⟨t,h,q⟩:=i c A outer s H b Q E l g;show⟨t,h.tX,q⟩
theorem nr.binds{x a:Str}{st:Stmt}{f:Addr}{c:FuncData}{ps:List Str}(F:DJ K x a st f c)
  (h:∀(kV doc pm:Value)(an:Option Addr)(b ct:Value)(us:List Value),us.length=ps.length->bindArgs (PySem.W.fnOf x a (e8 st) (c7 st) (cw st) .none kV doc pm an b ct) ⟨us,[]⟩=pure (ps.zip us)):Binds K c ps []:=by
 obtain⟨d,od,kV,doc,pm,an,b,ct,e,rfl,lk,g⟩:=F.ex;show .all (h kV doc pm an b ct)
theorem Ei{x a:Str}{st:Stmt}{f:Addr}{h:Value}{od g:Option Addr}{i:Array (Option Value)}{e kV b pm d ct:Value}(l:K.lookup f=some ⟨h,od,.func (PySem.W.fnOf x a (e8 st) (c7 st) (cw st) e kV b pm g d ct),i⟩)
  (c:PySem.W.codeIn K d a=true) (k:PySem.W.keepIn K (.ref f)=true):nr e K x a st f (PySem.W.fnOf x a (e8 st) (c7 st) (cw st) e kV b pm g d ct):=⟨⟨h,od,kV,b,pm,g,d,ct,i,rfl,l,c⟩,k⟩
end
section
variable{X:Cx}
theorem pv(i:Nat){x:Str}{pos:Pos}(c:X.N[i]?=some x:=by rfl)(b:oM X.env.scope x:=by first | show Or.inl rfl | show Or.inr (Or.inl rfl) | show Or.inr (Or.inr rfl))(hd:(x==("__debug__":Str))=false:=by decide)
  (a:(x==("__classdict__":Str))=false:=by decide):PE X (.Name x pos) (DL i):=rB c b hd a
end
def cJ(H a:Hp):Prop:=∀b o,H b=some o->a b=some o
theorem cJ.refl(H:Hp):cJ H H:=λ_ _ h=>h
theorem cJ.trans{H e d:Hp}(a:cJ H e)(b:cJ e d):cJ H d:=λc o h=>b c o (a c o h)
theorem cJ.free{H a:Hp}(e:cJ H a){l:Addr}(h:a l=Option.none):H l=Option.none:=by
 cases q:H l with
 | none=>rfl
 | some o=>
  rw[e l o q] at h;cases h
end L2
set_option maxHeartbeats 0
namespace L2
open PySem PySem.Spec PyProof.Rows
def lM(K:J')(H:Hp)(a:Addr)(xs:List V):Prop:=
 Rd H a (.lst xs)\/∃(its:Array Value)(n:Nat),K.lookup a=some { cls:=.type "list",data:=.seq its n }/\its.size<=sizeLine/\Vals xs its.toList
theorem lM.of{K:J'}{H:Hp}{a:Addr}{xs:List V}(h:H a=some (.lst xs)):lM K H a xs:=.inl (.inl h)
theorem lM.sq{K:J'}{H:Hp}{a:Addr}{xs:List V}(h:lM K H a xs):fT K H a xs:=by
 rcases h with h | ⟨its,n,d,c,b⟩
 .exact .inl h
 show .inr ⟨_,its,n,d,rfl,rfl,rfl,c,b⟩
theorem cJ.gI{K:J'}{H b:Hp}{a:Addr}{xs:List V}(e:cJ H b)(h:lM K H a xs):lM K b a xs:=by
 rcases h with(h | ⟨o,h⟩) | h
 .exact .inl (.inl (e _ _ h))
 .exact .inl (.inr ⟨o,e _ _ h⟩)
 show .inr h
theorem Inv.gI{X:Cx}{g:List (Addr×Obj)}{c:St}{H:Hp}{s:Shared}{a:Addr}{xs:List V}(I:Inv X g c H s)(h:lM X.K H a xs):xs.length<=sizeLine/\∃(its:List Value)(n:Nat),Vals xs its/\s.heap.get? a=some { cls:=.type "list",data:=.seq its.toArray n }:=by
 rcases h with h | ⟨its,n,f,d,b⟩
 .obtain⟨z,its,n,r,e⟩:=h.ok I.dD;show⟨z,its,n,r,e⟩
 show⟨by rw[b.length];simpa using d,its.toList,n,b,?_⟩;rw[Array.toArray_toList];show I.mf a _ f
noncomputable def ml(cells:List (Str×Addr)):List (Str×NameKind)->List (Str×Addr)->List (Str×Addr)
 | [],acc=>acc
 | (n,k)::r,acc=>ml cells r (if k==.free then(n,(cells.lookup n).getD 0)::acc else acc)
theorem LS{env:Env}:∀(names:List (Str×NameKind))(acc:List (Str×Addr)),(∀x∈names,x.2=.free->∃c,env.cells.lookup x.1=some c)->
  (forIn names acc λ(x:Str×NameKind)(r:List (Str×Addr))=>
   (if (x.2==NameKind.free)=true then do let a <-cellOf env x.1;pure (ForInStep.yield ((x.1,a)::r)) else pure (ForInStep.yield r):Sem (ForInStep (List (Str×Addr)))))=pure (ml env.cells names acc)
 | [],acc,_=>by simp[ml]
 | (n,k)::r,acc,h=>by
  have d:=λg=>LS (env:=env) r g λx hx=>h x (aE _ hx)
  rw[List.forIn_cons];by_cases e:k=.free
  .subst e;obtain⟨c,f⟩:=h (n,.free) (by simp) rfl;have i:cellOf env n=pure c:=by unfold cellOf;rw[f]
   simp only[beq_self_eq_true,aQ,i,pure_bind];rw[d];simp[ml,f]
  have b:(k==NameKind.free)=false:=by simpa using e
  simp only[b,aj,aP,pure_bind];rw[d];simp[ml,b]
theorem LR{env:Env}{scope:Scope}(h:∀x∈scope.names,x.2=.free->∃c,env.cells.lookup x.1=some c):closureFor scope env=pure (ml env.cells scope.names []):=by
 have e:closureFor scope env=(forIn scope.names ([]:List (Str×Addr)) λ(x:Str×NameKind)(r:List (Str×Addr))=>
   (if (x.2==NameKind.free)=true then do let a <-cellOf env x.1;pure (ForInStep.yield ((x.1,a)::r)) else pure (ForInStep.yield r):Sem (ForInStep (List (Str×Addr))))) >>= λr=>pure r:=rfl
 rw[e,LS _ _ h];rfl
theorem Lc{cells:List (Str×Addr)}:∀{names:List (Str×NameKind)}{acc:List (Str×Addr)}{x:Str}{c:Addr},(x,c)∈ml cells names acc->(x,c)∈acc\/((x,.free)∈names/\c=(cells.lookup x).getD 0)
 | [],acc,x,c,h=>.inl h
 | (n,k)::r,acc,x,c,h=>by
  rcases Lc (names:=r) h with h | ⟨h,e⟩
  .by_cases a:k=.free
   .subst a;simp only[beq_self_eq_true,aQ] at h;rcases ao.mp h with h | h
    .cases h;show .inr ⟨by simp,rfl⟩
    show .inl h
   have b:(k==NameKind.free)=false:=by simpa using a
   simp only[b,aj,aP] at h;show .inl h
  show .inr ⟨aE _ h,e⟩
theorem Lb{cells:List (Str×Addr)}:∀{names:List (Str×NameKind)}{acc:List (Str×Addr)}{p:Str×Addr},p∈acc->p∈ml cells names acc
 | [],acc,p,h=>h
 | (n,k)::r,acc,p,h=>Lb (names:=r) (by split<;>simp[h])
theorem ET{cells:List (Str×Addr)}:∀{names:List (Str×NameKind)}{acc:List (Str×Addr)}{x:Str},(x,.free)∈names->∃c,(x,c)∈ml cells names acc
 | (n,k)::r,acc,x,h=>by
  rcases ao.mp h with h | h
  .have b:x=n:=congrArg Prod.fst h;have a:NameKind.free=k:=congrArg Prod.snd h;subst b a;show⟨(cells.lookup x).getD 0,?_⟩;show(x,(cells.lookup x).getD 0)∈ml cells r (if (NameKind.free==NameKind.free)=true then(x,(cells.lookup x).getD 0)::acc else acc);show Lb (by simp)
  show ET (names:=r) h
theorem C0{b:Type}:∀{l:List (Str×b)}{x:Str}{c:b},(x,c)∈l->∃a,l.lookup x=some a
 | (n,k)::r,x,c,h=>by
  by_cases e:x=n
  .subst e;show⟨k,by simp[List.lookup_cons]⟩
  have d:(x==n)=false:=by simpa using e
  rcases ao.mp h with h | h
  .cases h;show absurd rfl e
  obtain⟨a,q⟩:=C0 h;show⟨a,by simp[List.lookup_cons,d,q]⟩
theorem FW{env:Env}:∀{names:List (Str×NameKind)}{x:Str},
  (names.map λ(n,k)=>if (k==NameKind.free&&env.scope.kind==.function&&env.kindOf n==some .cell) then(n,NameKind.cell) else(n,k)).lookup x
   = (names.lookup x).map λk=>if (k==NameKind.free&&env.scope.kind==.function&&env.kindOf x==some .cell) then NameKind.cell else k
 | [],x=>rfl
 | (n,k)::r,x=>by
  have a:=@FW env r x;rw[az];have b:(if (k==NameKind.free&&env.scope.kind==.function&&env.kindOf n==some .cell)=true then(n,NameKind.cell) else(n,k))=(n,if (k==NameKind.free&&env.scope.kind==.function&&env.kindOf n==some .cell)=true then NameKind.cell else k):=by split<;>rfl
  show List.lookup x ((if (k==NameKind.free&&env.scope.kind==.function&&env.kindOf n==some .cell)=true then(n,NameKind.cell) else(n,k))::_)=_;rw[b];by_cases e:x=n
  .subst e;rw[List.lookup_cons,List.lookup_cons,beq_self_eq_true];rfl
  have c:(x==n)=false:=by simpa using e
  rw[List.lookup_cons,List.lookup_cons,c];show a
theorem FX:∀(names:List (Str×NameKind))(n:Nat)(acc a:List (Str×Addr)),cellsFrom n names (acc++a)=cellsFrom n names acc++a
 | [],_,_,_=>rfl
 | (x,k)::r,n,acc,a=>by
  unfold cellsFrom;split
  .exact FX r (n+1) ((x,n)::acc) a
  show FX r n acc a
theorem F6:∀{names:List (Str×NameKind)}{n:Nat}{acc:List (Str×Addr)}{p:Str×Addr},p∈cellsFrom n names acc->p∈acc\/(p.1,.cell)∈names
 | [],_,_,_,h=>.inl h
 | (x,k)::r,n,acc,p,h=>by
  unfold cellsFrom at h;split at h
  .rename_i a;rcases F6 h with h | h
   .rcases ao.mp h with rfl | h
    .rw[eq_of_beq a];show .inr (by simp)
    show .inl h
   show .inr (aE _ h)
  show(F6 h).imp id (aE _)
theorem Ab:∀{names:List (Str×NameKind)}{n:Nat}{acc:List (Str×Addr)}{p:Str×Addr},p∈acc->p∈cellsFrom n names acc
 | [],_,_,_,h=>h
 | (x,k)::r,n,acc,p,h=>by
  unfold cellsFrom;split
  .exact Ab (aE _ h)
  show Ab h
theorem F5:∀{names:List (Str×NameKind)}{n:Nat}{acc:List (Str×Addr)}{x:Str},(x,.cell)∈names->∃c,(x,c)∈cellsFrom n names acc
 | (y,k)::r,n,acc,x,h=>by
  unfold cellsFrom;rcases ao.mp h with h | h
  .cases h;show⟨n,Ab (by simp)⟩
  split
  .exact F5 h
  show F5 h
theorem Sk{M:Model}{A:Around}{E:Value->Shared->Prop}{s:Shared}{scope:Scope}{a:Addr}{b:List (Str×Addr)}{c:Str}{d:Option Addr}{e:Value}{out:Env}{Q:Env->Shared->Prop}
  (f:∀h',h'=pushCells (s.heap.push { cls:=.type "dict",data:=.dict #[] }) scope.names->Q (newEnv scope s.heap.objs.size a (cellsFrom (s.heap.objs.size+1) scope.names b) c d e (some out) builtinsNs) { s with heap:=h' }) :
  wpAny M A (newFunctionEnv scope a b [] c d e (some out)) Q E s:=by
 simp only[newFunctionEnv,Option.isSome_some,aQ];show aa (wpAny_alloc ?_);show aa (wpAny_layCells _ (λname kind cells=>by cases g:kind==NameKind.cell<;>simp[g]) _ _ _ _ ?_);rw[show({ s with heap:=s.heap.push { cls:=.type "dict",data:=.dict #[] } }:Shared).heap.objs.size=s.heap.objs.size+1 from Heap.size_push ..];rw[List.forIn_nil];show aa (af (af (f _ rfl)))
noncomputable abbrev oH(X:Cx)(N':List Str)(scope:Scope)(a:Shared)(b:Hp)(ex:List Addr)(XE:Value->Shared->Prop):Cx:=
 { X with N:=N',eK:=a,qX:=b,env:=compEnvC scope (cellsFrom (a.heap.objs.size+1) scope.names (ml X.env.cells scope.names [])) a.heap.objs.size X.env,outer:=X.stack,stack:=X.stack,ex:=ex,fn:=λx=>scope.names.lookup x==some .cell,pn:=[],xe:=XE }
noncomputable abbrev mH(X:Cx)(N':List Str)(scope:Scope)(a:Shared)(b:Hp)(ex:List Addr):Cx:=oH X N' scope a b ex λ_ _=>False
def Ir(X:Cx)(C:Addr)(x:Value)(a:Shared):Prop:=
 ∃m,a.heap.Ns C m/\∀h',Heap.SameBut C a.heap h'->∀b:Env,b.locals=C->wpAny (model X.prog X.w) X.A (passOn "comprehension.variables-let-go" x b:Sem Value) (λ_ _=>False) X.xe { a with heap:=h' }
noncomputable def sD(m:List (Option Nat))(a:St):St:=m.map λo=>match o with
 | none=>none
 | some j=>(a[j]?).join
structure cX(X:Cx)(N':List Str)(m:List (Option Nat))(scope:Scope):Prop where
 kind:scope.kind=.function
 len:m.length=N'.length
 uniq:∀y∈scope.names,scope.names.lookup y.1=some y.2
 free:∀y∈scope.names,y.2=.free->X.env.kindOf y.1=some .cell\/X.env.kindOf y.1=some .free
 Zb:∀(i j:Nat)(x:Str),m[i]?=some (some j)->N'[i]?=some x->X.N[j]?=some x/\scope.names.lookup x=some .free
def vW(X:Cx)(a:List Expr)(t:TT):Prop:=
 ∀(b:List (Addr×Obj))(s:Shared)(σ:St)(H:Hp)(Q:Bool->Hp->Prop),Inv X b σ H s->t σ H Q->
  wpAny (model X.prog X.w) X.A (forIn a true λc r=>if r=true then do let ok <-isTrue c X.env (eval c X.env);pure (ForInStep.yield ok) else pure (ForInStep.yield r)) (TP X b σ Q) X.xe s
def N7:TT:=λ_ H Q=>Q true H
theorem QS{X:Cx}:vW X [] N7:=λ_ _ σ H _ I h=>wpAny_tests_nil ⟨H,I,h⟩
theorem QR{X:Cx}{c:Expr}{t:TT}(h:PT X c t):vW X [c] t:=λa s σ H Q I q=>wpAny_tests_one (h a s σ H Q I q)
section
variable{prog:Program}{w:World}{A:Around}{R:Result->Shared->Prop}{s:Shared}
theorem UT{e a b:Expr}{d:List Expr}{scope:Scope}{pos:Pos}{it acc:Value}{env:Env}{f:Value->Shared->Prop}(g:∀x s,f x s->notedBy (model prog w) A env (λx u=>R (.error x) u) x s)(I:Nat->Shared->Prop)
  (turn:∀n s,I n s->wpAny (model prog w) A (pyNext it) (λr j=>match r with
   | none=>R (.ok .next) j
   | some v=>wpAny (model prog w) A (letOwnedTupleGo a it v) (λ_ k=>wpAny (model prog w) A (assign a env v) (λ_ p=>
     wpAny (model prog w) A (forIn d true λc r=>if r=true then do let ok <-isTrue c env (eval c env);pure (ForInStep.yield ok) else pure (ForInStep.yield r)) (λok i=>
      if ok=true then wpAny (model prog w) A (eval e env) (λx l=>
       wpAny (model prog w) A (call (.builtin "list.append") [acc,x]) (λ_ q=>∃m,m<n/\I m q) f l) f i
      else ∃m,m<n/\I m i) f p) f k) f j) f s)
  (n:Nat) (h:I n s) :
  codeAny (model prog w) A (.compLoop (.ListComp e [⟨a,b,d,0⟩] scope pos) 0 it acc env) R s:=by
 show codeAny_loop rfl I (λn s y=>?_) n h;show wpAny _ A ((compTurn (.ListComp e [⟨a,b,d,0⟩] scope pos) 0 it acc env).onRaise (λx=>do noteFrame x env;theTreesLotGoes x)) _ _ s;show wpAny_noted ?_;rw[compTurn_list];show aa (wpAny_standAt (aa (bZ (turn n s y) (λr j o=>?_) g)));cases r with
 | none=>show af o
 | some v=>
  show aa (bZ o (λ_ k D=>?_) g);show aa (bZ D (λ_ p z=>aa (bZ z (λok i t=>?_) g)) g);cases ok with
  | false=>show af ⟨rfl,t⟩
  | true=>
   show aa (aa (bZ t (λx l B=>aa (bZ B (λ_ q C=>af (af ⟨rfl,C⟩)) g)) g))
end
noncomputable abbrev pM(a:Type):=Shared->Hp->List Addr->a
def va(l:TI)(m:List (Option Nat))(g:pM TG)(tc:pM TT)(te:pM TE):TE:=λσ H Q=>l σ H λJ H1=>∀D,H1 D=none->∀s3 ex,
 ∃W:Nat->Nat->St->Hp->Prop,(∃k,W 0 k (sD m σ) (upd H1 D (.lst [])))/\∀i k c a,W i k c a->
  (J.stop i a/\Q (.ref D) a)\/(J.go i a/\∃N:St->Hp->Prop,(∀c a,N c a->∃e,e<k/\W (i+1) e c a)/\
   ∀x j,J.C4 i a x j->g s3 (upd H1 D (.lst [])) ex x c j λd n=>tc s3 (upd H1 D (.lst [])) ex d n λb h=>
    if b=true then te s3 (upd H1 D (.lst [])) ex d h λv f=>∃xs,f D=some (.lst xs)/\xs.length<sizeLine/\N d (upd f D (.lst (xs++[v]))) else N d h)
section
variable{X:Cx}{elt iter tg:Expr}{ifs:List Expr}{scope:Scope}{pos:Pos}{N':List Str}{m:List (Option Nat)}{wi:TI}{g:pM TG}{tc:pM TT}{te:pM TE}
theorem Sj{XE:Value->Shared->Prop}{P:List (Addr×Obj)}{r:St}{H:Hp}{s:Shared}{fp:List Addr}{w:Heap}{tk:Nat}(cs:cX X N' m scope)(I:Inv X P r H s)(f:∀b∈fp,kC X P H b)(M:∀b∈fp,b<s.heap.objs.size)
  (hh:w=pushCells (s.heap.push { cls:=.type "dict",data:=.dict #[] }) scope.names) :
  Inv (oH X N' scope s H fp XE) [] (sD m r) H { s with heap:=w,toks:=tk }:=by
 have A:∀b o,s.heap.get? b=some o->w.get? b=some o:=λb o e=>by rw[hh];show pushCells_keeps _ _ b o (ag _ e)
 have S:w.Ns s.heap.objs.size (λ_=>none):=by rw[hh];show(Heap.Ns.new s.heap (.type "dict")).keeps (pushCells_keeps _ _)
 have ok:=cellsFrom_ok scope.names (s.heap.push { cls:=.type "dict",data:=.dict #[] }) (s.heap.objs.size+1) [] ⟨λ_ _ hm=>(nomatch hm),List.Pairwise.nil⟩ (by rw[Heap.size_push];show ay _);rw[Heap.size_push,<-hh] at ok;have fM:∀y∈scope.names,y.2=.free->∃c,X.env.cells.lookup y.1=some c:=λy U hf=>I.ok.has y.1 (cs.free y U hf)
 have app:cellsFrom (s.heap.objs.size+1) scope.names (ml X.env.cells scope.names [])=cellsFrom (s.heap.objs.size+1) scope.names []++ml X.env.cells scope.names []:=FX _ _ [] _
 /- a cell: of its own,or one from around -/
 have l:∀x c,(cellsFrom (s.heap.objs.size+1) scope.names (ml X.env.cells scope.names [])).lookup x=some c->((x,c)∈cellsFrom (s.heap.objs.size+1) scope.names []/\scope.names.lookup x=some .cell)\/(X.env.cells.lookup x=some c/\scope.names.lookup x=some .free):=λx c e=>by
  have hm:=PySem.mem_of_lookup e;rw[app] at hm;rcases av.mp hm with hm | hm
  .refine .inl ⟨hm,?_⟩;rcases F6 hm with z | z
   .cases z
   show cs.uniq _ z
  rcases Lc hm with z | ⟨z,N⟩
  .cases z
  obtain⟨F,q⟩:=fM _ z rfl;rw[q] at N;show .inr ⟨by rw[q,N];rfl,cs.uniq _ z⟩
 have old:∀x c,X.env.cells.lookup x=some c->c<s.heap.objs.size:=λx c e=>by obtain⟨v,z⟩:=I.cell x c e;show z.lt
 show⟨⟨I.ok.mod,cs.kind,I.ok.glob,I.ok.blt,ay _,λx y c e1 e2=>?inj,λx hx=>?_,λx c hx e=>?cab,I.ok.hd,I.ok.frames,.inl rfl,λb hb=>⟨aF (M b hb),λx c e=>?exf⟩,
  λb o e=>I.bs b o e,aJ I.ok.uS I.sz,λb o e hb=>?_,λb hb z=>?_,I.stack,I.pX⟩,
  rfl,I.bare,Un.kept A,⟨_,S,λi x v Z d h3=>?_⟩,λx c e=>?_,I.dD.fresh (ay _),λx c e=>?frc,λp V=>(by cases V),I.dD.kept A,?_⟩
 case inj=>
  rcases l x c e1 with⟨g,_⟩ | ⟨o1,_⟩<;>rcases l y c e2 with⟨L,_⟩ | ⟨K,_⟩
  .exact PySem.name_of_addr ok.apart g L
  .exact absurd (old y c K) (Nat.not_lt.mpr (aJ (b8 _) (ok.empty x c g).2))
  .exact absurd (old x c o1) (Nat.not_lt.mpr (aJ (b8 _) (ok.empty y c L).2))
  show I.ok.inj x y c o1 K
 case cab=>
  rcases l x c e with⟨g,_⟩ | ⟨_,z⟩
  .exact aJ (b8 _) (ok.empty x c g).2
  have h:(scope.names.lookup x==some .cell)=true:=hx;rw[z] at h;cases h
 case exf=>
  rcases l x c e with⟨g,_⟩ | ⟨o1,_⟩
  .exact Nat.ne_of_gt (aK (bT (M b hb)) (ok.empty x c g).2)
  show(f b hb).2.2.2.2.1 x c o1
 case frc=>
  rcases l x c e with⟨g,_⟩ | ⟨o1,_⟩
  .exact I.dD.fresh (aJ (b8 _) (ok.empty x c g).2)
  show I.gJ x c o1
 .have h:(relabel scope X.env).names.lookup x=some .cell\/(relabel scope X.env).names.lookup x=some .free:=hx;have e:(relabel scope X.env).names.lookup x=(scope.names.lookup x).map λk=>if (k==NameKind.free&&X.env.scope.kind==.function&&X.env.kindOf x==some .cell) then NameKind.cell else k:=FW
  rw[e] at h;have hf:(x,NameKind.free)∈scope.names\/(x,NameKind.cell)∈scope.names:=by
   cases q:scope.names.lookup x with
   | none=>rw[q] at h;simp at h
   | some k=>
    rw[q] at h;have hm:=PySem.mem_of_lookup q;by_cases B:k=.free
    .subst B;show .inl hm
    have Q:(k==NameKind.free)=false:=by simpa using B
    simp only[Q,Option.map_some,Bool.false_and,aj,aP,aZ] at h;rcases h with z | z
    .subst z;show .inr hm
    show absurd z B
  show ∃c,(cellsFrom (s.heap.objs.size+1) scope.names (ml X.env.cells scope.names [])).lookup x=some c
  rcases hf with hf | hf
  .obtain⟨c,E⟩:=ET (cells:=X.env.cells) (acc:=[]) hf;show C0 (Ab E)
  obtain⟨c,E⟩:=F5 (n:=s.heap.objs.size+1) (acc:=ml X.env.cells scope.names []) hf;show C0 E
 .rcases(f b hb).2.2.2.1 with z | z
  .exact I.ok.qJ b o e z
  show absurd (aK (aw (I.ok.bs b o e).1) z) (Nat.lt_irrefl _)
 .rcases ao.mp (I.px b z) with q | q
  .exact(f b hb).2.1 q
  show(f b hb).2.2.1 q
 .unfold sD at d;rw[aG] at d;cases q:m[i]? with
  | none=>rw[q] at d;cases d
  | some o=>
   rw[q] at d;cases o with
   | none=>cases d
   | some j=>
    simp only[Option.map_some,aZ] at d;have Nt:r[j]?=some (some v):=by
     cases z:r[j]? with
     | none=>rw[z] at d;cases d
     | some a=>rw[z] at d;simp at d;rw[d]
    obtain⟨Y,D⟩:=cs.Zb i j x q Z;have O:=PySem.mem_of_lookup D;obtain⟨m0,ZF,W⟩:=I.loc;have G:=cs.free _ O rfl;have GX:oM X.env.scope x:=G.elim (λz=>.inr (.inl z)) (λz=>.inr (.inr z));obtain⟨u,R,T⟩:=W j x v Y Nt GX;show⟨u,R,.inr ⟨?_,?_⟩⟩
    .show(relabel scope X.env).names.lookup x=some .cell\/(relabel scope X.env).names.lookup x=some .free;have e:(relabel scope X.env).names.lookup x=(scope.names.lookup x).map λk=>if (k==NameKind.free&&X.env.scope.kind==.function&&X.env.kindOf x==some .cell) then NameKind.cell else k:=FW
     rw[e,D];simp only[Option.map_some];split
     .exact .inl rfl
     show .inr rfl
    rcases T with⟨k,_⟩ | ⟨_,c,e,z⟩
    .rcases G with z | z<;>· rw[k] at z;cases z
    obtain⟨F,J⟩:=C0 (Ab (names:=scope.names) (n:=s.heap.objs.size+1) (ET (cells:=X.env.cells) (acc:=[]) O).choose_spec);have:X.env.cells.lookup x=some F:=by
     rcases l x F J with⟨_,z⟩ | ⟨z,_⟩
     .rw[D] at z;cases z
     show z
    rw[e] at this;cases this;obtain⟨t,C,hd⟩:=z;show⟨c,J,t,A c t C,hd⟩
 .rcases l x c e with⟨g,_⟩ | ⟨o1,_⟩
  .exact⟨none,(ok.empty x c g).1⟩
  obtain⟨v,t,C,hd⟩:=I.cell x c o1;show⟨v,t,A c t C,hd⟩
 show(sD m r).length=N'.length;unfold sD;rw[ae,cs.len]
def Iq(X:Cx)(a:Shared)(d:Hp)(ex:List Addr):Prop:=∃c σ,Inv X c σ d a/\∀b∈ex,kC X c d b/\b<a.heap.objs.size
theorem Lw{use:Option (Value->Sem Unit)}{V:Value->Shared->Prop}{l:List (Addr×Obj)}{s:Shared}{t:St}{H:Hp}{Q:VK}
  {XE:Shared->Value->Shared->Prop} (Bj:∀s3 x k,XE s3 x k->notedBy (model X.prog X.w) X.A (compEnvC scope (cellsFrom (s3.heap.objs.size+1) scope.names (ml X.env.cells scope.names [])) s3.heap.objs.size X.env) (Ir X s3.heap.objs.size) x k)
  (hc:X.calm=true) (cs:cX X N' m scope) (hi:PI X tg iter wi) (hg:∀s3 q ex,PG (oH X N' scope s3 q ex (XE s3)) tg (g s3 q ex)) (ht:∀s3 q ex,vW (oH X N' scope s3 q ex (XE s3)) ifs (tc s3 q ex))
  (he:∀s3 q ex,Iq X s3 q ex->PE (oH X N' scope s3 q ex (XE s3)) elt (te s3 q ex)) (I:Inv X l t H s) (h:va wi m g tc te t H Q)
  (fin:∀D C k a,Inv X l t a k->kC X l a C->(∃m,k.heap.Ns C m)->Q (.ref D) a->compPost (model X.prog X.w) X.A X.xe use V (.ref D) C (.ok .next) k) :
  wpAny (model X.prog X.w) X.A (eval iter X.env) (λx de=>wpAny (model X.prog X.w) X.A (pyIter x) (λit kS=>wpAny (model X.prog X.w) X.A (newList []) (λacc pw=>
   wpAny (model X.prog X.w) X.A (newFunctionEnv scope X.env.globals (ml X.env.cells scope.names []) [] X.env.qual none .none (some X.env)) (λsW uv=>
    codeAny (model X.prog X.w) X.A (.compStart (.ListComp elt [⟨tg,iter,ifs,0⟩] scope pos) 0 it acc { sW with scope:=relabel scope X.env }) (compPost (model X.prog X.w) X.A X.xe use V acc sW.locals) uv) X.xe pw) X.xe kS) X.xe de) X.xe s:=by
 show ez (hi l s t H _ I h) λv s1 h1=>ez h1 λGP s2 h2=>?_
 obtain⟨it,fp,P,J,j,e,I2,T,dX,f2,h⟩:=h2;subst e;show wpAny_newObj_type (Sk λR vM=>?_);have hf:j s2.heap.objs.size=none:=I2.dD.fresh (ay _);obtain⟨W,⟨k0,w0⟩,turn⟩:=h s2.heap.objs.size hf { s2 with heap:=s2.heap.push { cls:=.type "list",data:=.seq ([]:List Value).toArray } } fp;have I3:Inv X l t (upd j s2.heap.objs.size (.lst [])) { s2 with heap:=s2.heap.push { cls:=.type "list",data:=.seq ([]:List Value).toArray } }:=I2.AN (its:=[]) (t':=s2.toks) .nil (by simp);have Nx:∀b∈fp,b<s2.heap.objs.size:=λb hb=>by
  obtain⟨o,e,_⟩:=T.obj _ _ dX b hb;show aw e
 have U:∀b∈fp,kC X l (upd j s2.heap.objs.size (.lst [])) b:=λb hb=>⟨by rw[eG (aF (Nx b hb))];show(f2 b hb).1,(f2 b hb).2⟩
 generalize MW:({ s2 with heap:=s2.heap.push { cls:=.type "list",data:=.seq ([]:List Value).toArray } }:Shared)=s3 at *;have hC:s3.heap.objs.size=s2.heap.objs.size+1:=by rw[<-MW];show Heap.size_push ..
 have HV:∀b∈fp,b<s3.heap.objs.size:=λb hb=>by rw[hC];show bT (Nx b hb)
 have k3:∀b o,s2.heap.get? b=some o->s3.heap.get? b=some o:=λb o e=>by rw[<-MW];show ag _ e
 have k1:∀b o,s3.heap.get? b=some o->R.get? b=some o:=λb o e=>by rw[vM];show pushCells_keeps _ _ b o (ag _ e)
 have Y:=Sj (XE:=XE s3) (tk:=s3.toks) cs I3 U HV vM;have uw:P 0 R:=T.keep _ _ _ dX λb _ o e=>k1 b o (k3 b o e)
 have HU:∀{a:Hp},(∀b∈fp,a b=none)->∀b∈fp,kC (oH X N' scope s3 (upd j s2.heap.objs.size (.lst [])) fp (XE s3)) [] a b:=λhn b hb=>
  ⟨hn b hb,aF (HV b hb),Y.ok.qS b hb,.inl hb,(Y.ok.exf b hb).2,λp hp=>by cases hp⟩
 have qP:∀b∈fp,(upd j s2.heap.objs.size (.lst [])) b=none:=λb hb=>(U b hb).1
 have loop:codeAny (model X.prog X.w) X.A (.compLoop (.ListComp elt [⟨tg,iter,ifs,0⟩] scope pos) 0 (.ref it) (.ref s2.heap.objs.size) (compEnvC scope (cellsFrom (s3.heap.objs.size+1) scope.names (ml X.env.cells scope.names [])) s3.heap.objs.size X.env))
   (compPost (model X.prog X.w) X.A X.xe use V (.ref s2.heap.objs.size) s3.heap.objs.size) { s3 with heap:=R }:=by
  show UT (Bj s3) (λn k=>∃i G a,Inv (oH X N' scope s3 (upd j s2.heap.objs.size (.lst [])) fp (XE s3)) [] G a k/\P i k.heap/\(∀b∈fp,a b=none)/\W i n G a) ?_ k0 ⟨0,_,_,Y,uw,qP,w0⟩;rintro n s4 ⟨i,M,L,I4,Mp,yH,w4⟩;rcases turn i n M L w4 with⟨stop,qn⟩ | ⟨go,N,hN,step⟩
  .refine ez (T.done (oH X N' scope s3 (upd j s2.heap.objs.size (.lst [])) fp (XE s3)) rfl rfl rfl hc i [] s4 M L _ I4 (HU yH) Mp stop) λr s5 f=>?_
   obtain⟨S,E⟩:=f;subst S;have rJ:∀b∈fp,(b∈X.ex\/X.eK.heap.objs.size<=b)/\b≠X.env.locals/\(∀x c,X.env.cells.lookup x=some c->c≠b)/\∀p∈X.pn++l,p.1≠b:=λb hb=>⟨(f2 b hb).2.2.2.1,(f2 b hb).2.1,(f2 b hb).2.2.2.2.1,(f2 b hb).2.2.2.2.2⟩
   have Z:Inv X l t L s5:=I3.Bq (ch:=fp) E.os E.base E.dD E.bare rJ;obtain⟨m5,Yk,_⟩:=id E.loc;show fin _ _ s5 L Z (I3.pI (ay _) E.free) ⟨m5,Yk⟩ qn
  show ez (T.item (oH X N' scope s3 (upd j s2.heap.objs.size (.lst [])) fp (XE s3)) rfl rfl rfl hc i [] s4 M L _ I4 (HU yH) Mp go) λr s5 f=>?_
  obtain⟨u,S,h5⟩:=f;subst S;show ez h5 λ_ s6 f=>?_
  obtain⟨x,H6,Z,r6,y6,Gb,Y2⟩:=f;have Zj:=Z.pinned (HU Y2) (T.obj _ _ Gb);show ez (hg _ _ _ _ s6 M H6 x u _ Zj r6 (step x H6 y6)) λ_ s7 f=>?_
  obtain⟨O,H7,I7,q7⟩:=f;show ez (ht _ _ _ _ s7 O H7 _ I7 q7) λb s8 f=>?_
  obtain⟨H8,I8,q8⟩:=f;have again:∀{B:Shared}{F:St}{z:Hp},Inv (oH X N' scope s3 (upd j s2.heap.objs.size (.lst [])) fp (XE s3)) ([]++za fp s6.heap) F z B->N F z->∃m,m<n/\∃i G a,Inv (oH X N' scope s3 (upd j s2.heap.objs.size (.lst [])) fp (XE s3)) [] G a B/\P i B.heap/\(∀b∈fp,a b=none)/\W i m G a:=λ{B F z} K n9=>by
   obtain⟨m',hm,w9⟩:=hN F z n9;show⟨m',hm,i+1,F,z,K.jK,T.keep _ _ _ Gb λb hb o e=>(K.pin (b,o) (aW _ (aW _ (CQ hb e)))).1,λb hb=>?_,w9⟩;obtain⟨o,e,d⟩:=T.obj _ _ Gb b hb;show(K.pin (b,o) (aW _ (aW _ (CQ hb e)))).2.1
  cases b with
  | false=>show again I8 q8
  | true=>
   rw[if_pos rfl];show ez (he _ _ _ ⟨l,t,I3,λb hb=>⟨U b hb,HV b hb⟩⟩ _ s8 O H8 _ I8 q8) λy B f=>?_
   obtain⟨v9,z,K,r9,xs,hD,hz,q9⟩:=f;show ez (Fe _ B O z (.ref s2.heap.objs.size) [v9] (.ref s2.heap.objs.size) [y] (λ_ a=>N O a) K rfl (.cons r9 .nil) ⟨_,xs,v9,rfl,rfl,hD,hz,q9⟩) λ_ Zu f=>?_
   obtain⟨_,ZY,Zl,_,Xp⟩:=f;show again Zl Xp
 show codeAny_compStart_list loop (T.self _ 0 _ _ _ uw loop)
theorem Si{XE:Shared->Value->Shared->Prop}(v:∀s3 x f,XE s3 x f->notedBy (model X.prog X.w) X.A (compEnvC scope (cellsFrom (s3.heap.objs.size+1) scope.names (ml X.env.cells scope.names [])) s3.heap.objs.size X.env) (Ir X s3.heap.objs.size) x f)(p:X.calm=true)(cs:cX X N' m scope)(hi:PI X tg iter wi)(hg:∀s3 a ex,PG (oH X N' scope s3 a ex (XE s3)) tg (g s3 a ex))(ht:∀s3 a ex,vW (oH X N' scope s3 a ex (XE s3)) ifs (tc s3 a ex))
  (he:∀s3 a ex,Iq X s3 a ex->PE (oH X N' scope s3 a ex (XE s3)) elt (te s3 a ex)) (l:∀x,foldedSetIterable iter X.env x=pure x:=by intro _;rfl):PE X (.ListComp elt [⟨tg,iter,ifs,0⟩] scope pos) (va wi m g tc te):=by
 intro z s σ H Q I h;rw[eval_ListComp];have r:∀y∈scope.names,y.2=.free->∃c,X.env.cells.lookup y.1=some c:=λy i hf=>I.ok.has y.1 (cs.free y i hf)
 show wpAny_comprehension_free (use:=none) rfl l (LR r) cs.kind (λy i n=>by rw[cs.uniq y i,n]) (Lw v p cs hi hg ht he I h λD C f u t d ⟨k,hn⟩ q=>?_);show⟨k,hn,λh' j=>⟨.ref D,u,t.turned (t':=f.toks) (λb o hb e=>(j.2 b hb).trans e) d.1 d.2.1 d.2.2.2.1 d.2.2.2.2.1 d.2.2.2.2.2,rfl,q⟩⟩
theorem Ke(c:X.calm=true)(cs:cX X N' m scope)(hi:PI X tg iter wi)(hg:∀s3 a ex,PG (mH X N' scope s3 a ex) tg (g s3 a ex))(ht:∀s3 a ex,vW (mH X N' scope s3 a ex) ifs (tc s3 a ex))
  (he:∀s3 a ex,PE (mH X N' scope s3 a ex) elt (te s3 a ex)) (b:∀x,foldedSetIterable iter X.env x=pure x:=by intro _;rfl):PE X (.ListComp elt [⟨tg,iter,ifs,0⟩] scope pos) (va wi m g tc te):=Si (XE:=λ_ _ _=>False) (λ_ _ _ z=>z.elim) c cs hi hg ht (λs3 a ex _=>he s3 a ex) b
theorem Sh{XE:Shared->Value->Shared->Prop}(T:∀s3 x k,XE s3 x k->notedBy (model X.prog X.w) X.A (compEnvC scope (cellsFrom (s3.heap.objs.size+1) scope.names (ml X.env.cells scope.names [])) s3.heap.objs.size X.env) (Ir X s3.heap.objs.size) x k){i:Nat}{x:Str}{d p:Pos}(J:X.N.Nodup)(r:X.N[i]?=some x)(hx:Loc X.env.scope x)
  (G:X.calm=true) (cs:cX X N' m scope) (hi:PI X tg iter wi) (hg:∀s3 f ex,PG (oH X N' scope s3 f ex (XE s3)) tg (g s3 f ex)) (ht:∀s3 f ex,vW (oH X N' scope s3 f ex (XE s3)) ifs (tc s3 f ex))
  (he:∀s3 f ex,Iq X s3 f ex->PE (oH X N' scope s3 f ex (XE s3)) elt (te s3 f ex)) (B:∀x,foldedSetIterable iter X.env x=pure x:=by intro _;rfl)
  (t:swapsWith (.ListComp elt [⟨tg,iter,ifs,0⟩] scope pos) (some (.Name x d)) p.line X.env=pure true:=by rfl)
  (n:X.fn x=true\/X.env.scope.names.lookup x=some .local:=by first | show .inl rfl | show .inr rfl | assumption) :
  PS X (.Assign [.Name x d] (.ListComp elt [⟨tg,iter,ifs,0⟩] scope pos) p) (yV (va wi m g tc te) (y8 i)):=by
 intro P s σ H D I h;have K:∀y∈scope.names,y.2=.free->∃c,X.env.cells.lookup y.1=some c:=λy l n=>I.ok.has y.1 (cs.free y l n)
 rw[exec_Assign_Name_used _ _ _ _ t];show aa (wpAny_standAt (aa ?_));show wpAny _ _ (do let _ <-comprehension (.ListComp elt [⟨tg,iter,ifs,0⟩] scope pos) scope X.env _ (newList []) false (eval iter X.env) (some (assign (.Name x d) X.env))) _ _ s;show aa (bZ (wpAny_comprehension_free (use:=some (assign (.Name x d) X.env)) (Q:=λ_ k=>SP X P D .next k) rfl B (LR K) cs.kind (λy l F=>by rw[cs.uniq y l,F]) (Lw T G cs hi hg ht he I h λA C k S R j ⟨v,hn⟩ q=>?_)) (λ_ k E=>af (af E)) λ_ _ e=>e);show wpAny _ _ (assign (.Name x d) X.env (.ref A)) _ _ _;show wpAny_assign_Name (Lj R J r hx (show RelV (.ref A) (.ref A) from rfl) (λs2 I2 O=>?_) n);obtain⟨a,M,ha⟩:=O;have L:C≠a:=by
  rcases ha with rfl | ha
  .exact j.2.1
  show λz=>j.2.2.2.2.1 x a ha z.symm
 show⟨v,hn.sameBut M L,λh' u=>⟨_,S,I2.turned (t':=s2.toks) (λb o hb e=>(u.2 b hb).trans e) j.1 j.2.1 j.2.2.2.1 j.2.2.2.2.1 j.2.2.2.2.2,q⟩⟩
theorem EA{i:Nat}{x:Str}{b c:Pos}(k:X.N.Nodup)(d:X.N[i]?=some x)(hx:Loc X.env.scope x)
  (j:X.calm=true) (cs:cX X N' m scope) (hi:PI X tg iter wi) (hg:∀s3 a ex,PG (mH X N' scope s3 a ex) tg (g s3 a ex)) (ht:∀s3 a ex,vW (mH X N' scope s3 a ex) ifs (tc s3 a ex))
  (he:∀s3 a ex,PE (mH X N' scope s3 a ex) elt (te s3 a ex)) (f:∀x,foldedSetIterable iter X.env x=pure x:=by intro _;rfl)
  (e:swapsWith (.ListComp elt [⟨tg,iter,ifs,0⟩] scope pos) (some (.Name x b)) c.line X.env=pure true:=by rfl)
  (h:X.fn x=true\/X.env.scope.names.lookup x=some .local:=by first | show .inl rfl | show .inr rfl | assumption) :
  PS X (.Assign [.Name x b] (.ListComp elt [⟨tg,iter,ifs,0⟩] scope pos) c) (yV (va wi m g tc te) (y8 i)):=Sh (XE:=λ_ _ _=>False) (λ_ _ _ z=>z.elim) k d hx j cs hi hg ht (λs3 a ex _=>he s3 a ex) f e h
end
theorem Js:2<=sizeLine:=by decide
theorem Inv.kZ{X:Cx}{d:List (Addr×Obj)}{g:St}{H:Hp}{s:Shared}{h':Heap}{t':Nat}{fp:List Addr}(I:Inv X d g H s)(k:∀b o,b∉fp->s.heap.get? b=some o->h'.get? b=some o)(f:∀b∈fp,kC X d H b) :
  Inv X d g H { s with heap:=h',toks:=t' }:=by
 have h:∀b u,H b=some u->b∉fp:=λb u e z=>by rw[(f b z).1] at e;cases e
 show I.step (g':=s.gens) (d':=s.drawn) (ch:=fp) (λb hb=>⟨(f b hb).2.2.2.1,(f b hb).2.1,(f b hb).2.2.2.2.1,(f b hb).2.2.2.2.2⟩) (λb o _ _ a e _=>k b o a e) (λb o _ _ a e _=>⟨o.slots,k b o a e⟩) (λ_ _ _ _ n=>n)
  (λb o a e=>⟨o,k b o a e⟩) (λ_ _ e=>e) (λ_ _ _ e=>e) (λb ps e=>⟨#[],by rw[e];simp⟩) (λm hm=>?_) (λb u e=>?_) I.bare
 .obtain⟨o,es,ep,i,r⟩:=hm;show⟨o,es,ep,k _ o (λz=>(f _ z).2.1 rfl) i,r⟩
 show(I.dD b u e).lA (λc v a q=>k c v ?_ q) (λ_ q=>q) λ_ _ q=>q
 rcases a with z | z
 .rw[z];show h b u e
 show h c _ z
theorem Inv.mR{X:Cx}{h:List (Addr×Obj)}{i:St}{H:Hp}{s:Shared}{h':Heap}{t':Nat}{fp:List Addr}{a:Addr}{o:HO}(I:Inv X h i H s)(k:∀b o,b∉fp->s.heap.get? b=some o->h'.get? b=some o)(f:∀b∈fp,kC X h H b)
  (l:s.heap.objs.size<=a) (new:eV X.prog X.w (upd H a o) h' a o):Inv X h i (upd H a o) { s with heap:=h',toks:=t' }:=by
 have g:H a=none:=I.dD.fresh l;have j:∀b u,H b=some u->b∉fp:=λb u e z=>by rw[(f b z).1] at e;cases e
 show I.step (g':=s.gens) (d':=s.drawn) (ch:=fp) (λb hb=>⟨(f b hb).2.2.2.1,(f b hb).2.1,(f b hb).2.2.2.2.1,(f b hb).2.2.2.2.2⟩) (λb o _ _ d e _=>k b o d e) (λb o _ _ d e _=>⟨o.slots,k b o d e⟩)
  (λb o _ q n=>by rw[eG (aF (aK (aw q) l))];show n)
  (λb o d e=>⟨o,k b o d e⟩) (λb zs q=>by rw[eG (kf q g)];show q) (λb ob zs q=>by rw[eG (kf q g)];show q) (λb ps q=>⟨#[],by rw[eG (kf q g),q];simp⟩) (λm hm=>?_) (λb u q=>?_) I.bare
 .obtain⟨o,es,ep,p,r⟩:=hm;show⟨o,es,ep,k _ o (λz=>(f _ z).2.1 rfl) p,r⟩
 by_cases hb:b=a
 .subst hb;rw[jb] at q;cases q;show new
 rw[eG hb] at q;show(I.dD b u q).lA (λc v d z=>k c v ?_ z) (λc z=>by rw[eG (kf z g)];show z) λc zs z=>by rw[eG (kf z g)];show z
 rcases d with rfl | d
 .exact j _ _ q
 show j _ _ d
noncomputable def DH(x:Str):It:=⟨λi _=>i<x.cps.size,λi H v a=>a=H/\∃c,x.cps[i]?=some c/\v=.str ⟨#[c]⟩,λi _=>i=x.cps.size⟩
theorem SK{P:Program}{w:World}{K:J'}{q:Expr}{x:Str}{it:Addr}{n:String}{t:Tok}(hn:["enumerate","zip","dict_itemiterator","dict_reverseitemiterator","odict_iterator","itertools.zip_longest","itertools.pairwise"].contains n=false)
  (W:∀p:Around,p.handled=none->Walks P w p it [it] [it] x.cps.size (SignAt x) (λi h=>h.IsStrIter it n x t i))
  (B:∀(A:Around)(i:Nat)(s:Shared)(Q:Value->Shared->Prop)(E:Value->Shared->Prop),s.heap.IsStrIter it n x t i->Q (.ref it) s->wpAny (model P w) A (pyIter (.ref it)) Q E s):Turn P w K q (DH x) [it] it (λi h=>h.IsStrIter it n x t i) where
 mem:=by simp
 obj:=λi h st b hb=>by
  have e:b=it:=by simpa using hb
  subst e;obtain⟨o,e,c,d⟩:=st;show⟨o,e,λv z=>by rw[d] at z;cases z⟩
 keep:=λi h h' st k=>by
  obtain⟨o,e,r⟩:=st;show⟨o,k it (by simp) o e,r⟩
 item:=by
  intro X g hw j f i m s σ H E I hf st hg;subst g hw j;show(W X.A (I.ok.hd f)).item i s _ _ hg st λv h' tk y l a=>?_
  obtain⟨c,u,hx,rfl⟩:=y;have I1:Inv X m σ H { s with heap:=h',toks:=tk }:=I.kZ a hf;obtain⟨o,e,C,d⟩:=id l;show⟨_,rfl,BW (s:={ s with heap:=h',toks:=tk }) e C d hn ⟨.str ⟨#[c]⟩,H,I1,⟨u,rfl⟩,⟨rfl,c,hx,rfl⟩,l,λb hb=>(hf b hb).1⟩⟩
 done:=by
  intro X g hw j f i m s σ H E I hf st hg;subst g hw j;have e:i=x.cps.size:=hg;subst e;show(W X.A (I.ok.hd f)).done s _ _ st λh' tk a=>⟨rfl,I.kZ a hf⟩
 self:=B
section
variable{X:Cx}{tg:Expr}
theorem O3{g:List (Addr×Obj)}{c:St}{H:Hp}{s:Shared}{R:It->Hp->Prop}{E:Value->Shared->Prop}{x:Str}{t:Tok}(I:Inv X g c H s)(q:R (DH x) H) :
  wpAny (model X.prog X.w) X.A (pyIter (.str x t)) (DF X g c tg R) E s:=by
 have fin:∀(o:Obj)(n:String),(hn:["enumerate","zip","dict_itemiterator","dict_reverseitemiterator","odict_iterator","itertools.zip_longest","itertools.pairwise"].contains n=false)->
   (W:∀a:Around,a.handled=none->Walks X.prog X.w a s.heap.objs.size [s.heap.objs.size] [s.heap.objs.size] x.cps.size (SignAt x) (λi h=>h.IsStrIter s.heap.objs.size n x t i))->
   (j:∀(A:Around)(i:Nat)(d:Shared)(Q:Value->Shared->Prop)(E:Value->Shared->Prop),d.heap.IsStrIter s.heap.objs.size n x t i->Q (.ref s.heap.objs.size) d->wpAny (model X.prog X.w) A (pyIter (.ref s.heap.objs.size)) Q E d)->
   (s.heap.push o).IsStrIter s.heap.objs.size n x t 0->DF X g c tg R (.ref s.heap.objs.size) { s with heap:=s.heap.push o }:=λo n hn W j st=>by
  show⟨s.heap.objs.size,[s.heap.objs.size],_,_,H,rfl,I.kept (t':=s.toks) λb o e=>ag _ e,SK hn W j,st,λb hb=>?_,q⟩;have e:b=s.heap.objs.size:=by simpa using hb
  subst e;show I.pI (ay _) (I.dD.fresh (ay _))
 cases ha:x.cps.all (·<128)
 .exact wpAny_pyIter_wide ha (fin _ _ (by decide) (λa f=>Walks.strWide f _ x t) (λ_ _ _ _ _ st q=>wpAny_pyIter_striter_wide st q) ⟨_,ax _ rfl,rfl,rfl⟩)
 show wpAny_pyIter_ascii ha (fin _ _ (by decide) (λa f=>Walks.strAscii f _ x t) (λ_ _ _ _ _ st q=>wpAny_pyIter_striter_ascii st q) ⟨_,ax _ rfl,rfl,rfl⟩)
def N6(K:J')(tl:TE):TI:=λσ H R=>tl σ H λx H1=>(∃a,x=.ref a/\(∃xs,fT K H1 a xs)/\R (Il K a) H1)\/(∃a,x=.ref a/\(∃xs,gR K H1 a xs)/\R (Ik K a) H1)\/(∃z,x=.str z/\R (DH z) H1)
theorem O1{l:Expr}{tl:TE}(i:PE X l tl):PI X tg l (N6 X.K tl):=by
 intro k s σ H R I h;show ez (i k s σ H _ I h) λv s1 j=>?_
 obtain⟨x,H1,I1,c,g⟩:=j;rcases g with⟨a,e,⟨xs,d⟩,q⟩ | ⟨a,e,⟨xs,d⟩,q⟩ | ⟨z,e,q⟩
 .subst e;cases c;obtain⟨its,f,p,hz⟩:=I1.list d;show wpAny_pyIter_list p.isList ?_;show⟨s1.heap.objs.size,[s1.heap.objs.size],_,_,H1,rfl,I1.kept (t':=s1.toks) λb o e=>ag _ e,Ud a _,⟨_,ax _ rfl,rfl,rfl⟩,λb hb=>?_,q⟩;have e:b=s1.heap.objs.size:=by simpa using hb
  subst e;show I1.pI (ay _) (I1.dD.fresh (ay _))
 .subst e;cases c;obtain⟨its,f,p,hz⟩:=I1.tuple d;show wpAny_pyIter_tuple (show s1.heap.IsTuple a its.toArray from p) ?_;show⟨s1.heap.objs.size,[s1.heap.objs.size],_,_,H1,rfl,I1.kept (t':=s1.toks) λb o e=>ag _ e,Uu a _,⟨_,ax _ rfl,rfl,rfl⟩,λb hb=>?_,q⟩;have e:b=s1.heap.objs.size:=by simpa using hb
  subst e;show I1.pI (ay _) (I1.dD.fresh (ay _))
 subst e;obtain⟨t,rfl⟩:=c;show O3 I1 q
end
noncomputable def Im(K:J')(a:Addr):It:=
 ⟨λi H=>∃xs x,fT K H a xs/\xs[i]?=some x,λi H v b=>∃t,v=.ref t/\H t=none/\∀xs,fT K H a xs->∃x,xs[i]?=some x/\b=upd H t (.tup [.int i,x]),λi H=>∃xs,fT K H a xs/\xs.length<=i⟩
noncomputable def Ij(K:J')(a b:Addr):It:=
 ⟨λi H=>∃xs ys x y,fT K H a xs/\fT K H b ys/\xs[i]?=some x/\ys[i]?=some y,λi H v c=>∃t,v=.ref t/\H t=none/\∀xs ys,fT K H a xs->fT K H b ys->∃x y,xs[i]?=some x/\ys[i]?=some y/\c=upd H t (.tup [x,y]),
  λi H=>∃xs ys,fT K H a xs/\fT K H b ys/\(xs.length<=i\/ys.length<=i)⟩
theorem Jr{H:Hp}{t:Addr}{o:HO}{fp:List Addr}(h:∀b∈fp,H b=none)(ht:∀b∈fp,b≠t):∀b∈fp,upd H t o b=none:=λb hb=>by rw[eG (ht b hb)];show h b hb
theorem Uz{prog:Program}{w:World}{A:Around}{E:Value->Shared->Prop}{s:Shared}{a:List Expr}{c}{pos:Pos}{e it T:Addr}{i:Int}{old:Value}{Q:Unit->Shared->Prop}(he:IsEnumOut s.heap e it i old T)
  (d:∀h',IsEnum h' e it i old->Heap.SameBut e s.heap h'->Q () { s with heap:=h' }) :
  wpAny (model prog w) A (letOwnedTupleGo (.Tuple a c pos) (.ref e) (.ref T)) Q E s:=by
 unfold letOwnedTupleGo;show aa (wpAny_load he ?_);show wpAny _ _ (if (["enumerate","zip","dict_itemiterator","dict_reverseitemiterator","odict_iterator","itertools.zip_longest","itertools.pairwise"].contains "enumerate" &&
   (#[rawInt T,.bool false,.ref it,rawInt i,.none,old]:Array Value)[0]?==some (rawInt T))=true then _ else _) Q E s
 rw[if_pos (by simp)];show aa (wpAny_rule ?_);show wpAny _ _ (setField (.ref e) 0 .none) Q E s;show wpAny_setField_rec he (by simp) λh' f b=>d h' f b
theorem Ui{P:Program}{w:World}{K:J'}{j:List Expr}{F}{pos:Pos}(a e it:Addr)(B:e≠it):Turn P w K (.Tuple j F pos) (Im K a) [e,it] e (λi h=>(∃old,IsEnum h e it i old)/\h.IsListIter it a i) where
 mem:=by simp
 obj:=λi h st b hb=>by
  obtain⟨⟨old,f⟩,o,g,c,d⟩:=st;rcases ao.mp hb with rfl | hb
  .exact⟨_,f,λv z=>by have D:Data.fields _=Data.cell v:=z;cases D⟩
  have e:b=it:=by simpa using hb
  subst e;show⟨o,g,λv z=>by rw[d] at z;cases z⟩
 keep:=λi h h' st k=>by
  obtain⟨⟨old,f⟩,g⟩:=st;show⟨⟨old,k e (by simp) _ f⟩,g.at λo q=>k it (by simp) o q⟩
 item:=by
  intro X r hw t A i W s σ H E I hf st hg;subst r hw t;obtain⟨xs,x,l,hx⟩:=hg;obtain⟨its,n,p,hz⟩:=I.list l;obtain⟨u,M,G⟩:=n.get hx;obtain⟨⟨old,f⟩,g⟩:=st;show wpAny_pyNext_enum_item f g p.isList (x:=u) (by simpa using M) B λh' U T S Z J=>?_
  show⟨_,rfl,Uz U λy R m=>?_⟩;have C:s.heap.objs.size≠e:=Nat.ne_of_gt (aw f);have V:s.heap.objs.size≠it:=by obtain⟨o,q,_⟩:=g;show Nat.ne_of_gt (aw q)
  have N:y.get? s.heap.objs.size=some { cls:=.type "tuple",data:=.seq #[.int i s.toks,u] }:=m.extBut _ _ C S;have O:H s.heap.objs.size=none:=I.dD.fresh (ay _);have new:eV X.prog X.w (upd H s.heap.objs.size (.tup [.int i,x])) y s.heap.objs.size (.tup [.int i,x]):=⟨Js,[.int i s.toks,u],.cons ⟨_,rfl⟩ (.cons G .nil),⟨_,N,rfl,_,rfl⟩⟩
  show⟨.ref s.heap.objs.size,upd H s.heap.objs.size (.tup [.int i,x]),I.mR (fp:=[e,it]) (λb o hb q=>m.extBut b o (λz=>hb (by simp[z])) (J b o (λz=>hb (by simp[z])) (λz=>hb (by simp[z])) q)) hf (ay _) new,rfl,
   ⟨_,rfl,O,λys L=>⟨x,by rw[I.i4 L l];show hx,rfl⟩⟩,⟨⟨u,R⟩,T.extBut m.extBut (Ne.symm B)⟩,Jr (λb hb=>(hf b hb).1) λb hb=>?_⟩
  rcases ao.mp hb with rfl | hb
  .exact C.symm
  have z:b=it:=by simpa using hb
  rw[z];show V.symm
 done:=by
  intro X r hw t A i W s σ H E I hf st hg;subst r hw t;obtain⟨xs,l,hx⟩:=hg;obtain⟨its,n,p,hz⟩:=I.list l;obtain⟨⟨old,f⟩,g⟩:=st;have Y:=n.length;show wpAny_pyNext_enum_end (I.ok.hd A) f g p.isList (by simp;ext) λh' Q=>⟨rfl,I.kZ (fp:=[e,it]) (t':=s.toks) (λb o hb q=>Q b o (λz=>hb (by simp[z])) q) hf⟩
 self:=λ_ _ _ _ _ st h=>by
  obtain⟨⟨old,f⟩,_⟩:=st;show wpAny_pyIter_enum f h
section
variable{X:Cx}{elts:List Expr}{x1:Nat}{uu:Pos}
def OA(K:J')(c:TA):TI:=λσ H R=>c σ H λb H1=>∃a xs,b=[.ref a]/\lM K H1 a xs/\R (Im K a) H1
theorem QQ{a:Expr}{d:TA}{p pos:Pos}(hg:Gl X "enumerate")(hm:X.mg "enumerate"=none)(ha:PA X [a] d)(m:starEach [a] X.env=[(false,eval a X.env)]:=by rfl):PI X (.Tuple elts x1 uu) (.Call (.Name "enumerate" p) [a] [] pos) (OA X.K d):=by
 intro x s σ H R I h;show Call_ (tO I hg hm boot_enumerate (PyProof.Rows.callWith_type1 (ez (ha pos x s σ H _ I h) λus s1 w=>?_) m rfl));obtain⟨y,H1,I1,i,j⟩:=w;obtain⟨l,xs,e,o,q⟩:=j;subst e;obtain⟨u,rfl,g⟩:=l7 i;cases g;obtain⟨z,its,n,r,e⟩:=I1.gI o;show call_enumerate_1 e λh' f v A k=>?_
 show wpAny_pyIter_enum f ?_;have t:s1.heap.objs.size+1≠s1.heap.objs.size:=by ext
 show⟨s1.heap.objs.size+1,[s1.heap.objs.size+1,s1.heap.objs.size],_,_,H1,rfl,I1.kept (t':=s1.toks) k,Ui l _ _ t,⟨⟨_,f⟩,v⟩,λb hb=>?_,q⟩;have c:s1.heap.objs.size<=b:=by
  rcases ao.mp hb with rfl | hb
  .exact b8 _
  have e:b=s1.heap.objs.size:=by simpa using hb
  show Nat.le_of_eq e.symm
 show I1.pI c (I1.dD.fresh c)
theorem SJ{P:Program}{w:World}{K:J'}(a b z TI TO i1 j:Addr)(D1:TI≠z/\TO≠z/\i1≠z/\j≠z/\TI≠TO/\TI≠i1/\TI≠j/\TO≠i1/\TO≠j/\i1≠j):Turn P w K (.Tuple elts x1 uu) (Ij K a b) [z,TI,TO,i1,j] z
  (λi h=>IsZip h z TI TO .none/\IsPair h TI (.ref i1) (.ref j)/\(∃a b,IsPair h TO a b)/\h.IsListIter i1 a i/\h.IsListIter j b i) where
 mem:=by simp
 obj:=λi h st c f=>by
  obtain⟨m,t,⟨u,v,r⟩,⟨o1,g1,_,C⟩,⟨o2,g2,_,G⟩⟩:=st;simp only[ao,bD,or_false] at f;rcases f with rfl | rfl | rfl | rfl | rfl
  .exact⟨_,m,λv z=>by have J:Data.fields _=Data.cell v:=z;cases J⟩
  .exact⟨_,t,λv z=>by have J:Data.seq _ _=Data.cell v:=z;cases J⟩
  .exact⟨_,r,λv z=>by have J:Data.seq _ _=Data.cell v:=z;cases J⟩
  .exact⟨_,g1,λv z=>by rw[C] at z;cases z⟩
  show⟨_,g2,λv z=>by rw[G] at z;cases z⟩
 keep:=λi h h' st k=>by
  obtain⟨m,t,⟨u,v,r⟩,B,A⟩:=st;show⟨k z (by simp) _ m,k TI (by simp) _ t,⟨u,v,k TO (by simp) _ r⟩,B.at λo q=>k i1 (by simp) o q,A.at λo q=>k j (by simp) o q⟩
 item:=by
  intro X Z hw hK f i K' s σ H E I hf st hg;subst Z hw hK;obtain⟨xs,ys,x,y,Q,N,hx,hy⟩:=hg;obtain⟨its,W,p,hz⟩:=I.list Q;obtain⟨mD,Y,L,GU⟩:=I.list N;obtain⟨u,hu,ru⟩:=W.get hx;obtain⟨v,hv,Xi⟩:=Y.get hy;obtain⟨m,t,⟨c,d,r⟩,B,A⟩:=st;obtain⟨C,G,V,U,T,S,R,d8,d9,HZ⟩:=D1;have M:∀{l:Addr}{its:List Value},PlainL s.heap l its.toArray->l≠z/\l≠TO/\l≠i1/\l≠j:=λ{l its} pl=>by
   obtain⟨o,n,e,c1,_,dd⟩:=pl;obtain⟨o1,g1,c4,_⟩:=B;obtain⟨o2,g2,c5,_⟩:=A;show⟨?_,?_,?_,?_⟩
   .rintro rfl;rw[m] at e;cases e;simp at c1
   .rintro rfl;rw[r] at e;cases e;simp at c1
   .rintro rfl;rw[g1] at e;cases e;rw[c4] at c1;simp at c1
   rintro rfl;rw[g2] at e;cases e;rw[c5] at c1;simp at c1
  obtain⟨e1,e2,e3,e4⟩:=M p;obtain⟨f1,f2,f3,f4⟩:=M L;have D:ZipApart z TI TO i1 j a b:=⟨C,G,V,U,T,S,R,d8,d9,HZ,e1,e2,e3,e4,f1,f2,f3,f4⟩
  show wpAny_pyNext_zip_item D m t r B A p.isList L.isList (x:=u) (y:=v) (by simpa using hu) (by simpa using hv) λh' a1 a2 a3 a4 a5 a6 O=>?_
  show⟨_,rfl,wpAny_letOwnedTupleGo_zip a1 λxv b1 F=>?_⟩;have YK:s.heap.objs.size≠z:=Nat.ne_of_gt (aw m);have fM:H s.heap.objs.size=none:=I.dD.fresh (ay _);have hT:xv.get? s.heap.objs.size=some { cls:=.type "tuple",data:=.seq #[u,v] }:=F.extBut _ _ YK a5;have new:eV X.prog X.w (upd H s.heap.objs.size (.tup [x,y])) xv s.heap.objs.size (.tup [x,y]):=⟨Js,[u,v],.cons ru (.cons Xi .nil),⟨_,hT,rfl,_,rfl⟩⟩
  have lt:∀{c o},s.heap.get? c=some o->c≠s.heap.objs.size:=λe=>aF (aw e)
  show⟨.ref s.heap.objs.size,upd H s.heap.objs.size (.tup [x,y]),I.mR (fp:=[z,TI,TO,i1,j]) (t':=s.toks) (λc o f q=>F.extBut c o (λe=>f (by simp[e])) (O c o (λe=>f (by simp[e])) (λe=>f (by simp[e])) (λe=>f (by simp[e])) (λe=>f (by simp[e])) q)) hf (ay _) new,rfl,
   ⟨_,rfl,fM,λzs ws h6 h7=>⟨x,y,by rw[I.i4 h6 Q];show hx,by rw[I.i4 h7 N];show hy,rfl⟩⟩,
   ⟨b1,F.extBut _ _ C (O _ _ C T S R t),⟨_,_,F.extBut _ _ G a2⟩,a3.extBut F.extBut V,a4.extBut F.extBut U⟩,Jr (λb hb=>(hf b hb).1) λc f=>?_⟩
  simp only[ao,bD,or_false] at f;rcases f with rfl | rfl | rfl | rfl | rfl
  .exact lt m
  .exact lt t
  .exact lt r
  .obtain⟨_,g,_⟩:=B;show lt g
  obtain⟨_,g,_⟩:=A;show lt g
 done:=by
  intro X Z hw hK f i K' s σ H E I hf st hg;subst Z hw hK;obtain⟨xs,ys,Q,N,hx⟩:=hg;obtain⟨its,W,p,hz⟩:=I.list Q;obtain⟨mD,Y,L,GU⟩:=I.list N;obtain⟨m,t,⟨c,d,r⟩,B,A⟩:=st;obtain⟨C,G,V,U,T,S,R,d8,d9,HZ⟩:=D1;have M:∀{l:Addr}{its:List Value},PlainL s.heap l its.toArray->l≠z/\l≠TO/\l≠i1/\l≠j:=λ{l its} pl=>by
   obtain⟨o,n,e,c1,_,dd⟩:=pl;obtain⟨o1,g1,c4,_⟩:=B;obtain⟨o2,g2,c5,_⟩:=A;show⟨?_,?_,?_,?_⟩
   .rintro rfl;rw[m] at e;cases e;simp at c1
   .rintro rfl;rw[r] at e;cases e;simp at c1
   .rintro rfl;rw[g1] at e;cases e;rw[c4] at c1;simp at c1
   rintro rfl;rw[g2] at e;cases e;rw[c5] at c1;simp at c1
  obtain⟨e1,e2,e3,e4⟩:=M p;obtain⟨f1,f2,f3,f4⟩:=M L;have D:ZipApart z TI TO i1 j a b:=⟨C,G,V,U,T,S,R,d8,d9,HZ,e1,e2,e3,e4,f1,f2,f3,f4⟩
  have l1:=W.length;have l2:=Y.length;have Hz:its.toArray[i]?=none\/mD.toArray[i]?=none:=by
   rcases hx with hx | hx
   .exact .inl (by simp;ext)
   show .inr (by simp;ext)
  show wpAny_pyNext_zip_end (I.ok.hd f) D m t r B A p.isList L.isList Hz λh' O=>⟨rfl,I.kZ (fp:=[z,TI,TO,i1,j]) (t':=s.toks) (λc o f q=>O c o (λe=>f (by simp[e])) (λe=>f (by simp[e])) (λe=>f (by simp[e])) (λe=>f (by simp[e])) q) hf⟩
 self:=λ_ _ _ _ _ st h=>wpAny_pyIter_zip st.1 h
theorem Uh(n:Nat):(n+2:Nat)≠n+4/\(n+3:Nat)≠n+4/\n≠n+4/\(n+1:Nat)≠n+4/\(n+2:Nat)≠n+3/\(n+2:Nat)≠n/\(n+2:Nat)≠n+1/\(n+3:Nat)≠n/\(n+3:Nat)≠n+1/\n≠n+1:=by ext
def N5(K:J')(d:TA):TI:=λσ H R=>d σ H λc H1=>∃a b,c=[.ref a,.ref b]/\(∃xs,fT K H1 a xs)/\(∃ys,fT K H1 b ys)/\R (Ij K a b) H1
theorem O0{a b:Expr}{d:TA}{p pos:Pos}(hg:Gl X "zip")(hm:X.mg "zip"=none)(ha:PA X [a,b] d)(w:starEach [a,b] X.env=[(false,eval a X.env),(false,eval b X.env)]:=by rfl)(f:starEach [b] X.env=[(false,eval b X.env)]:=by rfl) :
  PI X (.Tuple elts x1 uu) (.Call (.Name "zip" p) [a,b] [] pos) (N5 X.K d):=by
 intro D s σ H R I h;show Call_ (tO I hg hm boot_zip (PyProof.Rows.callWith_type1 (ez (ha pos D s σ H _ I h) λus s1 ⟨E,H1,I1,k,m⟩=>?_) (by rw[w,f]) (by rw[f];rfl)));obtain⟨l,r,e,⟨xs,x⟩,⟨ys,C⟩,q⟩:=m;subst e;obtain⟨u,v,rfl,j,i⟩:=xV k;cases j;cases i;obtain⟨its,_,o,_⟩:=I1.list x;obtain⟨its',_,n,_⟩:=I1.list C;show call_zip_2 o.isList n.isList λh' g B A z y F t=>?_
 show wpAny_pyIter_zip g ?_;show⟨s1.heap.objs.size+4,[s1.heap.objs.size+4,s1.heap.objs.size+2,s1.heap.objs.size+3,s1.heap.objs.size,s1.heap.objs.size+1],_,_,H1,rfl,I1.kept (t':=s1.toks) t,SJ l r _ _ _ _ _ (Uh _),
  ⟨g,B,⟨_,_,A⟩,z,y⟩,λb hb=>?_,q⟩
 have c:s1.heap.objs.size<=b:=by
  simp only[ao,bD,or_false] at hb;rcases hb with rfl | rfl | rfl | rfl | rfl<;>first | show Nat.le_add_right _ _ | show ay _
 show I1.pI c (I1.dD.fresh c)
end
inductive D where
 | non | bl (b:Bool) | int (i:Int) | str (x:Str) | tup (ds:List D) | lst (ds:List D) | obj (cn:Str) (fs:List (Str×D)) | dic (dG:List (Key×D)) | dit (dG:List (List Key×D)) | exc (cn:Str) (fs:List (Str×D)) | idn (a:Addr) (d:D)
structure ClsAt(K:J')(cn:Str)(C:Addr):Prop where
 at_:PySem.W.nsIn K mainGlobals cn=some (some (.ref C))
 cls:v7 K C
def kM(H:Hp):List (List Key×V)->List Addr->Prop
 | [],[]=>True
 | p::ps,b::bs=>H b=some (.tup (p.1.map kV))/\kM H ps bs
 | _,_=>False
theorem kM.mono{H a:Hp}(e:cJ H a):∀{ps:List (List Key×V)}{bs:List Addr},kM H ps bs->kM a ps bs
 | [],[],h=>h
 | p::ps,b::bs,h=>⟨e _ _ h.1,kM.mono e h.2⟩
 | [],_::_,h=>h.elim
 | _::_,[],h=>h.elim
def uX(H:Hp):Option Addr->List (Str×V)->Prop
 | none,a=>a=[]
 | some d,a=>∃b,H d=some (.ext b)/\∀h:Heap,b h->∃c,h.Ns1 d c/\∀f v,a.lookup f=some v->∃u,c f=some u/\RelV v u
theorem uX.mono{H d:Hp}(e:cJ H d){dd:Option Addr}{c:List (Str×V)}(h:uX H dd c):uX d dd c:=by
 cases dd with
 | none=>show h
 | some g=>show let⟨f,a,b⟩:=h;⟨f,e _ _ a,b⟩
mutual
def Rep(K:J')(H:Hp):V->D->Prop
 | v,.non=>v=.non
 | v,.bl b=>v=.bl b
 | v,.int i=>v=.int i
 | v,.str x=>v=.str x
 | v,.tup ds=>∃a xs,v=.ref a/\H a=some (.tup xs)/\cx K H xs ds
 | v,.lst ds=>∃a xs,v=.ref a/\lM K H a xs/\cx K H xs ds
 | v,.obj g fs=>∃a C l e,v=.ref a/\H a=some (.ins C l e)/\ClsAt K g C/\(∀p∈fs,dg K C p.1)/\dF K H e fs
 | v,.dic f=>∃a c ep,v=.ref a/\H a=some (.dK c ep)/\e7 K H c f
 | v,.dit f=>∃a c bs,v=.ref a/\H a=some (.dT c bs)/\kM H c bs.1/\ig K H c f
 | v,.exc g fs=>∃a j C dd e,v=.ref a/\H a=some (.ext j)/\PySem.W.nsIn K mainGlobals g=some (some (.ref C))/\(∀h:Heap,j h->∃o,h.get? a=some o/\o.cls=.ref C/\(fs=[]\/o.dict=dd/\∃k,o.data=.fields k))/\(fs=[]\/uX H dd e)/\dF K H e fs
 | v,.idn a d=>v=.ref a/\Rep K H v d
def cx(K:J')(H:Hp):List V->List D->Prop
 | [],[]=>True
 | v::a,d::ds=>Rep K H v d/\cx K H a ds
 | _,_=>False
def dF(K:J')(H:Hp):List (Str×V)->List (Str×D)->Prop
 | [],[]=>True
 | v::a,d::ds=>(v.1=d.1/\Rep K H v.2 d.2)/\dF K H a ds
 | _,_=>False
def e7(K:J')(H:Hp):List (Key×V)->List (Key×D)->Prop
 | [],[]=>True
 | v::a,d::ds=>(v.1=d.1/\Rep K H v.2 d.2)/\e7 K H a ds
 | _,_=>False
def ig(K:J')(H:Hp):List (List Key×V)->List (List Key×D)->Prop
 | [],[]=>True
 | v::a,d::ds=>(v.1=d.1/\Rep K H v.2 d.2)/\ig K H a ds
 | _,_=>False
end
theorem cJ.oo{K:J'}{H b:Hp}{a:Addr}{xs:List V}(e:cJ H b)(h:H a=some (.tup xs)):gR K b a xs:=gR.of (e _ _ h)
theorem cJ.si{K:J'}{H b:Hp}{a:Addr}{xs:List V}(e:cJ H b)(h:gR K H a xs):gR K b a xs:=by
 rcases h with(h | ⟨o,h⟩) | h
 .exact .inl (.inl (e _ _ h))
 .exact .inl (.inr ⟨o,e _ _ h⟩)
 show .inr h
mutual
theorem Rep.mono{K:J'}{H o:Hp}(e:cJ H o):∀(v:V)(d:D),Rep K H v d->Rep K o v d
 | v,.non,h=>by simpa only[Rep] using h
 | v,.bl b,h=>by simpa only[Rep] using h
 | v,.int i,h=>by simpa only[Rep] using h
 | v,.str x,h=>by simpa only[Rep] using h
 | v,.tup ds,h=>by
  simp only[Rep] at h ⊢;obtain⟨a,xs,g,f,c⟩:=h;show⟨a,xs,g,e _ _ f,cx.mono e xs ds c⟩
 | v,.lst ds,h=>by
  simp only[Rep] at h ⊢;obtain⟨a,xs,g,f,c⟩:=h;show⟨a,xs,g,e.gI f,cx.mono e xs ds c⟩
 | v,.obj s fs,h=>by
  simp only[Rep] at h ⊢;obtain⟨a,C,r,l,g,f,c,k,m⟩:=h;show⟨a,C,r,l,g,e _ _ f,c,k,dF.mono e l fs m⟩
 | v,.dic n,h=>by
  simp only[Rep] at h ⊢;obtain⟨a,j,ep,g,f,c⟩:=h;show⟨a,j,ep,g,e _ _ f,e7.mono e j n c⟩
 | v,.dit n,h=>by
  simp only[Rep] at h ⊢;obtain⟨a,j,bs,g,f,c,k⟩:=h;show⟨a,j,bs,g,e _ _ f,c.mono e,ig.mono e j n k⟩
 | v,.exc s fs,h=>by
  simp only[Rep] at h ⊢;obtain⟨a,p,C,dd,l,g,f,c,k,m,q⟩:=h;show⟨a,p,C,dd,l,g,e _ _ f,c,k,m.imp id λz=>z.mono e,dF.mono e l fs q⟩
 | v,.idn a d,h=>by
  simp only[Rep] at h ⊢;show⟨h.1,Rep.mono e v d h.2⟩
theorem cx.mono{K:J'}{H b:Hp}(e:cJ H b):∀(a:List V)(ds:List D),cx K H a ds->cx K b a ds
 | [],[],h=>by simp only[cx]
 | v::a,d::ds,h=>by
  simp only[cx] at h ⊢;show⟨Rep.mono e v d h.1,cx.mono e a ds h.2⟩
 | [],_::_,h=>by simp only[cx] at h
 | _::_,[],h=>by simp only[cx] at h
theorem dF.mono{K:J'}{H b:Hp}(e:cJ H b):∀(a:List (Str×V))(ds:List (Str×D)),dF K H a ds->dF K b a ds
 | [],[],h=>by simp only[dF]
 | (x,v)::a,(y,d)::ds,h=>by
  simp only[dF] at h ⊢;show⟨⟨h.1.1,Rep.mono e v d h.1.2⟩,dF.mono e a ds h.2⟩
 | [],_::_,h=>by simp only[dF] at h
 | _::_,[],h=>by simp only[dF] at h
theorem e7.mono{K:J'}{H b:Hp}(e:cJ H b):∀(a:List (Key×V))(ds:List (Key×D)),e7 K H a ds->e7 K b a ds
 | [],[],h=>by simp only[e7]
 | (x,v)::a,(y,d)::ds,h=>by
  simp only[e7] at h ⊢;show⟨⟨h.1.1,Rep.mono e v d h.1.2⟩,e7.mono e a ds h.2⟩
 | [],_::_,h=>by simp only[e7] at h
 | _::_,[],h=>by simp only[e7] at h
theorem ig.mono{K:J'}{H b:Hp}(e:cJ H b):∀(a:List (List Key×V))(ds:List (List Key×D)),ig K H a ds->ig K b a ds
 | [],[],h=>by simp only[ig]
 | (x,v)::a,(y,d)::ds,h=>by
  simp only[ig] at h ⊢;show⟨⟨h.1.1,Rep.mono e v d h.1.2⟩,ig.mono e a ds h.2⟩
 | [],_::_,h=>by simp only[ig] at h
 | _::_,[],h=>by simp only[ig] at h
end
section
variable{K:J'}{H H':Hp}
theorem cx.length:∀{a:List V}{ds:List D},cx K H a ds->a.length=ds.length
 | [],[],_=>rfl
 | v::a,d::ds,h=>by
  simp only[cx] at h;simp only[aH,cx.length h.2]
 | [],_::_,h=>by simp only[cx] at h
 | _::_,[],h=>by simp only[cx] at h
theorem cx.get:∀{a:List V}{ds:List D}{i:Nat}{d:D},cx K H a ds->ds[i]?=some d->∃v,a[i]?=some v/\Rep K H v d
 | [],[],i,d,_,e=>by simp at e
 | v::a,d'::ds,0,d,h,e=>by
  simp only[cx] at h;simp only[List.getElem?_cons_zero,aZ] at e;subst e;show⟨v,rfl,h.1⟩
 | v::a,d'::ds,i+1,d,h,e=>by
  simp only[cx] at h;simp only[bR] at e ⊢;show cx.get h.2 e
 | [],_::_,_,_,h,_=>by simp only[cx] at h
 | _::_,[],_,_,h,_=>by simp only[cx] at h
theorem cx.Bl:∀{a:List V}{ds:List D}{i:Nat}{v:V},cx K H a ds->a[i]?=some v->∃d,ds[i]?=some d/\Rep K H v d
 | [],[],i,d,_,e=>by simp at e
 | b::a,d::ds,0,v,h,e=>by
  simp only[cx] at h;simp only[List.getElem?_cons_zero,aZ] at e;subst e;show⟨d,rfl,h.1⟩
 | b::a,d::ds,i+1,v,h,e=>by
  simp only[cx] at h;simp only[bR] at e ⊢;show cx.Bl h.2 e
 | [],_::_,_,_,h,_=>by simp only[cx] at h
 | _::_,[],_,_,h,_=>by simp only[cx] at h
theorem cx.nil:cx K H [] []:=by simp only[cx]
theorem cx.cons{v:V}{a:List V}{d:D}{ds:List D}(h:Rep K H v d)(b:cx K H a ds):cx K H (v::a) (d::ds):=by simp only[cx];show⟨h,b⟩
theorem cx.append:∀{a:List V}{ds:List D}{us:List V}{es:List D},cx K H a ds->cx K H us es->cx K H (a++us) (ds++es)
 | [],[],_,_,_,h=>h
 | v::a,d::ds,_,_,h,h'=>by
  simp only[cx] at h;show cx.cons h.1 (cx.append h.2 h')
 | [],_::_,_,_,h,_=>by simp only[cx] at h
 | _::_,[],_,_,h,_=>by simp only[cx] at h
theorem cx.take:∀{a:List V}{ds:List D}(n:Nat),cx K H a ds->cx K H (a.take n) (ds.take n)
 | _,_,0,_=>cx.nil
 | [],[],_+1,_=>cx.nil
 | v::a,d::ds,n+1,h=>by
  simp only[cx] at h;show cx.cons h.1 (cx.take n h.2)
 | [],_::_,_+1,h=>by simp only[cx] at h
 | _::_,[],_+1,h=>by simp only[cx] at h
theorem cx.drop:∀{a:List V}{ds:List D}(n:Nat),cx K H a ds->cx K H (a.drop n) (ds.drop n)
 | _,_,0,h=>h
 | [],[],_+1,_=>cx.nil
 | v::a,d::ds,n+1,h=>by
  simp only[cx] at h;show cx.drop n h.2
 | [],_::_,_+1,h=>by simp only[cx] at h
 | _::_,[],_+1,h=>by simp only[cx] at h
theorem cx.set:∀{a:List V}{ds:List D}{v:V}{d:D}(n:Nat),cx K H a ds->Rep K H v d->cx K H (a.set n v) (ds.set n d)
 | [],[],_,_,_,_,_=>cx.nil
 | b::a,d'::ds,v,d,0,h,q=>by
  simp only[cx] at h;show cx.cons q h.2
 | b::a,d'::ds,v,d,n+1,h,q=>by
  simp only[cx] at h;show cx.cons h.1 (cx.set n h.2 q)
 | [],_::_,_,_,_,h,_=>by simp only[cx] at h
 | _::_,[],_,_,_,h,_=>by simp only[cx] at h
end
structure Ext(G H G' H':Hp):Prop where
 g:cJ G G'
 h:cJ H H'
 s:cJ G' H'
 n:∀p,G p=none->H p≠none->G' p=none
theorem Ext.refl{G H:Hp}(s:cJ G H):Ext G H G H:=⟨cJ.refl _,cJ.refl _,s,λ_ h _=>h⟩
theorem Ext.trans{G H i e f d:Hp}(a:Ext G H i e)(b:Ext i e f d):Ext G H f d:=
 ⟨a.g.trans b.g,a.h.trans b.h,b.s,λp j c=>b.n p (a.n p j c) λz=>c (a.h.free z)⟩
theorem vn{H:Hp}{p:Addr}{o:HO}(h:H p=none):cJ H (upd H p o):=λb u e=>by rw[eG (kf e h)];show e
theorem Ug{G H:Hp}{p:Addr}{o:HO}(s:cJ G H):cJ (upd G p o) (upd H p o):=λb u e=>by
 by_cases hb:b=p
 .subst hb;rw[jb] at e ⊢;show e
 rw[eG hb] at e ⊢;show s b u e
theorem Ext.new{G H:Hp}{p:Addr}{o:HO}(s:cJ G H)(h:H p=none):Ext G H (upd G p o) (upd H p o):=
 ⟨vn (s.free h),vn h,Ug s,λq b a=>by rw[eG (λz=>a (by rw[z];show h))];show b⟩
theorem Ext.own{G H:Hp}{p:Addr}{o:HO}(s:cJ G H)(h:H p=none):Ext G H G (upd H p o):=
 ⟨cJ.refl _,vn h,s.trans (vn h),λq a _=>a⟩
inductive OV where
 | ll (eW:List (List D))
 | dc (dG:List (Key×D))
 | dl (dG:List (Key×List D))
 | tl (d:D) (ds:List D)
 | ld (xy:List (List (Key×D)))
 | dt (dG:List (List Key×List D))
 | tp (ds:List D)
 | ob (cn:Str) (fs:List (Str×List D))
 | dq (dG:List (List Key×D))
noncomputable def OV.val:OV->D
 | .ll c=>.lst (c.map .lst)
 | .dc a=>.dic a
 | .dl a=>.dic (a.map λp=>(p.1,.lst p.2))
 | .tl d ds=>.tup [d,.lst ds]
 | .ld b=>.lst (b.map .dic)
 | .dt a=>.dit (a.map λp=>(p.1,.lst p.2))
 | .tp ds=>.tup ds
 | .ob e fs=>.obj e (fs.map λp=>(p.1,.lst p.2))
 | .dq a=>.dit a
inductive R where
 | fz (d:D)
 | ow (ds:List D)
 | ov (o:OV)
noncomputable def R.val:R->D
 | .fz d=>d
 | .ow ds=>.lst ds
 | .ov o=>o.val
inductive Sl where
 | un
 | fz (d:D)
 | ow (ds:List D)
 | ov (o:OV)
noncomputable def R.sl:R->Sl
 | .fz d=>.fz d
 | .ow ds=>.ow ds
 | .ov o=>.ov o
def cR(K:J')(G H:Hp):List Addr->List (List D)->Prop
 | [],[]=>True
 | q::a,ds::b=>(∃xs,H q=some (.lst xs)/\cx K G xs ds)/\cR K G H a b
 | _,_=>False
theorem cR.mono{K:J'}{G H d c:Hp}(g:cJ G d):∀{a:List Addr}{b:List (List D)},(∀q∈a,∀xs,H q=some (.lst xs)->c q=some (.lst xs))->cR K G H a b->cR K d c a b
 | [],[],_,_=>by simp only[cR]
 | q::a,ds::b,hh,h=>by
  simp only[cR] at h ⊢;obtain⟨⟨xs,j,i⟩,f⟩:=h;show⟨⟨xs,hh q (by simp) xs j,i.mono g⟩,cR.mono g (λr e=>hh r (by simp[e])) f⟩
 | [],_::_,_,h=>by simp only[cR] at h
 | _::_,[],_,h=>by simp only[cR] at h
theorem cR.here{K:J'}{G H:Hp}:∀{a:List Addr}{c:List (List D)},cR K G H a c->∀q∈a,H q≠none
 | [],[],_,q,d=>by cases d
 | q::a,ds::c,h,r,b=>by
  simp only[cR] at h;obtain⟨⟨xs,f,g⟩,e⟩:=h;rcases ao.mp b with rfl | b
  .rw[f];show nofun
  show cR.here e r b
 | [],_::_,h,_,_=>by simp only[cR] at h
 | _::_,[],h,_,_=>by simp only[cR] at h
theorem cR.oq{K:J'}{G H c:Hp}(g:cJ G c):∀{a:List Addr}{b:List (List D)},(∀q∈a,∀xs,H q=some (.lst xs)->c q=some (.lst xs))->cR K G H a b->cx K c (a.map V.ref) (b.map D.lst)
 | [],[],_,_=>cx.nil
 | q::a,ds::b,hh,h=>by
  simp only[cR] at h;obtain⟨⟨xs,i,f⟩,e⟩:=h;show cx.cons ?_ (cR.oq g (λr d=>hh r (by simp[d])) e);simp only[Rep];show⟨q,xs,rfl,lM.of (hh q (by simp) xs i),f.mono g⟩
 | [],_::_,_,h=>by simp only[cR] at h
 | _::_,[],_,h=>by simp only[cR] at h
def gu(K:J')(G H:Hp):List Addr->List (List (Key×D))->Prop
 | [],[]=>True
 | q::b,ds::c=>(∃a ep,H q=some (.dK a ep)/\e7 K G a ds)/\gu K G H b c
 | _,_=>False
theorem gu.mono{K:J'}{G H d c:Hp}(g:cJ G d):∀{a:List Addr}{b:List (List (Key×D))},(∀q∈a,∀u,H q=some u->c q=some u)->gu K G H a b->gu K d c a b
 | [],[],_,_=>by simp only[gu]
 | q::a,ds::b,hh,h=>by
  simp only[gu] at h ⊢;obtain⟨⟨e,ep,k,j⟩,i⟩:=h;show⟨⟨e,ep,hh q (by simp) _ k,e7.mono g _ _ j⟩,gu.mono g (λr f=>hh r (by simp[f])) i⟩
 | [],_::_,_,h=>by simp only[gu] at h
 | _::_,[],_,h=>by simp only[gu] at h
theorem gu.kind{K:J'}{G H:Hp}:∀{a:List Addr}{d:List (List (Key×D))},gu K G H a d->∀q∈a,∃b ep,H q=some (.dK b ep)
 | [],[],_,q,e=>by cases e
 | q::a,ds::d,h,r,c=>by
  simp only[gu] at h;obtain⟨⟨b,ep,g,i⟩,f⟩:=h;rcases ao.mp c with rfl | c
  .exact⟨b,ep,g⟩
  show gu.kind f r c
 | [],_::_,h,_,_=>by simp only[gu] at h
 | _::_,[],h,_,_=>by simp only[gu] at h
theorem gu.here{K:J'}{G H:Hp}{a:List Addr}{c:List (List (Key×D))}(h:gu K G H a c):∀q∈a,H q≠none:=λq b=>by
 obtain⟨d,ep,e⟩:=h.kind q b;rw[e];show nofun
theorem gu.oq{K:J'}{G H c:Hp}(g:cJ G c):∀{a:List Addr}{b:List (List (Key×D))},(∀q∈a,∀u,H q=some u->c q=some u)->gu K G H a b->cx K c (a.map V.ref) (b.map D.dic)
 | [],[],_,_=>cx.nil
 | q::a,ds::b,hh,h=>by
  simp only[gu] at h;obtain⟨⟨d,ep,j,i⟩,f⟩:=h;show cx.cons ?_ (gu.oq g (λr e=>hh r (by simp[e])) f);simp only[Rep];show⟨q,d,ep,rfl,hh q (by simp) _ j,e7.mono g _ _ i⟩
 | [],_::_,_,h=>by simp only[gu] at h
 | _::_,[],_,h=>by simp only[gu] at h
def kB(K:J')(G H:Hp)(p:Addr)(fp:List Addr):OV->Prop
 | .ll f=>H p=some (.lst (fp.map V.ref))/\cR K G H fp f
 | .dc b=>fp=[]/\∃a ep,H p=some (.dK a ep)/\e7 K G a b
 | .dl b=>∃a ep,H p=some (.dK a ep)/\a.map (·.1)=b.map (·.1)/\a.map (·.2)=fp.map V.ref/\cR K G H fp (b.map (·.2))
 | .tl d ds=>∃q v xs,fp=[q]/\H p=some (.tup [v,.ref q])/\Rep K G v d/\H q=some (.lst xs)/\cx K G xs ds
 | .ld e=>H p=some (.lst (fp.map V.ref))/\gu K G H fp e
 | .dt b=>∃a bs,H p=some (.dT a bs)/\kM G a bs.1/\a.map (·.1)=b.map (·.1)/\a.map (·.2)=fp.map V.ref/\cR K G H fp (b.map (·.2))
 | .tp ds=>fp=[]/\∃xs,H p=some (.tup xs)/\cx K G xs ds
 | .ob h fs=>∃C g c,H p=some (.ins C g c)/\ClsAt K h C/\(∀p∈fs,dg K C p.1)/\c.map (·.1)=fs.map (·.1)/\c.map (·.2)=fp.map V.ref/\cR K G H fp (fs.map (·.2))
 | .dq b=>fp=[]/\∃a bs,H p=some (.dT a bs)/\kM G a bs.1/\ig K G a b
theorem kB.here{K:J'}{G H:Hp}{p:Addr}{fp:List Addr}{o:OV}(h:kB K G H p fp o):∀q∈p::fp,H q≠none:=by
 intro q a;cases o with
 | ll k=>
  rcases ao.mp a with rfl | a
  .rw[h.1];show nofun
  show h.2.here q a
 | dc f=>
  obtain⟨rfl,e,ep,b,_⟩:=h;simp only[br] at a;subst a;rw[b];show nofun
 | dl f=>
  obtain⟨e,ep,b,_,_,c⟩:=h;rcases ao.mp a with rfl | a
  .rw[b];show nofun
  show c.here q a
 | tl d ds=>
  obtain⟨r,v,xs,rfl,b,_,g,_⟩:=h;simp only[ao,bD,or_false] at a;rcases a with rfl | rfl
  .rw[b];show nofun
  rw[g];show nofun
 | ld i=>
  rcases ao.mp a with rfl | a
  .rw[h.1];show nofun
  show h.2.here q a
 | dt f=>
  obtain⟨e,bs,b,_,_,_,c⟩:=h;rcases ao.mp a with rfl | a
  .rw[b];show nofun
  show c.here q a
 | tp ds=>
  obtain⟨rfl,xs,b,_⟩:=h;simp only[br] at a;subst a;rw[b];show nofun
 | ob m fs=>
  obtain⟨C,l,j,b,_,_,_,_,c⟩:=h;rcases ao.mp a with rfl | a
  .rw[b];show nofun
  show c.here q a
 | dq f=>
  obtain⟨rfl,e,bs,b,_⟩:=h;simp only[br] at a;subst a;rw[b];show nofun
theorem kB.mono{K:J'}{G H m l:Hp}{p:Addr}{fp:List Addr}{o:OV}(g:cJ G m)(hh:∀q∈p::fp,∀u,H q=some u->l q=some u)(h:kB K G H p fp o):kB K m l p fp o:=by
 cases o with
 | ll x=>show⟨hh p (by simp) _ h.1,h.2.mono g λq c xs=>hh q (by simp[c]) _⟩
 | dc k=>
  obtain⟨rfl,e,ep,b,a⟩:=h;show⟨rfl,e,ep,hh p (by simp) _ b,e7.mono g _ _ a⟩
 | dl k=>
  obtain⟨e,ep,b,a,i,f⟩:=h;show⟨e,ep,hh p (by simp) _ b,a,i,f.mono g λq c xs=>hh q (by simp[c]) _⟩
 | tl d ds=>
  obtain⟨r,v,xs,rfl,b,a,i,f⟩:=h;show⟨r,v,xs,rfl,hh p (by simp) _ b,a.mono g,hh r (by simp) _ i,f.mono g⟩
 | ld w=>show⟨hh p (by simp) _ h.1,h.2.mono g λq c=>hh q (by simp[c])⟩
 | dt k=>
  obtain⟨e,bs,b,j,a,i,f⟩:=h;show⟨e,bs,hh p (by simp) _ b,j.mono g,a,i,f.mono g λq c xs=>hh q (by simp[c]) _⟩
 | tp ds=>
  obtain⟨rfl,xs,b,a⟩:=h;show⟨rfl,xs,hh p (by simp) _ b,a.mono g⟩
 | ob y fs=>
  obtain⟨C,t,s,b,n,hn,a,i,f⟩:=h;show⟨C,t,s,hh p (by simp) _ b,n,hn,a,i,f.mono g λq c xs=>hh q (by simp[c]) _⟩
 | dq k=>
  obtain⟨rfl,e,bs,b,j,a⟩:=h;show⟨rfl,e,bs,hh p (by simp) _ b,j.mono g,ig.mono g _ _ a⟩
theorem e7.f7{K:J'}{G:Hp}:∀{c:List (Key×V)}{e:List (Key×List D)}{fp:List Addr},c.map (·.1)=e.map (·.1)->c.map (·.2)=fp.map V.ref->cx K G (fp.map V.ref) ((e.map (·.2)).map D.lst)->e7 K G c (e.map λp=>(p.1,.lst p.2))
 | [],[],_,_,_,_=>by simp only[List.map_nil,e7]
 | a::c,b::e,fp,g,d,f=>by
  simp only[az,List.cons.injEq] at g;cases fp with
  | nil=>simp at d
  | cons q fp=>
   simp only[az,List.cons.injEq] at d;simp only[az,cx] at f;simp only[az,e7];show⟨⟨g.1,by rw[d.1];show f.1⟩,e7.f7 g.2 d.2 f.2⟩
 | [],_::_,_,h,_,_=>by simp at h
 | _::_,[],_,h,_,_=>by simp at h
theorem ig.f7{K:J'}{G:Hp}:∀{c:List (List Key×V)}{e:List (List Key×List D)}{fp:List Addr},c.map (·.1)=e.map (·.1)->c.map (·.2)=fp.map V.ref->cx K G (fp.map V.ref) ((e.map (·.2)).map D.lst)->ig K G c (e.map λp=>(p.1,.lst p.2))
 | [],[],_,_,_,_=>by simp only[List.map_nil,ig]
 | a::c,b::e,fp,g,d,f=>by
  simp only[az,List.cons.injEq] at g;cases fp with
  | nil=>simp at d
  | cons q fp=>
   simp only[az,List.cons.injEq] at d;simp only[az,cx] at f;simp only[az,ig];show⟨⟨g.1,by rw[d.1];show f.1⟩,ig.f7 g.2 d.2 f.2⟩
 | [],_::_,_,h,_,_=>by simp at h
 | _::_,[],_,h,_,_=>by simp at h
theorem dF.f7{K:J'}{G:Hp}:∀{c:List (Str×V)}{e:List (Str×List D)}{fp:List Addr},c.map (·.1)=e.map (·.1)->c.map (·.2)=fp.map V.ref->cx K G (fp.map V.ref) ((e.map (·.2)).map D.lst)->dF K G c (e.map λp=>(p.1,.lst p.2))
 | [],[],_,_,_,_=>by simp only[List.map_nil,dF]
 | a::c,b::e,fp,g,d,f=>by
  simp only[az,List.cons.injEq] at g;cases fp with
  | nil=>simp at d
  | cons q fp=>
   simp only[az,List.cons.injEq] at d;simp only[az,cx] at f;simp only[az,dF];show⟨⟨g.1,by rw[d.1];show f.1⟩,dF.f7 g.2 d.2 f.2⟩
 | [],_::_,_,h,_,_=>by simp at h
 | _::_,[],_,h,_,_=>by simp at h
noncomputable def qt(G H:Hp)(l:List Addr):Hp:=λa=>if a∈l then H a else G a
theorem tQ{G H:Hp}{l:List Addr}{a:Addr}(h:a∈l):qt G H l a=H a:=if_pos h
theorem se{G H:Hp}{l:List Addr}{a:Addr}(h:a∉l):qt G H l a=G a:=if_neg h
theorem zB{G H:Hp}{l:List Addr}(h:∀q∈l,G q=none):cJ G (qt G H l):=λb u e=>by
 rw[se (λz=>by rw[h b z] at e;cases e)];show e
theorem kB.freeze{K:J'}{G H:Hp}{p:Addr}{fp:List Addr}{o:OV}(h:kB K G H p fp o)(hn:∀q∈p::fp,G q=none):Rep K (qt G H (p::fp)) (.ref p) o.val:=by
 have c:=zB (H:=H) hn;have g:qt G H (p::fp) p=H p:=tQ (by simp);cases o with
 | ll z=>
  simp only[OV.val,Rep];show⟨p,_,rfl,lM.of (by rw[g];show h.1),h.2.oq c λq f xs e=>by rw[tQ (by simp[f])];show e⟩
 | dc m=>
  obtain⟨rfl,i,ep,b,a⟩:=h;simp only[OV.val,Rep];show⟨p,i,ep,rfl,by rw[g];show b,e7.mono c _ _ a⟩
 | dl m=>
  obtain⟨i,ep,b,a,k,j⟩:=h;simp only[OV.val,Rep];show⟨p,i,ep,rfl,by rw[g];show b,e7.f7 a k (j.oq c λq f xs e=>by rw[tQ (by simp[f])];show e)⟩
 | tl d ds=>
  obtain⟨r,v,xs,rfl,b,a,k,j⟩:=h;simp only[OV.val,Rep];show⟨p,_,rfl,(by rw[g];show b),cx.cons (a.mono c) (cx.cons ?_ cx.nil)⟩;simp only[Rep];show⟨r,xs,rfl,lM.of (by rw[tQ (by simp)];show k),j.mono c⟩
 | dt m=>
  obtain⟨i,bs,b,l,a,k,j⟩:=h;simp only[OV.val,Rep];show⟨p,i,bs,rfl,by rw[g];show b,l.mono c,ig.f7 a k (j.oq c λq f xs e=>by rw[tQ (by simp[f])];show e)⟩
 | tp ds=>
  obtain⟨rfl,xs,b,a⟩:=h;simp only[OV.val,Rep];show⟨p,xs,rfl,(by rw[g];show b),a.mono c⟩
 | ob A fs=>
  obtain⟨C,x,w,b,t,hn,a,k,j⟩:=h;simp only[OV.val,Rep];show⟨p,C,x,w,rfl,by rw[g];show b,t,λu s=>?_,dF.f7 a k (j.oq c λq f xs e=>by rw[tQ (by simp[f])];show e)⟩;obtain⟨v,n,rfl⟩:=aR.mp s;show hn v n
 | ld y=>
  simp only[OV.val,Rep];show⟨p,_,rfl,lM.of (by rw[g];show h.1),h.2.oq c λq f u e=>by rw[tQ (by simp[f])];show e⟩
 | dq m=>
  obtain⟨rfl,i,bs,b,l,a⟩:=h;simp only[OV.val,Rep];show⟨p,i,bs,rfl,by rw[g];show b,l.mono c,ig.mono c _ _ a⟩
noncomputable abbrev Ev:=List Sl
noncomputable def gt:Ev->Nat->Sl
 | [],_=>.un
 | a::_,0=>a
 | _::r,n+1=>gt r n
theorem wt{b:Ev}{i j:Nat}{s:Sl}:gt (b.set i s) j=if i=j/\j<b.length then s else gt b j:=by
 induction b generalizing i j with
 | nil=>simp[gt]
 | cons a r c=>
  cases i with
  | zero=>
   cases j with
   | zero=>simp[gt]
   | succ j=>simp[gt]
  | succ i=>
   cases j with
   | zero=>simp[gt]
   | succ j=>simp[gt,c]
def eZ(K:J')(a b H:Hp)(v:V):R->Prop
 | .fz d=>Rep K a v d
 | .ow ds=>∃p xs,v=.ref p/\H p=none/\a p=none/\b p=some (.lst xs)/\cx K a xs ds
 | .ov o=>∃p fp,v=.ref p/\(p::fp).Nodup/\kB K a b p fp o/\∀q∈p::fp,H q=none/\a q=none
structure dU(K:J')(G0 H0:Hp)(ρ:Ev)(σ:St)(G H:Hp):Prop where
 e:Ext G0 H0 G H
 len:σ.length=ρ.length
 fz:∀i d,gt ρ i=.fz d->∃v,σ[i]?=some (some v)/\Rep K G v d
 ow:∀i ds,gt ρ i=.ow ds->∃p xs,σ[i]?=some (some (.ref p))/\H p=some (.lst xs)/\G p=none/\H0 p=none/\cx K G xs ds
 dj:∀i j ds es,i≠j->gt ρ i=.ow ds->gt ρ j=.ow es->σ[i]?≠σ[j]?
 on:∃own:Addr->Option Nat,(∀i ds p,gt ρ i=.ow ds->σ[i]?=some (some (.ref p))->own p=some i)/\∀i o,gt ρ i=.ov o->∃p fp,σ[i]?=some (some (.ref p))/\(p::fp).Nodup/\kB K G H p fp o/\∀q∈p::fp,G q=none/\H0 q=none/\own q=some i
section
variable{K:J'}{G0 H0 G H G' H' G2 H2:Hp}{ρ:Ev}{σ:St}{v:V}
theorem dU.ext(E:dU K G0 H0 ρ σ G H)(x:Ext G H G' H'):dU K G0 H0 ρ σ G' H' where
 e:=E.e.trans x
 len:=E.len
 fz:=λi d h=>let⟨v,b,a⟩:=E.fz i d h;⟨v,b,a.mono x.g⟩
 ow:=λi ds h=>let⟨p,xs,b,a,m,l,k⟩:=E.ow i ds h;⟨p,xs,b,x.h _ _ a,x.n p m (by rw[a];show nofun),l,k.mono x.g⟩
 dj:=E.dj
 on:=by
  obtain⟨own,b,a⟩:=E.on;show⟨own,b,λi o h=>?_⟩;obtain⟨p,fp,s,r,j,f⟩:=a i o h;show⟨p,fp,s,r,j.mono x.g λq _ u e=>x.h q u e,λq c=>⟨x.n q (f q c).1 (j.here q c),(f q c).2⟩⟩
theorem eZ.freeze{r:R}(x:Ext G H G' H')(h:eZ K G' H' H v r):∃G2,Ext G H G2 H'/\Rep K G2 v r.val/\cJ G' G2:=by
 cases r with
 | fz d=>show⟨G',x,h,cJ.refl _⟩
 | ow ds=>
  obtain⟨p,xs,j,i,a,m,l⟩:=h;show⟨upd G' p (.lst xs),⟨x.g.trans (vn a),x.h,λb o e=>?_,λq f c=>?_⟩,?_,vn a⟩
  .by_cases hb:b=p
   .subst hb;rw[jb] at e;rw[m];show e
   rw[eG hb] at e;show x.s b o e
  .rw[eG (λz=>c (by rw[z];show i))];show x.n q f c
  show Rep K (upd G' p (.lst xs)) v (.lst ds);simp only[Rep];show⟨p,xs,j,lM.of jb,l.mono (vn a)⟩
 | ov o=>
  obtain⟨p,fp,rfl,j,i,a⟩:=h;have hn:∀q∈p::fp,G' q=none:=λq k=>(a q k).2
  show⟨qt G' H' (p::fp),⟨x.g.trans (zB hn),x.h,λb u e=>?_,λq f c=>?_⟩,i.freeze hn,zB hn⟩
  .by_cases hb:b∈p::fp
   .rw[tQ hb] at e;show e
   rw[se hb] at e;show x.s b u e
  rw[se (λz=>c (a q z).1)];show x.n q f c
theorem eZ.ie{r:R}{g f:Hp}(s:cJ f g)(h:eZ K G' H' g v r):eZ K G' H' f v r:=by
 cases r with
 | fz d=>show h
 | ow ds=>
  obtain⟨p,xs,c,b,a,j,i⟩:=h;show⟨p,xs,c,s.free b,a,j,i⟩
 | ov o=>
  obtain⟨p,fp,rfl,c,b,a⟩:=h;show⟨p,fp,rfl,c,b,λq e=>⟨s.free (a q e).1,(a q e).2⟩⟩
end
noncomputable abbrev TD:=Ev->(R->Prop)->Prop
noncomputable abbrev jA:=Ev->(Bool->Prop)->Prop
noncomputable abbrev iW:=Ev->(List D->Prop)->Prop
structure DE where
 nx:Ev->Prop
 rt:R->Prop
 bk:Ev->Prop:=λ_=>False
 ct:Ev->Prop:=λ_=>False
noncomputable abbrev TX:=DE->Ev->Prop
def PD(X:Cx)(e:Expr)(t:TD):Prop:=∃tt,PE X e tt/\∀(b:Ev)(σ:St)(f d G H:Hp)(Q:R->Prop)(P:VK),dU X.K f d b σ G H->t b Q->
 (∀v a r c,Ext G H c a->eZ X.K c a H v r->Q r->P v a)->tt σ H P
def PB(X:Cx)(e:Expr)(t:jA):Prop:=∃tt,PT X e tt/\∀(a:Ev)(σ:St)(f d G H:Hp)(Q:Bool->Prop)(P:Bool->Hp->Prop),dU X.K f d a σ G H->t a Q->
 (∀b c g,Ext G H g c->Q b->P b c)->tt σ H P
def mI(X:Cx)(es:List Expr)(t:iW):Prop:=∃tt,PA X es tt/\∀(a:Ev)(σ:St)(f e G H:Hp)(Q:List D->Prop)(P:List V->Hp->Prop),dU X.K f e a σ G H->t a Q->
 (∀b c ds d,Ext G H d c->cx X.K d b ds->Q ds->P b c)->tt σ H P
structure Goes(K:J')(G0 H0 G:Hp)(D:DE)(E:Ends):Prop where
 nx:∀ρ σ G' H',cJ G G'->dU K G0 H0 ρ σ G' H'->D.nx ρ->E.nx σ H'
 rt:∀v H' r G',Ext G0 H0 G' H'->eZ K G' H' H0 v r->D.rt r->E.rt v H'
 bk:∀ρ σ G' H',cJ G G'->dU K G0 H0 ρ σ G' H'->D.bk ρ->E.bk σ H'
 ct:∀ρ σ G' H',cJ G G'->dU K G0 H0 ρ σ G' H'->D.ct ρ->E.ct σ H'
theorem Goes.shift{K:J'}{e d G f:Hp}{D:DE}{E:Ends}(g:Goes K e d G D E)(s:cJ G f):Goes K e d f D E:=
 ⟨λa σ c b s2=>g.nx a σ c b (s.trans s2),g.rt,λa σ c b s2=>g.bk a σ c b (s.trans s2),λa σ c b s2=>g.ct a σ c b (s.trans s2)⟩
def PX(X:Cx)(st:Stmt)(t:TX):Prop:=∃tt,PS X st tt/\∀(a:Ev)(σ:St)(c b G H:Hp)(D:DE)(E:Ends),dU X.K c b a σ G H->t D a->Goes X.K c b G D E->tt E σ H
def oN(X:Cx)(st:List Stmt)(t:TX):Prop:=∃tt,nW X st tt/\∀(a:Ev)(σ:St)(c b G H:Hp)(D:DE)(E:Ends),dU X.K c b a σ G H->t D a->Goes X.K c b G D E->tt E σ H
section
variable{X:Cx}{pos:Pos}{a b c:Expr}{ta tb tc:TD}
theorem gf{K:J'}{a b H:Hp}{v:V}{d:D}(h:Rep K a v d):eZ K a b H v (.fz d):=h
def cf(i:Nat):TD:=λa Q=>match gt a i with
 | .fz d=>Q (.fz d)
 | _=>False
theorem cj(i:Nat){x:Str}(c:X.N[i]?=some x:=by rfl)(b:oM X.env.scope x:=by first | show Or.inl rfl | show Or.inr (Or.inl rfl) | show Or.inr (Or.inr rfl))(hd:(x==("__debug__":Str))=false:=by decide)
  (a:(x==("__classdict__":Str))=false:=by decide):PD X (.Name x pos) (cf i):=by
 show⟨_,rB c b hd a,λj σ m l G H Q P E h k=>?_⟩;unfold cf at h;split at h
 .rename_i d e;obtain⟨v,g,f⟩:=E.fz i d e;show⟨v,g,k v H (.fz d) G (.refl E.e.s) f h⟩
 show h.elim
def dC(d:D):TD:=λ_ Q=>Q (.fz d)
theorem CH{e:Expr}{v:V}{d:D}(h:PE X e (tC v))(r:∀K G,Rep K G v d):PD X e (dC d):=
 ⟨_,h,λa σ c b G H Q P E h k=>k v H (.fz d) G (.refl E.e.s) (r _ _) h⟩
theorem kP(K:J')(G:Hp)(i:Int):Rep K G (.int i) (.int i):=by simp only[Rep]
theorem kF(K:J')(G:Hp)(i:Bool):Rep K G (.bl i) (.bl i):=by simp only[Rep]
theorem yd(K:J')(G:Hp)(i:Str):Rep K G (.str i) (.str i):=by simp only[Rep]
theorem Cn(K:J')(G:Hp):Rep K G .non .non:=by simp only[Rep]
theorem cE{i j}:PD X (.Constant (.int i) j pos) (dC (.int i)):=CH Qh λK G=>kP K G i
theorem rq{i j}:PD X (.Constant (.bool i) j pos) (dC (.bl i)):=CH Oh λK G=>kF K G i
theorem oh{i j}:PD X (.Constant (.str i) j pos) (dC (.str i)):=CH Qf λK G=>yd K G i
theorem kO{j}:PD X (.Constant .none j pos) (dC .non):=CH Qg λK G=>Cn K G
noncomputable abbrev O2:=D->D->(R->Prop)->Prop
def lN(X:Cx)(f:Value->Value->Sem Value)(o:O2):Prop:=∃r:R2,i6 X f r/\∀(G H:Hp)(x y:V)(d e:D)(Q:R->Prop)(P:VK),cJ G H->Rep X.K G x d->Rep X.K G y e->o d e Q->
 (∀v a b c,Ext G H c a->eZ X.K c a H v b->Q b->P v a)->r x y H P
def cA(o:O2)(ta tb:TD):TD:=λa Q=>ta a λc=>tb a λb=>o c.val b.val Q
theorem Cb{r:R2}{o:O2}{p q:TE}
  (M:∀(G H:Hp)(x y:V)(d e:D)(Q:R->Prop)(P:VK),cJ G H->Rep X.K G x d->Rep X.K G y e->o d e Q->(∀v a m b,Ext G H b a->eZ X.K b a H v m->Q m->P v a)->r x y H P)
  (ha:∀(f:Ev)(c:St)(j i G H:Hp)(Q:R->Prop)(P:VK),dU X.K j i f c G H->ta f Q->(∀v a r b,Ext G H b a->eZ X.K b a H v r->Q r->P v a)->p c H P)
  (hb:∀(f:Ev)(c:St)(j i G H:Hp)(Q:R->Prop)(P:VK),dU X.K j i f c G H->tb f Q->(∀v a r b,Ext G H b a->eZ X.K b a H v r->Q r->P v a)->q c H P)
  (f:Ev) (c:St) (j i G H:Hp) (Q:R->Prop) (P:VK) (E:dU X.K j i f c G H) (h:cA o ta tb f Q) (k:∀v a r b,Ext G H b a->eZ X.K b a H v r->Q r->P v a):Ar r p q c H P:=by
 show ha f c j i G H _ _ E h λv H1 Z G1 A I S=>?_
 obtain⟨T,n,L,_⟩:=I.freeze A;show hb f c j i T H1 _ _ (E.ext n) S λu U Y G2 z F O=>?_
 obtain⟨W,l,J,_⟩:=F.freeze z;show M W U v u _ _ Q P l.s (L.mono l.g) J O λB a m b w C N=>?_
 have t:=(n.trans l).trans w;show k B a m b t (C.ie (n.trans l).h) N
theorem cO{c:Operator}{o:O2}(i:lN X (binaryOp c) o)(ha:PD X a ta)(hb:PD X b tb):PD X (.BinOp a c b pos) (cA o ta tb):=by
 obtain⟨r,h,f⟩:=i;obtain⟨j,g,e⟩:=ha;obtain⟨k,pb,d⟩:=hb;show⟨_,OI h g pb,Cb f e d⟩
theorem vf{c:CmpOp}{o:O2}(i:lN X (compareOp c) o)(ha:PD X a ta)(hb:PD X b tb)(hm:behindInMarks c b=false:=by first | show Jx _ | rfl):PD X (.Compare a [c] [b] pos) (cA o ta tb):=by
 obtain⟨r,h,f⟩:=i;obtain⟨j,g,e⟩:=ha;obtain⟨k,pb,d⟩:=hb;show⟨_,Q3 h g pb hm,Cb f e d⟩
def dA(t:TD):jA:=λa Q=>t a λr=>match r with
 | .fz (.bl k)=>Q k
 | _=>False
theorem eI{c:CmpOp}{o:O2}(s:lN X (compareOp c) o)(ha:PD X a ta)(hb:PD X b tb)(hm:behindInMarks c b=false:=by first | show Jx _ | rfl):PB X (.Compare a [c] [b] pos) (dA (cA o ta tb)):=by
 obtain⟨r,q,n⟩:=s;obtain⟨y,p,m⟩:=ha;obtain⟨z,pb,l⟩:=hb;show⟨_,Q2 q p pb hm,λg σ w t G H Q P E h k=>?_⟩;show Cb n m l g σ w t G H _ _ E h λv u r x i j f=>?_
 split at f
 .rename_i d;have e:v=.bl d:=by simpa only[eZ,Rep] using j
  show⟨d,e,k d u x i f⟩
 show f.elim
theorem tN{e:Expr}{t:TD}(h:PD X e t)(he:∀whole,isTrue e X.env whole=(do let v <-whole;standAt e.pos;holding [v] (truthy v)):=by intro _;rfl):PB X e (dA t):=by
 obtain⟨tt,p,q⟩:=h;show⟨_,QC p he,λc σ j g G H Q P E h k=>?_⟩;show q c σ j g G H _ _ E h λv i r l d f b=>?_
 split at b
 .rename_i a;have e:v=.bl a:=by simpa only[eZ,Rep] using f
  show⟨a,e,k a i l d b⟩
 show b.elim
def fw:O2:=λd e Q=>match d,e with
 | .int i,.int j=>Q (.fz (.int (i+j)))
 | .str x,.str y=>x.length+y.length<=sizeLine/\Q (.fz (.str (x++y)))
 | .lst xs,.lst ys=>xs.length+ys.length<=sizeLine/\Q (.ow (xs++ys))
 | _,_=>False
def Oz(K:J'):R2:=λx y H Q=>∃l b xs zs,x=.ref l/\y=.ref b/\lM K H l xs/\lM K H b zs/\xs.length+zs.length<=sizeLine/\∀p,H p=none->Q (.ref p) (upd H p (.lst (xs++zs)))
theorem QP:i6 X (binaryOp .Add) (Oz X.K):=by
 intro p s σ H x y v u Q I f d h;obtain⟨l,b,xs,zs,rfl,rfl,g,i,hz,q⟩:=h;cases f;cases d;obtain⟨z,its,n,r,e⟩:=I.gI g;obtain⟨m,c,n2,a,k⟩:=I.gI i;have o:=r.length;have t:=a.length;show PySem.P.add_list e k ?_ (by rw[aq,aq];ext);have j:its.toArray++c.toArray=(its++c).toArray:=by simp
 rw[j];show⟨.ref _,_,I.AN (t':=s.toks) (r.append a) (by rw[ar];ext),rfl,q _ I.fresh⟩
theorem vi{G H:Hp}{xs:List V}{ds:List D}{Q:R->Prop}{P:VK}(s:cJ G H)(r:cx X.K G xs ds)(q:Q (.ow ds))
  (k:∀v b c d,Ext G H d b->eZ X.K d b H v c->Q c->P v b):∀p,H p=none->P (.ref p) (upd H p (.lst xs)):=λp a=>
 k _ _ (.ow ds) G (.own s a) ⟨p,xs,rfl,a,s.free a,jb,r⟩ q
theorem fP:lN X (binaryOp .Add) fw:=by
 show⟨_,w5.or (pB.or QP),λG H x y d e Q P s f c h k=>?_⟩;unfold fw at h;split at h
 .simp only[Rep] at f c;show .inl ⟨_,_,f,c,k _ _ _ G (.refl s) (gf (kP _ _ _)) h⟩
 .simp only[Rep] at f c;show .inr (.inl ⟨_,_,f,c,h.1,k _ _ _ G (.refl s) (gf (yd _ _ _)) h.2⟩)
 .simp only[Rep] at f c;obtain⟨a,xs,rfl,hx,i⟩:=f;obtain⟨b,ys,rfl,j,g⟩:=c;show .inr (.inr ⟨_,_,_,_,rfl,rfl,s.gI hx,s.gI j,by rw[i.length,g.length];show h.1,vi s (i.append g) h.2 k⟩)
 show h.elim
def oI(C:Int->Int->Prop)(g:Int->Int->D):O2:=λd e Q=>match d,e with
 | .int i,.int j=>C i j/\Q (.fz (g i j))
 | _,_=>False
def jx(g:Int->Int->D):O2:=λd e Q=>match d,e with
 | .int i,.int j=>Q (.fz (g i j))
 | _,_=>False
theorem BZ{f:Value->Value->Sem Value}{C:Int->Int->Prop}{g:Int->Int->V}{g':Int->Int->D}(h:i6 X f (rI C g))(hg:∀K G i j,Rep K G (g i j) (g' i j)):lN X f (oI C g'):=by
 show⟨_,h,λG H x y d e Q P s b a h k=>?_⟩;unfold oI at h;split at h
 .simp only[Rep] at b a;show⟨_,_,b,a,h.1,k _ _ _ G (.refl s) (gf (hg _ _ _ _)) h.2⟩
 show h.elim
theorem zg{f:Value->Value->Sem Value}{g:Int->Int->V}{g':Int->Int->D}(h:i6 X f (qH g))(hg:∀K G i j,Rep K G (g i j) (g' i j)):lN X f (jx g'):=by
 show⟨_,h,λG H x y d e Q P s b a h k=>?_⟩;unfold jx at h;split at h
 .simp only[Rep] at b a;show⟨_,_,b,a,k _ _ _ G (.refl s) (gf (hg _ _ _ _)) h⟩
 show h.elim
theorem IM:lN X (binaryOp .Sub) (jx λi j=>.int (i-j)):=zg Pj λK G i j=>kP K G _
theorem qv:lN X (binaryOp .Mult) (oI iR λi j=>.int (i*j)):=BZ Ph λK G i j=>kP K G _
theorem lp:lN X (binaryOp .FloorDiv) (oI kE λi j=>.int (i/j)):=BZ QD λK G i j=>kP K G _
theorem gN:lN X (binaryOp .Mod) (oI (λ_ j=>0<j) λi j=>.int (i%j)):=BZ Pg λK G i j=>kP K G _
theorem wj:lN X (binaryOp .Pow) (oI o8 λi j=>.int (i ^ j.toNat)):=BZ Pf λK G i j=>kP K G _
theorem xU:lN X (compareOp .Lt) (jx λi j=>.bl (decide (i<j))):=zg IQ λK G i j=>kF K G _
theorem N4:lN X (compareOp .LtE) (jx λi j=>.bl (decide (i<=j))):=zg BV λK G i j=>kF K G _
theorem yN:lN X (compareOp .Gt) (jx λi j=>.bl (decide (j<i))):=zg OG λK G i j=>kF K G _
theorem N3:lN X (compareOp .GtE) (jx λi j=>.bl (decide (j<=i))):=zg OF λK G i j=>kF K G _
end
open PySem.SeqAt
mutual
noncomputable def eH:D->D->Bool
 | .non,.non=>true
 | .bl a,.bl b=>a==b
 | .bl a,.int b=>(if a then 1 else 0)==b
 | .int a,.bl b=>a==(if b then 1 else 0)
 | .int a,.int b=>a==b
 | .str a,.str b=>a==b
 | .tup xs,.tup ys=>nZ xs ys
 | .lst xs,.lst ys=>nZ xs ys
 | _,_=>false
noncomputable def nZ:List D->List D->Bool
 | [],[]=>true
 | x::xs,y::ys=>eH x y&&nZ xs ys
 | _,_=>false
end
def ff:Nat->D->Prop
 | _,.non=>True
 | _,.bl _=>True
 | _,.int _=>True
 | _,.str _=>True
 | n+1,.tup ds=>∀d∈ds,ff n d
 | n+1,.lst ds=>∀d∈ds,ff n d
 | _,_=>False
theorem ff.mono:∀{n m:Nat}{d:D},n<=m->ff n d->ff m d
 | n,m,.non,_,_=>by cases m<;>show trivial
 | n,m,.bl _,_,_=>by cases m<;>show trivial
 | n,m,.int _,_,_=>by cases m<;>show trivial
 | n,m,.str _,_,_=>by cases m<;>show trivial
 | 0,m,.tup ds,_,h=>by cases h
 | 0,m,.lst ds,_,h=>by cases h
 | n+1,0,.tup ds,l,h=>by ext
 | n+1,0,.lst ds,l,h=>by ext
 | n+1,m+1,.tup ds,l,h=>λd hd=>ff.mono (by ext) (h d hd)
 | n+1,m+1,.lst ds,l,h=>λd hd=>ff.mono (by ext) (h d hd)
 | 0,m,.obj _ _,_,h=>by cases h
 | n+1,m,.obj _ _,_,h=>by cases h
 | 0,m,.dic _,_,h=>by cases h
 | 0,m,.dit _,_,h=>by cases h
 | 0,m,.exc _ _,_,h=>by cases h
 | 0,m,.idn _ _,_,h=>by cases h
 | n+1,m,.dic _,_,h=>by cases h
 | n+1,m,.dit _,_,h=>by cases h
 | n+1,m,.exc _ _,_,h=>by cases h
 | n+1,m,.idn _ _,_,h=>by cases h
mutual
theorem CF:∀(n:Nat)(d:D),ff n d->eH d d=true
 | n,.non,_=>by simp only[eH]
 | n,.bl _,_=>by simp only[eH,beq_self_eq_true]
 | n,.int _,_=>by simp only[eH,beq_self_eq_true]
 | n,.str _,_=>by simp only[eH,beq_self_eq_true]
 | 0,.tup ds,h=>by cases h
 | 0,.lst ds,h=>by cases h
 | n+1,.tup ds,h=>by simp only[eH];show Fc n ds h
 | n+1,.lst ds,h=>by simp only[eH];show Fc n ds h
 | 0,.obj _ _,h=>by cases h
 | n+1,.obj _ _,h=>by cases h
 | 0,.dic _,h=>by cases h
 | 0,.dit _,h=>by cases h
 | 0,.exc _ _,h=>by cases h
 | 0,.idn _ _,h=>by cases h
 | n+1,.dic _,h=>by cases h
 | n+1,.dit _,h=>by cases h
 | n+1,.exc _ _,h=>by cases h
 | n+1,.idn _ _,h=>by cases h
theorem Fc:∀(n:Nat)(ds:List D),(∀d∈ds,ff n d)->nZ ds ds=true
 | n,[],_=>by simp only[nZ]
 | n,d::ds,h=>by simp only[nZ,CF n d (h d (by simp)),Fc n ds (λe he=>h e (by simp[he])),Bool.and_self]
end
theorem zE:∀{xs ys:List D},xs.length≠ys.length->nZ xs ys=false
 | [],[],h=>absurd rfl h
 | x::xs,y::ys,h=>by
  rw[nZ,zE (xs:=xs) (ys:=ys) (by simpa using h),Bool.and_false]
 | [],_::_,_=>by simp only[nZ]
 | _::_,[],_=>by simp only[nZ]
theorem zD:∀(xs ys:List D),xs.length=ys.length->nZ xs ys=(List.range xs.length).all λj=>eH (xs.getD j .non) (ys.getD j .non)
 | [],[],_=>by simp[nZ]
 | x::xs,y::ys,h=>by
  rw[nZ,zD xs ys (by simpa using h),aH,List.range_succ_eq_map,List.all_cons,List.all_map];congr 1
 | [],_::_,h=>by simp at h
 | _::_,[],h=>by simp at h
theorem ES(xs ys:List D):((List.range (min xs.length ys.length)).all (λj=>eH (xs.getD j .non) (ys.getD j .non))&&xs.length==ys.length)=nZ xs ys:=by
 by_cases h:xs.length=ys.length
 .rw[zD xs ys h,h];simp
 rw[zE h];simp[h]
section
variable{X:Cx}{K':List (Addr×Obj)}{σ:St}{H:Hp}{s:Shared}
mutual
theorem Cm(I:Inv X K' σ H s):∀(n:Nat)(d e:D)(v:V),ff n d->ff n e->Rep X.K H v d->Rep X.K H v e->d=e
 | n,.non,e,v,h,h',r,c=>by
  cases e<;>simp only[Rep] at r c<;>subst r<;>first | rfl | (simp at c;done) | (simp only[V.bl.injEq,V.int.injEq,V.str.injEq] at c;rw[c])
 | n,.bl b,e,v,h,h',r,c=>by
  cases e<;>simp only[Rep] at r c<;>subst r<;>first | rfl | (simp at c;done) | (simp only[V.bl.injEq,V.int.injEq,V.str.injEq] at c;rw[c])
 | n,.int b,e,v,h,h',r,c=>by
  cases e<;>simp only[Rep] at r c<;>subst r<;>first | rfl | (simp at c;done) | (simp only[V.bl.injEq,V.int.injEq,V.str.injEq] at c;rw[c])
 | n,.str b,e,v,h,h',r,c=>by
  cases e<;>simp only[Rep] at r c<;>subst r<;>first | rfl | (simp at c;done) | (simp only[V.bl.injEq,V.int.injEq,V.str.injEq] at c;rw[c])
 | 0,.tup ds,e,v,h,h',r,c=>by cases h
 | 0,.lst ds,e,v,h,h',r,c=>by cases h
 | n+1,.tup ds,e,v,h,h',r,c=>by
  simp only[Rep] at r;obtain⟨a,xs,rfl,q,rs⟩:=r;cases e<;>simp only[Rep] at c
  case tup es=>
   obtain⟨b,ys,i,f,g⟩:=c;cases i;rw[I.mS (gR.of f) (gR.of q)] at g;rw[ER I n ds es xs h h' rs g]
  case lst es=>
   obtain⟨b,ys,i,f,g⟩:=c;cases i;obtain⟨its,_,ht,_⟩:=I.tuple (gR.of q);obtain⟨its',_,j,_⟩:=I.list f.sq;show absurd rfl (ne_of_list_tuple j.isList (show s.heap.IsTuple a its.toArray from ht))
  case obj=>cases h'
  case dic=>cases h'
  case dit=>cases h'
  case exc=>cases h'
  case idn=>cases h'
  all_goals cases c
 | n+1,.lst ds,e,v,h,h',r,c=>by
  simp only[Rep] at r;obtain⟨a,xs,rfl,q,rs⟩:=r;cases e<;>simp only[Rep] at c
  case lst es=>
   obtain⟨b,ys,i,f,g⟩:=c;cases i;rw[I.i4 f.sq q.sq] at g;rw[ER I n ds es xs h h' rs g]
  case tup es=>
   obtain⟨b,ys,i,f,g⟩:=c;cases i;obtain⟨its,_,ht,_⟩:=I.tuple (gR.of f);obtain⟨its',_,j,_⟩:=I.list q.sq;show absurd rfl (ne_of_list_tuple j.isList (show s.heap.IsTuple a its.toArray from ht))
  case obj=>cases h'
  case dic=>cases h'
  case dit=>cases h'
  case exc=>cases h'
  case idn=>cases h'
  all_goals cases c
 | 0,.obj _ _,_,_,h,_,_,_=>by cases h
 | n+1,.obj _ _,_,_,h,_,_,_=>by cases h
 | 0,.dic _,_,_,h,_,_,_=>by cases h
 | 0,.dit _,_,_,h,_,_,_=>by cases h
 | 0,.exc _ _,_,_,h,_,_,_=>by cases h
 | 0,.idn _ _,_,_,h,_,_,_=>by cases h
 | n+1,.dic _,_,_,h,_,_,_=>by cases h
 | n+1,.dit _,_,_,h,_,_,_=>by cases h
 | n+1,.exc _ _,_,_,h,_,_,_=>by cases h
 | n+1,.idn _ _,_,_,h,_,_,_=>by cases h
theorem ER(I:Inv X K' σ H s):∀(n:Nat)(ds es:List D)(a:List V),(∀d∈ds,ff n d)->(∀d∈es,ff n d)->cx X.K H a ds->cx X.K H a es->ds=es
 | n,[],[],_,_,_,_,_=>rfl
 | n,d::ds,e::es,v::a,h,h',r,b=>by
  simp only[cx] at r b;rw[Cm I n d e v (h d (by simp)) (h' e (by simp)) r.1 b.1,ER I n ds es a (λx hx=>h x (by simp[hx])) (λx hx=>h' x (by simp[hx])) r.2 b.2]
 | n,[],_::_,[],_,_,_,r=>by simp only[cx] at r
 | n,[],_::_,_::_,_,_,r,_=>by simp only[cx] at r
 | n,_::_,[],[],_,_,r,_=>by simp only[cx] at r
 | n,_::_,[],_::_,_,_,_,r=>by simp only[cx] at r
 | n,_::_,_::_,[],_,_,r,_=>by simp only[cx] at r
end
theorem qA{a:List V}{ds:List D}{b:List Value}{j:Nat}(f:Vals a b)(g:cx X.K H a ds)(l:j<b.toArray.size):∃v,RelV v b.toArray[j]/\Rep X.K H v (ds.getD j .non)/\ds.getD j .non∈ds:=by
 have i:j<b.length:=by simpa using l
 have e:j<a.length:=by rw[f.length];show i
 have c:j<ds.length:=by rw[<-g.length];show e
 obtain⟨u,h,k⟩:=f.get (ah e);obtain⟨d,hd,m⟩:=g.Bl (ah e);rw[ah i] at h;rw[ah c] at hd;cases h;cases hd;show⟨a[j],?_,?_,?_⟩
 .simpa using k
 .simpa[List.getD,c] using m
 simp[List.getD,c]
noncomputable def xX:D->Bool
 | .non=>true
 | .bl _=>true
 | .int _=>true
 | .str _=>true
 | _=>false
theorem JN{d e:D}{x y:V}(hd:xX d=true)(he:xX e=true)(b:Rep X.K H x d)(a:Rep X.K H y e):BU x=true/\BU y=true/\HY x y=eH d e:=by
 cases d<;>first | cases hd | skip
 all_goals (cases e<;>first | cases he | skip)
 all_goals
  simp only[Rep] at b a;subst b a;show⟨rfl,rfl,by simp[HY,eH]⟩
theorem zf(I:Inv X U σ H s):∀(n:Nat)(A:Around)(d e:D)(x y:V)(v u:Value),ff n d->ff n e->A.units+n<cLine->Rep X.K H x d->Rep X.K H y e->RelV x v->RelV y u->EqAt A s v u (eH d e):=by
 intro n;induction n with
 | zero=>
  intro A d e x y v u hd he T f c l k;have fd:xX d=true:=by cases d<;>first | rfl | cases hd
  have G:xX e=true:=by cases e<;>first | rfl | cases he
  obtain⟨B,z,J⟩:=JN fd G f c;rw[<-J];show Jt l k B z
 | succ n S=>
  intro A d e x y v u hd he T f c l k;have i:A.units<cLine:=by ext
  have R:A.in1.units+n<cLine:=by show A.units+1+n<cLine;ext
  by_cases fd:xX d=true
  .by_cases G:xX e=true
   .obtain⟨B,z,J⟩:=JN fd G f c;rw[<-J];show Jt l k B z
   cases e<;>first | show absurd rfl G | skip
   case tup es=>
    simp only[Rep] at c;obtain⟨b,ys,rfl,q,rs⟩:=c;cases k;obtain⟨its,o,ht,_⟩:=I.tuple (gR.of q);have g:s.heap.IsTuple b its.toArray:=ht;cases d<;>first | cases fd | skip
    .simp only[Rep] at f;subst f;cases l;simpa only[eH] using EqAt.none_tuple g i
    .simp only[Rep] at f;subst f;cases l;simpa only[eH] using EqAt.bool_tuple _ g i
    .simp only[Rep] at f;subst f;obtain⟨t,rfl⟩:=l;simpa only[eH] using EqAt.int_tuple _ t g i
    simp only[Rep] at f;subst f;obtain⟨t,rfl⟩:=l;simpa only[eH] using EqAt.str_tuple _ t g i
   case lst es=>
    simp only[Rep] at c;obtain⟨b,ys,rfl,q,rs⟩:=c;cases k;obtain⟨its,o,ht,_⟩:=I.list q.sq;have g:=ht.isList;cases d<;>first | cases fd | skip
    .simp only[Rep] at f;subst f;cases l;simpa only[eH] using EqAt.none_list g i
    .simp only[Rep] at f;subst f;cases l;simpa only[eH] using EqAt.bool_list _ g i
    .simp only[Rep] at f;subst f;obtain⟨t,rfl⟩:=l;simpa only[eH] using EqAt.int_list _ t g i
    simp only[Rep] at f;subst f;obtain⟨t,rfl⟩:=l;simpa only[eH] using EqAt.str_list _ t g i
   case obj=>cases he
   case dic=>cases he
   case dit=>cases he
   case exc=>cases he
   case idn=>cases he
  cases d<;>first | show absurd rfl fd | skip
  case tup ds=>
   have P:=f;simp only[Rep] at f;obtain⟨a,xs,rfl,q,rs⟩:=f;cases l;obtain⟨its,o,ht,_⟩:=I.tuple (gR.of q);have g:s.heap.IsTuple a its.toArray:=ht;cases e
   case non=>simp only[Rep] at c;subst c;cases k;simpa only[eH] using EqAt.tuple_none g i
   case bl=>simp only[Rep] at c;subst c;cases k;simpa only[eH] using EqAt.tuple_bool _ g i
   case int=>simp only[Rep] at c;subst c;obtain⟨t,rfl⟩:=k;simpa only[eH] using EqAt.tuple_int _ t g i
   case str=>simp only[Rep] at c;subst c;obtain⟨t,rfl⟩:=k;simpa only[eH] using EqAt.tuple_str _ t g i
   case lst es=>
    simp only[Rep] at c;obtain⟨b,ys,rfl,p,r⟩:=c;cases k;obtain⟨its',w,m,_⟩:=I.list p.sq;simpa only[eH] using EqAt.tuple_list g m.isList i
   case tup es=>
    have Q:=c;simp only[Rep] at c;obtain⟨b,ys,rfl,p,r⟩:=c;cases k;obtain⟨its',w,F,_⟩:=I.tuple (gR.of p);by_cases C:a=b
    .subst C;have L:=Cm I (n+1) _ _ _ hd he P Q;rw[<-L,CF (n+1) _ hd];show EqAt.same _
    show EqAt.of_refs C ?_;have h:=RcAt.tuples (e:=λj=>eH (ds.getD j .non) (es.getD j .non)) g (show s.heap.IsTuple b its'.toArray from F) i λj B z=>by
     obtain⟨v1,a1,O,c1⟩:=qA o rs B;obtain⟨v2,a2,N,M⟩:=qA w r z;show S A.in1 _ _ v1 v2 _ _ (hd _ c1) (he _ M) R O N a1 a2
    have l1:its.toArray.size=ds.length:=by rw[aq,<-o.length,rs.length]
    have E:its'.toArray.size=es.length:=by rw[aq,<-w.length,r.length]
    rw[l1,E,ES] at h;simpa only[eH] using h
   case obj=>cases he
   case dic=>cases he
   case dit=>cases he
   case exc=>cases he
   case idn=>cases he
  case lst ds=>
   have P:=f;simp only[Rep] at f;obtain⟨a,xs,rfl,q,rs⟩:=f;cases l;obtain⟨its,o,ht,_⟩:=I.list q.sq;have g:=ht.isList;cases e
   case non=>simp only[Rep] at c;subst c;cases k;simpa only[eH] using EqAt.list_none g i
   case bl=>simp only[Rep] at c;subst c;cases k;simpa only[eH] using EqAt.list_bool _ g i
   case int=>simp only[Rep] at c;subst c;obtain⟨t,rfl⟩:=k;simpa only[eH] using EqAt.list_int _ t g i
   case str=>simp only[Rep] at c;subst c;obtain⟨t,rfl⟩:=k;simpa only[eH] using EqAt.list_str _ t g i
   case tup es=>
    simp only[Rep] at c;obtain⟨b,ys,rfl,p,r⟩:=c;cases k;obtain⟨its',w,m,_⟩:=I.tuple (gR.of p);simpa only[eH] using EqAt.list_tuple g (show s.heap.IsTuple b its'.toArray from m) i
   case lst es=>
    have Q:=c;simp only[Rep] at c;obtain⟨b,ys,rfl,p,r⟩:=c;cases k;obtain⟨its',w,F,_⟩:=I.list p.sq;by_cases C:a=b
    .subst C;have L:=Cm I (n+1) _ _ _ hd he P Q;rw[<-L,CF (n+1) _ hd];show EqAt.same _
    show EqAt.of_refs C ?_;have l1:its.toArray.size=ds.length:=by rw[aq,<-o.length,rs.length]
    have E:its'.toArray.size=es.length:=by rw[aq,<-w.length,r.length]
    by_cases m:ds.length=es.length
    .have h:=RcAt.lists (e:=λj=>eH (ds.getD j .non) (es.getD j .non)) g F.isList (by rw[l1,E,m]) i λj B z=>by
      obtain⟨v1,a1,O,c1⟩:=qA o rs B;obtain⟨v2,a2,N,M⟩:=qA w r z;show S A.in1 _ _ v1 v2 _ _ (hd _ c1) (he _ M) R O N a1 a2
     rw[l1,<-zD ds es m] at h;simpa only[eH] using h
    have h:=RcAt.lists_lengths (A:=A) g F.isList (by rw[l1,E];simpa using m) i;simp only[eH,zE m];show h
   case obj=>cases he
   case dic=>cases he
   case dit=>cases he
   case exc=>cases he
   case idn=>cases he
  case obj=>cases hd
  case dic=>cases hd
  case dit=>cases hd
  case exc=>cases hd
  case idn=>cases hd
end
section
variable{X:Cx}{K':List (Addr×Obj)}{σ:St}{H:Hp}{s:Shared}
theorem rL{y:V}{u:Value}(r:Rep X.K H y .non)(q:RelV y u):u=.none:=by simp only[Rep] at r;subst r;cases q;rfl
theorem rN{y:V}{u:Value}{c:Bool}(r:Rep X.K H y (.bl c))(q:RelV y u):u=.bool c:=by simp only[Rep] at r;subst r;cases q;rfl
theorem rM{y:V}{u:Value}{i:Int}(r:Rep X.K H y (.int i))(q:RelV y u):∃t,u=.int i t:=by simp only[Rep] at r;subst r;show q
theorem rK{y:V}{u:Value}{x:Str}(r:Rep X.K H y (.str x))(q:RelV y u):∃t,u=.str x t:=by simp only[Rep] at r;subst r;show q
theorem t6{y:V}{u:Value}{es:List D}(I:Inv X K' σ H s)(r:Rep X.K H y (.tup es))(q:RelV y u):∃b it,u=.ref b/\s.heap.IsTuple b (List.toArray it):=by
 simp only[Rep] at r;obtain⟨b,ys,rfl,h,_⟩:=r;cases q;obtain⟨it,_,ht,_⟩:=I.tuple (gR.of h);show⟨b,it,rfl,ht⟩
theorem t7{y:V}{u:Value}{es:List D}(I:Inv X K' σ H s)(r:Rep X.K H y (.lst es))(q:RelV y u):∃b it,u=.ref b/\s.heap.IsList b (List.toArray it):=by
 simp only[Rep] at r;obtain⟨b,ys,rfl,h,_⟩:=r;cases q;obtain⟨it,_,ht,_⟩:=I.list h.sq;show⟨b,it,rfl,ht.isList⟩
theorem OZ(I:Inv X K' σ H s):∀(n:Nat)(A:Around)(d e:D)(x y:V)(v u:Value),ff n d->ff n e->A.units+n<cLine->Rep X.K H x d->Rep X.K H y e->RelV x v->RelV y u->RcAt A s v u (eH d e):=by
 intro n A d e x y v u hd he M l c m f;have i:A.units<cLine:=by ext
 cases d
 case non=>
  simp only[Rep] at l;subst l;cases m;cases e
  case non=>cases rL c f;show RcAt.none_none
  case bl=>cases rN c f;show RcAt.none_bool _
  case int=>obtain⟨t,rfl⟩:=rM c f;show RcAt.none_int _ t
  case str=>obtain⟨t,rfl⟩:=rK c f;show RcAt.none_str _ t
  case tup=>obtain⟨b,it,rfl,g⟩:=t6 I c f;show RcAt.none_tuple g i
  case lst=>obtain⟨b,it,rfl,g⟩:=t7 I c f;show RcAt.none_list g i
  all_goals (cases n<;>cases he)
 case bl a=>
  simp only[Rep] at l;subst l;cases m;cases e
  case non=>cases rL c f;show RcAt.bool_none _
  case bl=>cases rN c f;show RcAt.bool_bool _ _
  case int=>obtain⟨t,rfl⟩:=rM c f;show RcAt.bool_int _ _ t
  case str=>obtain⟨t,rfl⟩:=rK c f;show RcAt.bool_str _ _ t
  case tup=>obtain⟨b,it,rfl,g⟩:=t6 I c f;show RcAt.bool_tuple _ g i
  case lst=>obtain⟨b,it,rfl,g⟩:=t7 I c f;show RcAt.bool_list _ g i
  all_goals (cases n<;>cases he)
 case int a=>
  simp only[Rep] at l;subst l;obtain⟨t0,rfl⟩:=m;cases e
  case non=>cases rL c f;show RcAt.int_none _ t0
  case bl=>cases rN c f;show RcAt.int_bool _ t0 _
  case int=>obtain⟨t,rfl⟩:=rM c f;show RcAt.int_int _ t0 _ t
  case str=>obtain⟨t,rfl⟩:=rK c f;show RcAt.int_str _ t0 _ t
  case tup=>obtain⟨b,it,rfl,g⟩:=t6 I c f;show RcAt.int_tuple _ t0 g i
  case lst=>obtain⟨b,it,rfl,g⟩:=t7 I c f;show RcAt.int_list _ t0 g i
  all_goals (cases n<;>cases he)
 case str a=>
  simp only[Rep] at l;subst l;obtain⟨t0,rfl⟩:=m;cases e
  case non=>cases rL c f;show RcAt.str_none _ t0
  case bl=>cases rN c f;show RcAt.str_bool _ t0 _
  case int=>obtain⟨t,rfl⟩:=rM c f;show RcAt.str_int _ t0 _ t
  case str=>obtain⟨t,rfl⟩:=rK c f;show RcAt.str_str _ t0 _ t
  case tup=>obtain⟨b,it,rfl,g⟩:=t6 I c f;show RcAt.str_tuple _ t0 g i
  case lst=>obtain⟨b,it,rfl,g⟩:=t7 I c f;show RcAt.str_list _ t0 g i
  all_goals (cases n<;>cases he)
 case tup ds=>
  cases n with
  | zero=>cases hd
  | succ n=>
  have C:A.in1.units+n<cLine:=by show A.units+1+n<cLine;ext
  simp only[Rep] at l;obtain⟨a,xs,rfl,q,rs⟩:=l;cases m;obtain⟨its,o,ht,_⟩:=I.tuple (gR.of q);have k:s.heap.IsTuple a its.toArray:=ht;cases e
  case non=>cases rL c f;show RcAt.tuple_none k i
  case bl=>cases rN c f;show RcAt.tuple_bool _ k i
  case int=>obtain⟨t,rfl⟩:=rM c f;show RcAt.tuple_int _ t k i
  case str=>obtain⟨t,rfl⟩:=rK c f;show RcAt.tuple_str _ t k i
  case lst es=>obtain⟨b,it,rfl,g⟩:=t7 I c f;show RcAt.tuple_list k g i
  case tup es=>
   simp only[Rep] at c;obtain⟨b,ys,rfl,E,p⟩:=c;cases f;obtain⟨its',r,z,_⟩:=I.tuple (gR.of E);have h:=RcAt.tuples (e:=λj=>eH (ds.getD j .non) (es.getD j .non)) k (show s.heap.IsTuple b its'.toArray from z) i λj F g=>by
    obtain⟨v1,a1,L,c1⟩:=qA o rs F;obtain⟨v2,a2,J,G⟩:=qA r p g;show zf I n A.in1 _ _ v1 v2 _ _ (hd _ c1) (he _ G) C L J a1 a2
   have l1:its.toArray.size=ds.length:=by rw[aq,<-o.length,rs.length]
   have w:its'.toArray.size=es.length:=by rw[aq,<-r.length,p.length]
   rw[l1,w,ES] at h;simpa only[eH] using h
  all_goals cases he
 case lst ds=>
  cases n with
  | zero=>cases hd
  | succ n=>
  have C:A.in1.units+n<cLine:=by show A.units+1+n<cLine;ext
  simp only[Rep] at l;obtain⟨a,xs,rfl,q,rs⟩:=l;cases m;obtain⟨its,o,ht,_⟩:=I.list q.sq;have k:=ht.isList;cases e
  case non=>cases rL c f;show RcAt.list_none k i
  case bl=>cases rN c f;show RcAt.list_bool _ k i
  case int=>obtain⟨t,rfl⟩:=rM c f;show RcAt.list_int _ t k i
  case str=>obtain⟨t,rfl⟩:=rK c f;show RcAt.list_str _ t k i
  case tup es=>obtain⟨b,it,rfl,g⟩:=t6 I c f;show RcAt.list_tuple k g i
  case lst es=>
   simp only[Rep] at c;obtain⟨b,ys,rfl,E,p⟩:=c;cases f;obtain⟨its',r,z,_⟩:=I.list E.sq;have l1:its.toArray.size=ds.length:=by rw[aq,<-o.length,rs.length]
   have w:its'.toArray.size=es.length:=by rw[aq,<-r.length,p.length]
   by_cases B:ds.length=es.length
   .have h:=RcAt.lists (e:=λj=>eH (ds.getD j .non) (es.getD j .non)) k z.isList (by rw[l1,w,B]) i λj F g=>by
     obtain⟨v1,a1,L,c1⟩:=qA o rs F;obtain⟨v2,a2,J,G⟩:=qA r p g;show zf I n A.in1 _ _ v1 v2 _ _ (hd _ c1) (he _ G) C L J a1 a2
    rw[l1,<-zD ds es B] at h;simpa only[eH] using h
   have h:=RcAt.lists_lengths (A:=A) k z.isList (by rw[l1,w];simpa using B) i;simp only[eH,zE B];show h
  all_goals cases he
 all_goals (cases n<;>cases hd)
theorem SH(I:Inv X K' σ H s):∀(n:Nat)(A:Around)(d e:D)(x y:V)(v u:Value),ff n d->ff n e->A.units+n<cLine->Rep X.K H x d->Rep X.K H y e->RelV x v->RelV y u->RcNeAt A s v u (!eH d e):=by
 intro n A d e x y v u hd he M l c m f;have i:A.units<cLine:=by ext
 cases d
 case non=>
  simp only[Rep] at l;subst l;cases m;cases e
  case non=>cases rL c f;show RcNeAt.none_none
  case bl=>cases rN c f;show RcNeAt.none_bool _
  case int=>obtain⟨t,rfl⟩:=rM c f;show RcNeAt.none_int _ t
  case str=>obtain⟨t,rfl⟩:=rK c f;show RcNeAt.none_str _ t
  case tup=>obtain⟨b,it,rfl,g⟩:=t6 I c f;show RcNeAt.none_tuple g i
  case lst=>obtain⟨b,it,rfl,g⟩:=t7 I c f;show RcNeAt.none_list g i
  all_goals (cases n<;>cases he)
 case bl a=>
  simp only[Rep] at l;subst l;cases m;cases e
  case non=>cases rL c f;show RcNeAt.bool_none _
  case bl=>cases rN c f;show RcNeAt.bool_bool _ _
  case int=>obtain⟨t,rfl⟩:=rM c f;show RcNeAt.bool_int _ _ t
  case str=>obtain⟨t,rfl⟩:=rK c f;show RcNeAt.bool_str _ _ t
  case tup=>obtain⟨b,it,rfl,g⟩:=t6 I c f;show RcNeAt.bool_tuple _ g i
  case lst=>obtain⟨b,it,rfl,g⟩:=t7 I c f;show RcNeAt.bool_list _ g i
  all_goals (cases n<;>cases he)
 case int a=>
  simp only[Rep] at l;subst l;obtain⟨t0,rfl⟩:=m;cases e
  case non=>cases rL c f;show RcNeAt.int_none _ t0
  case bl=>cases rN c f;show RcNeAt.int_bool _ t0 _
  case int=>obtain⟨t,rfl⟩:=rM c f;show RcNeAt.int_int _ t0 _ t
  case str=>obtain⟨t,rfl⟩:=rK c f;show RcNeAt.int_str _ t0 _ t
  case tup=>obtain⟨b,it,rfl,g⟩:=t6 I c f;show RcNeAt.int_tuple _ t0 g i
  case lst=>obtain⟨b,it,rfl,g⟩:=t7 I c f;show RcNeAt.int_list _ t0 g i
  all_goals (cases n<;>cases he)
 case str a=>
  simp only[Rep] at l;subst l;obtain⟨t0,rfl⟩:=m;cases e
  case non=>cases rL c f;show RcNeAt.str_none _ t0
  case bl=>cases rN c f;show RcNeAt.str_bool _ t0 _
  case int=>obtain⟨t,rfl⟩:=rM c f;show RcNeAt.str_int _ t0 _ t
  case str=>obtain⟨t,rfl⟩:=rK c f;show RcNeAt.str_str _ t0 _ t
  case tup=>obtain⟨b,it,rfl,g⟩:=t6 I c f;show RcNeAt.str_tuple _ t0 g i
  case lst=>obtain⟨b,it,rfl,g⟩:=t7 I c f;show RcNeAt.str_list _ t0 g i
  all_goals (cases n<;>cases he)
 case tup ds=>
  cases n with
  | zero=>cases hd
  | succ n=>
  have C:A.in1.units+n<cLine:=by show A.units+1+n<cLine;ext
  simp only[Rep] at l;obtain⟨a,xs,rfl,q,rs⟩:=l;cases m;obtain⟨its,o,ht,_⟩:=I.tuple (gR.of q);have k:s.heap.IsTuple a its.toArray:=ht;cases e
  case non=>cases rL c f;show RcNeAt.tuple_none k i
  case bl=>cases rN c f;show RcNeAt.tuple_bool _ k i
  case int=>obtain⟨t,rfl⟩:=rM c f;show RcNeAt.tuple_int _ t k i
  case str=>obtain⟨t,rfl⟩:=rK c f;show RcNeAt.tuple_str _ t k i
  case lst es=>obtain⟨b,it,rfl,g⟩:=t7 I c f;show RcNeAt.tuple_list k g i
  case tup es=>
   simp only[Rep] at c;obtain⟨b,ys,rfl,E,p⟩:=c;cases f;obtain⟨its',r,z,_⟩:=I.tuple (gR.of E);have h:=RcNeAt.tuples (e:=λj=>eH (ds.getD j .non) (es.getD j .non)) k (show s.heap.IsTuple b its'.toArray from z) i λj F g=>by
    obtain⟨v1,a1,L,c1⟩:=qA o rs F;obtain⟨v2,a2,J,G⟩:=qA r p g;show zf I n A.in1 _ _ v1 v2 _ _ (hd _ c1) (he _ G) C L J a1 a2
   have l1:its.toArray.size=ds.length:=by rw[aq,<-o.length,rs.length]
   have w:its'.toArray.size=es.length:=by rw[aq,<-r.length,p.length]
   rw[l1,w,ES] at h;simpa only[eH] using h
  all_goals cases he
 case lst ds=>
  cases n with
  | zero=>cases hd
  | succ n=>
  have C:A.in1.units+n<cLine:=by show A.units+1+n<cLine;ext
  simp only[Rep] at l;obtain⟨a,xs,rfl,q,rs⟩:=l;cases m;obtain⟨its,o,ht,_⟩:=I.list q.sq;have k:=ht.isList;cases e
  case non=>cases rL c f;show RcNeAt.list_none k i
  case bl=>cases rN c f;show RcNeAt.list_bool _ k i
  case int=>obtain⟨t,rfl⟩:=rM c f;show RcNeAt.list_int _ t k i
  case str=>obtain⟨t,rfl⟩:=rK c f;show RcNeAt.list_str _ t k i
  case tup es=>obtain⟨b,it,rfl,g⟩:=t6 I c f;show RcNeAt.list_tuple k g i
  case lst es=>
   simp only[Rep] at c;obtain⟨b,ys,rfl,E,p⟩:=c;cases f;obtain⟨its',r,z,_⟩:=I.list E.sq;have l1:its.toArray.size=ds.length:=by rw[aq,<-o.length,rs.length]
   have w:its'.toArray.size=es.length:=by rw[aq,<-r.length,p.length]
   by_cases B:ds.length=es.length
   .have h:=RcNeAt.lists (e:=λj=>eH (ds.getD j .non) (es.getD j .non)) k z.isList (by rw[l1,w,B]) i λj F g=>by
     obtain⟨v1,a1,L,c1⟩:=qA o rs F;obtain⟨v2,a2,J,G⟩:=qA r p g;show zf I n A.in1 _ _ v1 v2 _ _ (hd _ c1) (he _ G) C L J a1 a2
    rw[l1,<-zD ds es B] at h;simpa only[eH] using h
   have h:=RcNeAt.lists_lengths (A:=A) k z.isList (by rw[l1,w];simpa using B) i;simp only[eH,zE B];show h
  all_goals cases he
 all_goals (cases n<;>cases hd)
end
section
variable{X:Cx}
def oEq:O2:=λd e Q=>ff 9 d/\ff 9 e/\Q (.fz (.bl (eH d e)))
def vE:O2:=λd e Q=>ff 9 d/\ff 9 e/\Q (.fz (.bl (!eH d e)))
theorem jF(f:X.A.units+64<cLine):lN X (compareOp .Eq) oEq:=by
 show⟨λx y H Q=>∃d e,ff 9 d/\ff 9 e/\Rep X.K H x d/\Rep X.K H y e/\Q (.bl (eH d e)) H,λg s σ H x y v u Q I b a h=>?_,λG H x y d e Q P s b a h k=>?_⟩
 .obtain⟨d,e,hd,he,c,re,q⟩:=h;show OZ I 9 X.A d e x y v u hd he (by ext) c re b a _ _ _ _ ⟨.bl _,H,I,rfl,q⟩
 show⟨d,e,h.1,h.2.1,b.mono s,a.mono s,k _ _ _ G (.refl s) (gf (kF _ _ _)) h.2.2⟩
theorem yM(f:X.A.units+64<cLine):lN X (compareOp .NotEq) vE:=by
 show⟨λx y H Q=>∃d e,ff 9 d/\ff 9 e/\Rep X.K H x d/\Rep X.K H y e/\Q (.bl (!eH d e)) H,λg s σ H x y v u Q I b a h=>?_,λG H x y d e Q P s b a h k=>?_⟩
 .obtain⟨d,e,hd,he,c,re,q⟩:=h;show SH I 9 X.A d e x y v u hd he (by ext) c re b a _ _ _ _ ⟨.bl _,H,I,rfl,q⟩
 show⟨d,e,h.1,h.2.1,b.mono s,a.mono s,k _ _ _ G (.refl s) (gf (kF _ _ _)) h.2.2⟩
noncomputable def inD(d:D)(ds:List D):Bool:=ds.any λe=>eH e d
def k9(a:Bool):O2:=λd e Q=>match d,e with
 | .str x,.str y=>Q (.fz (.bl (if a then !(!(Builtin.Str.occurrences y x 0 y.length 1).isEmpty) else !(Builtin.Str.occurrences y x 0 y.length 1).isEmpty)))
 | d,.lst es=>ff 8 d/\(∀e∈es,ff 8 e)/\Q (.fz (.bl (if a then !inD d es else inD d es)))
 | d,.tup es=>ff 8 d/\(∀e∈es,ff 8 e)/\Q (.fz (.bl (if a then !inD d es else inD d es)))
 | _,_=>False
noncomputable def nV(X:Cx)(H:Hp)(d:D)(u:Value):Bool:=open Classical in if h:∃(v:V)(e:D),ff 8 e/\RelV v u/\Rep X.K H v e then eH h.choose_spec.choose d else false
theorem Eb{p:List (Addr×Obj)}{g:St}{H:Hp}{s:Shared}(I:Inv X p g H s){d e:D}{v:V}{u:Value}(he:ff 8 e)(c:RelV v u)(f:Rep X.K H v e):nV X H d u=eH e d:=by
 have h:∃(v:V)(e:D),ff 8 e/\RelV v u/\Rep X.K H v e:=⟨v,e,he,c,f⟩
 unfold nV;rw[dif_pos h];obtain⟨m,l,k⟩:=h.choose_spec.choose_spec;have n:h.choose=v:=RelV.inj l c;have j:∀b,b=v->∀a,ff 8 a->Rep X.K H b a->a=e:=λb i a o r=>by subst i;show Cm I 8 _ e _ o he r f
 rw[j _ n _ m k]
theorem ze{f:List (Addr×Obj)}{c:St}{H:Hp}{s:Shared}(I:Inv X f c H s){d:D}:∀{es:List D}{b:List V}{us:List Value},(∀e∈es,ff 8 e)->Vals b us->cx X.K H b es->us.any (nV X H d)=inD d es
 | [],_,_,_,a,re=>by
  cases a
  .rfl
  simp only[cx] at re
 | e::es,_,_,h,a,re=>by
  cases a with
  | nil=>simp only[cx] at re
  | cons r t=>
   simp only[cx] at re;rw[List.any_cons,Eb I (h e (by simp)) r re.1,ze I (λx hx=>h x (by simp[hx])) t re.2];rfl
theorem zq{o:List (Addr×Obj)}{f:St}{H:Hp}{s:Shared}{A:Around}(I:Inv X o f H s){d:D}{x:V}{v:Value}(hd:ff 8 d)(l:A.units+8<cLine)(g:Rep X.K H x d)(k:RelV x v){es:List D}{a:List V}{b:List Value}
  (he:∀e∈es,ff 8 e) (h:Vals a b) (i:cx X.K H a es):∀u∈b.toArray,EqAt A s u v (nV X H d u):=λu n=>by
 obtain⟨j,m,e⟩:=Array.mem_iff_getElem.mp n;obtain⟨w,a1,c,c1⟩:=qA h i m;rw[e] at a1;rw[Eb I (he _ c1) a1 c];show zf I 8 A _ _ w x _ _ (he _ c1) hd l c g a1 k
theorem OY(i:X.A.units+64<cLine):i6 X (compareOp .In) (λx y H Q=>∃p d es b,y=.ref p/\(fT X.K H p b\/gR X.K H p b)/\ff 8 d/\(∀e∈es,ff 8 e)/\Rep X.K H x d/\cx X.K H b es/\Q (.bl (inD d es)) H):=by
 intro j s σ H x y v u Q I c g h;obtain⟨p,d,es,b,rfl,a,hd,he,f,re,q⟩:=h;cases g;rcases a with a | a
 .obtain⟨its,r,pl,hz⟩:=I.list a;show SeqAt.in_listAt (nV X H d) pl.isList (zq I hd (by show X.A.units+1+8<cLine;ext) f c he r re) ⟨.bl _,H,I,rfl,?_⟩;rw[show its.toArray.any (nV X H d)=its.any (nV X H d) by simp,ze I he r re];show q
 obtain⟨its,r,pl,hz⟩:=I.tuple a;show SeqAt.in_tupleAt (nV X H d) pl (zq I hd (by show X.A.units+1+8<cLine;ext) f c he r re) ⟨.bl _,H,I,rfl,?_⟩;rw[show its.toArray.any (nV X H d)=its.any (nV X H d) by simp,ze I he r re];show q
theorem S0(i:X.A.units+64<cLine):i6 X (compareOp .NotIn) (λx y H Q=>∃p d es b,y=.ref p/\(fT X.K H p b\/gR X.K H p b)/\ff 8 d/\(∀e∈es,ff 8 e)/\Rep X.K H x d/\cx X.K H b es/\Q (.bl (!inD d es)) H):=by
 intro j s σ H x y v u Q I c g h;obtain⟨p,d,es,b,rfl,a,hd,he,f,re,q⟩:=h;cases g;rcases a with a | a
 .obtain⟨its,r,pl,hz⟩:=I.list a;show SeqAt.notIn_listAt (nV X H d) pl.isList (zq I hd (by show X.A.units+1+8<cLine;ext) f c he r re) ⟨.bl _,H,I,rfl,?_⟩;rw[show its.toArray.any (nV X H d)=its.any (nV X H d) by simp,ze I he r re];show q
 obtain⟨its,r,pl,hz⟩:=I.tuple a;show SeqAt.notIn_tupleAt (nV X H d) pl (zq I hd (by show X.A.units+1+8<cLine;ext) f c he r re) ⟨.bl _,H,I,rfl,?_⟩;rw[show its.toArray.any (nV X H d)=its.any (nV X H d) by simp,ze I he r re];show q
theorem rW(i:X.A.units+64<cLine):lN X (compareOp .In) (k9 false):=by
 show⟨_,qI.or (OY i),λG H x y d e Q P s c b h k=>?_⟩;unfold k9 at h;split at h
 .simp only[Rep] at c b;show .inl ⟨_,_,c,b,k _ _ _ G (.refl s) (gf (kF _ _ _)) h⟩
 .simp only[Rep] at b;obtain⟨a,ys,rfl,g,f⟩:=b;show .inr ⟨a,_,_,ys,rfl,.inl ((s.gI g).sq),h.1,h.2.1,c.mono s,f.mono s,k _ _ _ G (.refl s) (gf (kF _ _ _)) h.2.2⟩
 .simp only[Rep] at b;obtain⟨a,ys,rfl,g,f⟩:=b;show .inr ⟨a,_,_,ys,rfl,.inr (s.oo g),h.1,h.2.1,c.mono s,f.mono s,k _ _ _ G (.refl s) (gf (kF _ _ _)) h.2.2⟩
 show h.elim
theorem Ck(i:X.A.units+64<cLine):lN X (compareOp .NotIn) (k9 true):=by
 show⟨_,m6.or (S0 i),λG H x y d e Q P s c b h k=>?_⟩;unfold k9 at h;split at h
 .simp only[Rep] at c b;show .inl ⟨_,_,c,b,k _ _ _ G (.refl s) (gf (kF _ _ _)) h⟩
 .simp only[Rep] at b;obtain⟨a,ys,rfl,g,f⟩:=b;show .inr ⟨a,_,_,ys,rfl,.inl ((s.gI g).sq),h.1,h.2.1,c.mono s,f.mono s,k _ _ _ G (.refl s) (gf (kF _ _ _)) h.2.2⟩
 .simp only[Rep] at b;obtain⟨a,ys,rfl,g,f⟩:=b;show .inr ⟨a,_,_,ys,rfl,.inr (s.oo g),h.1,h.2.1,c.mono s,f.mono s,k _ _ _ G (.refl s) (gf (kF _ _ _)) h.2.2⟩
 show h.elim
noncomputable def wg:D->Bool
 | .non=>true
 | _=>false
def nG(a:Bool):O2:=λd e Q=>match e with
 | .non=>Q (.fz (.bl (if a then !wg d else wg d)))
 | _=>False
theorem La{K:J'}{G:Hp}{x:V}{d:D}(r:Rep K G x d):decide (x=.non)=wg d:=by
 cases d<;>simp only[Rep] at r
 case non=>subst r;rfl
 case bl=>subst r;rfl
 case int=>subst r;rfl
 case str=>subst r;rfl
 case tup=>obtain⟨_,_,rfl,_⟩:=r;rfl
 case lst=>obtain⟨_,_,rfl,_⟩:=r;rfl
 case obj=>obtain⟨_,_,_,_,rfl,_⟩:=r;rfl
 case dic=>obtain⟨_,_,_,rfl,_⟩:=r;rfl
 case dit=>obtain⟨_,_,_,rfl,_⟩:=r;rfl
 case exc=>obtain⟨_,_,_,_,_,rfl,_⟩:=r;rfl
 case idn=>obtain⟨rfl,_⟩:=r;rfl
theorem DP:lN X (compareOp .Is) (nG false):=by
 show⟨_,Pd,λG H x y d e Q P s b a h k=>?_⟩;unfold nG at h;split at h
 .simp only[Rep] at a;show⟨a,?_⟩;rw[La b];show k _ _ _ G (.refl s) (gf (kF _ _ _)) h
 show h.elim
theorem tP:lN X (compareOp .IsNot) (nG true):=by
 show⟨_,Q4,λG H x y d e Q P s b a h k=>?_⟩;unfold nG at h;split at h
 .simp only[Rep] at a;show⟨a,?_⟩;rw[La b];show k _ _ _ G (.refl s) (gf (kF _ _ _)) h
 show h.elim
end
section
variable{X:Cx}{pos:Pos}{a b c:Expr}{ta tb tc:TD}{pa vD:jA}{mP:List Expr}
def tx(t:jA):jA:=λa Q=>t a λk=>Q (!k)
def rm(t u:jA):jA:=λa Q=>t a λk=>if k=true then u a Q else Q false
def xC(t u:jA):jA:=λa Q=>t a λk=>if k=true then Q true else u a Q
theorem ve(h:PB X a pa):PB X (.UnaryOp .Not a pos) (tx pa):=by
 obtain⟨t,p,q⟩:=h;show⟨_,Qz p,λc σ g e G H Q P E h k=>q c σ g e G H _ _ E h λb f i x d=>k _ f i x d⟩
def vV(X:Cx)(e:Expr)(t:jA):Prop:=∃tt,PW X e tt/\∀(a:Ev)(σ:St)(f d G H:Hp)(Q:Bool->Prop)(P:Bool->Hp->Prop),dU X.K f d a σ G H->t a Q->
 (∀b c g,Ext G H g c->Q b->P b c)->tt σ H P
theorem vV.pb{e:Expr}{t:jA}(h:vV X e t):PB X e t:=let⟨tt,p,q⟩:=h;⟨tt,p.pt,q⟩
theorem wI(h:PB X a pa):vV X (.BoolOp .And [a] pos) pa:=let⟨tt,p,q⟩:=h;⟨tt,QG p,q⟩
theorem Cj(h:PB X a pa):vV X (.BoolOp .Or [a] pos) pa:=let⟨tt,p,q⟩:=h;⟨tt,QB p,q⟩
theorem tU(h:PB X a pa)(h':vV X (.BoolOp .And (b::mP) pos) vD):vV X (.BoolOp .And (a::b::mP) pos) (rm pa vD):=by
 obtain⟨t,p,q⟩:=h;obtain⟨t',m,l⟩:=h';show⟨_,QA p m,λd σ g e G H Q P E h k=>q d σ g e G H _ _ E h λb f i x c=>?_⟩;cases b with
 | true=>rw[if_pos rfl] at c ⊢;show l d σ g e i f Q P (E.ext x) c λo r s j n=>k o r s (x.trans j) n
 | false=>rw[if_neg aD] at c ⊢;show k false f i x c
theorem zd(h:PB X a pa)(h':vV X (.BoolOp .Or (b::mP) pos) vD):vV X (.BoolOp .Or (a::b::mP) pos) (xC pa vD):=by
 obtain⟨t,p,q⟩:=h;obtain⟨t',m,l⟩:=h';show⟨_,Og p m,λd σ g e G H Q P E h k=>q d σ g e G H _ _ E h λb f i x c=>?_⟩;cases b with
 | true=>rw[if_pos rfl] at c ⊢;show k true f i x c
 | false=>rw[if_neg aD] at c ⊢;show l d σ g e i f Q P (E.ext x) c λo r s j n=>k o r s (x.trans j) n
def DO(t:TD):TD:=λa Q=>t a λr=>match r with
 | .fz (.bl k)=>Q (.fz (.bl (!k)))
 | _=>False
theorem OX(h:PD X a ta):PD X (.UnaryOp .Not a pos) (DO ta):=by
 obtain⟨t,p,q⟩:=h;show⟨_,Qy p,λd σ j g G H Q P E h k=>q d σ j g G H _ _ E h λv i r l x f b=>?_⟩;split at b
 .rename_i c;have e:v=.bl c:=by simpa only[eZ,Rep] using f
  show⟨c,e,k _ i _ l x (gf (kF _ _ _)) b⟩
 show b.elim
def uQ(t:jA)(ta tb:TD):TD:=λa Q=>t a λk=>if k=true then ta a Q else tb a Q
theorem yg(h:PB X c pa)(A:PD X a ta)(d:PD X b tb):PD X (.IfExp c a b pos) (uQ pa ta tb):=by
 obtain⟨t,p,q⟩:=h;obtain⟨t1,z,w⟩:=A;obtain⟨B,y,v⟩:=d;show⟨_,Sy p z y,λf σ o m G H Q P E h k=>q f σ o m G H _ _ E h λb s u x e=>?_⟩;cases b with
 | true=>rw[if_pos rfl] at e ⊢;show w f σ o m u s Q P (E.ext x) e λj l i n g r d=>k j l i n (x.trans g) (r.ie x.h) d
 | false=>rw[if_neg aD] at e ⊢;show v f σ o m u s Q P (E.ext x) e λj l i n g r d=>k j l i n (x.trans g) (r.ie x.h) d
def x9(o d:O2)(ta tb tc:TD):TD:=λa Q=>ta a λc=>tb a λb=>o c.val b.val λr=>match r with
 | .fz (.bl k)=>if k=true then tc a λrc=>d b.val rc.val Q else Q (.fz (.bl false))
 | _=>False
abbrev rP(K:J')(t:TD)(d:TE):Prop:=∀(b:Ev)(σ:St)(f e G H:Hp)(Q:R->Prop)(P:VK),dU K f e b σ G H->t b Q->(∀v a r c,Ext G H c a->eZ K c a H v r->Q r->P v a)->d σ H P
theorem SG{K:J'}{g g':Int->Int->Bool}{r q p:TE}(C:rP K ta r)(B:rP K tb q)(A:rP K tc p) :
  rP K (x9 (jx λi j=>.bl (g i j)) (jx λi j=>.bl (g' i j)) ta tb tc) (Jw (qH λi j=>.bl (g i j)) (qH λi j=>.bl (g' i j)) r q p):=by
 show λe σ o m G H Q P E h k=>C e σ o m G H _ _ E h λv1 H1 W G1 x R z=>?_
 obtain⟨N,b,n,_⟩:=R.freeze x;show B e σ o m N H1 _ _ (E.ext b) z λv2 O V G2 w S a=>?_
 obtain⟨u,f,c,_⟩:=S.freeze w;unfold jx at a;split at a
 .rename_i i j J t;rw[J] at n;rw[t] at c;simp only[Rep] at n c;show⟨i,j,n,c,_,rfl,?_⟩;dsimp only at a;cases s:g i j with
  | false=>
   rw[s,if_neg aD] at a;rw[if_neg aD];show k _ _ _ u (b.trans f) (gf (kF _ _ _)) a
  | true=>
   rw[s,if_pos rfl] at a;rw[if_pos rfl];show A e σ o m u O _ _ (E.ext (b.trans f)) a λT Y U Z v y d=>?_
   obtain⟨L,M,l,_⟩:=y.freeze v;rw[t] at d;split at d
   .rename_i X D I F;cases I;rw[F] at l;simp only[Rep] at l;show⟨j,D,c,l,k _ _ _ L ((b.trans f).trans M) (gf (kF _ _ _)) d⟩
   show d.elim
 show a.elim
theorem Pz{K:J'}{t:TD}{j:TE}(q:rP K t j)(d:Ev)(c:St)(m l G H:Hp)(Q:Bool->Prop)(P:Bool->Hp->Prop)(E:dU K m l d c G H)(h:dA t d Q)(k:∀b a i,Ext G H i a->Q b->P b a):D5 j c H P:=by
 show q d c m l G H _ _ E h λv a r i n o g=>?_
 split at g
 .rename_i f;have e:v=.bl f:=by simpa only[eZ,Rep] using o
  show⟨f,e,k f a i n g⟩
 show g.elim
theorem K9{e d:CmpOp}{g g':Int->Int->Bool}(p:i6 X (compareOp e) (qH λi j=>.bl (g i j)))(o:i6 X (compareOp d) (qH λi j=>.bl (g' i j)))(s:PD X a ta)(r:PD X b tb)(q:PD X c tc)(hm:lastMarks [e,d] [b,c]=false:=by with_unfolding_all rfl) :
  PB X (.Compare a [e,d] [b,c] pos) (dA (x9 (jx λi j=>.bl (g i j)) (jx λi j=>.bl (g' i j)) ta tb tc)):=by
 obtain⟨t1,n,k⟩:=s;obtain⟨t,m,h⟩:=r;obtain⟨t3,l,f⟩:=q;show⟨_,Sv p o n m l hm,Pz (SG k h f)⟩
def ec:O2:=λd e Q=>match d,e with
 | .lst ds,.int i=>∃d,fN ds i=some d/\Q (.fz d)
 | .tup ds,.int i=>∃d,fN ds i=some d/\Q (.fz d)
 | .str z,.int i=>z.length<=sizeLine/\∃c,fN z.cps.toList i=some c/\Q (.fz (.str ⟨#[c]⟩))
 | _,_=>False
theorem Ez{K:J'}{G:Hp}{xs:List V}{ds:List D}{i:Int}{d:D}(r:cx K G xs ds)(h:fN ds i=some d):∃v,fN xs i=some v/\Rep K G v d:=by
 unfold fN at h ⊢;rw[r.length];cases e:qK ds.length i with
 | none=>rw[e] at h;cases h
 | some j=>
  rw[e] at h;simp only[Option.bind_some] at h ⊢;show r.get h
theorem eD(A:PD X a ta)(z:PD X b tb)(u:Co b:=by intro _ _;rfl):PD X (.Subscript a b pos) (cA ec ta tb):=by
 obtain⟨t1,t,n⟩:=A;obtain⟨B,o,m⟩:=z;show⟨_,D2 Ju t o u,Cb (r:=My X.K) (λG H x y d e Q P s g f h k=>?_) n m⟩;unfold ec at h;split at h
 .simp only[Rep] at g f;obtain⟨p,xs,rfl,l,rs⟩:=g;obtain⟨d,hd,q⟩:=h;obtain⟨v,j,i⟩:=Ez rs hd;show .inl ⟨p,xs,_,v,rfl,f,(s.gI l).sq,j,k _ _ _ G (.refl s) (gf i) q⟩
 .simp only[Rep] at g f;obtain⟨p,xs,rfl,l,rs⟩:=g;obtain⟨d,hd,q⟩:=h;obtain⟨v,j,i⟩:=Ez rs hd;show .inr (.inl ⟨p,xs,_,v,rfl,f,s.oo l,j,k _ _ _ G (.refl s) (gf i) q⟩)
 .simp only[Rep] at g f;obtain⟨hz,c,w,q⟩:=h;show .inr (.inr ⟨_,_,c,g,f,hz,w,k _ _ _ G (.refl s) (gf (yd _ _ _)) q⟩)
 show h.elim
def u5(i:Nat)(tb:TD):TD:=λa Q=>match gt a i with
 | .ow ds=>tb a λb=>match b.val with
  | .int j=>∃d,fN ds j=some d/\Q (.fz d)
  | _=>False
 | _=>False
theorem zc(i:Nat){x:Str}{y:Pos}(f:PD X b tb)(C:X.N[i]?=some x:=by rfl)(A:oM X.env.scope x:=by first | show Or.inl rfl | show Or.inr (Or.inl rfl) | show Or.inr (Or.inr rfl))(B:Co b:=by intro _ _;rfl)(hd:(x==("__debug__":Str))=false:=by decide)
  (z:(x==("__classdict__":Str))=false:=by decide):PD X (.Subscript (.Name x y) b pos) (u5 i tb):=by
 obtain⟨M,w,t⟩:=f;show⟨_,D2 Ju (rB C A hd z) w B,λl σ L J G H Q P E h k=>?_⟩;unfold u5 at h;split at h
 .rename_i ds hg;obtain⟨p,xs,F,f,R,O,D⟩:=E.ow i ds hg;show⟨_,F,t l σ L J G H _ _ E h λv S r T m s e=>?_⟩;obtain⟨K,a,c,_⟩:=s.freeze m;split at e
  .rename_i j I;obtain⟨d,o,q⟩:=e;obtain⟨n,hw,u⟩:=Ez (D.mono a.g) o;rw[I] at c;simp only[Rep] at c;show .inl ⟨p,xs,_,n,rfl,c,fT.of (a.h _ _ f),hw,k _ _ _ K a (gf u) q⟩
  show e.elim
 show h.elim
variable{e:Expr}{es:List Expr}{te:TD}{ts:iW}
def cD:iW:=λ_ Q=>Q []
def cy(te:TD)(ts:iW):iW:=λa Q=>te a λr=>ts a λds=>Q (r.val::ds)
theorem cF:mI X [] cD:=⟨_,pj,λa σ c b G H Q P E h k=>k [] H [] G (.refl E.e.s) cx.nil h⟩
theorem cz(h:PD X e te)(t:mI X es ts)(s:starEach (e::es) X.env=(false,eval e X.env)::starEach es X.env:=by rfl):mI X (e::es) (cy te ts):=by
 obtain⟨t1,p,n⟩:=h;obtain⟨B,o,m⟩:=t;show⟨_,mZ p o s,λa σ f d G H Q P E h k=>n a σ f d G H _ _ E h λv x r C i l u=>?_⟩;obtain⟨z,c,j,_⟩:=l.freeze i;show m a σ f d z x _ _ (E.ext c) u λA w ds y b rs q=>?_
 show k _ w _ y (c.trans b) (cx.cons (j.mono b.g) rs) q
def lY(ts:iW):TD:=λa Q=>ts a λds=>ds.length<=sizeLine/\Q (.fz (.tup ds))
def gM(ts:iW):TD:=λa Q=>ts a λds=>ds.length<=sizeLine/\Q (.ow ds)
theorem o6{i}(h:mI X es ts):PD X (.Tuple es i pos) (lY ts):=by
 obtain⟨t,p,q⟩:=h;show⟨_,Jv p,λf σ m l G H Q P E h k=>q f σ m l G H _ _ E h λa d ds e x rs c=>⟨by rw[rs.length];show c.1,λp j=>?_⟩⟩;have b:Ext e d (upd e p (.tup a)) (upd d p (.tup a)):=.new x.s j;show k _ _ (.fz (.tup ds)) _ (x.trans b) ?_ c.2;show Rep X.K _ _ (.tup ds);simp only[Rep];show⟨p,a,rfl,jb,rs.mono b.g⟩
theorem ic(h:mI X es ts):PD X (.List es pos) (gM ts):=by
 obtain⟨t,p,q⟩:=h;show⟨_,O9 p,λc σ f e G H Q P E h k=>q c σ f e G H _ _ E h λd i ds g x rs b=>⟨by rw[rs.length];show b.1,λp a=>?_⟩⟩;show k _ _ (.ow ds) g (x.trans (.own x.s a)) ⟨p,d,rfl,x.h.free a,x.s.free a,jb,rs⟩ b.2
def rn(X:Cx)(f:Value)(o:List D->(R->Prop)->Prop):Prop:=∃r,dZ X f r/\∀(G H:Hp)(b:List V)(ds:List D)(Q:R->Prop)(P:VK),cJ G H->cx X.K G b ds->o ds Q->
 (∀v a c d,Ext G H d a->eZ X.K d a H v c->Q c->P v a)->r b H P
def eY(o:List D->(R->Prop)->Prop)(ts:iW):TD:=λa Q=>ts a λds=>o ds Q
theorem IZ{o:List D->(R->Prop)->Prop}{r:List V->Hp->VK->Prop}{t:TA}
  (m:∀(G H:Hp)(b:List V)(ds:List D)(Q:R->Prop)(P:VK),cJ G H->cx X.K G b ds->o ds Q->(∀v a e c,Ext G H c a->eZ X.K c a H v e->Q e->P v a)->r b H P)
  (q:∀(d:Ev)(σ:St)(g f G H:Hp)(Q:List D->Prop)(P:List V->Hp->Prop),dU X.K g f d σ G H->ts d Q->(∀b a ds c,Ext G H c a->cx X.K c b ds->Q ds->P b a)->t σ H P):rP X.K (eY o ts) (Ga r t):=
 λd σ g f G H Q P E h k=>q d σ g f G H _ _ E h λb a ds c x rs n=>m c a b ds Q P x.s rs n λv p e u i j l=>k v p e u (x.trans i) (j.ie x.h) l
theorem iD{a:String}{x:Str}{p:Pos}{o:List D->(R->Prop)->Prop}(g:rn X (.builtin a) o)(hm:X.mg x=none)(d:bootBuiltins x=some (.builtin a))(ha:mI X (e::es) ts)(hg:Gl X x:=by rfl)(hn:x≠"__name__":=by decide)(c:(x==("__debug__":Str))=false:=by decide)
  (he:starEach (e::es) X.env=(false,eval e X.env)::starEach es X.env:=by rfl) (h:(backTo pos (starEach es X.env)).any (·.1)=false:=by rfl):PD X (.Call (.Name x p) (e::es) [] pos) (eY o ts):=by
 obtain⟨r,f,b⟩:=g;obtain⟨t,pp,q⟩:=ha;show⟨_,wC f hg hm d pp hn c he h,IZ b q⟩
theorem qD{T:String}{x:Str}{p:Pos}{o:List D->(R->Prop)->Prop}(f:rn X (.type T) o)(hm:X.mg x=none)(c:bootBuiltins x=some (.type T))(ha:mI X (e::es) ts)(hg:Gl X x:=by rfl)(hn:x≠"__name__":=by decide)(b:(x==("__debug__":Str))=false:=by decide)
  (he:starEach (e::es) X.env=(false,eval e X.env)::starEach es X.env:=by rfl) (g:(backTo pos (starEach es X.env)).any (·.1)=false:=by rfl):PD X (.Call (.Name x p) (e::es) [] pos) (eY o ts):=by
 obtain⟨r,d,a⟩:=f;obtain⟨t,pp,q⟩:=ha;show⟨_,CS d hg hm c pp hn b he g,IZ a q⟩
end
theorem qu{a:St}{i j:Nat}{x:Option V}:(a.set i x)[j]?=if i=j/\j<a.length then some x else a[j]?:=by
 by_cases h:i=j
 .subst h;by_cases b:i<a.length
  .simp[b]
  simp[b]
 simp[h]
section
variable{K:J'}{G0 H0 G H G' H':Hp}{ρ:Ev}{σ:St}
theorem dU.put{i:Nat}{v:V}{r:R}(E:dU K G0 H0 ρ σ G H)(x:Ext G H G' H')(J:eZ K G' H' H v r):dU K G0 H0 (ρ.set i r.sl) (σ.set i (some v)) G' H':=by
 have U:=E.ext x;have w:=E.len;have y:∀j s,gt (ρ.set i r.sl) j=s->(i=j/\j<ρ.length/\s=r.sl)\/(¬(i=j/\j<ρ.length)/\gt ρ j=s):=λj s e=>by
  rw[wt] at e;by_cases h:i=j/\j<ρ.length
  .rw[if_pos h] at e;show .inl ⟨h.1,h.2,e.symm⟩
  rw[if_neg h] at e;show .inr ⟨h,e⟩
 show⟨U.e,by simp[E.len],λj d h=>?_,λj ds h=>?_,λj k ds es W a c=>?_,?_⟩
 .rcases y j _ h with⟨a,c,f⟩ | ⟨a,c⟩
  .cases r with
   | ow=>cases f
   | ov=>cases f
   | fz d'=>
    cases f;show⟨v,by rw[qu,if_pos ⟨a,by ext⟩],J⟩
  obtain⟨u,hu,ru⟩:=U.fz j d c;show⟨u,by rw[qu,if_neg (by rw[w];show a)];show hu,ru⟩
 .rcases y j _ h with⟨a,c,f⟩ | ⟨a,c⟩
  .cases r with
   | fz=>cases f
   | ov=>cases f
   | ow Z=>
    cases f;obtain⟨p,xs,rfl,a1,a2,I,T⟩:=J;show⟨p,xs,by rw[qu,if_pos ⟨a,by ext⟩],I,a2,E.e.h.free a1,T⟩
  obtain⟨p,xs,m,l,F,C,X⟩:=U.ow j ds c;show⟨p,xs,by rw[qu,if_neg (by rw[w];show a)];show m,l,F,C,X⟩
 .have old:∀{j:Nat}{ds:List D},gt ρ j=.ow ds->∀es,r=.ow es->σ[j]?≠some (some v):=λ{j ds} h es e z=>by
   subst e;obtain⟨p,xs,rfl,a1,a2,I,T⟩:=J;obtain⟨O,qE,m,l,F,C,X⟩:=E.ow j ds h;rw[m] at z;cases z;rw[a1] at l;cases l
  rcases y j _ a with⟨c1,N,B⟩ | ⟨c1,N⟩
  .rcases y k _ c with⟨A,M,S⟩ | ⟨A,M⟩
   .exact absurd (c1.symm.trans A) W
   rw[qu,if_pos ⟨c1,by ext⟩,qu,if_neg (by rw[w];show A)];cases r with
   | fz=>cases B
   | ov=>cases B
   | ow P=>show λz=>old M P rfl z.symm
  rcases y k _ c with⟨A,M,S⟩ | ⟨A,M⟩
  .rw[qu,if_neg (by rw[w];show c1),qu,if_pos ⟨A,by ext⟩];cases r with
   | fz=>cases S
   | ov=>cases S
   | ow P=>show old N P rfl
  rw[qu,if_neg (by rw[w];show c1),qu,if_neg (by rw[w];show A)];show E.dj j k ds es W N M
 obtain⟨own,o1,o2⟩:=E.on;have Y:∀j,¬(i=j/\j<ρ.length)->(σ.set i (some v))[j]?=σ[j]?:=λj h=>by rw[qu,if_neg (by rw[w];show h)]
 have gen:∀L:List Addr,(∀q∈L,H q=none)->(∀j ds p,i=j->j<ρ.length->r.sl=.ow ds->v=.ref p->p∈L)->
   (∀j o,i=j->j<ρ.length->r.sl=.ov o->∃p fp,v=.ref p/\(p::fp).Nodup/\kB K G' H' p fp o/\∀q∈p::fp,G' q=none/\q∈L)->
   ∃own:Addr->Option Nat,(∀j ds p,gt (ρ.set i r.sl) j=.ow ds->(σ.set i (some v))[j]?=some (some (.ref p))->own p=some j)/\∀j o,gt (ρ.set i r.sl) j=.ov o->∃p fp,(σ.set i (some v))[j]?=some (some (.ref p))/\(p::fp).Nodup/\kB K G' H' p fp o/\∀q∈p::fp,G' q=none/\H0 q=none/\own q=some j:=by
  intro L Q hw ho;show⟨λq=>if q∈L then some i else own q,λj ds p h t=>?_,λj o h=>?_⟩
  .rcases y j _ h with⟨a,c,f⟩ | ⟨a,c⟩
   .rw[qu,if_pos ⟨a,by ext⟩] at t;have hv:v=.ref p:=by injection t with t;injection t
    dsimp only;rw[if_pos (hw j ds p a c f.symm hv),a]
   rw[Y j a] at t;obtain⟨O,qE,m,l,_⟩:=E.ow j ds c;have fL:p∉L:=λz=>by
    rw[t] at m;cases m;rw[Q p z] at l;cases l
   dsimp only;rw[if_neg fL];show o1 j ds p c t
  rcases y j _ h with⟨a,c,f⟩ | ⟨a,c⟩
  .obtain⟨p,fp,rfl,c1,N,B⟩:=ho j o a c f.symm;show⟨p,fp,by rw[qu,if_pos ⟨a,by ext⟩],c1,N,λq b=>⟨(B q b).1,E.e.h.free (Q q (B q b).2),?_⟩⟩;dsimp only;rw[if_pos (B q b).2,a]
  obtain⟨p,fp,m,l,F,C⟩:=o2 j o c;show⟨p,fp,by rw[Y j a];show m,l,F.mono x.g λq _ u e=>x.h q u e,λq b=>⟨x.n q (C q b).1 (F.here q b),(C q b).2.1,?_⟩⟩;dsimp only;rw[if_neg (λz=>F.here q b (Q q z))];show(C q b).2.2
 cases r with
 | fz d=>show gen [] (λq b=>by cases b) (λj ds p _ _ e=>by cases e) (λj o _ _ e=>by cases e)
 | ow Z=>
  obtain⟨p,xs,rfl,a1,a2,I,T⟩:=J;show gen [p] (λq b=>?_) (λj ds O _ _ e e2=>?_) (λj o _ _ e=>by cases e)
  .simp only[br] at b;subst b;show a1
  cases e2;simp
 | ov o'=>
  obtain⟨p,fp,rfl,a1,a2,I⟩:=J;show gen (p::fp) (λq b=>(I q b).1) (λj ds O _ _ e=>by cases e) (λj o _ _ e=>?_);cases e;show⟨p,fp,rfl,a1,a2,λq b=>⟨(I q b).2,b⟩⟩
noncomputable def lJ(i:Nat)(ρ:Ev):Ev:=match gt ρ i with
 | .ow ds=>ρ.set i (.fz (.lst ds))
 | .ov o=>ρ.set i (.fz o.val)
 | _=>ρ
theorem y4{ρ:Ev}{i:Nat}{s:Sl}(h:gt ρ i=s)(c:s≠.un):i<ρ.length:=by
 induction ρ generalizing i with
 | nil=>simp[gt] at h;show absurd h.symm c
 | cons a r b=>
  cases i with
  | zero=>simp
  | succ i=>simp only[gt] at h;have:=b h;simp;ext
theorem cR.MM{K:J'}{G H:Hp}:∀{b:List Addr}{c:List (List D)},cR K G H b c->∀q∈b,∃zs,H q=some (.lst zs)
 | [],[],_,q,a=>by cases a
 | p::b,ds::c,h,q,a=>by
  simp only[cR] at h;rcases ao.mp a with rfl | a
  .exact⟨_,h.1.choose_spec.1⟩
  show cR.MM h.2 q a
 | [],_::_,h,_,_=>by simp only[cR] at h
 | _::_,[],h,_,_=>by simp only[cR] at h
theorem dU.sT(i:Nat)(E:dU K G0 H0 ρ σ G H):∃L:List Addr,(∀q∈L,G q=none)/\dU K G0 H0 (lJ i ρ) σ (qt G H L) H/\(((∀o,gt ρ i=.ov o->(∃X,o=.dc X)\/∃W,o=.ll W)->∀q∈L,H q≠none/\∀xs,¬Rd H q (.tup xs)))/\∀o p,gt ρ i=.ov o->σ[i]?=some (some (.ref p))->p∈L:=by
 unfold lJ;split
 .rename_i ds hg;obtain⟨p,xs,I,M,y,F,x⟩:=E.ow i ds hg;have T:i<ρ.length:=y4 hg (by simp);have v:cJ G (upd G p (.lst xs)):=vn y;have r:∀j s,gt (ρ.set i (.fz (.lst ds))) j=s->(i=j/\s=.fz (.lst ds))\/(i≠j/\gt ρ j=s):=λj s e=>by
   rw[wt] at e;by_cases h:i=j
   .subst h;rw[if_pos ⟨rfl,T⟩] at e;show .inl ⟨rfl,e.symm⟩
   rw[if_neg (λz=>h z.1)] at e;show .inr ⟨h,e⟩
  have ep:qt G H [p]=upd G p (.lst xs):=by
   funext a
   by_cases ha:a=p
   .subst ha;rw[jb,tQ (by simp)];show M
   rw[eG ha,se (by simpa using ha)]
  show⟨[p],λq f=>?_,?_,λ_ q f=>by
   simp only[br] at f;rw[f]
   show⟨(by rw[M];show nofun),λD e=>by rcases e with e | ⟨_,e⟩<;>(rw[M] at e;cases e)⟩,λo p z=>by rw[hg] at z;cases z⟩
  .simp only[br] at f;subst f;show y
  rw[ep];show⟨⟨E.e.g.trans v,E.e.h,λb o e=>?_,λq Q J=>?_⟩,by simp[E.len],λj d h=>?_,λj es h=>?_,λj k es fs R a1 a2=>?_,?_⟩
  .by_cases hb:b=p
   .subst hb;rw[jb] at e;rw[M];show e
   rw[eG hb] at e;show E.e.s b o e
  .rw[eG (λz=>J (by rw[z];show F))];show E.e.n q Q J
  .rcases r j _ h with⟨e,c⟩ | ⟨e,c⟩
   .subst e;cases c;show⟨_,I,by simp only[Rep];show⟨p,xs,rfl,lM.of jb,x.mono v⟩⟩
   obtain⟨u,P,O⟩:=E.fz j d c;show⟨u,P,O.mono v⟩
  .rcases r j _ h with⟨e,c⟩ | ⟨e,c⟩
   .cases c
   obtain⟨l,D,w,C,B,t,U⟩:=E.ow j es c;have Z:l≠p:=λz=>by
    subst z;show E.dj i j ds es e hg c (by rw[I,w])
   show⟨l,D,w,C,by rw[eG Z];show B,t,U.mono v⟩
  .rcases r j _ a1 with⟨_,c⟩ | ⟨e,c⟩
   .cases c
   rcases r k _ a2 with⟨_,A⟩ | ⟨e3,A⟩
   .cases A
   show E.dj j k es fs R c A
  obtain⟨own,o1,N⟩:=E.on;show⟨own,λj es l h S=>?_,λj o h=>?_⟩
  .rcases r j _ h with⟨_,c⟩ | ⟨_,c⟩
   .cases c
   show o1 j es l c S
  rcases r j _ h with⟨_,c⟩ | ⟨e,c⟩
  .cases c
  obtain⟨l,fp,w,C,B,t⟩:=N j o c;show⟨l,fp,w,C,B.mono v λq _ u e=>e,λq f=>⟨?_,(t q f).2⟩⟩;rw[eG λz=>?_]
  .exact(t q f).1
  have m:=(t q f).2.2;rw[z,o1 i ds p hg I] at m;injection m with m
  show e m
 .rename_i o hg;obtain⟨own,o1,N⟩:=E.on;obtain⟨p,fp,I,M,y,F⟩:=N i o hg;have T:i<ρ.length:=y4 hg (by simp);have hn:∀q∈p::fp,G q=none:=λq f=>(F q f).1
  have v:cJ G (qt G H (p::fp)):=zB hn;have r:∀j s,gt (ρ.set i (.fz o.val)) j=s->(i=j/\s=.fz o.val)\/(i≠j/\gt ρ j=s):=λj s e=>by
   rw[wt] at e;by_cases h:i=j
   .subst h;rw[if_pos ⟨rfl,T⟩] at e;show .inl ⟨rfl,e.symm⟩
   rw[if_neg (λz=>h z.1)] at e;show .inr ⟨h,e⟩
  suffices A4:dU K G0 H0 (ρ.set i (.fz o.val)) σ (qt G H (p::fp)) H from⟨p::fp,hn,A4,λhd q f=>by
   rcases hd o hg with⟨X,rfl⟩ | ⟨W,rfl⟩
   .obtain⟨rfl,ks,ep,x,_⟩:=y;simp only[br] at f;rw[f];show⟨(by rw[x];show nofun),λD e=>by rcases e with e | ⟨_,e⟩<;>(rw[x] at e;cases e)⟩
   .obtain⟨zs,x⟩:∃zs,H q=some (.lst zs):=by
     rcases ao.mp f with rfl | f
     .exact⟨_,y.1⟩
     show cR.MM y.2 q f
    show⟨(by rw[x];show nofun),λD e=>by rcases e with e | ⟨_,e⟩<;>(rw[x] at e;cases e)⟩,λV l _ e=>by rw[I] at e;cases e;simp⟩
  show⟨⟨E.e.g.trans v,E.e.h,λb u e=>?_,λq Q J=>?_⟩,by simp[E.len],λj d h=>?_,λj es h=>?_,λj k es fs R a1 a2=>?_,own,λj es l h S=>?_,λj V h=>?_⟩
  .by_cases hb:b∈p::fp
   .rw[tQ hb] at e;show e
   rw[se hb] at e;show E.e.s b u e
  .rw[se (λz=>J (F q z).2.1)];show E.e.n q Q J
  .rcases r j _ h with⟨e,c⟩ | ⟨e,c⟩
   .subst e;cases c;show⟨_,I,y.freeze hn⟩
   obtain⟨u,P,O⟩:=E.fz j d c;show⟨u,P,O.mono v⟩
  .rcases r j _ h with⟨e,c⟩ | ⟨e,c⟩
   .cases c
   obtain⟨l,D,w,C,B,t,U⟩:=E.ow j es c;show⟨l,D,w,C,?_,t,U.mono v⟩;rw[se λz=>?_]
   .exact B
   have m:=(F l z).2.2;rw[o1 j es l c w] at m;injection m with m
   show e m.symm
  .rcases r j _ a1 with⟨_,c⟩ | ⟨e,c⟩
   .cases c
   rcases r k _ a2 with⟨_,A⟩ | ⟨e3,A⟩
   .cases A
   show E.dj j k es fs R c A
  .rcases r j _ h with⟨_,c⟩ | ⟨_,c⟩
   .cases c
   show o1 j es l c S
  rcases r j _ h with⟨_,c⟩ | ⟨e,c⟩
  .cases c
  obtain⟨l,Y,w,C,B,t⟩:=N j V c;show⟨l,Y,w,C,B.mono v λq _ u e=>e,λq f=>⟨?_,(t q f).2⟩⟩;rw[se λz=>?_]
  .exact(t q f).1
  have m:=(t q f).2.2;rw[(F q z).2.2] at m;injection m with m
  show e m
 rename_i Zv Xv;have ep:qt G H []=G:=by funext a;show se (by simp)
 show⟨[],λq f=>(by cases f),by rw[ep];show E,λ_ q f=>(by cases f),λo p z=>(Xv o z).elim⟩
theorem dU.ng(i:Nat)(E:dU K G0 H0 ρ σ G H):∃L:List Addr,(∀q∈L,G q=none)/\dU K G0 H0 (lJ i ρ) σ (qt G H L) H/\((∀o,gt ρ i=.ov o->(∃e,o=.dc e)\/∃d,o=.ll d)->∀q∈L,H q≠none/\∀xs,¬Rd H q (.tup xs)):=
 let⟨L,a,b,c,_⟩:=E.sT i
 ⟨L,a,b,c⟩
theorem dU.freeze(i:Nat)(E:dU K G0 H0 ρ σ G H):∃G',dU K G0 H0 (lJ i ρ) σ G' H/\cJ G G':=
 let⟨L,a,b,_⟩:=E.ng i
 ⟨_,b,zB a⟩
theorem dU.change{i:Nat}{ds t:List D}{p:Addr}{v:List V}(E:dU K G0 H0 ρ σ G H)(hg:gt ρ i=.ow ds)(x:σ[i]?=some (some (.ref p)))(M:cx K G v t) :
  dU K G0 H0 (ρ.set i (.ow t)) σ G (upd H p (.lst v)):=by
 obtain⟨c,W,J,U,I,F,T⟩:=E.ow i ds hg;rw[x] at J;cases J;have Q:i<ρ.length:=y4 hg (by simp);have f:∀j s,gt (ρ.set i (.ow t)) j=s->(i=j/\s=.ow t)\/(i≠j/\gt ρ j=s):=λj s e=>by
  rw[wt] at e;by_cases h:i=j
  .subst h;rw[if_pos ⟨rfl,Q⟩] at e;show .inl ⟨rfl,e.symm⟩
  rw[if_neg (λz=>h z.1)] at e;show .inr ⟨h,e⟩
 have O:cJ G (upd H p (.lst v)):=λb o e=>by rw[eG (kf e I)];show E.e.s b o e
 show⟨⟨E.e.g,λb o e=>by rw[eG (kf e F)];show E.e.h b o e,O,E.e.n⟩,by simp[E.len],λj d h=>?_,λj es h=>?_,λj k es fs w a1 a2=>?_,?_⟩
 .rcases f j _ h with⟨_,a⟩ | ⟨e,a⟩
  .cases a
  show E.fz j d a
 .rcases f j _ h with⟨e,a⟩ | ⟨e,a⟩
  .subst e;cases a;show⟨p,v,x,jb,I,F,M⟩
  obtain⟨c,S,c1,B,A,y,R⟩:=E.ow j es a;have P:c≠p:=λz=>by
   subst z;show E.dj i j ds es e hg a (by rw[x,c1])
  show⟨c,S,c1,by rw[eG P];show B,A,y,R⟩
 .rcases f j _ a1 with⟨e,a⟩ | ⟨e,a⟩
  .subst e;rcases f k _ a2 with⟨l,m⟩ | ⟨l,m⟩
   .exact absurd l w
   show E.dj i k ds fs w hg m
  rcases f k _ a2 with⟨l,m⟩ | ⟨l,m⟩
  .subst l;show E.dj j i es ds w a hg
  show E.dj j k es fs w a m
 obtain⟨own,o1,L⟩:=E.on;show⟨own,λj es c h C=>?_,λj o h=>?_⟩
 .rcases f j _ h with⟨e,a⟩ | ⟨_,a⟩
  .subst e;show o1 i ds c hg C
  show o1 j es c a C
 rcases f j _ h with⟨_,a⟩ | ⟨e,a⟩
 .cases a
 obtain⟨c,fp,c1,B,A,y⟩:=L j o a;show⟨c,fp,c1,B,A.mono (cJ.refl _) λq N u l=>?_,y⟩;rw[eG λz=>?_]
 .exact l
 have r:=(y q N).2.2;rw[z,o1 i ds p hg x] at r;injection r with r
 show e r
theorem dU.uR{i:Nat}{o A:OV}{p:Addr}(E:dU K G0 H0 ρ σ G H)(hg:gt ρ i=.ov o)(Q:σ[i]?=some (some (.ref p)))
  (U:∀fp,(p::fp).Nodup->kB K G H p fp o->∃v,(p::v).Nodup/\kB K G H' p v A/\(∀q∈p::v,q∈p::fp\/H q=none)/\∀b,b∉p::fp->H b≠none->H' b=H b) :
  dU K G0 H0 (ρ.set i (.ov A)) σ G H':=by
 obtain⟨own,o1,N⟩:=E.on;obtain⟨l,fp,R,b2,Z,t⟩:=N i o hg;rw[Q] at R;cases R;obtain⟨v,c1,Y,L,J⟩:=U fp b2 Z;have W:i<ρ.length:=y4 hg (by simp);have x:∀j s,gt (ρ.set i (.ov A)) j=s->(i=j/\s=.ov A)\/(i≠j/\gt ρ j=s):=λj s e=>by
  rw[wt] at e;by_cases h:i=j
  .subst h;rw[if_pos ⟨rfl,W⟩] at e;show .inl ⟨rfl,e.symm⟩
  rw[if_neg (λz=>h z.1)] at e;show .inr ⟨h,e⟩
 have P:∀(F:Hp),(∀q∈p::fp,F q=none)->cJ F H->cJ F H':=λF V s b u e=>by
  have hb:b∉p::fp:=λz=>by rw[V b z] at e;cases e
  rw[J b hb (by rw[s b u e];show nofun)];show s b u e
 show⟨⟨E.e.g,P H0 (λq c=>(t q c).2.1) E.e.h,P G (λq c=>(t q c).1) E.e.s,E.e.n⟩,by simp[E.len],λj d h=>?_,λj es h=>?_,λj k es fs T a1 a2=>?_,λq=>if q∈p::v then some i else own q,λj es l h O=>?_,λj Xu h=>?_⟩
 .rcases x j _ h with⟨_,a⟩ | ⟨e,a⟩
  .cases a
  show E.fz j d a
 .rcases x j _ h with⟨_,a⟩ | ⟨e,a⟩
  .cases a
  obtain⟨l,xs,r,m,B,y,X⟩:=E.ow j es a;show⟨l,xs,r,?_,B,y,X⟩;rw[J l (λz=>?_) (by rw[m];show nofun)]
  .exact m
  have f:=(t l z).2.2;rw[o1 j es l a r] at f;injection f with f
  show e f.symm
 .rcases x j _ a1 with⟨_,a⟩ | ⟨e,a⟩
  .cases a
  rcases x k _ a2 with⟨_,D⟩ | ⟨I,D⟩
  .cases D
  show E.dj j k es fs T a D
 .rcases x j _ h with⟨_,a⟩ | ⟨e,a⟩
  .cases a
  have w:=o1 j es l a O;obtain⟨C,xs,r,m,_⟩:=E.ow j es a;rw[O] at r;cases r;dsimp only;rw[if_neg λz=>?_]
  .exact w
  rcases L l z with z | z
  .have f:=(t l z).2.2;rw[w] at f;injection f with f
   show e f.symm
  rw[z] at m;cases m
 rcases x j _ h with⟨e,a⟩ | ⟨e,a⟩
 .subst e;cases a;show⟨p,v,Q,c1,Y,λq c=>?_⟩;dsimp only;rw[if_pos c];rcases L q c with z | z
  .exact⟨(t q z).1,(t q z).2.1,rfl⟩
  show⟨E.e.s.free z,E.e.h.free z,rfl⟩
 obtain⟨C,S,r,m,B,y⟩:=N j Xu a;have M:∀q∈C::S,q∉p::fp:=λq c z=>by
  have f:=(t q z).2.2;rw[(y q c).2.2] at f;injection f with f
  show e f.symm
 show⟨C,S,r,m,B.mono (cJ.refl _) λq c u I=>?_,λq c=>⟨(y q c).1,(y q c).2.1,?_⟩⟩
 .rw[J q (M q c) (by rw[I];show nofun)];show I
 dsimp only;rw[if_neg λz=>?_]
 .exact(y q c).2.2
 rcases L q z with z | z
 .exact M q c z
 show B.here q c z
theorem dU.weak{ρ':Ev}(E:dU K G0 H0 ρ σ G H)(c:ρ'.length=ρ.length)(w:∀i,gt ρ' i=.un\/gt ρ' i=gt ρ i):dU K G0 H0 ρ' σ G H:=by
 have g:∀i s,gt ρ' i=s->s≠.un->gt ρ i=s:=λi s e n=>by
  rcases w i with h | h
  .exact absurd (e.symm.trans h) n
  rw[<-h];show e
 show⟨E.e,by rw[c];show E.len,λi d h=>E.fz i d (g i _ h (by simp)),λi d h=>E.ow i d (g i _ h (by simp)),λi j ds es b k f=>E.dj i j ds es b (g i _ k (by simp)) (g j _ f (by simp)),let⟨own,o1,a⟩:=E.on;⟨own,λi ds p h=>o1 i ds p (g i _ h (by simp)),λi o h=>a i o (g i _ h (by simp))⟩⟩
end
section
variable{X:Cx}{pos:Pos}{e:Expr}{te:TD}
def cM(t u:TX):TX:=λD a=>t { D with nx:=u D } a
def gG:TX:=λD a=>D.nx a
theorem hZ:oN X [] gG:=⟨_,Ka,λa σ c b G H D E k h g=>g.nx a σ G H (cJ.refl _) k h⟩
theorem cT{st:Stmt}{a:List Stmt}{t u:TX}(o:PX X st t)(n:oN X a u):oN X (st::a) (cM t u):=by
 obtain⟨t1,l,i⟩:=o;obtain⟨s,j,f⟩:=n;show⟨_,EU l j,λd σ c b G H D E k h g=>i d σ c b G H _ _ k h ⟨λρ' p r q e m h'=>f ρ' p c b r q D E m h' (g.shift e),g.rt,g.bk,g.ct⟩⟩
theorem dv{st:Stmt}{t:TX}(c:PX X st t):oN X [st] t:=by
 obtain⟨t1,b,a⟩:=c;show⟨_,Ek b,a⟩
theorem wA(i:Nat){b:List Stmt}{t:TX}(h:oN X b t):oN X b (λD a=>t D (lJ i a)):=by
 obtain⟨t1,e,d⟩:=h;show⟨_,e,λa σ l j G H D E k h g=>?_⟩;obtain⟨m,f,c⟩:=k.freeze i;show d _ σ l j m H D E f h (g.shift c)
def fV(te:TD):TX:=λD a=>te a D.rt
theorem gO(h:PD X e te):PX X (.Return (some e) pos) (fV te):=by
 obtain⟨t,p,q⟩:=h;show⟨_,Eh p,λa σ i d G H D E k h g=>q a σ i d G H _ _ k h λv f r j x b c=>g.rt v f r j (k.e.trans x) (b.ie k.e.h) c⟩
def pd(i:Nat):TX:=λD a=>match gt a i with
 | .ow ds=>D.rt (.ow ds)
 | _=>False
theorem tT(i:Nat){x:Str}{a:Pos}(d:X.N[i]?=some x:=by rfl)(c:oM X.env.scope x:=by first | show Or.inl rfl | show Or.inr (Or.inl rfl) | show Or.inr (Or.inr rfl))(hd:(x==("__debug__":Str))=false:=by decide)
  (b:(x==("__classdict__":Str))=false:=by decide):PX X (.Return (some (.Name x a)) pos) (pd i):=by
 show⟨_,Eh (rB d c hd b),λo σ r q G H D E k h g=>?_⟩;unfold pd at h;split at h
 .rename_i ds hg;obtain⟨p,xs,n,m,l,j,f⟩:=k.ow i ds hg;show⟨_,n,g.rt _ H (.ow ds) G k.e ⟨p,xs,rfl,j,l,m,f⟩ h⟩
 show h.elim
def xW(te:TD):TX:=λD a=>te a λ_=>D.nx a
def gi(c:jA)(t u:TX):TX:=λD a=>c a λb=>if b=true then t D a else u D a
theorem iS{c:Expr}{a b:List Stmt}{tc:jA}{t u:TX}(s:PB X c tc)(ha:oN X a t)(hb:oN X b u):PX X (.If c a b pos) (gi tc t u):=by
 obtain⟨t0,r,o⟩:=s;obtain⟨t1,q,n⟩:=ha;obtain⟨v,p,m⟩:=hb;show⟨_,Jd r q p,λe σ i f G H D E k h g=>o e σ i f G H _ _ k h λb j l x d=>?_⟩;cases b with
 | true=>rw[if_pos rfl] at d ⊢;show n e σ i f l j D E (k.ext x) d (g.shift x.g)
 | false=>rw[if_neg aD] at d ⊢;show m e σ i f l j D E (k.ext x) d (g.shift x.g)
def kY(i:Nat)(te:TD):TX:=λD a=>te a λr=>D.nx (a.set i r.sl)
theorem o4(i:Nat){x:Str}{a:Pos}(he:PD X e te)(l:X.N.Nodup:=by assumption)(hi:X.N[i]?=some x:=by rfl)(hx:Loc X.env.scope x:=by first | show Or.inl rfl | show Or.inr rfl)(d:swapsWith e (some (.Name x a)) pos.line X.env=pure false:=by rfl)(j:X.fn x=true\/X.env.scope.names.lookup x=some .local:=by first | show .inl rfl | show .inr rfl | assumption) :
  PX X (.Assign [.Name x a] e pos) (kY i te):=by
 obtain⟨t,p,q⟩:=he;show⟨_,Eg l hi hx p d j,λb σ o m G H D E k h g=>q b σ o m G H _ _ k h λv n r s x c f=>g.nx _ _ s n x.g (k.put x c) f⟩
def eE(i:Nat)(te:TD):TX:=λD a=>te a λr=>D.nx (a.set i (.fz r.val))
theorem fb(i:Nat){x:Str}{a:Pos}(he:PD X e te)(n:X.N.Nodup:=by assumption)(hi:X.N[i]?=some x:=by rfl)(hx:Loc X.env.scope x:=by first | show Or.inl rfl | show Or.inr rfl)(j:swapsWith e (some (.Name x a)) pos.line X.env=pure false:=by rfl)(m:X.fn x=true\/X.env.scope.names.lookup x=some .local:=by first | show .inl rfl | show .inr rfl | assumption) :
  PX X (.Assign [.Name x a] e pos) (eE i te):=by
 obtain⟨t,p,q⟩:=he;show⟨_,Eg n hi hx p j m,λc σ w o G H D E k h g=>q c σ w o G H _ _ k h λv s r y x f l=>?_⟩;obtain⟨u,b,d,_⟩:=f.freeze x;show g.nx _ _ u s b.g (k.put b (r:=.fz r.val) d) l
def lX(i:Nat)(te:TD):TX:=λD a=>match gt a i with
 | .ow ds=>te a λr=>ds.length<sizeLine/\D.nx (a.set i (.ow (ds++[r.val])))
 | _=>False
theorem oZ(i:Nat){x:Str}{l m b:Pos}(he:PD X e te)(B:X.N[i]?=some x:=by rfl)(A:oM X.env.scope x:=by first | show Or.inl rfl | show Or.inr (Or.inl rfl) | show Or.inr (Or.inr rfl))(hd:(x==("__debug__":Str))=false:=by decide)
  (z:(x==("__classdict__":Str))=false:=by decide) (C:starEach [e] X.env=(false,eval e X.env)::starEach [] X.env:=by rfl)
  (hb:∀{j:TE}{t:TA},PE X (.Name x l) j->PA X [e] t->PE X (.Call (.Attribute (.Name x l) "append" m) [e] [] b) (As X.K "list" EB j t):=by intro j t f d;show y7 PySem.F.plainAttrs_list PySem.F.slot_list_append PySem.F.type_list_append Fe f d) :
  PX X (.Expr (.Call (.Attribute (.Name x l) "append" m) [e] [] b) pos) (lX i te):=by
 obtain⟨t,p,q⟩:=he;show⟨_,zj (hb (rB B A hd z) (mZ p pj C)),λs σ L I G H D E k h g=>?_⟩;unfold lX at h;split at h
 .rename_i ds hg;obtain⟨a,xs,f,d,O,M,o⟩:=k.ow i ds hg;show⟨_,f,.inl ⟨rfl,xs,fT.of d⟩,?_⟩;show q s σ L I G H _ _ k h λv P r Q u y n=>?_
  obtain⟨J,c,w,_⟩:=y.freeze u;have k2:=k.ext c;show⟨a,xs,v,rfl,rfl,c.h _ _ d,by rw[o.length];show n.1,?_⟩;show g.nx _ _ J _ c.g (k2.change hg f ((o.mono c.g).append (cx.cons w cx.nil))) n.2
 show h.elim
end
section
variable{X:Cx}{pos:Pos}{tg:Expr}
noncomputable abbrev jI:=D->Ev->(Ev->Prop)->Prop
noncomputable abbrev qr:=List D->Ev->(Ev->Prop)->Prop
def tq(X:Cx)(tg:Expr)(g:jI):Prop:=∃c,PG X tg c/\∀(b:Ev)(σ:St)(h f G H:Hp)(d:D)(v:V)(Q:Ev->Prop)(P:St->Hp->Prop),dU X.K h f b σ G H->Rep X.K G v d->g d b Q->
 (∀ρ' e i a,dU X.K h f ρ' e i a->Ext G H i a->Q ρ'->P e a)->c v σ H P
def yS(X:Cx)(j:List Expr)(g:qr):Prop:=∃d,yK X j d/\∀(b:Ev)(σ:St)(h f G H:Hp)(ds:List D)(c:List V)(Q:Ev->Prop)(P:St->Hp->Prop),dU X.K h f b σ G H->cx X.K G c ds->g ds b Q->
 (∀ρ' e i a,dU X.K h f ρ' e i a->Ext G H i a->Q ρ'->P e a)->d c σ H P
def c6(i:Nat):jI:=λd a Q=>Q (a.set i (.fz d))
theorem di(i:Nat){x:Str}(b:X.N.Nodup:=by assumption)(hi:X.N[i]?=some x:=by rfl)(hx:Loc X.env.scope x:=by first | show Or.inl rfl | show Or.inr rfl)(a:X.fn x=true\/X.env.scope.names.lookup x=some .local:=by first | show .inl rfl | show .inr rfl | assumption):tq X (.Name x pos) (c6 i):=
 ⟨_,QF b hi hx a,λc σ g f G H d v Q P E r h k=>k _ _ G H (E.put (.refl E.e.s) (r:=.fz d) r) (.refl E.e.s) h⟩
noncomputable def ja:qr:=λds a Q=>match ds with
 | []=>Q a
 | _=>False
noncomputable def eJ(t:jI)(u:qr):qr:=λds a Q=>match ds with
 | d::r=>t d a λρ'=>u r ρ' Q
 | []=>False
theorem me:yS X [] ja:=by
 show⟨_,QE,λb σ d c G H ds a Q P E r h k=>?_⟩;unfold ja at h;split at h
 .cases a with
  | nil=>show⟨rfl,k _ _ G H E (.refl E.e.s) h⟩
  | cons=>simp only[cx] at r
 show h.elim
theorem fW{e:Expr}{es:List Expr}{t:jI}{u:qr}(w:tq X e t)(s:yS X es u)(p:(assignEach (e::es) X.env).map (·.2)=assign e X.env::(assignEach es X.env).map (·.2):=by rfl):yS X (e::es) (eJ t u):=by
 obtain⟨t1,m,j⟩:=w;obtain⟨J,l,i⟩:=s;show⟨_,Sx m l p,λd σ c b G H ds a Q P E r h k=>?_⟩;unfold eJ at h;split at h
 .cases a with
  | nil=>simp only[cx] at r
  | cons v a=>
   simp only[cx] at r;show⟨v,a,rfl,j d σ c b G H _ v _ _ E r.1 h λρ' z D B I x q=>?_⟩;show i ρ' z c b D B _ a Q P I (r.2.mono x.g) q λy n C A F f o=>k y n C A F (x.trans f) o
 show h.elim
def j9(n:Nat)(t:qr):jI:=λd a Q=>match d with
 | .tup ds=>ds.length=n/\t ds a Q
 | _=>False
theorem mY{es:List Expr}{k:Nat}{t:qr}{n:Nat}(i:X.calm=true)(h:yS X es t)(hn:(assignEach es X.env).length=n:=by rfl)(j:(assignEach es X.env).findIdx? (·.1)=none:=by rfl):tq X (.Tuple es k pos) (j9 n t):=by
 obtain⟨t1,f,c⟩:=h;show⟨_,Qw i f hn j,λb σ m l G H d v Q P E r h k=>?_⟩;unfold j9 at h;split at h
 .simp only[Rep] at r;obtain⟨a,xs,rfl,g,rs⟩:=r;show⟨a,xs,rfl,E.e.s.oo g,by rw[rs.length];show h.1,c b σ m l G H _ xs Q P E rs h.2 k⟩
 show h.elim
def xT(te:TD)(g:jI):TX:=λD a=>te a λr=>g r.val a D.nx
theorem B5{e:Expr}{te:TD}{g:jI}(he:PD X e te)(hg:tq X tg g)(u:swapsWithSole [tg] e pos.line X.env=pure false:=by rfl)(hw:swappedStores [tg] e X.env=pure none:=by rfl)(y:(assignEach [tg] X.env).map (·.2)=[assign tg X.env]:=by rfl):PX X (.Assign [tg] e pos) (xT te g):=by
 obtain⟨t,p,q⟩:=he;obtain⟨C,s,o⟩:=hg;show⟨_,Jy p s u hw y,λb σ f d G H D E k h g=>q b σ f d G H _ _ k h λv a r i x m w=>?_⟩;obtain⟨A,c,l,_⟩:=m.freeze x;show o b σ f d A a _ v _ _ (k.ext c) l w λρ' z i a B j n=>g.nx ρ' z i a (c.g.trans j.g) B n
def tI(K:J')(J:It)(G:Hp)(ds:List D):Prop:=
 (∀i d b a,ds[i]?=some d->cJ G b->cJ b a->J.go i a/\∀v c,J.C4 i a v c->∃e,Ext b a e c/\Rep K e v d)/\∀b a,cJ G b->cJ b a->J.stop ds.length a
noncomputable abbrev mj:=Ev->(List D->Prop)->Prop
def PId(X:Cx)(tg a:Expr)(e:mj):Prop:=∃ww,PI X tg a ww/\∀(b:Ev)(σ:St)(g f G H:Hp)(Q:List D->Prop)(P:It->Hp->Prop),dU X.K g f b σ G H->e b Q->
 (∀J c ds d,Ext G H d c->tI X.K J d ds->Q ds->P J c)->ww σ H P
def Ea(d:D)(Q:List D->Prop):Prop:=match d with
 | .lst ds=>Q ds
 | .tup ds=>Q ds
 | .str z=>Q (z.cps.toList.map λc=>.str ⟨#[c]⟩)
 | _=>False
def hV(te:TD):mj:=λa Q=>te a λr=>Ea r.val Q
theorem SY{K:J'}{G:Hp}{a:Addr}{xs:List V}{ds:List D}(h:lM K G a xs)(r:cx K G xs ds):tI K (Il K a) G ds:=by
 show⟨λi d g f hd s1 s2=>?_,λg f s1 s2=>⟨xs,(s2.gI (s1.gI h)).sq,by rw[r.length];show ay _⟩⟩;obtain⟨v,b,j⟩:=r.get hd;have c:fT K f a xs:=(s2.gI (s1.gI h)).sq;show⟨⟨xs,v,c,b⟩,λu l k=>?_⟩;obtain⟨e,y⟩:=k;subst e;have:=y xs c;rw[b] at this;cases this;show⟨g,.refl s2,j.mono s1⟩
theorem SF{K:J'}{G:Hp}{a:Addr}{xs:List V}{ds:List D}(h:gR K G a xs)(r:cx K G xs ds):tI K (Ik K a) G ds:=by
 show⟨λi d g f hd s1 s2=>?_,λg f s1 s2=>⟨xs,s2.si (s1.si h),by rw[r.length];show ay _⟩⟩;obtain⟨v,b,j⟩:=r.get hd;have c:gR K f a xs:=s2.si (s1.si h);show⟨⟨xs,v,c,b⟩,λu l k=>?_⟩;obtain⟨e,y⟩:=k;subst e;have:=y xs c;rw[b] at this;cases this;show⟨g,.refl s2,j.mono s1⟩
theorem SE{K:J'}{G:Hp}(z:Str):tI K (DH z) G (z.cps.toList.map λc=>.str ⟨#[c]⟩):=by
 show⟨λi d f j hd s1 s2=>?_,λf j s1 s2=>?_⟩
 .rw[aG] at hd;cases e:z.cps.toList[i]? with
  | none=>rw[e] at hd;cases hd
  | some c=>
   rw[e] at hd;cases hd;have b:z.cps[i]?=some c:=by simpa using e
   show⟨(Array.getElem?_eq_some_iff.mp b).1,λv l g=>?_⟩;obtain⟨h,k,a,rfl⟩:=g;subst h;rw[b] at a;cases a;show⟨f,.refl s2,yd _ _ _⟩
 show _=_;simp
theorem LQ{K:J'}{G:Hp}(lo:Int)(n:Nat):tI K (Bz lo n) G ((List.range n).map λ(i:Nat)=>.int (lo+i)):=by
 show⟨λi d a l hd s1 s2=>?_,λa l s1 s2=>?_⟩
 .rw[aG] at hd;cases e:(List.range n)[i]? with
  | none=>rw[e] at hd;cases hd
  | some c=>
   rw[e] at hd;cases hd;obtain⟨j,h⟩:=aB.mp e;have g:i<n:=by simpa using j
   have f:c=i:=by rw[<-h];simp
   subst f;show⟨g,λv m b=>?_⟩;obtain⟨k,rfl⟩:=b;subst k;show⟨a,.refl s2,kP _ _ _⟩
 show n<=_;simp
noncomputable def o9(ds:List D):List D:=ds.mapIdx λi d=>.tup [.int (i:Nat),d]
theorem KA{K:J'}{G:Hp}{t:Addr}{x y:V}{d e:D}(a:G t=some (.tup [x,y]))(c:Rep K G x d)(b:Rep K G y e):Rep K G (.ref t) (.tup [d,e]):=by
 simp only[Rep];show⟨t,[x,y],rfl,a,cx.cons c (cx.cons b cx.nil)⟩
theorem SX{K:J'}{G:Hp}{a:Addr}{xs:List V}{ds:List D}(h:lM K G a xs)(r:cx K G xs ds):tI K (Im K a) G (o9 ds):=by
 show⟨λi d c b hd s1 s2=>?_,λc b s1 s2=>⟨xs,(s2.gI (s1.gI h)).sq,by rw[r.length];simp[o9]⟩⟩;unfold o9 at hd;rw[List.getElem?_mapIdx] at hd;cases e:ds[i]? with
 | none=>rw[e] at hd;cases hd
 | some d'=>
  rw[e] at hd;cases hd;obtain⟨v,j,l⟩:=r.get e;have k:fT K b a xs:=(s2.gI (s1.gI h)).sq;show⟨⟨xs,v,k,j⟩,λu n m=>?_⟩;obtain⟨t,rfl,ht,y⟩:=m;obtain⟨x,hx,rfl⟩:=y xs k;rw[j] at hx;cases hx;have f:Ext c b (upd c t (.tup [.int i,v])) (upd b t (.tup [.int i,v])):=.new s2 ht;show⟨_,f,KA jb (kP _ _ _) ((l.mono s1).mono f.g)⟩
noncomputable def xS(ds es:List D):List D:=List.zipWith (λd e=>.tup [d,e]) ds es
theorem SD{K:J'}{G:Hp}{a b:Addr}{xs ys:List V}{ds es:List D}(h:lM K G a xs)(r:cx K G xs ds)(h':lM K G b ys)(o:cx K G ys es):tI K (Ij K a b) G (xS ds es):=by
 show⟨λi d l c hd s1 s2=>?_,λl c s1 s2=>⟨xs,ys,(s2.gI (s1.gI h)).sq,(s2.gI (s1.gI h')).sq,?_⟩⟩
 .unfold xS at hd;rw[List.getElem?_zipWith] at hd;cases e:ds[i]? with
  | none=>rw[e] at hd;cases hd
  | some d'=>
   cases k:es[i]? with
   | none=>rw[e,k] at hd;cases hd
   | some C=>
    rw[e,k] at hd;cases hd;obtain⟨v,q,w⟩:=r.get e;obtain⟨j,n,z⟩:=o.get k;have s:fT K c a xs:=(s2.gI (s1.gI h)).sq;have m:fT K c b ys:=(s2.gI (s1.gI h')).sq;show⟨⟨xs,ys,v,j,s,m,q,n⟩,λu E A=>?_⟩;obtain⟨t,rfl,ht,y⟩:=A;obtain⟨x,B,hx,p,rfl⟩:=y xs ys s m;rw[q] at hx;rw[n] at p;cases hx;cases p;have f:Ext l c (upd l t (.tup [v,j])) (upd c t (.tup [v,j])):=.new s2 ht;show⟨_,f,KA jb ((w.mono s1).mono f.g) ((z.mono s1).mono f.g)⟩
 rw[r.length,o.length];unfold xS;rw[List.length_zipWith];ext
theorem iV{l:Expr}{te:TD}(h:PD X l te):PId X tg l (hV te):=by
 obtain⟨t,p,q⟩:=h;show⟨_,O1 p,λm σ u o G H Q P E h k=>q m σ u o G H _ _ E h λv i r w x n c=>?_⟩;obtain⟨j,d,b,_⟩:=n.freeze x;unfold Ea at c;split at c
 .rename_i ds e;rw[e] at b;simp only[Rep] at b;obtain⟨a,xs,rfl,f,g⟩:=b;show .inl ⟨a,rfl,⟨xs,(d.s.gI f).sq⟩,k _ i _ j d (SY f g) c⟩
 .rename_i ds e;rw[e] at b;simp only[Rep] at b;obtain⟨a,xs,rfl,f,g⟩:=b;show .inr (.inl ⟨a,rfl,⟨xs,d.s.oo f⟩,k _ i _ j d (SF (gR.of f) g) c⟩)
 .rename_i z e;rw[e] at b;simp only[Rep] at b;show .inr (.inr ⟨z,b,k _ i _ j d (SE z) c⟩)
 show c.elim
def n8(ts:iW):mj:=λa Q=>ts a λds=>match ds with
 | [.int j]=>-(2 ^ 62)<=j/\j<2 ^ 62/\Q ((List.range j.toNat).map λ(i:Nat)=>.int (0+i))
 | _=>False
theorem lZ{K:J'}{G:Hp}{a:List V}{d:D}(h:cx K G a [d]):∃v,a=[v]/\Rep K G v d:=by
 match a,h with
 | [],h=>simp only[cx] at h
 | [v],h=>simp only[cx] at h;show⟨v,rfl,h.1⟩
 | v::w::r,h=>simp only[cx] at h;show absurd h.2 (by simp)
theorem BY{K:J'}{G:Hp}{a:List V}{d e:D}(h:cx K G a [d,e]):∃v w,a=[v,w]/\Rep K G v d/\Rep K G w e:=by
 match a,h with
 | [],h=>simp only[cx] at h
 | v::r,h=>
  simp only[cx] at h;obtain⟨w,rfl,hw⟩:=lZ h.2;show⟨v,w,rfl,h.1,hw⟩
theorem pW{a:Expr}{ts:iW}{p:Pos}(hm:X.mg "range"=none)(ha:mI X [a] ts)(hg:Gl X "range":=by rfl)(e:starEach [a] X.env=[(false,eval a X.env)]:=by rfl):PId X tg (.Call (.Name "range" p) [a] [] pos) (n8 ts):=by
 obtain⟨t,pp,q⟩:=ha;show⟨_,Uc hg hm pp e,λd σ i f G H Q P E h k=>q d σ i f G H _ _ E h λl g ds j x rs b=>?_⟩;split at b
 .obtain⟨v,rfl,c⟩:=lZ rs;simp only[Rep] at c;subst c;show⟨_,rfl,b.1,b.2.1,k _ g _ j x (LQ 0 _) b.2.2⟩
 show b.elim
def BX(ts:iW):mj:=λa Q=>ts a λds=>match ds with
 | [.int i,.int j]=>(-(2 ^ 62)<=i/\i<2 ^ 62/\-(2 ^ 62)<=j/\j<2 ^ 62)/\Q ((List.range (j-i).toNat).map λ(n:Nat)=>.int (i+n))
 | _=>False
theorem Uy{a b:Expr}{ts:iW}{p:Pos}(hm:X.mg "range"=none)(ha:mI X [a,b] ts)(hg:Gl X "range":=by rfl)(i:starEach [a,b] X.env=[(false,eval a X.env),(false,eval b X.env)]:=by rfl)(g:starEach [b] X.env=[(false,eval b X.env)]:=by rfl):PId X tg (.Call (.Name "range" p) [a,b] [] pos) (BX ts):=by
 obtain⟨t,pp,q⟩:=ha;show⟨_,Ub hg hm pp i g,λf σ m j G H Q P E h k=>q f σ m j G H _ _ E h λr l ds n x rs c=>?_⟩;split at c
 .obtain⟨v,o,rfl,d,e⟩:=BY rs;simp only[Rep] at d e;subst d e;show⟨_,_,rfl,c.1,k _ l _ n x (LQ _ _) c.2⟩
 show c.elim
def ug(ts:iW):mj:=λa Q=>ts a λds=>match ds with
 | [.lst es]=>Q (o9 es)
 | _=>False
theorem wH{a:Expr}{ts:iW}{p tp:Pos}{b:List Expr}{g:Nat}(hm:X.mg "enumerate"=none)(ha:mI X [a] ts)(hg:Gl X "enumerate":=by rfl)(i:starEach [a] X.env=[(false,eval a X.env)]:=by rfl):PId X (.Tuple b g tp) (.Call (.Name "enumerate" p) [a] [] pos) (ug ts):=by
 obtain⟨t,pp,q⟩:=ha;show⟨_,QQ hg hm pp i,λf σ n l G H Q P E h k=>q f σ n l G H _ _ E h λr m ds o x rs c=>?_⟩;split at c
 .obtain⟨v,rfl,d⟩:=lZ rs;simp only[Rep] at d;obtain⟨a,xs,rfl,e,j⟩:=d;show⟨a,xs,rfl,x.s.gI e,k _ m _ o x (SX e j) c⟩
 show c.elim
def xR(ts:iW):mj:=λa Q=>ts a λds=>match ds with
 | [.lst es,.lst fs]=>Q (xS es fs)
 | _=>False
theorem Ey{a b:Expr}{ts:iW}{p tp:Pos}{c:List Expr}{l:Nat}(hm:X.mg "zip"=none)(ha:mI X [a,b] ts)(hg:Gl X "zip":=by rfl)(n:starEach [a,b] X.env=[(false,eval a X.env),(false,eval b X.env)]:=by rfl)(m:starEach [b] X.env=[(false,eval b X.env)]:=by rfl) :
  PId X (.Tuple c l tp) (.Call (.Name "zip" p) [a,b] [] pos) (xR ts):=by
 obtain⟨t,pp,q⟩:=ha;show⟨_,O0 hg hm pp n m,λj σ y u G H Q P E h k=>q j σ y u G H _ _ E h λB w ds z x rs d=>?_⟩;split at d
 .obtain⟨v,A,rfl,e,f⟩:=BY rs;simp only[Rep] at e f;obtain⟨a,xs,rfl,i,r⟩:=e;obtain⟨b,ys,rfl,g,o⟩:=f;show⟨a,b,rfl,⟨xs,(x.s.gI i).sq⟩,⟨ys,(x.s.gI g).sq⟩,k _ w _ z x (SD i r g o) d⟩
 show d.elim
def j8(c:mj)(g:jI)(e:TX):TX:=λD b=>c b λds=>∃a:Nat->Ev->Prop,a 0 b/\
 (∀i d ρ',ds[i]?=some d->a i ρ'->g d ρ' λf=>e { D with nx:=a (i+1),ct:=a (i+1),bk:=D.nx } f)/\∀ρ',a ds.length ρ'->D.nx ρ'
theorem mq{a:Expr}{body:List Stmt}{P:mj}{g:jI}{Q:TX}(hp:PassesOwn (model X.prog X.w) X.A X.env X.xe)(hc:X.calm=true)(hi:PId X tg a P)(hg:tq X tg g)(hb:oN X body Q)
  (hs:∀x,foldedSetIterable a X.env x=pure x:=by intro _;rfl):PX X (.For tg a body [] pos) (j8 P g Q):=by
 obtain⟨t1,p1,q1⟩:=hi;obtain⟨t2,p2,q2⟩:=hg;obtain⟨t3,p3,q3⟩:=hb;show⟨_,Pk hp hc p1 p2 p3 hs,λM σ q n G H D E k h F=>q1 M σ q n G H _ _ k h λJ H1 ds z B O hq=>?_⟩;obtain⟨T,i0,turn,fin⟩:=hq;show⟨λi m y o=>m=ds.length-i/\i<=ds.length/\∃ρ' c,dU X.K q n ρ' y c o/\cJ z c/\T i ρ',⟨ds.length,by simp,aN _,M,z,k.ext B,cJ.refl _,i0⟩,?_⟩;rintro i m y o ⟨rfl,hi,ρ',c,t,r,S⟩;by_cases I:i<ds.length
 .obtain⟨w1,w2⟩:=O;obtain⟨go,V⟩:=w1 i ds[i] c o (ah I) r t.e.s;show .inr ⟨go,λR l=>∃u b,dU X.K q n u R b l/\cJ z b/\T (i+1) u,λR l ⟨u,b,k2,s2,XF⟩=>⟨ds.length-(i+1),by ext,rfl,I,u,b,k2,s2,XF⟩,λv l hy=>?_⟩;obtain⟨b,N,Z⟩:=V v l hy;show q2 ρ' y q n b l ds[i] v _ _ (t.ext N) Z (turn i ds[i] ρ' (ah I) S) λY mW U H3 k3 W iN=>?_
  have s3:cJ z U:=(r.trans N.g).trans W.g;show q3 Y mW q n U H3 _ _ k3 iN ⟨λd C p L s4 f j=>⟨d,p,f,s3.trans s4,j⟩,F.rt,λd C p L s4 f j=>F.nx d C p L ((B.g.trans s3).trans s4) f j,λd C p L s4 f j=>⟨d,p,f,s3.trans s4,j⟩⟩
 have e:i=ds.length:=by ext
 subst e;show .inl ⟨O.2 c o r t.e.s,F.nx ρ' y c o (B.g.trans r) t (fin ρ' S)⟩
def D9(c:jA)(f:TX):TX:=λD e=>∃W:Nat->Ev->Prop,(∃m,W m e)/\∀m ρ',W m ρ'->c ρ' λb=>if b=true then f { D with nx:=λd=>∃a,a<m/\W a d,ct:=λd=>∃a,a<m/\W a d,bk:=D.nx } ρ' else D.nx ρ'
theorem Kz{c:Expr}{body:List Stmt}{tc:jA}{B:TX}(R:PassesOwn (model X.prog X.w) X.A X.env X.xe)(S:PB X c tc)(hb:oN X body B):PX X (.While c body [] pos) (D9 tc B):=by
 obtain⟨t1,Q,O⟩:=S;obtain⟨t3,P,N⟩:=hb;show⟨_,Sw R Q P,λJ σ r q G H D E k h v=>?_⟩;obtain⟨W,⟨m0,M⟩,turn⟩:=h;show⟨λm j z=>∃ρ' s,dU X.K r q ρ' j s z/\cJ G s/\W m ρ',⟨m0,J,G,k,cJ.refl _,M⟩,?_⟩;rintro m j z ⟨ρ',s,u,C,L⟩;show O ρ' j r q s z _ _ u (turn m ρ' L) λb l d o p=>?_
 cases b with
 | true=>
  rw[if_pos rfl] at p ⊢;show⟨λF l=>∃a,a<m/\∃I d,dU X.K r q I F d l/\cJ G d/\W a I,λF l T=>T,?_⟩;have s2:cJ G d:=C.trans o.g;show N ρ' j r q d l _ _ (u.ext o) p ⟨λe t n y s4 f x=>by obtain⟨a,hm,i⟩:=x;show⟨a,hm,e,n,f,s2.trans s4,i⟩,v.rt,λe t n y s4 f i=>v.nx e t n y (s2.trans s4) f i,λe t n y s4 f x=>by obtain⟨a,hm,i⟩:=x;show⟨a,hm,e,n,f,s2.trans s4,i⟩⟩
 | false=>
  rw[if_neg aD] at p ⊢;show v.nx ρ' j d l (C.trans o.g) (u.ext o) p
end
noncomputable def rj(a:Ev):Option Nat->Sl
 | none=>.un
 | some j=>match gt a j with
  | .fz d=>.fz d
  | _=>.un
noncomputable def ij(m:List (Option Nat))(a:Ev):Ev:=m.map (rj a)
theorem tM{m:List (Option Nat)}{b:Ev}{i:Nat}:gt (m.map (rj b)) i=match m[i]? with
  | some o=>rj b o
  | none=>.un:=by
 induction m generalizing i with
 | nil=>simp[gt]
 | cons a r c=>
  cases i with
  | zero=>simp[gt]
  | succ i=>simp only[az,gt,bR];show c
def qw(m:List (Option Nat))(g:jI):Prop:=∀d a Q,g d a Q->g d a λb=>Q b/\b.length=a.length/\∀j c,m[j]?=some (some c)->gt b j=gt a j
def Ci(m:List (Option Nat))(g:qr):Prop:=∀ds a Q,g ds a Q->g ds a λb=>Q b/\b.length=a.length/\∀j c,m[j]?=some (some c)->gt b j=gt a j
theorem iT{m:List (Option Nat)}{i:Nat}(h:m[i]?=some none:=by rfl):qw m (c6 i):=λd b Q q=>by
 show⟨q,by simp,λj c a=>?_⟩;rw[wt,if_neg];rintro⟨e,_⟩;subst e;rw[h] at a;cases a
theorem Kw{m:List (Option Nat)}:Ci m ja:=λds a Q q=>by
 unfold ja at q ⊢;split at q
 .exact⟨q,rfl,λ_ _ _=>rfl⟩
 show q.elim
theorem zA{m:List (Option Nat)}{t:jI}{u:qr}(mono:∀d a (Q b:Ev->Prop),(∀ρ',Q ρ'->b ρ')->t d a Q->t d a b)(g:∀d a (Q b:Ev->Prop),(∀ρ',Q ρ'->b ρ')->u d a Q->u d a b)(p:qw m t)(o:Ci m u):Ci m (eJ t u):=λds a Q q=>by
 unfold eJ at q ⊢;split at q
 .refine mono _ _ _ _ (λρ' e=>?_) (p _ _ _ q);obtain⟨i,l,n⟩:=e;show g _ _ _ _ (λr e=>by obtain⟨h,k,k2⟩:=e;show⟨h,k.trans l,λj c f=>(k2 j c f).trans (n j c f)⟩) (o _ _ _ i)
 show q.elim
theorem Kv{m:List (Option Nat)}{n:Nat}{u:qr}(a:Ci m u):qw m (j9 n u):=λd b Q q=>by
 unfold j9 at q ⊢;split at q
 .exact⟨q.1,a _ _ _ q.2⟩
 show q.elim
theorem uo{i:Nat}:∀d a (Q b:Ev->Prop),(∀ρ',Q ρ'->b ρ')->c6 i d a Q->c6 i d a b:=λ_ _ _ _ h q=>h _ q
theorem zo:∀d a (Q b:Ev->Prop),(∀ρ',Q ρ'->b ρ')->ja d a Q->ja d a b:=λ_ _ _ _ h q=>by
 unfold ja at q ⊢;split at q
 .exact h _ q
 show q.elim
theorem CM{t:jI}{u:qr}(mono:∀d a (Q b:Ev->Prop),(∀ρ',Q ρ'->b ρ')->t d a Q->t d a b)(c:∀d a (Q b:Ev->Prop),(∀ρ',Q ρ'->b ρ')->u d a Q->u d a b):∀d a (Q b:Ev->Prop),(∀ρ',Q ρ'->b ρ')->eJ t u d a Q->eJ t u d a b:=λ_ _ _ _ h q=>by
 unfold eJ at q ⊢;split at q
 .exact mono _ _ _ _ (λρ' e=>c _ _ _ _ h e) q
 show q.elim
theorem vq{m:List (Option Nat)}{i j n:Nat}(h:m[i]?=some none:=by rfl)(h':m[j]?=some none:=by rfl):qw m (j9 n (eJ (c6 i) (eJ (c6 j) ja))):=
 Kv (zA uo (CM uo zo) (iT h) (zA uo zo (iT h') Kw))
theorem US{m:List (Option Nat)}{i j k n:Nat}(h:m[i]?=some none:=by rfl)(h':m[j]?=some none:=by rfl)(a:m[k]?=some none:=by rfl):qw m (j9 n (eJ (c6 i) (eJ (c6 j) (eJ (c6 k) ja)))):=
 Kv (zA uo (CM uo (CM uo zo)) (iT h) (zA uo (CM uo zo) (iT h') (zA uo zo (iT a) Kw)))
def xE(X:Cx)(a:List Expr)(t:jA):Prop:=∃tt,vW X a tt/\∀(c:Ev)(σ:St)(f e G H:Hp)(Q:Bool->Prop)(P:Bool->Hp->Prop),dU X.K f e c σ G H->t c Q->
 (∀b d g,Ext G H g d->Q b->P b d)->tt σ H P
def jJ:jA:=λ_ Q=>Q true
theorem md{X:Cx}:xE X [] jJ:=⟨_,QS,λa σ c b G H Q P E h k=>k true H G (.refl E.e.s) h⟩
theorem nJ{X:Cx}{c:Expr}{t:jA}(h:PB X c t):xE X [c] t:=let⟨tt,p,q⟩:=h;⟨tt,QR p,q⟩
def gh(f:mj)(m:List (Option Nat))(g:jI)(tc:jA)(te:TD):TD:=λc Q=>f c λds=>∃a:Nat->List D->Prop,a 0 []/\
 (∀i d acc,ds[i]?=some d->a i acc->g d (ij m c) λe=>tc e λb=>if b=true then te e λr=>acc.length<sizeLine/\a (i+1) (acc++[r.val]) else a (i+1) acc)/\∀acc,a ds.length acc->Q (.ow acc)
section
variable{X:Cx}{elt iter tg:Expr}{ifs:List Expr}{scope:Scope}{pos:Pos}{N':List Str}{m:List (Option Nat)}{wi:mj}{g:jI}{tc:jA}{te:TD}
theorem RE{l:Ev}{p:St}{x w G H:Hp}{Q:R->Prop}{P:VK}(cs:cX X N' m scope)(hk:qw m g){ww:TI}{gg:pM TG}{vx:pM TT}{F:pM TE}
  (q1:∀(l:Ev)(p:St)(x w G H:Hp)(Q:List D->Prop)(P:It->Hp->Prop),dU X.K x w l p G H->wi l Q->(∀J a ds f,Ext G H f a->tI X.K J f ds->Q ds->P J a)->ww p H P)
  (q2:∀s3 y ex (l:Ev) (p:St) (x w G H:Hp) (d:D) (v:V) (Q:Ev->Prop) (P:St->Hp->Prop),dU X.K x w l p G H->Rep X.K G v d->g d l Q->(∀ρ' u f a,dU X.K x w ρ' u f a->Ext G H f a->Q ρ'->P u a)->gg s3 y ex v p H P)
  (q3:∀s3 y ex (l:Ev) (p:St) (x w G H:Hp) (Q:Bool->Prop) (P:Bool->Hp->Prop),dU X.K x w l p G H->tc l Q->(∀b a f,Ext G H f a->Q b->P b a)->vx s3 y ex p H P)
  (q4:∀s3 y ex (ρ':Ev) (u:St) (q H1 f a:Hp) (Q':R->Prop) (P':VK),Ext G H q H1->dU X.K q H1 ρ' u f a->te ρ' Q'->(∀v t r O,Ext f a O t->eZ X.K O t a v r->Q' r->P' v t)->F s3 y ex u a P')
  (E:dU X.K x w l p G H) (h:gh wi m g tc te l Q) (k:∀v a r f,Ext G H f a->eZ X.K f a H v r->Q r->P v a):va ww m gg vx F p H P:=by
 show q1 l p x w G H _ _ E h λJ H1 ds q z wk hq=>?_
 obtain⟨Iv,i0,turn,fin⟩:=hq;intro D N s3 ex;have E1:=E.ext z;have HP:q D=none:=z.s.free N;have A:∀{i:Nat}{es:List L2.D},gt (ij m l) i=.ow es->False:=λ{i es} h=>by
  unfold ij at h;rw[tM] at h;split at h
  .rename_i o _;unfold rj at h;split at h
   .cases h
   split at h<;>cases h
  cases h
 have sv:∀{i:Nat}{o:OV},gt (ij m l) i=.ov o->False:=λ{i o} h=>by
  unfold ij at h;rw[tM] at h;split at h
  .rename_i o _;unfold rj at h;split at h
   .cases h
   split at h<;>cases h
  cases h
 have mn:dU X.K q H1 (ij m l) (sD m p) q (upd H1 D (.lst [])):=by
  show⟨.own z.s N,by simp[sD,ij],λi d h=>?_,λi es h=>(A h).elim,λi j es fs _ h=>(A h).elim,λ_=>none,λi es _ h=>(A h).elim,λi o h=>(sv h).elim⟩;unfold ij at h;rw[tM] at h;split at h
  .rename_i o ho;unfold rj at h;split at h
   .cases h
   rename_i j;split at h
   .rename_i d' uJ;cases h;obtain⟨v,hv,Y⟩:=E1.fz j d uJ;show⟨v,?_,Y⟩;unfold sD;rw[aG,ho];simp[hv]
   cases h
  cases h
 show⟨λi n u a=>n=ds.length-i/\i<=ds.length/\∃acc xs f,dU X.K q H1 (ij m l) u f a/\a D=some (.lst xs)/\f D=none/\cx X.K f xs acc/\Iv i acc,
  ⟨ds.length,by simp,aN _,[],[],q,mn,jb,HP,cx.nil,i0⟩,?_⟩
 rintro i n u a ⟨rfl,hi,acc,xs,f,C,hx,Be,W,iv⟩;by_cases eA:i<ds.length
 .obtain⟨w1,w2⟩:=wk;obtain⟨go,yl⟩:=w1 i ds[i] f a (ah eA) C.e.g C.e.s;show .inr ⟨go,λmM t=>∃acc xs f,dU X.K q H1 (ij m l) mM f t/\t D=some (.lst xs)/\f D=none/\cx X.K f xs acc/\Iv (i+1) acc,λmM t h2=>⟨ds.length-(i+1),by ext,rfl,eA,h2⟩,λv t hy=>?_⟩;obtain⟨O,x2,Y⟩:=yl v t hy;show q2 _ _ _ (ij m l) u q H1 O t ds[i] v _ _ (C.ext x2) Y (hk _ _ _ (turn i ds[i] acc (ah eA) iv)) λU mW G3 y E3 x3 Z=>?_
  obtain⟨Z,Hu,yD⟩:=Z;have weak:∀j,gt (ij m l) j=.un\/gt (ij m l) j=gt U j:=λj=>by
   cases hm:m[j]? with
   | none=>left;unfold ij;rw[tM,hm]
   | some o=>
    cases o with
    | none=>left;unfold ij;rw[tM,hm];rfl
    | some c=>right;show(yD j c hm).symm
  have F7:=x2.trans x3;show q3 _ _ _ U mW q H1 G3 y _ _ E3 Z λb H4 G4 S L=>?_
  have M:=F7.trans S;have E4:=(E3.ext S).weak (ρ':=ij m l) (Hu.symm) weak;have T:H4 D=some (.lst xs):=M.h _ _ hx;have Bc:G4 D=none:=M.n D Be (by rw[hx];show nofun);cases b with
  | false=>
   rw[if_neg aD] at L ⊢;show⟨acc,xs,G4,E4,T,Bc,W.mono M.g,L⟩
  | true=>
   rw[if_pos rfl] at L ⊢;show q4 _ _ _ U mW q H1 G4 H4 _ _ z (E3.ext S) L λv5 H5 r5 G5 x5 Gn xk=>?_
   obtain⟨G6,I,Xj,_⟩:=Gn.freeze x5;have B:=E4.ext I;have GW:H5 D=some (.lst xs):=I.h _ _ T;have Bb:G6 D=none:=I.n D Bc (by rw[T];show nofun);have r6:cx X.K G6 xs acc:=(W.mono M.g).mono I.g;show⟨xs,GW,by rw[r6.length];show xk.1,acc++[r5.val],xs++[v5],G6,?_,jb,Bb,r6.append (cx.cons Xj cx.nil),xk.2⟩;show⟨⟨B.e.g,λb o e=>by rw[eG (kf e N)];show B.e.h b o e,λb o e=>by rw[eG (kf e Bb)];show B.e.s b o e,B.e.n⟩,B.len,B.fz,λi es h=>(A h).elim,λi j es fs _ h=>(A h).elim,λ_=>none,λi es _ h=>(A h).elim,λi o h=>(sv h).elim⟩
 have e:i=ds.length:=by ext
 subst e;show .inl ⟨wk.2 f a C.e.g C.e.s,k _ a (.ow acc) f (z.trans C.e) ⟨D,xs,rfl,z.h.free N,Be,hx,W⟩ (fin acc iv)⟩
theorem Cg(cs:cX X N' m scope)(u:qw m g){ww:TI}{p:pM TG}{o:pM TT}{l:pM TE}
  (t:∀(c:Ev)(σ:St)(j i G H:Hp)(Q:List D->Prop)(P:It->Hp->Prop),dU X.K j i c σ G H->wi c Q->(∀J a ds e,Ext G H e a->tI X.K J e ds->Q ds->P J a)->ww σ H P)
  (s:∀s3 f ex (c:Ev) (σ:St) (j i G H:Hp) (d:D) (v:V) (Q:Ev->Prop) (P:St->Hp->Prop),dU X.K j i c σ G H->Rep X.K G v d->g d c Q->(∀ρ' n e a,dU X.K j i ρ' n e a->Ext G H e a->Q ρ'->P n a)->p s3 f ex v σ H P)
  (r:∀s3 f ex (c:Ev) (σ:St) (j i G H:Hp) (Q:Bool->Prop) (P:Bool->Hp->Prop),dU X.K j i c σ G H->tc c Q->(∀b a e,Ext G H e a->Q b->P b a)->o s3 f ex σ H P)
  (q:∀s3 f ex,rP X.K te (l s3 f ex)):rP X.K (gh wi m g tc te) (va ww m p o l):=λc σ j i G H Q P E h k=>RE cs u t s r (λs3 f ex ρ' n y H1 e a w x _=>q s3 f ex ρ' n y H1 e a w x) E h k
theorem kg(f:X.calm=true)(cs:cX X N' m scope)(e:qw m g)(hi:PId X tg iter wi)(hg:∀s3 a ex,tq (mH X N' scope s3 a ex) tg g)(ht:∀s3 a ex,xE (mH X N' scope s3 a ex) ifs tc)
  (he:∀s3 a ex,PD (mH X N' scope s3 a ex) elt te) (d:∀x,foldedSetIterable iter X.env x=pure x:=by intro _;rfl):PD X (.ListComp elt [⟨tg,iter,ifs,0⟩] scope pos) (gh wi m g tc te):=by
 obtain⟨ww,c,b⟩:=hi;show⟨_,Ke (g:=λs3 a ex=>(hg s3 a ex).choose) (tc:=λs3 a ex=>(ht s3 a ex).choose) (te:=λs3 a ex=>(he s3 a ex).choose) f cs c (λs3 a ex=>(hg s3 a ex).choose_spec.1) (λs3 a ex=>(ht s3 a ex).choose_spec.1) (λs3 a ex=>(he s3 a ex).choose_spec.1) d,
  Cg cs e b (λs3 a ex=>(hg s3 a ex).choose_spec.2) (λs3 a ex=>(ht s3 a ex).choose_spec.2) (λs3 a ex=>(he s3 a ex).choose_spec.2)⟩
theorem Ew(i:Nat){x:Str}{b c:Pos}(t:X.calm=true)(cs:cX X N' m scope)(q:qw m g)(hi:PId X tg iter wi)(hg:∀s3 a ex,tq (mH X N' scope s3 a ex) tg g)(ht:∀s3 a ex,xE (mH X N' scope s3 a ex) ifs tc)
  (he:∀s3 a ex,PD (mH X N' scope s3 a ex) elt te) (u:X.N.Nodup:=by assumption) (e:X.N[i]?=some x:=by rfl) (hx:Loc X.env.scope x:=by first | show Or.inl rfl | show Or.inr rfl) (o:∀x,foldedSetIterable iter X.env x=pure x:=by intro _;rfl)
  (f:swapsWith (.ListComp elt [⟨tg,iter,ifs,0⟩] scope pos) (some (.Name x b)) c.line X.env=pure true:=by rfl)
  (s:X.fn x=true\/X.env.scope.names.lookup x=some .local:=by first | show .inl rfl | show .inr rfl | assumption) :
  PX X (.Assign [.Name x b] (.ListComp elt [⟨tg,iter,ifs,0⟩] scope pos) c) (kY i (gh wi m g tc te)):=by
 obtain⟨ww,n,l⟩:=hi;show⟨_,EA (g:=λs3 a ex=>(hg s3 a ex).choose) (tc:=λs3 a ex=>(ht s3 a ex).choose) (te:=λs3 a ex=>(he s3 a ex).choose) u e hx t cs n (λs3 a ex=>(hg s3 a ex).choose_spec.1) (λs3 a ex=>(ht s3 a ex).choose_spec.1) (λs3 a ex=>(he s3 a ex).choose_spec.1) o f s,λd σ A y G H D E k h w=>?_⟩;show Cg cs q l (λs3 a ex=>(hg s3 a ex).choose_spec.2) (λs3 a ex=>(ht s3 a ex).choose_spec.2) (λs3 a ex=>(he s3 a ex).choose_spec.2) d σ A y G H _ _ k h λv z r B x j p=>w.nx _ _ B z x.g (k.put x j) p
theorem wG(i:Nat){x:Str}{b d:Pos}(w:X.calm=true)(cs:cX X N' m scope)(t:qw m g)(hi:PId X tg iter wi)(hg:∀s3 a ex,tq (mH X N' scope s3 a ex) tg g)(ht:∀s3 a ex,xE (mH X N' scope s3 a ex) ifs tc)
  (he:∀s3 a ex,PD (mH X N' scope s3 a ex) elt te) (y:X.N.Nodup:=by assumption) (f:X.N[i]?=some x:=by rfl) (hx:Loc X.env.scope x:=by first | show Or.inl rfl | show Or.inr rfl) (q:∀x,foldedSetIterable iter X.env x=pure x:=by intro _;rfl)
  (j:swapsWith (.ListComp elt [⟨tg,iter,ifs,0⟩] scope pos) (some (.Name x b)) d.line X.env=pure true:=by rfl)
  (u:X.fn x=true\/X.env.scope.names.lookup x=some .local:=by first | show .inl rfl | show .inr rfl | assumption) :
  PX X (.Assign [.Name x b] (.ListComp elt [⟨tg,iter,ifs,0⟩] scope pos) d) (eE i (gh wi m g tc te)):=by
 obtain⟨ww,p,o⟩:=hi;show⟨_,EA (g:=λs3 a ex=>(hg s3 a ex).choose) (tc:=λs3 a ex=>(ht s3 a ex).choose) (te:=λs3 a ex=>(he s3 a ex).choose) y f hx w cs p (λs3 a ex=>(hg s3 a ex).choose_spec.1) (λs3 a ex=>(ht s3 a ex).choose_spec.1) (λs3 a ex=>(he s3 a ex).choose_spec.1) q j u,λe σ F A G H D E k h z=>?_⟩;show Cg cs t o (λs3 a ex=>(hg s3 a ex).choose_spec.2) (λs3 a ex=>(ht s3 a ex).choose_spec.2) (λs3 a ex=>(he s3 a ex).choose_spec.2) e σ F A G H _ _ k h λv B r I x n s=>?_
 obtain⟨C,c,l,_⟩:=n.freeze x;show z.nx _ _ C B c.g (k.put c (r:=.fz r.val) l) s
end
noncomputable abbrev fc:=List D->(R->Prop)->Prop
def xG(K:J')(n:Nat)(t:fc):Sp:=λd H Q _=>∃G ds b,cJ G H/\cx K G d ds/\ds.length=n/\t ds b/\∀v a r c,Ext G H c a->eZ K c a H v r->b r->Q v a
noncomputable def og(N:List Str)(ds:List D):Ev:=ds.map Sl.fz++List.replicate (N.length-ds.length) .un
theorem U6{ds:List D}{l:List Sl}{i:Nat}{s:Sl}(h:gt (ds.map Sl.fz++l) i=s):(∃d,ds[i]?=some d/\s=.fz d)\/(ds.length<=i/\gt l (i-ds.length)=s):=by
 induction ds generalizing i with
 | nil=>show .inr ⟨aN _,by simpa using h⟩
 | cons d ds c=>
  cases i with
  | zero=>simp only[az,List.cons_append,gt] at h;show .inl ⟨d,rfl,h.symm⟩
  | succ i=>
   simp only[az,List.cons_append,gt] at h;rcases c h with⟨e,b,a⟩ | ⟨b,a⟩
   .exact .inl ⟨e,by simpa using b,a⟩
   show .inr ⟨by simp;ext,?_⟩;rw[aH];rw[show i+1-(ds.length+1)=i-ds.length by ext];show a
theorem SW{n i:Nat}:gt (List.replicate n Sl.un) i=.un:=by
 induction n generalizing i with
 | zero=>simp[gt]
 | succ n a=>
  cases i with
  | zero=>rfl
  | succ i=>show a
theorem CD{K:J'}{G H:Hp}{N:List Str}{e:List V}{ds:List D}(s:cJ G H)(r:cx K G e ds):dU K G H (og N ds) (mn N e) G H:=by
 have k:=r.length;have c:∀{i:Nat}{t:Sl},gt (og N ds) i=t->t≠.un->∃d,ds[i]?=some d/\t=.fz d:=λ{i t} h n=>by
  rcases U6 h with h | ⟨_,h⟩
  .exact h
  rw[SW] at h;show absurd h.symm n
 show⟨.refl s,by simp[mn,og,k],λi d h=>?_,λi es h=>?_,λi j es fs _ h=>?_,λ_=>none,λi es _ h=>?_,λi o h=>?_⟩
 .obtain⟨d',b,a⟩:=c h (by simp);cases a;obtain⟨v,f,g⟩:=r.get b;have hi:i<e.length:=(aB.mp f).1;show⟨v,?_,g⟩;unfold mn;rw[List.getElem?_append_left (by simpa using hi),aG,f];rfl
 .obtain⟨d',b,a⟩:=c h (by simp);cases a
 .obtain⟨d',b,a⟩:=c h (by simp);cases a
 .obtain⟨d',b,a⟩:=c h (by simp);cases a
 obtain⟨d',b,a⟩:=c h (by simp);cases a
section
variable{P:Program}{w:World}{K:J'}{mg:Str->Option Value}{base:Heap}
theorem Eu{x a:Str}{st:Stmt}{f:Addr}{i:FuncData}{N ps:List Str}{k:Nat}{t:fc}{T:TX}{m:Value}(F:nr m K x a st f i)(S:cB N ps (cw st))
  (body:∀(d:Value)(A:Around)(outer:List Env)(s:Shared)(H:Hp)(E:XK),eC k (A.deeper (envOfC a (cw st) s.heap.objs.size f d))->oN (nY nX P w K mg base N a (cw st) f d A outer s H E).tX (c7 st) T)
  (c:∀(ds:List D)(b:R->Prop),ds.length=ps.length->t ds b->T { nx:=λ_=>b (.fz .non),rt:=b } (og N ds)):iu P w K mg base nX (k+1) f i ps (xG K ps.length t):=by
 show F.ok S (λj H Q E h=>?_) (λd A outer s H j Q E l h=>?_)
 .obtain⟨G,ds,b,_,r,g,_⟩:=h;rw[r.length,g]
 obtain⟨G,ds,b,s0,r,g,ht,k0⟩:=h;obtain⟨tt,p,q⟩:=body d A outer s H E l;show⟨tt,p,q _ _ G H G H _ _ (CD s0 r) (c ds b g ht) ⟨λu σ o n _ e h=>k0 _ n _ o e.e (gf (Cn _ _)) h,k0,λ_ _ _ _ _ _ h=>h.elim,λ_ _ _ _ _ _ h=>h.elim⟩⟩
end
section
variable{X:Cx}{k n:Nat}{f:Addr}{fd:FuncData}{ps:List Str}{t:fc}{x:Str}{p pos:Pos}{e:Expr}{es:List Expr}{ts:iW}
def fO(n:Nat)(t:fc)(ts:iW):TD:=λa Q=>ts a λds=>ds.length=n/\t ds Q
theorem QO(F:iu X.prog X.w X.K X.mg X.base nX k f fd ps (xG X.K n t))(j:eC k X.A)(hm:X.mg x=some (.ref f))(l:PySem.W.keepIn X.K (.ref f)=true)(hb:Binds X.K fd ps [])(ha:mI X (e::es) ts)(hg:Gl X x:=by rfl)(i:(x==("__debug__":Str))=false:=by decide)
  (he:starEach (e::es) X.env=(false,eval e X.env)::starEach es X.env:=by rfl) (m:(backTo pos (starEach es X.env)).any (·.1)=false:=by rfl):PD X (.Call (.Name x p) (e::es) [] pos) (fO n t ts):=by
 obtain⟨tt,pp,q⟩:=ha;show⟨_,Ej F j hg hm l hb .nil IP pp i he m,λb σ z u G H Q P E h k=>q b σ z u G H _ _ E h λC D ds B x rs a=>?_⟩;rw[a9];show⟨B,ds,Q,x.s,rs,a.1,a.2,λv o r y c d g=>k v o r y (x.trans c) (d.ie x.h) g⟩
end
open PySem.StrLaws
noncomputable def kN{a:Type}(xs:List a)(lo hi:Option Int):List a:=(xs.drop (HT.eR xs.length 0 lo)).take (HT.eR xs.length xs.length hi-HT.eR xs.length 0 lo)
noncomputable def rV(z:Str)(lo hi:Option Int):Str:=⟨(kN z.cps.toList lo hi).toArray⟩
theorem u9(v:Int)(n d:Nat):max 0 (min (if v<0 then v+(n:Int) else v) (n:Int))=((HT.eR n d (some v):Nat):Int):=by
 rw[<-HT.ni];by_cases h:v<0
 .rw[if_pos h,if_pos h];ext
 rw[if_neg h,if_neg h];ext
theorem LP(z:Str)(lo hi:Option Int):(Builtin.Str.strSliceIndices lo hi 1 z.length).filterMap (z.cps[·]?)=kN z.cps.toList lo hi:=by
 have f:z.cps.toList.length=z.length:=by simp[Str.length]
 have e:Builtin.Str.strSliceIndices lo hi 1 z.length=sliceRange ((HT.eR z.length 0 lo:Nat):Int) ((HT.eR z.length z.length hi:Nat):Int) 1:=by
  unfold Builtin.Str.strSliceIndices;cases lo with
  | none=>
   cases hi with
   | none=>rfl
   | some v=>simp only[show((1:Int)>0) from by decide,aQ,u9 v z.length z.length];rfl
  | some u=>
   cases hi with
   | none=>simp only[show((1:Int)>0) from by decide,aQ,u9 u z.length 0];rfl
   | some v=>simp only[show((1:Int)>0) from by decide,aQ,u9 v z.length z.length,u9 u z.length 0]
 rw[e];unfold kN;rw[f];generalize ha:HT.eR z.length 0 lo=a;generalize hb:HT.eR z.length z.length hi=b;have c:b<=z.length:=by rw[<-hb];show HT.kj _ _ (ay _) _
 have g:a<=z.length:=by rw[<-ha];show HT.kj _ _ (aN _) _
 by_cases d:a<=b
 .have:=sliced_plain z d c;rw[strSliceIndices_plain d c] at this;rw[<-this];unfold sliceRange;simp only[show((1:Int)>0) from by decide,aQ];congr 1
  by_cases h:a<b
  .rw[if_pos (by ext)];rw[show(((b:Int)-(a:Int)+1-1)/1).toNat=b-a by ext];apply List.map_congr_left;intro k _;show((a:Int)+1*(k:Int)).toNat=a+k;ext
  rw[if_neg (by ext),show b-a=0 by ext];rfl
 rw[show b-a=0 by ext,List.take_zero];unfold sliceRange;simp only[show((1:Int)>0) from by decide,aQ];rw[if_neg (by ext)];rfl
theorem SV(z:Str)(lo hi:Option Int):Txt.slice z lo hi=rV z lo hi:=by
 unfold Txt.slice rV;split
 .rename_i h;have h':(Builtin.Str.strSliceIndices lo hi 1 z.length).length=z.length:=by simpa using h
  have b:z.cps.toList.length=z.length:=by simp[Str.length]
  have e:=LP z lo hi;have c:(kN z.cps.toList lo hi).length=z.length:=by
   unfold kN;rw[aL,List.length_drop,b];have d:Builtin.Str.strSliceIndices lo hi 1 z.length=sliceRange ((HT.eR z.length 0 lo:Nat):Int) ((HT.eR z.length z.length hi:Nat):Int) 1:=by
    unfold Builtin.Str.strSliceIndices;cases lo with
    | none=>
     cases hi with
     | none=>rfl
     | some v=>simp only[show((1:Int)>0) from by decide,aQ,u9 v z.length z.length];rfl
    | some u=>
     cases hi with
     | none=>simp only[show((1:Int)>0) from by decide,aQ,u9 u z.length 0];rfl
     | some v=>simp only[show((1:Int)>0) from by decide,aQ,u9 v z.length z.length,u9 u z.length 0]
   rw[d] at h';unfold sliceRange at h';simp only[show((1:Int)>0) from by decide,aQ,ae,bU] at h';have f:=HT.kj z.length z.length (ay _) hi;have g:=HT.kj z.length 0 (aN _) lo;by_cases a:((HT.eR z.length 0 lo:Nat):Int)<((HT.eR z.length z.length hi:Nat):Int)
   .rw[if_pos a] at h';ext
   rw[if_neg a] at h';simp at h';ext
  apply Str.ext';show z.cps=(kN z.cps.toList lo hi).toArray;have a:kN z.cps.toList lo hi=z.cps.toList:=by
   unfold kN at c ⊢;rw[aL,List.length_drop,b] at c;rw[b];have f:=HT.kj z.length z.length (ay _) hi;have a0:HT.eR z.length 0 lo=0\/z.length=0:=by ext
   rcases a0 with a0 | a0
   .rw[a0,List.drop_zero,Nat.sub_zero];show bx (by ext)
   have:z.cps.toList=[]:=bW (by ext);rw[this];simp
  rw[a]
 rw[LP]
section
variable{X:Cx}{pos:Pos}{e:Expr}{te:TD}
theorem wR:vU X (λx lo hi H Q=>∃z,x=.str z/\z.length<=sizeLine/\Q (.str (rV z lo hi)) H):=by
 intro m s σ H x v r n lo hi sl Q I a d pl pu h;obtain⟨z,rfl,hz,q⟩:=h;obtain⟨t,rfl⟩:=a;show⟨"str",_,F.slot_str_getitem.lookup,typeIs_str _ _ _,?_⟩;have part:∀{u:Value}{o:Option Int},IsPart u o->∃p:Option (Int×Tok),u=partValue p/\p.map (·.1)=o:=λh=>by
  cases h with
  | none=>show⟨none,rfl,rfl⟩
  | int i t=>show⟨some (i,t),rfl,rfl⟩
 obtain⟨c,rfl,j⟩:=part pl;obtain⟨b,rfl,g⟩:=part pu;obtain⟨o,e,f,hd⟩:=d;show wpAny_getItem_str_slice (l:=c) (u:=b) (st:=none) ⟨o,e,f,hd⟩ rfl ?_;have fin:∀t' k,EP X m σ Q (.str (Txt.slice z lo hi) t') { s with toks:=k }:=λt' k=>⟨.str (rV z lo hi),H,I.tok k,⟨t',by rw[SV]⟩,q⟩
 have hle:=aJ (Txt.slice_le z lo hi) hz;subst j g;show post_val_or_str ⟨hle,fin⟩
noncomputable abbrev Bw:=Ev->(Option Int->Prop)->Prop
def DC(X:Cx)(e:Option Expr)(t:Bw):Prop:=∃tt,PO X e tt/\∀(a:Ev)(σ:St)(d c G H:Hp)(Q:Option Int->Prop)(P:Option Int->Hp->Prop),dU X.K d c a σ G H->t a Q->(∀o b f,Ext G H f b->Q o->P o b)->tt σ H P
def m7:Bw:=λ_ Q=>Q none
def lh(te:TD):Bw:=λa Q=>te a λr=>match r.val with
 | .int i=>Q (some i)
 | _=>False
theorem o7:DC X none m7:=⟨_,QU,λa σ c b G H Q P E h k=>k none H G (.refl E.e.s) h⟩
theorem mQ(h:PD X e te):DC X (some e) (lh te):=by
 obtain⟨t,p,q⟩:=h;show⟨_,QT p,λc σ n j G H Q P E h k=>q c σ n j G H _ _ E h λv l r o x f b=>?_⟩;obtain⟨m,d,a,_⟩:=f.freeze x;split at b
 .rename_i i g;rw[g] at a;simp only[Rep] at a;show⟨i,a,k _ l m d b⟩
 show b.elim
def mF(te:TD)(tl b:Bw):TD:=λa Q=>te a λr=>tl a λlo=>b a λhi=>match r.val with
 | .lst ds=>Q (.ow (kN ds lo hi))
 | .str z=>z.length<=sizeLine/\Q (.fz (.str (rV z lo hi)))
 | .tup ds=>¬(HT.eR ds.length 0 lo=0/\HT.eR ds.length ds.length hi=ds.length)/\Q (.fz (.tup (kN ds lo hi)))
 | _=>False
theorem JM{K:J'}{G:Hp}{xs:List V}{ds:List D}(r:cx K G xs ds)(lo hi:Option Int):cx K G (tD xs lo hi) (kN ds lo hi):=by
 unfold tD kN;rw[r.length];show(r.drop _).take _
theorem nO{lo hi:Option Expr}{tl B:Bw}{q:Pos}(he:PD X e te)(S:DC X lo tl)(hh:DC X hi B):PD X (.Subscript e (.Slice lo hi none q) pos) (mF te tl B):=by
 obtain⟨t1,N,L⟩:=he;obtain⟨Y,q,J⟩:=S;obtain⟨t3,M,I⟩:=hh;show⟨_,Sq (ux.or (wR.or O6)) N q M,λm σ w u G H Q P E h k=>L m σ w u G H _ _ E h λv U r Z x F R=>?_⟩;obtain⟨W,o,D,_⟩:=F.freeze x;show J m σ w u W U _ _ (E.ext o) R λlo T V n O=>?_
 show I m σ w u V T _ _ ((E.ext o).ext n) O λhi C l A d=>?_
 have b:=(o.trans n).trans A;have c:=(D.mono n.g).mono A.g;split at d
 .rename_i ds i;rw[i] at c;simp only[Rep] at c;obtain⟨a,xs,rfl,t,j⟩:=c;show .inl ⟨a,xs,rfl,(b.s.gI t).sq,λp f=>?_⟩;show k _ _ (.ow _) l (b.trans (.own b.s f)) ⟨p,_,rfl,b.h.free f,b.s.free f,jb,JM j lo hi⟩ d
 .rename_i z i;rw[i] at c;simp only[Rep] at c;show .inr (.inl ⟨z,c,d.1,k _ _ _ l b (gf (yd _ _ _)) d.2⟩)
 .rename_i ds i;rw[i] at c;simp only[Rep] at c;obtain⟨a,xs,rfl,t,j⟩:=c;show .inr (.inr ⟨a,xs,rfl,b.s.oo t,by rw[j.length];show d.1,λp f=>?_⟩);have y:Ext l C (upd l p (.tup (tD xs lo hi))) (upd C p (.tup (tD xs lo hi))):=.new b.s f;show k _ _ (.fz _) _ (b.trans y) ?_ d.2;show Rep X.K _ _ (.tup _);simp only[Rep];show⟨p,_,rfl,jb,(JM j lo hi).mono y.g⟩
 show d.elim
def lW:fc:=λds Q=>match ds with
 | [.lst es]=>Q (.fz (.int es.length))
 | [.tup es]=>Q (.fz (.int es.length))
 | [.str z]=>z.length<=sizeLine/\Q (.fz (.int z.length))
 | _=>False
theorem nI:rn X (.builtin "len") lW:=by
 show⟨_,j5.or U8,λG H e ds Q P s rs h k=>?_⟩;unfold lW at h;split at h
 .obtain⟨v,rfl,b⟩:=lZ rs;simp only[Rep] at b;obtain⟨a,xs,rfl,d,c⟩:=b;show .inl ⟨a,xs,rfl,.inl ((s.gI d).sq),?_⟩;rw[c.length];show k _ _ _ G (.refl s) (gf (kP _ _ _)) h
 .obtain⟨v,rfl,b⟩:=lZ rs;simp only[Rep] at b;obtain⟨a,xs,rfl,d,c⟩:=b;show .inl ⟨a,xs,rfl,.inr (s.oo d),?_⟩;rw[c.length];show k _ _ _ G (.refl s) (gf (kP _ _ _)) h
 .obtain⟨v,rfl,b⟩:=lZ rs;simp only[Rep] at b;subst b;show .inr ⟨_,rfl,h.1,k _ _ _ G (.refl s) (gf (kP _ _ _)) h.2⟩
 show h.elim
def y3(i:Nat):TD:=λa Q=>match gt a i with
 | .ow ds=>Q (.fz (.int ds.length))
 | _=>False
theorem JL(i:Nat){x:Str}{p b:Pos}(hm:X.mg "len"=none)(f:X.N[i]?=some x:=by rfl)(d:oM X.env.scope x:=by first | show Or.inl rfl | show Or.inr (Or.inl rfl) | show Or.inr (Or.inr rfl))(hg:Gl X "len":=by rfl)(hd:(x==("__debug__":Str))=false:=by decide)
  (c:(x==("__classdict__":Str))=false:=by decide) (m:starEach [Expr.Name x b] X.env=(false,eval (.Name x b) X.env)::starEach [] X.env:=by rfl):PD X (.Call (.Name "len" p) [.Name x b] [] pos) (y3 i):=by
 show⟨_,wC j5 hg hm boot_len (mZ (rB f d hd c) pj m),λn σ t r G H Q P E h k=>?_⟩;unfold y3 at h;split at h
 .rename_i ds hg;obtain⟨a,xs,l,j,q,o,g⟩:=E.ow i ds hg;show⟨_,l,a,xs,rfl,.inl (fT.of j),?_⟩;rw[g.length];show k _ _ _ G (.refl E.e.s) (gf (kP _ _ _)) h
 show h.elim
noncomputable def mX:List D->Option (List Bool)
 | []=>some []
 | .bl b::r=>(mX r).map (b::·)
 | _=>none
theorem Fn:∀{ds:List D}{bs:List Bool},mX ds=some bs->ds=bs.map D.bl
 | [],bs,h=>by simp[mX] at h;subst h;rfl
 | .bl b::r,bs,h=>by
  simp only[mX,Option.map_eq_some_iff] at h;obtain⟨c,a,rfl⟩:=h;rw[Fn a];rfl
 | .non::r,bs,h=>by simp[mX] at h
 | .int _::r,bs,h=>by simp[mX] at h
 | .str _::r,bs,h=>by simp[mX] at h
 | .tup _::r,bs,h=>by simp[mX] at h
 | .lst _::r,bs,h=>by simp[mX] at h
 | .obj _ _::r,bs,h=>by simp[mX] at h
 | .dic _::r,bs,h=>by simp[mX] at h
 | .dit _::r,bs,h=>by simp[mX] at h
 | .exc _ _::r,bs,h=>by simp[mX] at h
 | .idn _ _::r,bs,h=>by simp[mX] at h
theorem Fm(bs:List Bool):mX (bs.map D.bl)=some bs:=by
 induction bs with
 | nil=>rfl
 | cons b r a=>simp[mX,a]
theorem Et{K:J'}{G:Hp}:∀{bs:List Bool}{a:List V},cx K G a (bs.map D.bl)->a=bs.map V.bl
 | [],[],_=>rfl
 | b::bs,v::a,h=>by
  simp only[az,cx,Rep] at h;rw[h.1,Et h.2];rfl
 | [],_::_,h=>by simp only[List.map_nil,cx] at h
 | _::_,[],h=>by simp only[az,cx] at h
theorem Ku{bs:List Bool}{a:List Value}(h:Vals (bs.map V.bl) a){i:Nat}{v:Value}(c:a[i]?=some v):∃b,bs[i]?=some b/\v=.bool b:=by
 have g:=h.length;have hi:i<a.length:=(aB.mp c).1;have e:i<bs.length:=by rw[ae] at g;ext
 obtain⟨u,d,f⟩:=h.get (i:=i) (x:=V.bl bs[i]) (by simp[e]);rw[c] at d;cases d;show⟨bs[i],by simp[e],f⟩
theorem JK{s:Shared}{h':Heap}{o:Obj}(a:∀b x,b∉[s.heap.objs.size]->(s.heap.push o).get? b=some x->h'.get? b=some x):∀b x,s.heap.get? b=some x->h'.get? b=some x:=
 λb x e=>a b x (λhm=>by rw[br.mp hm] at e;show Nat.lt_irrefl _ (aw e)) (ag _ e)
theorem QN(bs:List Bool):((List.range bs.length).all λi=>(bs[i]?).getD true)=bs.all id:=by
 rw[Bool.eq_iff_iff];simp only[List.all_eq_true,bH,id];constructor
 .intro h b hb;obtain⟨i,hi,rfl⟩:=List.mem_iff_getElem.mp hb;simpa[hi] using h i hi
 intro h i hi;simpa[hi] using h _ (List.getElem_mem hi)
theorem QM(bs:List Bool):((List.range bs.length).any λi=>(bs[i]?).getD false)=bs.any id:=by
 rw[Bool.eq_iff_iff];simp only[List.any_eq_true,bH,id];constructor
 .rintro⟨i,hi,h⟩;show⟨bs[i],List.getElem_mem hi,by simpa[hi] using h⟩
 rintro⟨b,hb,h⟩;obtain⟨i,hi,rfl⟩:=List.mem_iff_getElem.mp hb;show⟨i,hi,by simpa[hi] using h⟩
theorem SU(k:X.calm=true):dZ X (.builtin "all") (λxs H Q=>∃(p:Addr)(bs:List Bool),xs=[.ref p]/\fT X.K H p (bs.map V.bl)/\Q (.bl (bs.all id)) H):=by
 intro t s σ H xs us Q I r h;obtain⟨p,bs,rfl,f,q⟩:=h;obtain⟨u,rfl,d⟩:=l7 r;cases d;obtain⟨its,a,pl,hz⟩:=I.list f;have m:p<s.heap.objs.size:=by obtain⟨_,_,e,_⟩:=pl;show aw e
 have g:its.length=bs.length:=by rw[<-a.length,ae]
 show call_all_walk (wpAny_pyIter_list pl.isList ?_);show⟨s.heap.objs.size,[s.heap.objs.size,p],[s.heap.objs.size],its.toArray.size,_,_,λi=>(bs[i]?).getD true,rfl,Walks.list (A:=X.A.in1) (I.ok.hd k) _ p (aF m) its.toArray,
  ⟨⟨_,ax _ rfl,rfl,rfl⟩,pl.isList.push _⟩,λi v n o w l c=>?_,λh' tk j=>?_⟩
 .obtain⟨b,e,rfl⟩:=Ku a (i:=i) (v:=v) (by simpa using l);simp only[e,Option.getD_some] at c;show wpAny_truthy_bool c
 rw[aq,g,QN];show⟨.bl _,H,I.kept (JK j),rfl,q⟩
theorem SS(k:X.calm=true):dZ X (.builtin "any") (λxs H Q=>∃(p:Addr)(bs:List Bool),xs=[.ref p]/\fT X.K H p (bs.map V.bl)/\Q (.bl (bs.any id)) H):=by
 intro t s σ H xs us Q I r h;obtain⟨p,bs,rfl,f,q⟩:=h;obtain⟨u,rfl,d⟩:=l7 r;cases d;obtain⟨its,a,pl,hz⟩:=I.list f;have m:p<s.heap.objs.size:=by obtain⟨_,_,e,_⟩:=pl;show aw e
 have g:its.length=bs.length:=by rw[<-a.length,ae]
 show call_any_walk (wpAny_pyIter_list pl.isList ?_);show⟨s.heap.objs.size,[s.heap.objs.size,p],[s.heap.objs.size],its.toArray.size,_,_,λi=>(bs[i]?).getD false,rfl,Walks.list (A:=X.A.in1) (I.ok.hd k) _ p (aF m) its.toArray,
  ⟨⟨_,ax _ rfl,rfl,rfl⟩,pl.isList.push _⟩,λi v n o w l c=>?_,λh' tk j=>?_⟩
 .obtain⟨b,e,rfl⟩:=Ku a (i:=i) (v:=v) (by simpa using l);simp only[e,Option.getD_some] at c;show wpAny_truthy_bool c
 rw[aq,g,QM];show⟨.bl _,H,I.kept (JK j),rfl,q⟩
def BJ:fc:=λds Q=>match ds with
 | [.lst es]=>match mX es with
  | some bs=>Q (.fz (.bl (bs.all id)))
  | none=>False
 | _=>False
def xQ:fc:=λds Q=>match ds with
 | [.lst es]=>match mX es with
  | some bs=>Q (.fz (.bl (bs.any id)))
  | none=>False
 | _=>False
theorem Oy(e:X.calm=true):rn X (.builtin "all") BJ:=by
 show⟨_,SU e,λG H f ds Q P s rs h k=>?_⟩;unfold BJ at h;split at h
 .split at h
  .rename_i es bs hb;obtain⟨v,rfl,b⟩:=lZ rs;simp only[Rep] at b;obtain⟨a,xs,rfl,d,c⟩:=b;rw[Fn hb] at c;rw[Et c] at d;show⟨a,bs,rfl,(s.gI d).sq,k _ _ _ G (.refl s) (gf (kF _ _ _)) h⟩
  show h.elim
 show h.elim
theorem IY(e:X.calm=true):rn X (.builtin "any") xQ:=by
 show⟨_,SS e,λG H f ds Q P s rs h k=>?_⟩;unfold xQ at h;split at h
 .split at h
  .rename_i es bs hb;obtain⟨v,rfl,b⟩:=lZ rs;simp only[Rep] at b;obtain⟨a,xs,rfl,d,c⟩:=b;rw[Fn hb] at c;rw[Et c] at d;show⟨a,bs,rfl,(s.gI d).sq,k _ _ _ G (.refl s) (gf (kF _ _ _)) h⟩
  show h.elim
 show h.elim
end
section
variable{X:Cx}{pos:Pos}{e:Expr}{te:TD}
noncomputable def pq:D->String
 | .non=>"NoneType"
 | .bl _=>"bool"
 | .int _=>"int"
 | .str _=>"str"
 | .tup _=>"tuple"
 | .lst _=>"list"
 | .obj _ _=>"object"
 | .dic _=>"dict"
 | .dit _=>"dict"
 | .exc _ _=>"object"
 | .idn _ _=>"object"
noncomputable def yR(t T:String):Bool:=(t==T)||(t=="bool"&&T=="int")
theorem x8{K:J'}{t T:String}(ht:t∈["NoneType","bool","int","str","tuple","list"])(a:T∈["bool","int","str","tuple","list"]):PySem.W.kitOne K (.type t) (.type T)=some (yR t T):=by
 simp only[ao,bD,or_false] at ht a;rcases ht with rfl | rfl | rfl | rfl | rfl | rfl<;>rcases a with rfl | rfl | rfl | rfl | rfl<;>(first | rfl | decide | (unfold PySem.W.kitOne PySem.W.kitCls;decide +kernel))
noncomputable def IX:D->Bool
 | .obj _ _=>false
 | .dic _=>false
 | .dit _=>false
 | .exc _ _=>false
 | .idn _ _=>false
 | _=>true
theorem RD{T:String}(f:T∈["bool","int","str","tuple","list"]):dZ X (.builtin "isinstance") (λxs H Q=>∃x d,xs=[x,.ty T]/\Rep X.K H x d/\IX d=true/\Q (.bl (yR (pq d) T)) H):=by
 intro p s σ H xs us Q I r h;obtain⟨x,d,rfl,b,g,q⟩:=h;obtain⟨u,c,rfl,e,rc⟩:=xV r;cases (show c=Value.type T from rc);have fin:∀tk,EP X p σ Q (.bool (yR (pq d) T)) { s with toks:=tk }:=λtk=>⟨.bl _,H,I.tok tk,rfl,q⟩
 cases d with
 | non=>simp only[Rep] at b;subst b;cases (show u=Value.none from e);show PySem.W.kia_one PySem.W.kitx_none I.mf True.intro (x8 (by simp) f) (λz=>nomatch z) fin
 | bl y=>simp only[Rep] at b;subst b;cases (show u=Value.bool y from e);show PySem.W.kia_one PySem.W.kitx_bool I.mf True.intro (x8 (by simp) f) (λz=>nomatch z) fin
 | int i=>simp only[Rep] at b;subst b;obtain⟨t,j⟩:=(show ∃t,u=Value.int i t from e);cases j;show PySem.W.kia_one PySem.W.kitx_int I.mf True.intro (x8 (by simp) f) (λz=>nomatch z) fin
 | str y=>simp only[Rep] at b;subst b;obtain⟨t,j⟩:=(show ∃t,u=Value.str y t from e);cases j;show PySem.W.kia_one PySem.W.kitx_str I.mf True.intro (x8 (by simp) f) (λz=>nomatch z) fin
 | tup ds=>
  simp only[Rep] at b;obtain⟨a,xs,rfl,k,_⟩:=b;cases (show u=Value.ref a from e);obtain⟨its,_,ht,_⟩:=I.tuple (gR.of k);obtain⟨o,m,l,_⟩:=ht;show PySem.W.kia_one PySem.W.kitx_tuple I.mf ⟨o,m,l⟩ (x8 (by simp) f) (λz=>nomatch z) fin
 | lst ds=>
  simp only[Rep] at b;obtain⟨a,xs,rfl,k,_⟩:=b;cases (show u=Value.ref a from e);obtain⟨its,_,ht,_⟩:=I.list k.sq;obtain⟨o,n,m,l,_⟩:=ht;show PySem.W.kia_one PySem.W.kitx_list I.mf ⟨o,m,l⟩ (x8 (by simp) f) (λz=>nomatch z) fin
 | obj=>cases g
 | dic=>cases g
 | dit=>cases g
 | exc=>cases g
 | idn=>cases g
def BI(T:String)(te:TD):TD:=λa Q=>te a λr=>IX r.val=true/\Q (.fz (.bl (yR (pq r.val) T)))
theorem Jq{T:String}{a:Str}{p b:Pos}(he:PD X e te)(hm:X.mg "isinstance"=none)(n:X.mg a=none)(o:bootBuiltins a=some (.type T))(u:T∈["bool","int","str","tuple","list"]:=by decide)(hg:Gl X "isinstance":=by rfl)(l:Gl X a:=by rfl)(hn:a≠"__name__":=by decide)
  (hd:(a==("__debug__":Str))=false:=by decide) (f:starEach [e,Expr.Name a b] X.env=(false,eval e X.env)::starEach [Expr.Name a b] X.env:=by rfl) (m:starEach [Expr.Name a b] X.env=(false,eval (.Name a b) X.env)::starEach [] X.env:=by rfl)
  (w:(backTo pos (starEach [Expr.Name a b] X.env)).any (·.1)=false:=by rfl):PD X (.Call (.Name "isinstance" p) [e,.Name a b] [] pos) (BI T te):=by
 obtain⟨t,pp,q⟩:=he;show⟨_,wC (RD u) hg hm boot_isinstance (mZ pp (mZ (Kb (v:=.ty T) l n o rfl hn hd) pj m) f) (by decide) (by decide) f w,λg σ A y G H Q P E h k=>q g σ A y G H _ _ E h λv B r C x j d=>?_⟩;obtain⟨z,c,i,_⟩:=j.freeze x;show⟨v,r.val,rfl,i.mono c.s,d.1,k _ _ _ z c (gf (kF _ _ _)) d.2⟩
end
section
variable{P:Program}{w:World}{K:J'}{mg:Str->Option Value}{base:Heap}
structure Known(P:Program)(w:World)(K:J')(mg:Str->Option Value)(base:Heap)(k:Nat)(x:Str)(n:Nat)(t:fc):Prop where
 ex:∃(f:Addr)(fd:FuncData)(ps:List Str),iu P w K mg base nX k f fd ps (xG K n t)/\mg x=some (.ref f)/\PySem.W.keepIn K (.ref f)=true/\Binds K fd ps []
structure At(K:J')(mg:Str->Option Value)(x:Str)(st:Stmt):Prop where
 ex:∃(f:Addr)(fd:FuncData),DJ K x x st f fd/\mg x=some (.ref f)
theorem mV{h:Heap}{x:Str}{st:Stmt}{f:Addr}{e:Value}{od i:Option Addr}{g:Array (Option Value)}{kV b pm d ct:Value}(X:K.In h)(G:h.Ns mainGlobals mg)(a:PySem.W.nsIn K mainGlobals x=some (some (.ref f)))
  (l:K.lookup f=some ⟨e,od,.func (PySem.W.fnOf x x (e8 st) (c7 st) (cw st) .none kV b pm i d ct),g⟩) (c:PySem.W.codeIn K d x=true) (k:PySem.W.keepIn K (.ref f)=true):At K mg x st:=
 ⟨f,_,Ei l c k,bF X G a⟩
end
section
variable{X:Cx}{k k' n:Nat}{t:fc}{x:Str}{p pos:Pos}{e:Expr}{es:List Expr}{ts:iW}
theorem gH(C:Known X.prog X.w X.K X.mg X.base k x n t)(b:eC k' X.A)(ha:mI X (e::es) ts)(c:k<=k':=by decide)(hg:Gl X x:=by rfl)(a:(x==("__debug__":Str))=false:=by decide)
  (he:starEach (e::es) X.env=(false,eval e X.env)::starEach es X.env:=by rfl) (d:(backTo pos (starEach es X.env)).any (·.1)=false:=by rfl):PD X (.Call (.Name x p) (e::es) [] pos) (fO n t ts):=by
 obtain⟨f,fd,ps,F,hm,kp,hb⟩:=C.ex;show QO F (b.mono c) hm kp hb ha hg a he d
end
noncomputable def JJ(a:Str->Option NameKind)(N N':List Str)(m:List (Option Nat))(scope:Scope):Bool:=
 (scope.kind==.function)&&(m.length==N'.length)&&(scope.names.all λy=>scope.names.lookup y.1==some y.2) &&
 (scope.names.all λy=>y.2 != .free||a y.1==some .cell||a y.1==some .free) &&
 ((m.zip N').all λp=>match p.1 with
   | none=>true
   | some j=>N[j]?==some p.2&&scope.names.lookup p.2==some .free)
theorem cX.of{X:Cx}{N':List Str}{m:List (Option Nat)}{scope:Scope}(h:JJ X.env.kindOf X.N N' m scope=true):cX X N' m scope:=by
 unfold JJ at h;simp only[Bool.and_eq_true,beq_iff_eq,List.all_eq_true,Bool.or_eq_true,bne_iff_ne,ne_eq] at h;obtain⟨⟨⟨⟨k,g⟩,f⟩,d⟩,c⟩:=h;show⟨k,g,λy a=>f y a,λy a e=>?_,λi j x hm b=>?_⟩
 .rcases d y a with(z | z) | z
  .exact absurd e z
  .exact .inl z
  show .inr z
 have hz:(some j,x)∈m.zip N':=by
  apply aM (i:=i);rw[List.getElem?_zip_eq_some];show⟨hm,b⟩
 have:=c _ hz;simpa using this
theorem Ux{K:J'}{G:Hp}{a:Addr}{ns:List Int}(h:lM K G a (ns.map V.int)):Rep K G (.ref a) (.lst (ns.map D.int)):=by
 simp only[Rep];show⟨a,_,rfl,h,?_⟩;clear h;induction ns with
 | nil=>show cx.nil
 | cons n r b=>show cx.cons (kP _ _ _) b
def D0(n:Nat):fc:=λds Q=>∃ns:List Int,ds=[.lst (ns.map .int)]/\ns.length<=n/\Q (.fz (.bl true))
theorem qF{l:PySem.W.OpenLaw}{n k:Nat}{q:Program}{c:List Str}{O:(Str->Option Value)->Heap->Prop}{y:World->Heap->Prop}{d:DefRec}{K:Params->J'}{x:Str}
  (hn:l.most=some n) (Q:n<=sizeLine) (P:d.params.defaults=[]) (B:eC k callerA) (C:∀(w:World)(h:Heap),y w h->(K w.params).In h)
  (F:∀(w:World)(mg:Str->Option Value)(fa:Addr)(h:Heap),(K w.params).In h->h.Ns mainGlobals mg->mg d.name=some (.ref fa)->
   ∃fd:FuncData,(∀(s:Shared)(u:Value),BindsTo s fd ⟨[u],[]⟩ [(x,u)])/\∀base:Heap,iu l.prog w (K w.params) mg base nX k fa fd [x] (xG (K w.params) 1 (D0 n))) :
  PySem.W.WalkO q c O y l.row.toRowW d [] (λf i=>PySem.call f i):=by
 show NM.oJ hn P λw eK de mg S fa o pm cd doc a i ns G Y X hd U sN p hints hlen hg=>?_
 have KX:=C w _ Y;obtain⟨fd,hb,E⟩:=F w mg fa _ KX G.T.g sN;show Sm KX G.T.g G.T.b G.T.builtins G.T.nolimit hg p hints (aJ hlen Q) B (λbase _ _=>E base) hb (λH Z j=>?_) λH e R z=>z
 have D:lM (K w.params) H a (ns.map V.int):=by
  rcases j with j | ⟨o,its,m,t,h2,h3,L,J,I⟩
  .exact .inl j
  have e:=KX a o t;rw[p] at e;cases e;have N:Data.seq i.toArray _=Data.seq its m:=L;injection N with M e2
  subst M;show .inr ⟨_,_,t,J,I⟩
 show⟨H,[.lst (ns.map .int)],λr=>r=.fz (.bl true),cJ.refl _,cx.cons (Ux D) cx.nil,rfl,⟨ns,rfl,hlen,rfl⟩,λv H' r G' _ A e=>?_⟩;subst e;simpa only[eZ,Rep] using A
theorem Py{P:Program}{w:World}{K:J'}{mg:Str->Option Value}{st:Stmt}{N:List Str}{x:Str}{k:Nat}{t:fc}{T:Heap->TX}{fa:Addr}(d:At K mg "law" st)(sN:mg "law"=some (.ref fa))(S:cB N [x] (cw st))
  (hb:∀(kV doc pm:Value)(an:Option Addr)(a ct:Value)(us:List Value),us.length=1->bindArgs (PySem.W.fnOf "law" "law" (e8 st) (c7 st) (cw st) .none kV doc pm an a ct) ⟨us,[]⟩=pure ([x].zip us))
  (body:∀(base:Heap)(f:Addr)(a:Value)(A:Around)(outer:List Env)(s:Shared)(H:Hp)(E:XK),eC k (A.deeper (envOfC "law" (cw st) s.heap.objs.size f a))->oN (nY nX P w K mg base N "law" (cw st) f a A outer s H E).tX (c7 st) (T base))
  (b:∀(base:Heap)(ds:List D)(c:R->Prop),ds.length=1->t ds c->T base { nx:=λ_=>c (.fz .non),rt:=c } (og N ds)) :
  ∃fd:FuncData,(∀(s:Shared)(u:Value),BindsTo s fd ⟨[u],[]⟩ [(x,u)])/\∀base:Heap,iu P w K mg base nX (k+1) fa fd [x] (xG K 1 t):=by
 obtain⟨f,fd,F,hm⟩:=d.ex;rw[sN] at hm;cases hm;show⟨fd,λs u=>?_,λbase=>Eu F S (body base fa) (b base)⟩;obtain⟨e,od,kV,doc,pm,an,a,ct,g,rfl,lk,h⟩:=F.ex;show .of_eq (hb kV doc pm an a ct [u] rfl)
def u4(i:Nat)(t:TX):TX:=λD a=>t D (lJ i a)
theorem xZ(d:D):(R.fz d).val=d:=rfl
theorem vd(ds:List D):(R.ow ds).val=.lst ds:=rfl
theorem IW(d:D):(R.fz d).sl=.fz d:=rfl
theorem Ox(ds:List D):(R.ow ds).sl=.ow ds:=rfl
theorem Cf{c:Type}{k:mj}{m:List (Option Nat)}{g:jI}{tc:jA}{te:TD}{a:Ev}{Q:R->Prop}(L:List c)(j:c->D)(f:c->Option D)(hw:∀n:List D->Prop,n (L.map j)->k a n)(s:L.length<=sizeLine)
  (h:∀x∈L,∀(o:D->Prop)(p:Prop),(∀e,f x=some e->o e)->(f x=none->p)->g (j x) (ij m a) λl=>tc l λb=>if b=true then te l λr=>o r.val else p)
  (q:Q (.ow (L.filterMap f))):gh k m g tc te a Q:=by
 show hw _ ⟨λi acc=>acc=(L.take i).filterMap f,rfl,λi d acc hd ha=>?_,λacc ha=>?_⟩
 .rw[aG] at hd;cases hx:L[i]? with
  | none=>rw[hx] at hd;cases hd
  | some x=>
   rw[hx] at hd;cases hd;have hi:i<L.length:=(aB.mp hx).1;have e:L.take (i+1)=L.take i++[x]:=by rw[bz,hx];rfl
   have hlen:acc.length<sizeLine:=by
    rw[ha];show Nat.lt_of_le_of_lt (List.length_filterMap_le _ _) ?_;rw[aL];ext
   show h x (aM hx) (λe=>acc.length<sizeLine/\acc++[e]=(L.take (i+1)).filterMap f) (acc=(L.take (i+1)).filterMap f)
    (λz hz=>⟨hlen,by rw[e,List.filterMap_append,ha];simp[hz]⟩) (λhz=>by rw[e,List.filterMap_append,ha];simp[hz])
 dsimp only at ha;rw[ae,bS] at ha;rw[ha];show q
theorem nN{i:Type}{j:mj}{m:List (Option Nat)}{g:jI}{te:TD}{d:Ev}{Q:R->Prop}(L:List i)(c f:i->D)(hw:∀k:List D->Prop,k (L.map c)->j d k)(l:L.length<=sizeLine)
  (h:∀x∈L,∀(b:D->Prop),b (f x)->g (c x) (ij m d) λo=>te o λr=>b r.val) (q:Q (.ow (L.map f))):gh j m g jJ te d Q:=by
 show Cf L c (λx=>some (f x)) hw l (λx hx b s n _=>?_) ?_
 .have:=h x hx b (n _ rfl);simpa[jJ] using this
 have e:L.filterMap (λx=>some (f x))=L.map f:=by
  induction L with
  | nil=>rfl
  | cons a r p=>simp
 rw[e];show q
theorem qC{k:Type}{l:mj}{m:List (Option Nat)}{g:jI}{tc:jA}{te:TD}{j:Ev}{Q:R->Prop}(L:List k)(i f:k->D)(p:k->Bool)(hw:∀s:List D->Prop,s (L.map i)->l j s)(n:L.length<=sizeLine)
  (h:∀x∈L,∀(c:D->Prop)(d:Prop),(p x=true->c (f x))->(p x=false->d)->g (i x) (ij m j) λo=>tc o λb=>if b=true then te o λr=>c r.val else d)
  (q:Q (.ow ((L.filter p).map f))):gh l m g tc te j Q:=by
 show Cf L i (λx=>if p x=true then some (f x) else none) hw n (λx hx c d u h0=>h x hx c d (λz=>u _ (by simp[z])) (λz=>h0 (by simp[z]))) ?_;have e:L.filterMap (λx=>if p x=true then some (f x) else none)=(L.filter p).map f:=by
  clear h n hw q;induction L with
  | nil=>rfl
  | cons a r t=>by_cases z:p a=true<;>simp[z,t]
 rw[e];show q
theorem Kt{c:mj}{g:jI}{e:TX}{D:DE}{b:Ev}(ds:List L2.D)(hw:∀f:List L2.D->Prop,f ds->c b f)(a:Nat->Ev->Prop)(h:a 0 b)
  (turn:∀i d ρ',ds[i]?=some d->a i ρ'->g d ρ' λj=>e { D with nx:=a (i+1),ct:=a (i+1),bk:=D.nx } j) (fin:∀ρ',a ds.length ρ'->D.nx ρ'):j8 c g e D b:=hw _ ⟨a,h,turn,fin⟩
theorem um{f:Type}{h:mj}{g:jI}{j:TX}{D:DE}{c:Ev}(L:List f)(b:f->L2.D)(hw:∀k:List L2.D->Prop,k (L.map b)->h c k)(a:Nat->Ev->Prop)(l:a 0 c)
  (turn:∀i x ρ',L[i]?=some x->a i ρ'->g (b x) ρ' λm=>j { D with nx:=a (i+1),ct:=a (i+1),bk:=D.nx } m) (fin:∀ρ',a L.length ρ'->D.nx ρ'):j8 h g j D c:=by
 show Kt (L.map b) hw a l (λi d ρ' hd e=>?_) (λρ' e=>fin ρ' (by simpa using e));rw[aG] at hd;cases hx:L[i]? with
 | none=>rw[hx] at hd;cases hd
 | some x=>rw[hx] at hd;cases hd;show turn i x ρ' hx e
theorem wM{g:jI}{e:TX}{D:DE}{b:Ev}{d:mj}(n:Nat)(hw:∀f:List L2.D->Prop,f ((List.range n).map λ(i:Nat)=>.int (0+i))->d b f)(a:Nat->Ev->Prop)(m:a 0 b)
  (turn:∀(i:Nat) ρ',i<n->a i ρ'->g (.int i) ρ' λo=>e { D with nx:=a (i+1),ct:=a (i+1),bk:=D.nx } o) (fin:∀ρ',a n ρ'->D.nx ρ'):j8 d g e D b:=by
 show um (List.range n) (λ(i:Nat)=>.int (0+i)) hw a m (λi x ρ' hx c=>?_) (λρ' c=>fin ρ' (by simpa using c));obtain⟨l,k⟩:=aB.mp hx;have j:i<n:=by simpa using l
 have h:x=i:=by rw[<-k];simp
 subst h;rw[Int.zero_add];show turn x ρ' j c
theorem Xr:(10:Int) ^ Int.toNat 24=1000000000000000000000000:=by decide
theorem Xq:(10:Int) ^ Int.toNat 30=1000000000000000000000000000000:=by decide
theorem Px:o8 10 24=True:=by simp only[o8,eq_iff_iff,iff_true];decide
theorem Pw:o8 10 30=True:=by simp only[o8,eq_iff_iff,iff_true];decide
theorem EO:100000<=sizeLine:=by decide
section
variable{X:Cx}{pos:Pos}{e:Expr}{te:TD}{es:List Expr}{ts:iW}
def pU(t:TD):TD:=λa Q=>t a λr=>match r.val with
 | .int i=>Q (.fz (.int (-i)))
 | _=>False
theorem uk(h:PD X e te):PD X (.UnaryOp .USub e pos) (pU te):=by
 obtain⟨t,p,q⟩:=h;show⟨_,OH Pe p,λc σ m j G H Q P E h k=>q c σ m j G H _ _ E h λv n r o x f b=>?_⟩;obtain⟨l,d,a,_⟩:=f.freeze x;split at b
 .rename_i i g;rw[g] at a;simp only[Rep] at a;show⟨i,a,k _ _ _ l d (gf (kP _ _ _)) b⟩
 show b.elim
def oY:fc:=λds Q=>match ds with
 | [.lst es]=>Q (.ow es)
 | [.tup es]=>Q (.ow es)
 | _=>False
theorem rZ:rn X (.type "list") oY:=by
 show⟨_,U7,λG H e ds Q P s rs h k=>?_⟩;unfold oY at h;split at h
 .obtain⟨v,rfl,b⟩:=lZ rs;simp only[Rep] at b;obtain⟨a,xs,rfl,d,c⟩:=b;show⟨a,xs,rfl,.inl (s.gI d).sq,vi s c h k⟩
 .obtain⟨v,rfl,b⟩:=lZ rs;simp only[Rep] at b;obtain⟨a,xs,rfl,d,c⟩:=b;show⟨a,xs,rfl,.inr (s.oo d),vi s c h k⟩
 show h.elim
def yQ:fc:=λds Q=>match ds with
 | [.int i]=>Q (.fz (.int i))
 | [.bl b]=>Q (.fz (.int (if b then 1 else 0)))
 | _=>False
theorem IV:rn X (.type "int") yQ:=by
 show⟨_,T7,λG H b ds Q P s rs h k=>?_⟩;unfold yQ at h;split at h
 .obtain⟨v,rfl,a⟩:=lZ rs;simp only[Rep] at a;subst a;show .inl ⟨_,rfl,k _ _ _ G (.refl s) (gf (kP _ _ _)) h⟩
 .obtain⟨v,rfl,a⟩:=lZ rs;simp only[Rep] at a;subst a;show .inr ⟨_,rfl,k _ _ _ G (.refl s) (gf (kP _ _ _)) h⟩
 show h.elim
noncomputable def l9:List D->Option (List Int)
 | []=>some []
 | .int b::r=>(l9 r).map (b::·)
 | _=>none
theorem wL:∀{ds:List D}{bs:List Int},l9 ds=some bs->ds=bs.map D.int
 | [],bs,h=>by simp[l9] at h;subst h;rfl
 | .int b::r,bs,h=>by
  simp only[l9,Option.map_eq_some_iff] at h;obtain⟨c,a,rfl⟩:=h;rw[wL a];rfl
 | .non::r,bs,h=>by simp[l9] at h
 | .bl _::r,bs,h=>by simp[l9] at h
 | .str _::r,bs,h=>by simp[l9] at h
 | .tup _::r,bs,h=>by simp[l9] at h
 | .lst _::r,bs,h=>by simp[l9] at h
 | .obj _ _::r,bs,h=>by simp[l9] at h
 | .dic _::r,bs,h=>by simp[l9] at h
 | .dit _::r,bs,h=>by simp[l9] at h
 | .exc _ _::r,bs,h=>by simp[l9] at h
 | .idn _ _::r,bs,h=>by simp[l9] at h
theorem vp(bs:List Int):l9 (bs.map D.int)=some bs:=by
 induction bs with
 | nil=>rfl
 | cons b r a=>simp[l9,a]
theorem wD{K:J'}{G:Hp}:∀{bs:List Int}{a:List V},cx K G a (bs.map D.int)->a=bs.map V.int
 | [],[],_=>rfl
 | b::bs,v::a,h=>by
  simp only[az,cx,Rep] at h;rw[h.1,wD h.2];rfl
 | [],_::_,h=>by simp only[List.map_nil,cx] at h
 | _::_,[],h=>by simp only[az,cx] at h
theorem Fx{a:List Value}{ns:List Int}(hi:IntsAre a ns):∃xs:Array (Int×Tok),a.toArray=intItems xs/\ns=xs.toList.map (·.1):=by
 obtain⟨xs,e⟩:=hi.allInts.items;show⟨xs,e,by rw[<-hi.numsOf,<-nums_intItems,<-e]⟩
theorem SR(i:X.calm=true):dZ X (.builtin "sum") (λxs H Q=>∃(p:Addr)(ns:List Int),xs=[.ref p]/\fT X.K H p (ns.map V.int)/\Q (.int ns.sum) H):=by
 intro k s σ H xs us Q I r h;obtain⟨p,ns,rfl,f,q⟩:=h;obtain⟨u,rfl,c⟩:=l7 r;cases c;obtain⟨its,b,pl,hz⟩:=I.list f;obtain⟨ys,e,d⟩:=Fx (yj b);have a:=pl.isList;rw[e] at a;show sum_intListG (I.ok.hd i) a λh' tk t' g=>?_
 have j:preSum (numAt ys) ys.size=ns.sum:=by
  rw[preSum_eq,bx (by simp),d]
 rw[j];show⟨.int _,H,I.kept g,⟨_,rfl⟩,q⟩
theorem SQ(w:X.calm=true):dZ X (.builtin "min") (λxs H Q=>∃(p:Addr)(ns:List Int),xs=[.ref p]/\fT X.K H p (ns.map V.int)/\ns≠[]/\∀M,M∈ns->(∀a∈ns,M<=a)->Q (.int M) H):=by
 intro A s σ H xs us Q I r h;obtain⟨p,ns,rfl,m,f,q⟩:=h;obtain⟨u,rfl,k⟩:=l7 r;cases k;obtain⟨its,i,pl,hz⟩:=I.list m;obtain⟨ys,e,c⟩:=Fx (yj i);have d:=pl.isList;rw[e] at d;have y:0<ys.size:=by
  cases g:ys.toList with
  | nil=>rw[c,g] at f;show absurd rfl f
  | cons a b=>have:ys.toList.length=b.length+1:=by rw[g];rfl
              rw[ai] at this;ext
 show min_intList (I.ok.hd w) d y λv h' tk l n=>?_
 obtain⟨t,rfl⟩:=intItems_at l;obtain⟨z,x⟩:=argBest_lt (numAt ys) (ys.size-1);show⟨.int _,H,I.kept n,⟨_,rfl⟩,q _ ?_ λa ha=>?_⟩
 .rw[c,numAt_eq];show getD_mem (by rw[ae,ai];ext)
 rw[c] at ha;obtain⟨j,o,rfl⟩:=mem_getD ha;rw[ae,ai] at o;rw[<-numAt_eq];show x j (by ext)
theorem SN(w:X.calm=true):dZ X (.builtin "max") (λxs H Q=>∃(p:Addr)(ns:List Int),xs=[.ref p]/\fT X.K H p (ns.map V.int)/\ns≠[]/\∀M,M∈ns->(∀a∈ns,a<=M)->Q (.int M) H):=by
 intro A s σ H xs us Q I r h;obtain⟨p,ns,rfl,m,f,q⟩:=h;obtain⟨u,rfl,k⟩:=l7 r;cases k;obtain⟨its,i,pl,hz⟩:=I.list m;obtain⟨ys,e,c⟩:=Fx (yj i);have d:=pl.isList;rw[e] at d;have y:0<ys.size:=by
  cases g:ys.toList with
  | nil=>rw[c,g] at f;show absurd rfl f
  | cons a b=>have:ys.toList.length=b.length+1:=by rw[g];rfl
              rw[ai] at this;ext
 show max_intList (I.ok.hd w) d y λv h' tk l n=>?_
 obtain⟨t,rfl⟩:=intItems_at l;obtain⟨z,x⟩:=argBest_gt (numAt ys) (ys.size-1);show⟨.int _,H,I.kept n,⟨_,rfl⟩,q _ ?_ λa ha=>?_⟩
 .rw[c,numAt_eq];show getD_mem (by rw[ae,ai];ext)
 rw[c] at ha;obtain⟨j,o,rfl⟩:=mem_getD ha;rw[ae,ai] at o;rw[<-numAt_eq];show x j (by ext)
def uZ:fc:=λds Q=>match ds with
 | [.lst es]=>match l9 es with
  | some ns=>Q (.fz (.int ns.sum))
  | none=>False
 | _=>False
theorem yZ(e:X.calm=true):rn X (.builtin "sum") uZ:=by
 show⟨_,SR e,λG H f ds Q P s rs h k=>?_⟩;unfold uZ at h;split at h
 .split at h
  .rename_i es bs hb;obtain⟨v,rfl,b⟩:=lZ rs;simp only[Rep] at b;obtain⟨a,xs,rfl,d,c⟩:=b;rw[wL hb] at c;rw[wD c] at d;show⟨a,bs,rfl,(s.gI d).sq,k _ _ _ G (.refl s) (gf (kP _ _ _)) h⟩
  show h.elim
 show h.elim
def tH:fc:=λds Q=>match ds with
 | [.lst es]=>match l9 es with
  | some ns=>ns≠[]/\∀M,M∈ns->(∀a∈ns,M<=a)->Q (.fz (.int M))
  | none=>False
 | [.int i,.int j]=>Q (.fz (.int (if j<i then j else i)))
 | _=>False
def rT:fc:=λds Q=>match ds with
 | [.lst es]=>match l9 es with
  | some ns=>ns≠[]/\∀M,M∈ns->(∀a∈ns,a<=M)->Q (.fz (.int M))
  | none=>False
 | [.int i,.int j]=>Q (.fz (.int (if j>i then j else i)))
 | _=>False
theorem BN(d:X.calm=true):rn X (.builtin "min") tH:=by
 show⟨_,(SQ d).or (T8 d),λG H j ds Q P s rs h k=>?_⟩;unfold tH at h;split at h
 .split at h
  .rename_i es bs hb;obtain⟨v,rfl,b⟩:=lZ rs;simp only[Rep] at b;obtain⟨a,xs,rfl,f,e⟩:=b;rw[wL hb] at e;rw[wD e] at f;show .inl ⟨a,bs,rfl,(s.gI f).sq,h.1,λM i g=>k _ _ _ G (.refl s) (gf (kP _ _ _)) (h.2 M i g)⟩
  show h.elim
 .obtain⟨v,u,rfl,b,c⟩:=BY rs;simp only[Rep] at b c;subst b c;show .inr ⟨_,_,rfl,k _ _ _ G (.refl s) (gf (kP _ _ _)) h⟩
 show h.elim
theorem yY(d:X.calm=true):rn X (.builtin "max") rT:=by
 show⟨_,(SN d).or (T9 d),λG H j ds Q P s rs h k=>?_⟩;unfold rT at h;split at h
 .split at h
  .rename_i es bs hb;obtain⟨v,rfl,b⟩:=lZ rs;simp only[Rep] at b;obtain⟨a,xs,rfl,f,e⟩:=b;rw[wL hb] at e;rw[wD e] at f;show .inl ⟨a,bs,rfl,(s.gI f).sq,h.1,λM i g=>k _ _ _ G (.refl s) (gf (kP _ _ _)) (h.2 M i g)⟩
  show h.elim
 .obtain⟨v,u,rfl,b,c⟩:=BY rs;simp only[Rep] at b c;subst b c;show .inr ⟨_,_,rfl,k _ _ _ G (.refl s) (gf (kP _ _ _)) h⟩
 show h.elim
noncomputable def nK:List D->Option (List Str)
 | []=>some []
 | .str b::r=>(nK r).map (b::·)
 | _=>none
theorem Fw:∀{ds:List D}{bs:List Str},nK ds=some bs->ds=bs.map D.str
 | [],bs,h=>by simp[nK] at h;subst h;rfl
 | .str b::r,bs,h=>by
  simp only[nK,Option.map_eq_some_iff] at h;obtain⟨c,a,rfl⟩:=h;rw[Fw a];rfl
 | .non::r,bs,h=>by simp[nK] at h
 | .bl _::r,bs,h=>by simp[nK] at h
 | .int _::r,bs,h=>by simp[nK] at h
 | .tup _::r,bs,h=>by simp[nK] at h
 | .lst _::r,bs,h=>by simp[nK] at h
 | .obj _ _::r,bs,h=>by simp[nK] at h
 | .dic _::r,bs,h=>by simp[nK] at h
 | .dit _::r,bs,h=>by simp[nK] at h
 | .exc _ _::r,bs,h=>by simp[nK] at h
 | .idn _ _::r,bs,h=>by simp[nK] at h
theorem zK(bs:List Str):nK (bs.map D.str)=some bs:=by
 induction bs with
 | nil=>rfl
 | cons b r a=>simp[nK,a]
theorem EN{K:J'}{G:Hp}:∀{bs:List Str}{a:List V},cx K G a (bs.map D.str)->a=bs.map V.str
 | [],[],_=>rfl
 | b::bs,v::a,h=>by
  simp only[az,cx,Rep] at h;rw[h.1,EN h.2];rfl
 | [],_::_,h=>by simp only[List.map_nil,cx] at h
 | _::_,[],h=>by simp only[az,cx] at h
theorem Lv{K:J'}{G:Hp}(bs:List Str):cx K G (bs.map V.str) (bs.map D.str):=by
 induction bs with
 | nil=>show cx.nil
 | cons b r a=>show cx.cons (yd _ _ _) a
theorem LO{c:List Str}:∀{us:List Value},Vals (c.map V.str) us->StrsAre us c:=by
 induction c with
 | nil=>
  intro us h;cases h;show .nil
 | cons n r d=>
  intro us h;cases h with
  | cons a b=>
   obtain⟨t,rfl⟩:=a;show .cons _ _ (d b)
theorem Fl:∀{a:List Value}{ss:List Str},StrsAre a ss->Vals (ss.map V.str) a
 | _,_,.nil=>.nil
 | _,_,.cons _ _ h=>.cons ⟨_,rfl⟩ (Fl h)
theorem pK:dZ X (.builtin "sorted") (λxs H Q=>∃(p:Addr)(ss:List Str),xs=[.ref p]/\fT X.K H p (ss.map V.str)/\ss.length<64/\∀c:List Str,c.Perm ss->sortedS c=true->∀l,H l=none->Q (.ref l) (upd H l (.lst (c.map V.str)))):=by
 intro m s σ H xs us Q I r h;obtain⟨p,ss,rfl,g,n,q⟩:=h;obtain⟨u,rfl,f⟩:=l7 r;cases f;obtain⟨its,d,pl,hz⟩:=I.list g;have k:its.length=ss.length:=by rw[<-d.length,ae]
 show sorted_strs pl.isList (LO d) (by ext) λout c a1 a2 j=>?_
 obtain⟨i,he⟩:=sortedAll_at s.heap its out;have hf:H (s.heap.objs.size+1)=none:=I.dD.fresh (b8 _);show⟨.ref (s.heap.objs.size+1),_,I.laid (a:=s.heap.objs.size+1) (o:=.lst (c.map V.str)) (t':=s.toks) (λb o e=>sortedAll_old e) (b8 _) ?_,rfl,q c a2 j _ hf⟩;show⟨by rw[ae,a2.length_eq];have:=EO;ext,out.toList,i,Fl a1,?_⟩;rw[Array.toArray_toList];show he
theorem Uw:dZ X (.builtin "sorted") (λxs H Q=>∃(p:Addr)(ns:List Int),xs=[.ref p]/\fT X.K H p (ns.map V.int)/\ns.length<64/\∀c:List Int,c.Perm ns->c.Pairwise (·<=·)->∀l,H l=none->Q (.ref l) (upd H l (.lst (c.map V.int)))):=by
 intro n s σ H xs us Q I r h;obtain⟨p,ss,rfl,i,t,q⟩:=h;obtain⟨u,rfl,g⟩:=l7 r;cases g;obtain⟨its,d,pl,hz⟩:=I.list i;have m:its.length=ss.length:=by rw[<-d.length,ae]
 show sorted_ints pl.isList (yj d) (by ext) λout f a1 a2 k=>?_
 obtain⟨j,he⟩:=sortedAll_at s.heap its out;have hf:H (s.heap.objs.size+1)=none:=I.dD.fresh (b8 _);show⟨.ref (s.heap.objs.size+1),_,I.laid (a:=s.heap.objs.size+1) (o:=.lst (f.map V.int)) (t':=s.toks) (λb o e=>sortedAll_old e) (b8 _) ?_,rfl,q f a2 k _ hf⟩;show⟨by rw[ae,a2.length_eq];have:=EO;ext,out.toList,j,Fd a1,?_⟩;rw[Array.toArray_toList];show he
def wz:fc:=λds Q=>match ds with
 | [.lst es]=>match nK es with
  | some ss=>ss.length<64/\∀b:List Str,b.Perm ss->sortedS b=true->Q (.ow (b.map D.str))
  | none=>match l9 es with
   | some ns=>ns.length<64/\∀a:List Int,a.Perm ns->a.Pairwise (·<=·)->Q (.ow (a.map D.int))
   | none=>False
 | _=>False
theorem SM{K:J'}{G:Hp}(bs:List Int):cx K G (bs.map V.int) (bs.map D.int):=by
 induction bs with
 | nil=>show cx.nil
 | cons b r a=>show cx.cons (kP _ _ _) a
theorem Ks(_:X.calm=true):rn X (.builtin "sorted") wz:=by
 show⟨_,pK.or Uw,λG H i ds Q P s rs h k=>?_⟩;unfold wz at h;split at h
 .split at h
  .rename_i es bs hb;obtain⟨v,rfl,b⟩:=lZ rs;simp only[Rep] at b;obtain⟨a,xs,rfl,e,d⟩:=b;rw[Fw hb] at d;rw[EN d] at e;show .inl ⟨a,bs,rfl,(s.gI e).sq,h.1,λc g f=>vi s (Lv c) (h.2 c g f) k⟩
  split at h
  .rename_i es _ bs hb;obtain⟨v,rfl,b⟩:=lZ rs;simp only[Rep] at b;obtain⟨a,xs,rfl,e,d⟩:=b;rw[wL hb] at d;rw[wD d] at e;show .inr ⟨a,bs,rfl,(s.gI e).sq,h.1,λc g f=>vi s (SM c) (h.2 c g f) k⟩
  show h.elim
 show h.elim
def NJ(X:Cx)(f:String)(o:D->List D->(R->Prop)->Prop):Prop:=∃r,NI X f r/\∀(G H:Hp)(x:V)(d:D)(b:List V)(ds:List D)(Q:R->Prop)(P:VK),cJ G H->Rep X.K G x d->cx X.K G b ds->o d ds Q->
 (∀v a c e,Ext G H e a->eZ X.K e a H v c->Q c->P v a)->r x b H P
def dM(T:String)(o:D->List D->(R->Prop)->Prop)(te:TD)(ts:iW):TD:=λa Q=>te a λr=>pq r.val=T/\ts a λds=>o r.val ds Q
theorem QL{K:J'}{G H:Hp}{x:V}{d:D}{T:String}(s:cJ G H)(r:Rep K G x d)(h:pq d=T)(b:T="list"\/T="str"):F9 K T x H:=by
 cases d with
 | str z=>simp only[Rep] at r;subst r;show h.symm
 | lst ds=>
  simp only[Rep] at r;obtain⟨a,xs,rfl,c,_⟩:=r;show .inl ⟨h.symm,xs,(s.gI c).sq⟩
 | non=>subst h;rcases b with h | h<;>simp[pq] at h
 | bl=>subst h;rcases b with h | h<;>simp[pq] at h
 | int=>subst h;rcases b with h | h<;>simp[pq] at h
 | tup=>subst h;rcases b with h | h<;>simp[pq] at h
 | obj=>subst h;rcases b with h | h<;>simp[pq] at h
 | dic=>subst h;rcases b with h | h<;>simp[pq] at h
 | dit=>subst h;rcases b with h | h<;>simp[pq] at h
 | exc=>subst h;rcases b with h | h<;>simp[pq] at h
 | idn=>subst h;rcases b with h | h<;>simp[pq] at h
theorem QK{T d:String}{name:Str}{j:Pos}{a:Expr}{o:D->List D->(R->Prop)->Prop}(hm:NJ X d o)(V:T="list"\/T="str")(J:PlainAttrs T)(slot:Slot T name d)(GY:typeOf (.builtin d)=pure (.type "method_descriptor"))
  (he:PD X e te) (ha:mI X (a::es) ts) (N:attributeBase e name X.env (eval e X.env)=eval e X.env:=by rfl)
  (p:((backTo pos (starEach (a::es) X.env)).all (λx=>!x.1)&&(backToKw pos (keywordEach [] X.env)).all (λx=>x.1.isSome)
   && decide ((a::es).length+([]:List Keyword).length+(if ([]:List Keyword).isEmpty then 0 else 1)<30))=true:=by rfl)
  (w:(j.endLine==pos.line)=true:=by rfl) (S:starEach (a::es) X.env=(false,eval a X.env)::starEach es X.env:=by rfl) (K:(backTo pos (starEach es X.env)).any (·.1)=false:=by rfl) :
  PD X (.Call (.Attribute e name j) (a::es) [] pos) (dM T o te ts):=by
 obtain⟨r,U,B⟩:=hm;obtain⟨t1,M,I⟩:=he;obtain⟨t2,L,F⟩:=ha;show⟨_,y7 J slot GY U M L N p w S K,λf σ n m G H Q P E h k=>I f σ n m G H _ _ E h λv H' A G' x y l=>?_⟩;obtain⟨G2,c,i,_⟩:=y.freeze x;show⟨QL c.s i l.1 V,F f σ n m G2 H' _ _ (E.ext c) l.2 λu Z ds G3 b rs O=>?_⟩;show B G3 Z v A.val u ds Q P b.s (i.mono b.g) rs O λt Y z G4 q W C=>k t Y z G4 ((c.trans b).trans q) (W.ie (c.trans b).h) C
noncomputable def rh(d:D)(ds:List D):Nat:=ds.countP λe=>eH e d
def B4:D->List D->(R->Prop)->Prop:=λd ds Q=>match d,ds with
 | .lst es,[x]=>ff 8 x/\(∀e∈es,ff 8 e)/\Q (.fz (.int (rh x es)))
 | _,_=>False
theorem J3{f:List (Addr×Obj)}{c:St}{H:Hp}{s:Shared}(I:Inv X f c H s){d:D}:∀{es:List D}{b:List V}{us:List Value},(∀e∈es,ff 8 e)->Vals b us->cx X.K H b es->us.countP (nV X H d)=rh d es
 | [],_,_,_,a,re=>by
  cases a
  .rfl
  simp only[cx] at re
 | e::es,_,_,h,a,re=>by
  cases a with
  | nil=>simp only[cx] at re
  | cons r t=>
   simp only[cx] at re;unfold rh;rw[List.countP_cons,List.countP_cons,Eb I (h e (by simp)) r re.1,J3 I (λx hx=>h x (by simp[hx])) t re.2];rfl
theorem QJ(z:X.A.units+64<cLine):NJ X "list.count" B4:=by
 show⟨λx c H Q=>∃p d es ws y,x=.ref p/\c=[y]/\fT X.K H p ws/\ff 8 d/\(∀e∈es,ff 8 e)/\Rep X.K H y d/\cx X.K H ws es/\Q (.int (rh d es)) H,λC s σ H x xs v us Q I b rs h=>?_,λG H x d c ds Q P s b rs h k=>?_⟩
 .obtain⟨p,d,es,ws,y,rfl,rfl,r,hd,he,o,re,q⟩:=h;cases b;obtain⟨u,rfl,m⟩:=l7 rs;obtain⟨its,f,pl,hz⟩:=I.list r;obtain⟨⟨cls,dd,data,sl⟩,n,g,i,B,j⟩:=id pl;simp only at i j;subst i j;show call_meets PySem.F.slot_list_count ⟨_,g,rfl⟩ PySem.F.entry_list_count (PySem.F.args_list_count_2 _ _) (SeqAt.list_countAt p its.toArray n dd sl u (nV X H d)) ⟨g,zq (A:=X.A.in1) I hd (by show X.A.units+1+8<cLine;ext) o m he f re,?_⟩;rw[show its.toArray.toList=its from rfl,J3 I he f re];show⟨.int _,H,I.tok _,⟨_,rfl⟩,q⟩
 unfold B4 at h;split at h
 .obtain⟨y,rfl,l⟩:=lZ rs;simp only[Rep] at b;obtain⟨a,xs,rfl,w,t⟩:=b;show⟨a,_,_,xs,y,rfl,rfl,(s.gI w).sq,h.1,h.2.1,l.mono s,t.mono s,k _ _ _ G (.refl s) (gf (kP _ _ _)) h.2.2⟩
 show h.elim
end
theorem LN{prog:Program}{w:World}{A:Around}{E:Value->Shared->Prop}{it l:Addr}{a:Array Value}(j:l≠it) :
  ∀(n i:Nat)(s:Shared)(Q:List Value->Shared->Prop),s.heap.IsListIter it l i->s.heap.IsList l a->i+n<=a.size->
   (∀h':Heap,h'.IsListIter it l (i+n)->Heap.SameBut it s.heap h'->Q ((a.toList.drop i).take n) { s with heap:=h' })->wpAny (model prog w) A (draw (.ref it) n) Q E s
 | 0,i,s,Q,st,f,hn,q=>by
  rw[draw.eq_1];show af (by have:=q s.heap st ⟨rfl,λ_ _=>rfl⟩;simpa using this)
 | n+1,i,s,Q,st,f,hn,q=>by
  rw[draw.eq_2];have hi:i<a.size:=by ext
  show aa (wpAny_pyNext_list_item st f (x:=a[i]) (by simp[hi]) λh k d=>?_);dsimp only;have m:h.IsList l a:=by
   obtain⟨o,e,c⟩:=f;show⟨o,(d.2 l j).trans e,c⟩
  show aa (bh (LN j n (i+1) { s with heap:=h } _ k m (by ext) λp r g=>af ?_));have:=q p (by rw[show i+(n+1)=i+1+n by ext];show r) ⟨g.1.trans d.1,λb hb=>(g.2 b hb).trans (d.2 b hb)⟩;have e:(a.toList.drop i).take (n+1)=a[i]::(a.toList.drop (i+1)).take n:=by
   rw[bG (by simpa using hi)];simp
  rw[e] at this;show this
theorem WM{prog:Program}{w:World}{A:Around}{E:Value->Shared->Prop}{s:Shared}{l:Addr}{a:Array Value}{Q:List Value->Shared->Prop}(hd:A.handled=none)(d:s.heap.IsList l a)
  (q:∀h':Heap,Heap.ExtBut s.heap.objs.size s.heap h'->Q a.toList { s with heap:=h' }):wpAny (model prog w) A (unpackItems (.ref l) a.size none) Q E s:=by
 unfold unpackItems;have h:l<s.heap.objs.size:=by obtain⟨o,e,_⟩:=d;show aw e
 have ty:s.TypeIs (.ref l) "list":=by obtain⟨o,e,c,_⟩:=d;show⟨o,e,c⟩
 show aa ?_;unfold notIterableAtAll;show aa (wpAny_specialOf ty F.slot_list_iter.lookup ?_);rw[if_pos (show((some (Value.builtin "list.__iter__")).isSome=true) from rfl)];show af ?_;rw[if_neg aD];show aa (bh (wpAny_pyIter_list d ?_));dsimp only;have g:(s.heap.push { cls:=Value.type "list_iterator",data:=Data.fields #[Value.ref l,Value.int 0 0] }).IsList l a:=by
  obtain⟨o,e,c⟩:=d;show⟨o,ag _ e,c⟩
 show aa (bh (LN (aF h) a.size 0 _ _ ⟨_,ax _ rfl,rfl,rfl⟩ g (by ext) λj m f=>?_));have n:j.IsList l a:=by
  obtain⟨o,e,c⟩:=g;show⟨o,(f.2 l (aF h)).trans e,c⟩
 have el:List.take a.size (List.drop 0 a.toList)=a.toList:=by rw[List.drop_zero,show a.size=a.toList.length by simp,bS]
 rw[el,if_neg (by simp)];show aa (bh (wpAny_pyNext_list_end hd m n (by simp) λi k=>?_));rw[if_neg (by simp)];show af (q i λb o hb e=>k b o hb ?_);rw[f.2 b hb];show ag _ e
section
variable{X:Cx}{pos:Pos}
def N2(K:J')(n:Nat)(t:uU):TG:=λv σ H Q=>∃a xs,v=.ref a/\fT K H a xs/\xs.length=n/\t xs σ H Q
theorem Rc{es:List Expr}{k:Nat}{t:uU}{n:Nat}(i:X.calm=true)(h:yK X es t)
  (hn:(assignEach es X.env).length=n:=by rfl) (j:(assignEach es X.env).findIdx? (·.1)=none:=by rfl):PG X (.Tuple es k pos) (N2 X.K n t):=by
 intro d s σ H v u Q I r hw;obtain⟨a,xs,l,f,g,hw⟩:=hw;subst l;cases r;obtain⟨its,c,pl,hz⟩:=I.list f;rw[assign_Tuple];show aa (wpAny_standAt ?_);unfold unpack;have hlen:(assignEach es X.env).length=its.toArray.size:=by rw[hn,<-g,c.length];simp
 rw[hlen,j];show aa (bh (WM (I.ok.hd i) pl.isList λh' hx=>?_));have I1:Inv X d σ H { s with heap:=h' }:=I.kept (t':=s.toks) λb o e=>hx b o (aF (aw e)) e
 show h d _ σ H xs _ Q I1 (by simpa using c) hw
def xP(n:Nat)(t:qr):jI:=λd a Q=>match d with
 | .lst ds=>ds.length=n/\t ds a Q
 | _=>False
theorem Es{es:List Expr}{k:Nat}{t:qr}{n:Nat}(i:X.calm=true)(h:yS X es t)(hn:(assignEach es X.env).length=n:=by rfl)(j:(assignEach es X.env).findIdx? (·.1)=none:=by rfl):tq X (.Tuple es k pos) (xP n t):=by
 obtain⟨t1,f,c⟩:=h;show⟨_,Rc i f hn j,λb σ m l G H d v Q P E r h k=>?_⟩;unfold xP at h;split at h
 .simp only[Rep] at r;obtain⟨a,xs,rfl,g,rs⟩:=r;show⟨a,xs,rfl,(E.e.s.gI g).sq,by rw[rs.length];show h.1,c b σ m l G H _ xs Q P E rs h.2 k⟩
 show h.elim
end
theorem RC{acc:List Int}{k:Int}:∀a,a∈step_dedup acc k↔a∈acc\/a=k:=by
 intro a;unfold step_dedup;split
 .rename_i h;constructor
  .exact .inl
  rintro(h' | rfl)
  .exact h'
  simpa using h
 simp
theorem Uv{acc:List Int}{k:Int}(h:acc.Nodup):(step_dedup acc k).Nodup:=by
 unfold step_dedup;split
 .exact h
 rename_i hn;rw[List.nodup_append];show⟨h,by simp,λa ha b hb=>?_⟩;have:b=k:=by simpa using hb
 subst this;rintro rfl;show hn (by simpa using ha)
theorem TZ(l acc:List Int)(h:acc.Nodup):(l.foldl step_dedup acc).Nodup/\∀a,a∈l.foldl step_dedup acc↔a∈acc\/a∈l:=by
 induction l generalizing acc with
 | nil=>show⟨h,λa=>by simp⟩
 | cons k r b=>
  obtain⟨d,c⟩:=b (step_dedup acc k) (Uv h);show⟨d,λa=>?_⟩;rw[List.foldl_cons,c a,RC a,ao,or_assoc]
theorem Vj(ns:List Int):firstMet (λi=>ns.getD i 0) ns.length=ns.foldl step_dedup []:=by
 unfold firstMet;congr 1
 apply List.ext_getElem
 .simp
 intro i b a;simp[List.getD,a]
section
variable{X:Cx}{pos:Pos}{e:Expr}{te:TD}{es:List Expr}{ts:iW}
noncomputable def Ed(ns:List Int):List Int:=ns.foldl step_dedup []
theorem Tb(k:X.calm=true):dZ X (.type "set") (λxs H Q=>∃(p:Addr)(ns:List Int),xs=[.ref p]/\fT X.K H p (ns.map V.int)/\ns.length<4000/\∀q,H q=none->∀S:Int->Bool,Q (.ref q) (upd H q (.set S (Ed ns).length))):=by
 intro m s σ H xs us Q I r h;obtain⟨p,ns,rfl,i,l,q⟩:=h;obtain⟨u,rfl,g⟩:=l7 r;cases g;obtain⟨its,c,pl,hz⟩:=I.list i;have f:its.toArray.size=ns.length:=by rw[aq,<-c.length,ae]
 show call_set_list (I.ok.hd k) pl.isList (by simpa using yj c) (by rw[f];have:scanBound=4096:=(by decide);ext) λh' tk d j=>?_
 have hf:H s.heap.objs.size=none:=I.dD.fresh (ay _);rw[f] at d;show⟨.ref s.heap.objs.size,_,I.laid (a:=s.heap.objs.size) (t':=tk) (λb o e=>j b o (aw e) e) (ay _) (o:=.set _ _) d,rfl,?_⟩;rw[Vj];show q _ hf _
theorem Ta:dZ X (.builtin "len") (λxs H Q=>∃(p:Addr)(S:Int->Bool)(n:Nat),xs=[.ref p]/\H p=some (.set S n)/\Q (.int n) H):=by
 intro l s σ H xs us Q I r h;obtain⟨p,S,n,rfl,b,q⟩:=h;obtain⟨u,rfl,a⟩:=l7 r;cases a;obtain⟨o,es,ep,t,g,f,e,k,j,i,d,rfl⟩:=(show s.heap.SetOf (intKind X.prog X.w) p S n from I.dD p _ b)
 show call_len_set g f e d ?_ ⟨.int _,H,I.tok _,⟨_,rfl⟩,q⟩;have:scanBound=4096:=by decide
 have c:es.size<4096:=by ext
 show Int.ofNat_lt.mpr (Nat.lt_trans c (by decide))
theorem Lu:bootBuiltins "set"=some (.type "set"):=by rfl
def vh:fc:=λds Q=>match ds with
 | [.lst es]=>match l9 es with
  | some ns=>ns.length<4000/\∀l:List Int,l.Nodup->(∀k,k∈l↔k∈ns)->Q (.fz (.int l.length))
  | none=>False
 | _=>False
theorem Fj{r c d:Pos}(w:X.calm=true)(n:X.mg "len"=none)(u:X.mg "set"=none)(ha:mI X [e] ts)(B:Gl X "len":=by rfl)(o:Gl X "set":=by rfl)
  (he:starEach [e] X.env=(false,eval e X.env)::starEach [] X.env:=by rfl) (f:starEach [.Call (.Name "set" c) [e] [] d] X.env=(false,eval (.Call (.Name "set" c) [e] [] d) X.env)::starEach [] X.env:=by rfl):PD X (.Call (.Name "len" r) [.Call (.Name "set" c) [e] [] d] [] pos) (eY vh ts):=by
 obtain⟨t,pp,q⟩:=ha;show⟨_,wC Ta B n boot_len (mZ (CS (Tb w) o u Lu pp (by decide) (by decide) he rfl) pj f) (by decide) (by decide) f rfl,λl σ z y G H Q P E h k=>?_⟩;show q l σ z y G H _ _ E h λC D ds A x rs b=>?_
 unfold vh at b;split at b
 .split at b
  .rename_i es ns hn;obtain⟨v,rfl,g⟩:=lZ rs;simp only[Rep] at g;obtain⟨a,xs,rfl,j,i⟩:=g;rw[wL hn] at i;rw[wD i] at j;show⟨a,ns,rfl,(x.s.gI j).sq,b.1,λp m S=>⟨p,S,_,rfl,jb,?_⟩⟩;obtain⟨f1,f2⟩:=TZ ns [] List.nodup_nil;show k _ _ _ A (x.trans (.own x.s m)) (gf (kP _ _ _)) (b.2 (Ed ns) f1 λk=>by rw[Ed,f2];simp)
  show b.elim
 show b.elim
theorem dF.look{K:J'}{H:Hp}{f:Str}:∀{a:List (Str×V)}{fs:List (Str×D)}{d:D},dF K H a fs->fs.lookup f=some d->∃v,a.lookup f=some v/\Rep K H v d
 | [],[],d,_,h=>by simp at h
 | (x,v)::a,(y,d')::fs,d,r,h=>by
  simp only[dF] at r;obtain⟨⟨rfl,c⟩,b⟩:=r;rw[List.lookup_cons] at h ⊢;cases hb:f==x with
  | true=>rw[hb] at h;cases h;show⟨v,rfl,c⟩
  | false=>rw[hb] at h;show dF.look b h
 | [],_::_,_,r,_=>by simp only[dF] at r
 | _::_,[],_,r,_=>by simp only[dF] at r
theorem Kr{f:Str}:∀{fs:List (Str×D)}{d:D},fs.lookup f=some d->∃p∈fs,p.1=f
 | [],d,h=>by simp at h
 | (y,d')::fs,d,h=>by
  rw[List.lookup_cons] at h;cases hb:f==y with
  | true=>show⟨(y,d'),by simp,(beq_iff_eq.mp hb).symm⟩
  | false=>
   rw[hb] at h;obtain⟨p,b,a⟩:=Kr h;show⟨p,by simp[b],a⟩
def kd(f:Str)(te:TD):TD:=λa Q=>te a λr=>match r.val with
 | .obj _ fs=>∃d,fs.lookup f=some d/\Q (.fz d)
 | _=>False
theorem l8{f:Str}(he:PD X e te)(hb:attributeBase e f X.env (eval e X.env)=eval e X.env:=by rfl):PD X (.Attribute e f pos) (kd f te):=by
 obtain⟨t,p,q⟩:=he;show⟨_,Pb p hb,λi σ F B G H Q P E h k=>q i σ F B G H _ _ E h λv J r K x j c=>?_⟩;obtain⟨D,g,b,_⟩:=j.freeze x;split at c
 .rename_i I fs z;rw[z] at b;simp only[Rep] at b;obtain⟨a,C,A,y,rfl,w,u,o,n⟩:=b;obtain⟨d,hd,c⟩:=c;obtain⟨v,l,b⟩:=n.look hd;obtain⟨pr,m,rfl⟩:=Kr hd;show⟨a,C,A,y,v,rfl,g.s _ _ w,u.cls,o pr m,l,k _ _ _ D g (gf b) c⟩
 show c.elim
noncomputable def xO(f:Str)(v:D):List (Str×D)->List (Str×D)
 | []=>[(f,v)]
 | (g,x)::r=>if g=f then(g,v)::r else(g,x)::xO f v r
theorem dF.put{K:J'}{H:Hp}{f:Str}{v:V}{d:D}(a:Rep K H v d):∀{b:List (Str×V)}{fs:List (Str×D)},dF K H b fs->dF K H (mO f v b) (xO f d fs)
 | [],[],_=>by simp only[mO,xO,dF,and_true,true_and];show a
 | (x,u)::b,(y,d')::fs,r=>by
  simp only[dF] at r;obtain⟨⟨rfl,e⟩,c⟩:=r;simp only[mO,xO];split
  .simp only[dF,true_and];show⟨a,c⟩
  simp only[dF,true_and];show⟨e,dF.put a c⟩
 | [],_::_,r=>by simp only[dF] at r
 | _::_,[],r=>by simp only[dF] at r
theorem dF.length{K:J'}{H:Hp}:∀{a:List (Str×V)}{fs:List (Str×D)},dF K H a fs->a.length=fs.length
 | [],[],_=>rfl
 | (x,u)::a,(y,d')::fs,r=>by
  simp only[dF] at r;simp[dF.length r.2]
 | [],_::_,r=>by simp only[dF] at r
 | _::_,[],r=>by simp only[dF] at r
structure Making(K:J')(C:Addr)(x dx:Addr)(G0 H0:Hp)(ρ:Ev)(σ:St)(G H:Hp)(fs:List (Str×D))(gs:List (Str×V)):Prop where
 e:dU K G0 H0 ρ σ G H
 sl:σ[0]?=some (some (.ref x))
 hx:H x=some (.ins C dx gs)
 qQ:H dx=some (.own x)
 gx:G x=none
 Bm:G dx=none
 r:dF K G gs fs
theorem Making.ext{K:J'}{C x d:Addr}{j f:Hp}{b:Ev}{a:St}{G H k i:Hp}{fs:List (Str×D)}{c:List (Str×V)}(M:Making K C x d j f b a G H fs c)(y:Ext G H k i):Making K C x d j f b a k i fs c:=
 ⟨M.e.ext y,M.sl,y.h _ _ M.hx,y.h _ _ M.qQ,y.n _ M.gx (by rw[M.hx];show nofun),y.n _ M.Bm (by rw[M.qQ];show nofun),dF.mono y.g _ _ M.r⟩
noncomputable abbrev vT:=Ev->List (Str×D)->(List (Str×D)->Prop)->Prop
def DD(X:Cx)(C:Addr)(h:List Stmt)(t:vT):Prop:=∃tt,nW X h tt/\∀(x b:Addr)(a:Ev)(σ:St)(f c G H:Hp)(fs:List (Str×D))(j:List (Str×V))(Q:List (Str×D)->Prop)(E:Ends),c x=none->c b=none->b≠x->(∀i o,gt a i≠.ov o)->
 Making X.K C x b f c a σ G H fs j->t a fs Q->(∀d l e g k,Making X.K C x b f c a d l e g k->Q g->E.nx d e)->tt E σ H
def yP:vT:=λ_ fs Q=>Q fs
def oX(f:Str)(te:TD)(u:vT):vT:=λa fs Q=>te a λr=>fs.length<1000/\u a (xO f r.val fs) Q
theorem J2{C:Addr}:DD X C [] yP:=⟨_,Ka,λx c b σ e d G H fs a Q E _ _ _ _ M h k=>k σ G H fs a M h⟩
theorem qz{C:Addr}{f x:Str}{q m:Pos}{t:List Stmt}{u:vT}(c:v7 X.K C)(n:dg X.K C f)(he:PD X e te)(V:DD X C t u)(W:X.N[0]?=some x:=by rfl)(T:oM X.env.scope x:=by first | show Or.inl rfl | show Or.inr (Or.inl rfl) | show Or.inr (Or.inr rfl))
  (U:swapsWith e (some (.Attribute (.Name x q) f m)) pos.line X.env=pure false:=by rfl) (hd:(x==("__debug__":Str))=false:=by decide) (S:(x==("__classdict__":Str))=false:=by decide) :
  DD X C (.Assign [.Attribute (.Name x q) f m] e pos::t) (oX f te u):=by
 obtain⟨t1,Z,R⟩:=he;obtain⟨t2,Y,P⟩:=V;show⟨_,EU (Pa (rB W T hd S) Z U) Y,λx A a σ F D G H fs z Q E l I j d M h k=>?_⟩;show R a σ F D G H _ _ M.e h λv H' r G' y O w=>?_
 obtain⟨G2,J,L,_⟩:=O.freeze y;have M2:=M.ext J;show⟨_,M.sl,x,C,A,z,rfl,M2.hx,c,n,by rw[M.r.length];show w.1,?_⟩;show P x A a σ F D G2 _ (xO f r.val fs) (mO f v z) Q E l I j d ?_ w.2 k;show⟨⟨⟨M2.e.e.g,λb o e=>by rw[eG (kf e l)];show M2.e.e.h b o e,λb o e=>by rw[eG (kf e M2.gx)];show M2.e.e.s b o e,M2.e.e.n⟩,M2.e.len,M2.e.fz,λi ds h=>?_,M2.e.dj,?_⟩,M2.sl,jb,by rw[eG j];show M2.qQ,M2.gx,M2.Bm,M2.r.put L⟩
 .obtain⟨p,xs,b1,B,b3,b4,b5⟩:=M2.e.ow i ds h;show⟨p,xs,b1,by rw[eG (Oi B M2.hx (by simp))];show B,b3,b4,b5⟩
 obtain⟨own,o1,o2⟩:=M2.e.on;show⟨own,o1,λi o h=>(d i o h).elim⟩
end
def NK(K:J')(C:Addr)(n:Nat)(t:fc):Sp:=λf H Q _=>∃x a H1 G ds e c,f=.ref x::e/\H=upd (upd H1 a (.own x)) x (.ins C a [])/\H1 x=none/\H1 a=none/\a≠x/\cJ G H1/\cx K G e ds/\ds.length=n/\t ds c/\
 ∀b r d,Ext G H1 d b->eZ K d b H1 (.ref x) r->c r->Q .non b
section
variable{P:Program}{w:World}{K:J'}{mg:Str->Option Value}{base:Heap}
noncomputable def uj(N:List Str)(ds:List D):Ev:=.un::(ds.map Sl.fz++List.replicate (N.length-1-ds.length) .un)
theorem S9{G H:Hp}{N:List Str}{x:V}{a:List V}{ds:List D}(s:cJ G H)(r:cx K G a ds):dU K G H (uj N ds) (mn N (x::a)) G H:=by
 have E:=CD (N:=N.drop 1) s r;have v:=r.length;have m:uj N ds=.un::og (N.drop 1) ds:=by simp[uj,og]
 have l:mn N (x::a)=some x::mn (N.drop 1) a:=by simp[mn,Nat.sub_sub,Nat.add_comm]
 rw[m,l];show⟨E.e,congrArg (·+1) E.len,λi d h=>?_,λi d h=>?_,λi j d d' g h h'=>?_,?_⟩
 .cases i with
  | zero=>cases h
  | succ i=>show E.fz i d h
 .cases i with
  | zero=>cases h
  | succ i=>show E.ow i d h
 .cases i with
  | zero=>cases h
  | succ i=>
   cases j with
   | zero=>cases h'
   | succ j=>show E.dj i j d d' (λz=>g (by rw[z])) h h'
 obtain⟨own,o1,f⟩:=E.on;show⟨λq=>(own q).map (·+1),λi ds p h k=>?_,λi o h=>?_⟩
 .cases i with
  | zero=>cases h
  | succ i=>
   dsimp only;rw[o1 i ds p h k];rfl
 cases i with
 | zero=>cases h
 | succ i=>
  obtain⟨p,fp,u,t,n,c⟩:=f i o h;show⟨p,fp,u,t,n,λq b=>⟨(c q b).1,(c q b).2.1,?_⟩⟩;dsimp only;rw[(c q b).2.2];rfl
theorem UR(N:List Str)(ds:List D):∀i o,gt (uj N ds) i≠.ov o:=by
 have key:∀(l:List Sl),(∀s∈l,∀o,s≠.ov o)->∀i o,gt l i≠.ov o:=by
  intro l;induction l with
  | nil=>intro _ i o h;cases h
  | cons a r c=>
   intro h i o;cases i with
   | zero=>show h a (by simp) o
   | succ i=>show c (λs b=>h s (by simp[b])) i o
 show key _ λs b o e=>?_
 subst e;unfold uj at b;simp at b
theorem Lr{x c m:Str}{st:Stmt}{f C:Addr}{fd:FuncData}{N ps:List Str}{k:Nat}{t:fc}{T:vT}(F:DJ K x c st f fd)(S:cB N ("self"::ps) (cw st))(hC:ClsAt K m C)
  (body:∀(v:Value)(A:Around)(outer:List Env)(s:Shared)(H:Hp)(E:XK),eC k (A.deeper (envOfC c (cw st) s.heap.objs.size f v))->DD (nY nX P w K mg base N c (cw st) f v A outer s H E).tX C (c7 st) T)
  (d:∀(ds:List D)(j:R->Prop),ds.length=ps.length->t ds j->T (uj N ds) [] λfs=>(∀p∈fs,dg K C p.1)/\j (.fz (.obj m fs))):iu P w K mg base nX (k+1) f fd ("self"::ps) (NK K C ps.length t):=by
 show F.ok S (λvs H Q E h=>?_) (λv A outer s H vs Q E hr h=>?_)
 .obtain⟨x,a,H1,G,ds,Aj,j,rfl,_,_,_,_,_,r,B,_⟩:=h;simp[r.length,B]
 obtain⟨x,a,H1,G,ds,Aj,j,rfl,rfl,hx,qQ,L,s0,r,B,ht,k0⟩:=h;obtain⟨tt,p,q⟩:=body v A outer s _ E hr;have E0:=S9 (N:=N) (x:=.ref x) s0 r;have gx:=s0.free hx;have Bm:=s0.free qQ;have l:cJ H1 (upd (upd H1 a (.own x)) x (.ins C a [])):=λb o e=>by rw[eG (kf e hx),eG (kf e qQ)];show e
 have M0:Making K C x a G H1 (uj N ds) (mn N (.ref x::Aj)) G (upd (upd H1 a (.own x)) x (.ins C a [])) [] []:=
  ⟨⟨⟨cJ.refl _,l,s0.trans l,λ_ h _=>h⟩,E0.len,E0.fz,λi ds h=>let⟨p,xs,W,V,U,O,b5⟩:=E0.ow i ds h;⟨p,xs,W,l _ _ V,U,O,b5⟩,E0.dj,let⟨own,o1,o2⟩:=E0.on;⟨own,o1,λi o h=>let⟨p,fp,W,V,U,O⟩:=o2 i o h;⟨p,fp,W,V,U.mono (cJ.refl _) λq _ u e=>l q u e,O⟩⟩⟩,by simp[mn],jb,by rw[eG L];show jb,gx,Bm,by simp only[dF]⟩
 show⟨tt,p,q x a _ _ G H1 G _ [] [] _ _ hx qQ L (UR _ _) M0 (d ds j B ht) λcZ X H' fs J M Z=>?_⟩;have y:=M.e.e;have ne':a≠x:=L;have Y:cJ X (upd (upd X a (.own x)) x (.ins C a J)):=λb o e=>by rw[eG (kf e M.gx),eG (kf e M.Bm)];show e
 show k0 H' (.fz (.obj m fs)) (upd (upd X a (.own x)) x (.ins C a J)) ⟨y.g.trans Y,y.h,λb o e=>?_,λb h1 I=>?_⟩ ?_ Z.2
 .by_cases hb:b=x
  .subst hb;rw[jb] at e;rw[M.hx];show e
  rw[eG hb] at e;by_cases Nj:b=a
  .subst Nj;rw[jb] at e;rw[M.qQ];show e
  rw[eG Nj] at e;show y.s b o e
 .rw[eG (λz=>I (by rw[z];show hx)),eG (λz=>I (by rw[z];show qQ))];show y.n b h1 I
 show Rep K _ _ (.obj m fs);simp only[Rep];show⟨x,C,a,J,rfl,jb,hC,Z.1,dF.mono Y _ _ M.r⟩
structure jD(P:Program)(w:World)(K:J')(mg:Str->Option Value)(base:Heap)(k:Nat)(x:Str)(n:Nat)(t:fc):Prop where
 ex:∃(C f:Addr)(fd:FuncData)(ps:List Str),Mk K C f/\iu P w K mg base nX k f fd ps (NK K C n t)/\mg x=some (.ref C)/\Binds K fd ps []
end
section
variable{X:Cx}{k k' n:Nat}{t:fc}{x:Str}{p pos:Pos}{e:Expr}{es:List Expr}{ts:iW}
theorem Kq(C:jD X.prog X.w X.K X.mg X.base k x n t)(m:eC k' X.A)(ha:mI X (e::es) ts)(o:k+1<=k':=by decide)(hg:Gl X x:=by rfl)(l:(x==("__debug__":Str))=false:=by decide)
  (he:starEach (e::es) X.env=(false,eval e X.env)::starEach es X.env:=by rfl) (u:(backTo pos (starEach es X.env)).any (·.1)=false:=by rfl):PD X (.Call (.Name x p) (e::es) [] pos) (fO n t ts):=by
 obtain⟨C,f,fd,ps,M,F,hm,hb⟩:=C.ex;obtain⟨tt,pp,q⟩:=ha;show⟨_,QX M F (m.mono o) hg hm hb .nil IP pp l he u,λc σ L D G H Q P E h k=>q c σ L D G H _ _ E h λg I ds N y rs b=>?_⟩;intro a z ha qQ v;rw[a9];show⟨a,z,I,N,ds,g,Q,rfl,rfl,ha,qQ,v,y.s,rs,b.1,b.2,λB r J d i j=>⟨rfl,k _ B r J (y.trans d) (i.ie y.h) j⟩⟩
end
def jh(K:J')(C:Addr):List Str->Prop
 | []=>True
 | x::r=>dg K C x/\jh K C r
theorem jh.all{K:J'}{C:Addr}:∀{l:List Str},jh K C l->∀x∈l,dg K C x
 | [],_,x,h=>by cases h
 | y::r,n,x,h=>by
  rcases ao.mp h with rfl | h
  .exact n.1
  show jh.all n.2 x h
structure xJ(K:J')(mg:Str->Option Value)(cn qual:Str)(st:Stmt)(fields:List Str):Prop where
 ex:∃(C f:Addr)(fd:FuncData),ClsAt K cn C/\Mk K C f/\DJ K "__init__" qual st f fd/\mg cn=some (.ref C)/\jh K C fields
theorem tj{K:J'}{mg:Str->Option Value}{h:Heap}{d b:Str}{st:Stmt}{a:List Str}{C f:Addr}{g:Value}{od k:Option Addr}{j:Array (Option Value)}{kV c pm e ct:Value}(X:K.In h)(G:h.Ns mainGlobals mg)
  (aC:PySem.W.nsIn K mainGlobals d=some (some (.ref C))) (a1:PySem.W.findIn K (.ref C) "__init__"=some (some (.ref f))) (i1:PySem.W.isFn K (.ref f)=true)
  (l1:K.lookup f=some ⟨g,od,.func (PySem.W.fnOf "__init__" b (e8 st) (c7 st) (cw st) .none kV c pm k e ct),j⟩) (c1:PySem.W.codeIn K e b=true) (k1:PySem.W.keepIn K (.ref f)=true)
  (pg:PySem.W.plainGet K C Str.empty=true) (hd:PySem.W.hasDictIn K C=true) (po:PySem.W.plainOver K C=true) (sa:PySem.W.findIn K (.ref C) "__setattr__"=some (some (.builtin "object.__setattr__"))) (mk:PySem.W.makesIn K C=true) (kc:PySem.W.keepIn K (.ref C)=true)
  (i:jh K C a):xJ K mg d b st a:=
 ⟨C,f,_,⟨aC,⟨pg,hd,po,sa⟩⟩,⟨mk,a1,i1,kc⟩,Ei l1 c1 k1,bF X G aC,i⟩
noncomputable def uf:D->Bool
 | .non=>true
 | .bl _=>true
 | .int _=>true
 | .str _=>true
 | _=>false
def D6(i:Nat)(te:TD):TD:=λa Q=>te (lJ i a) λr=>match r with
 | .fz d=>uf d=true/\Q (.fz d)
 | _=>False
def BM(i:Nat)(t:jA):jA:=λa Q=>t (lJ i a) Q
theorem CC{K:J'}{G a:Hp}{v:V}{d:D}(h:uf d=true)(r:Rep K G v d):Rep K a v d:=by
 cases d<;>first | (simp only[Rep] at r ⊢;show r) | cases h
noncomputable def we(G:Hp)(L:List Addr):Hp:=λa=>if a∈L then none else G a
theorem Kp{G H c a:Hp}{L:List Addr}(j:∀q∈L,G q=none)(x:Ext (qt G H L) H c a):Ext G H (we c L) a:=by
 show⟨λb u e=>?_,x.h,λb u e=>?_,λq i f=>?_⟩
 .have hb:b∉L:=λz=>by rw[j b z] at e;cases e
  unfold we;rw[if_neg hb];show x.g b u (by rw[se hb];show e)
 .unfold we at e;split at e
  .cases e
  show x.s b u e
 unfold we;split
 .rfl
 rename_i d;show x.n q (by rw[se d];show i) f
section
variable{X:Cx}{e:Expr}{te:TD}{t:jA}
theorem dU.AQ{K:J'}{f d G H:Hp}{c:Ev}{b:St}(i:Nat)(E:dU K f d c b G H):∃e,dU K f d (lJ i c) b e H/\∀g a,Ext e H g a->∃j,Ext G H j a:=
 let⟨L,h,k,_⟩:=E.ng i
 ⟨_,k,λg a x=>⟨_,Kp h x⟩⟩
theorem Rb(i:Nat)(h:PD X e te):PD X e (D6 i te):=by
 obtain⟨tt,p,q⟩:=h;show⟨tt,p,λs σ m g G H Q P E h k=>?_⟩;obtain⟨l,o,back⟩:=E.AQ i;show q _ σ m g l H _ _ o h λv b r n x f a=>?_
 split at a
 .rename_i d;obtain⟨j,c⟩:=back n b x;show k v b (.fz d) j c (CC a.1 f) a.2
 show a.elim
theorem Ra(i:Nat)(h:PB X e t):PB X e (BM i t):=by
 obtain⟨tt,p,q⟩:=h;show⟨tt,p,λo σ l f G H Q P E h k=>?_⟩;obtain⟨j,n,back⟩:=E.AQ i;show q _ σ l f j H _ _ n h λb a m x d=>?_
 obtain⟨g,c⟩:=back m a x;show k b a g c d
end
def yi:fc:=λds Q=>match ds with
 | [.lst es]=>match nK es with
  | some ss=>ss.length<4000/\(∀l:List Str,l.Nodup->(∀w∈l,w∈ss)->l.length<64)/\∀l:List Str,l.Nodup->(∀w,w∈l↔w∈ss)->sortedS l=true->Q (.ow (l.map D.str))
  | none=>False
 | _=>False
theorem Vi(t:SetTable)(n:Nat):(t.orStandIn n).led=t.led:=by
 unfold SetTable.orStandIn;split<;>rfl
theorem TY(t:SetTable)(es:Array (Int×Value))(h:Int)(x:Value):(layNew t es h x).2.1.led=t.led:=by
 unfold layNew;split
 .exact Vi _ _
 rfl
theorem U5{t t':SetTable}{c:Array Int}{a:Nat}{b:Array Nat}(h:t.relaid c a=some (t',b)):t'.led=t.led/\t'.plain=t.plain:=by
 unfold SetTable.relaid SetTable.laid at h;cases d:SetTable.layClean (SetTable.sizeAbove a-1) c with
 | none=>rw[d] at h;cases h
 | some owner=>
  rw[d] at h;cases h;show⟨rfl,rfl⟩
theorem VE(t:SetTable)(es:Array (Int×Value))(a:Nat)(c:t.plain=false):(relayAll t es a).2.1.led=t.led/\(relayAll t es a).2.1.plain=false:=by
 unfold relayAll;split
 .rename_i t' order b;obtain⟨e,d⟩:=U5 b;dsimp only;split
  .exact⟨e,d.trans c⟩
  show⟨rfl,rfl⟩
 show⟨rfl,rfl⟩
section
variable{prog:Program}{w:World}{A:Around}{E:Value->Shared->Prop}{s:Shared}
structure By(w:World)(es:Array (Int×Value))(t:SetTable):Prop where
 led:t.led=!(w.params.followText "set-order")
 plain:es.size=0\/t.plain=false
structure dY(prog:Program)(w:World)(h:Heap)(a:Addr)(es:Array (Int×Value))(ep:Nat)(t:SetTable):Prop where
 at_:h.get? a=some { cls:=.type "set",dict:=none,data:=.set es ep t,slots:=#[] }
 el:ElemsOf (strKind prog w) es.toList
 small:es.size<scanBound
 fits:t.fits es.size=true
 marks:By w es t
def Mem(prog:Program)(w:World)(es:Array (Int×Value))(k:Str):Prop:=∃e∈es.toList,(strKind prog w).is k e.2=true
theorem Lq{a:Addr}{es b:Array (Int×Value)}{ep:Nat}{t t':SetTable}{Q:Unit->Shared->Prop}(c:s.heap.get? a=some { cls:=.type "set",dict:=none,data:=.set es ep t,slots:=#[] })(hb:b.size<scanBound)
  (h:∀h',Heap.SameBut a s.heap h'->h'.get? a=some { cls:=.type "set",dict:=none,data:=.set b (ep+1) t',slots:=#[] }->Q () { s with heap:=h' }):wpAny (model prog w) A (storeSet a b t') Q E s:=by
 show wpAny_storeSet_of c rfl ?_ (fits_of_scanBound hb);show h _ (Heap.SameBut.update s.heap a (Obj.putSet b t')) ?_;have:=Heap.get?_update_self (Obj.putSet b t') c (by rw[putSet_of b t' (ep:=ep) (t:=t) (es:=es) rfl];rfl);rw[putSet_of b t' (ep:=ep) (t:=t) (es:=es) rfl] at this;show this
theorem Q9{a:Addr}{es:Array (Int×Value)}{ep:Nat}{t:SetTable}{x:Str}{tk:Tok}{Q:Bool->Shared->Prop}(S:dY prog w s.heap a es ep t)(F:es.size+1<scanBound)
  (h:∀h' u P t',Heap.SameBut a s.heap h'->dY prog w h' a u P t'->((u=es/\Mem prog w es x)\/(¬Mem prog w es x/\List.Perm u.toList (es.toList++[(hashStr w x,.str x tk)])))->∀b,Q b { s with heap:=h' }) :
  wpAny (model prog w) A (setAddHashed a (.str x tk) ((strKind prog w).hash x)) Q E s:=by
 have C:(strKind prog w).is x (.str x tk)=true:=by show Value.isStrOf x (.str x tk)=true;simp[Value.isStrOf]
 have B:(Value.str x tk).scannable=true:=rfl;have v:=S.at_;unfold setAddHashed setAddHashedIn;show bh (aa (wpAny_setState_of v rfl S.fits ?_));dsimp only;rw[byScan_of B S.small S.el];simp only[↓reduceIte];unfold setAddByScan;show aa (aa (wpAny_rule (aa (wpAny_setScan_of C v rfl S.fits S.el ?_))));cases J:List.findIdx? (λe=>(strKind prog w).is x e.2) es.toList with
 | some j=>
  dsimp only;obtain⟨U,W,_⟩:=List.findIdx?_eq_some_iff_getElem.mp J;show af (af ?_);show h s.heap es ep t (Heap.SameBut.refl a s.heap) S (.inl ⟨rfl,es.toList[j],List.getElem_mem U,W⟩) _
 | none=>
  dsimp only;have D:¬Mem prog w es x:=λ⟨e,he,k⟩=>by
   have:=List.findIdx?_eq_none_iff.mp J e he;rw[k] at this;cases this
  have way:∀(b:Bool){s1:Shared}{f:Unit->Shared->Prop},f () s1->wpAny (model prog w) A (match b with | true=>rule "set.scan.the-table-gave-way" | false=>pure ()) f E s1:=λb s1 f q=>by
   cases b
   .exact af q
   show wpAny_rule q
  have i:=layNew_perm t es ((strKind prog w).hash x) (.str x tk);have n:=layNew_fits t es ((strKind prog w).hash x) (.str x tk);have m:=TY t es ((strKind prog w).hash x) (.str x tk);generalize layNew t es ((strKind prog w).hash x) (.str x tk)=L at i n m ⊢;obtain⟨c,t1,X,Y0⟩:=L;dsimp only at i n m ⊢;rw[bV] at i;have N:ElemsOf (strKind prog w) c.toList:=(S.el.push C B).perm i;have eF:c.size=es.size+1:=by rw[<-ai,i.length_eq,ar,ai];rfl
  have o:c.size<scanBound:=by ext
  show aa (way _ ?_)
  -- rC table,not plain any more
  have tail:∀(g:Bool->Sem Unit),(∀(b:Bool)(s1:Shared)(f:Unit->Shared->Prop),f () s1->wpAny (model prog w) A (g b) f E s1)->∀d:SetTable,d.fits c.size=true->d.led=t.led->d.plain=false->wpAny (model prog w) A (do
    storeSet a c d
    if (!X&&d.tooFull)=true then do
        g (relayAll d c (SetTable.grown c.size)).2.2
        storeSet a (relayAll d c (SetTable.grown c.size)).1 (relayAll d c (SetTable.grown c.size)).2.1
        pure (some true)
     else pure (some true)) (λr R=>wpAny (model prog w) A (match r with | some added=>pure added | none=>setAddHashedIn a (Value.str x tk) ((strKind prog w).hash x) 99999) Q E R) E s:=by
   intro g hg d f2 I G;show aa (Lq v o λy K g1=>?_);have Z:∀b,Q b { s with heap:=y }:=h y c _ d K ⟨g1,N,o,f2,⟨I.trans S.marks.led,.inr G⟩⟩ (.inr ⟨D,i⟩)
   split
   .have k:=relayAll_perm d c (SetTable.grown c.size);have p:=relayAll_fits d c (SetTable.grown c.size);have l:=VE d c (SetTable.grown c.size) G;generalize relayAll d c (SetTable.grown c.size)=Y at k p l ⊢;obtain⟨M,t3,Nu⟩:=Y;dsimp only at k p l ⊢;have H:M.size=c.size:=by rw[<-ai,k.length_eq,ai]
    show aa (hg _ _ _ ?_);show aa (Lq (s:={ s with heap:=y }) g1 (by rw[H];show o) λV O g2=>af (af ?_));show h V M _ t3 (K.trans O) ⟨g2,N.perm k,by rw[H];show o,p,⟨(l.1.trans I).trans S.marks.led,.inr l.2⟩⟩ (.inr ⟨D,k.trans i⟩) _
   show af (af (Z _))
  by_cases z:t1.plain=true
  .rw[if_pos z];show aa ?_;rw[hashByValue_scannable 8 B];show af ?_;have T:plainKind (.str x tk)=false:=rfl;rw[T];simp only[aj,aP];show tail _ (λb s1 f q=>by cases b<;>first | show af q | show wpAny_rule q) { t1 with plain:=false } (SetTable.fits_plain_off n) m rfl
  rw[if_neg z];show aa (af ?_);simp only[aQ];show tail _ (λb s1 f q=>by cases b<;>first | show af q | show wpAny_rule q) t1 n m (by simpa using z)
noncomputable def keysOf(es:Array (Int×Value)):List Str:=es.toList.map λe=>strOf e.2
theorem Ko{es:Array (Int×Value)}(el:ElemsOf (strKind prog w) es.toList)(k:Str):Mem prog w es k↔k∈keysOf es:=by
 unfold Mem keysOf;rw[aR];constructor
 .rintro⟨e,he,a⟩;obtain⟨t,ht⟩:=Value.isStrOf_shape a;show⟨e,he,by rw[ht];rfl⟩
 rintro⟨e,he,rfl⟩;obtain⟨⟨k,a,_⟩,_⟩:=el e he;obtain⟨t,ht⟩:=Value.isStrOf_shape a;show⟨e,he,?_⟩;rw[ht];show Value.isStrOf k (.str k t)=true;simp[Value.isStrOf]
theorem S8{es a:Array (Int×Value)}{x:Str}{tk:Tok}{b:Int}(p:List.Perm a.toList (es.toList++[(b,.str x tk)])):List.Perm (keysOf a) (keysOf es++[x]):=by
 have:=p.map λe=>strOf e.2
 rw[aI] at this;show this
structure Holds(es:Array (Int×Value))(xs:List Str):Prop where
 nd:(keysOf es).Nodup
 mem:∀x,x∈keysOf es↔x∈xs
 len:es.size<=xs.length
theorem Holds.put{es c:Array (Int×Value)}{xs:List Str}{x:Str}{tk:Tok}(H:Holds es xs)(el:ElemsOf (strKind prog w) es.toList)
  (h:(c=es/\Mem prog w es x)\/(¬Mem prog w es x/\List.Perm c.toList (es.toList++[(hashStr w x,.str x tk)]))):Holds c (xs++[x]):=by
 rcases h with⟨rfl,hm⟩ | ⟨hm,e⟩
 .refine⟨H.nd,λy=>?_,by simp;have:=H.len;ext⟩;rw[av,<-H.mem,br];constructor
  .exact .inl
  rintro(h | rfl)
  .exact h
  show(Ko el _).mp hm
 have d:=S8 e;show⟨d.nodup_iff.mpr ?_,λy=>?_,?_⟩
 .rw[List.nodup_append];show⟨H.nd,by simp,λa ha b hb=>?_⟩;rw[br.mp hb];rintro rfl;show hm ((Ko el _).mpr ha)
 .rw[d.mem_iff,av,av,H.mem]
 have f:=d.length_eq;have i:(keysOf c).length=c.size:=by simp[keysOf]
 have g:(keysOf es).length=es.size:=by simp[keysOf]
 have:=H.len;simp only[ar,aH,List.length_nil] at f ⊢;ext
theorem dY.kept{h h':Heap}{a:Addr}{es:Array (Int×Value)}{ep:Nat}{t:SetTable}(S:dY prog w h a es ep t)(k:∀o,h.get? a=some o->h'.get? a=some o):dY prog w h' a es ep t:=⟨k _ S.at_,S.el,S.small,S.fits,S.marks⟩
end
section
variable{prog:Program}{w:World}{A:Around}{R:Result->Shared->Prop}{I:Addr}{fp wr:List Addr}{G:Array GenState->Array GenState->Prop}{n:Nat}{P:Nat->Value->Prop}{St:Nat->Shared->Prop}
theorem S7(W:WalksS prog w A.in1 I fp wr G n P St)(S:Addr)(f:S∉fp)(xs:List Str)(hx:xs.length=n)(m:∀i v,P i v->∃x t,xs[i]?=some x/\v=.str x t)(hb:n+1<scanBound) :
  ∀(k i:Nat)(s:Shared)(es:Array (Int×Value))(ep:Nat)(t:SetTable),n-i=k->i<=n->St i s->dY prog w s.heap S es ep t->Holds es (xs.take i)->
   (∀a c d t',Moved (S::wr) G s a->dY prog w a.heap S c d t'->Holds c xs->R (.ok (.ret .none)) a)->codeAny (model prog w) A (.builtin "set.update.loop" ⟨[.ref S,.ref I],[]⟩) R s:=by
 have l:S∉wr:=λh=>f (W.sub _ h)
 have more:∀b∈wr,b∈S::wr:=λb hb=>aE _ hb
 intro k;induction k with
 | zero=>
  intro i s es ep t B hi st T H q;have e:i=n:=by ext
  subst e;show codeAny_builtin PyProof.Rows.F.entry_set_update_loop ?_;rw[bX PyProof.Rows.F.plain_set_update_loop _];show wpAny _ A.in1 (pyNext (.ref I) >>= _) _ _ s;show aa (W.done s _ _ st λa hm=>?_);show wpAny _ A.in1 (ret Value.none) _ _ a;rw[<-hx,bS] at H;show af (q a es ep t (hm.mono more) (T.kept λo e=>hm.heap S _ l e) H)
 | succ k u=>
  intro i s es ep t B hi st T H q;have j:i<n:=by ext
  show codeAny_builtin PyProof.Rows.F.entry_set_update_loop ?_;rw[bX PyProof.Rows.F.plain_set_update_loop _];show wpAny _ A.in1 (pyNext (.ref I) >>= _) _ _ s;show aa (W.item i s _ _ j st λv a C D hm=>?_);obtain⟨x,tk,J,rfl⟩:=m i v C;have M:dY prog w a.heap S es ep t:=T.kept λo e=>hm.heap S _ l e
  show wpAny _ A.in1 (holding [Value.str x tk] (setAdd S (.str x tk)) >>= _) _ _ a;show aa (bh ?_);unfold setAdd;show bh (aa ((strKind prog w).pyHash (k:=x) (by show Value.isStrOf x (.str x tk)=true;simp[Value.isStrOf]) ?_));have y:=H.len;rw[aL] at y;show Q9 (s:={ a with toks:=a.toks+1 }) M (by ext) λh' c d t' g L N b=>?_
  have V:xs.take (i+1)=xs.take i++[x]:=by rw[bz,J];rfl
  have Q:Holds c (xs.take (i+1)):=by rw[V];show H.put T.el N
  show af ⟨plainId_quiet PyProof.Rows.F.plain_set_update_loop _,u (i+1) _ c d t' (by ext) j (W.frame _ a _ _ D (b8 _) λb hb o e=>?_) L Q λs2 U E p r K O=>?_⟩
  .rw[g.2 b (λz:b=S=>f (by rw[<-z];show hb))];show e
  show q s2 U E p (Moved.trans W.gtrans ((hm.mono more).then_heap (b8 _) λb o hb e=>?_) r) K O;rw[g.2 b (λz:b=S=>hb (by rw[z];show bM))];show e
end
section
variable{prog:Program}{w:World}{A:Around}{E:Value->Shared->Prop}{s:Shared}
noncomputable abbrev r0(w:World):Obj:={ cls:=.type "set",dict:=none,data:=.set #[] 0 (.fresh 0 0 (!(w.params.followText "set-order"))) }
theorem RB(a:Value){Q1:Value->Shared->Prop}(h:Q1 (.ref s.heap.objs.size) { s with heap:=s.heap.push (r0 w) }) :
  codeAny (model prog w) A (.call (.builtin "set.__new__") ⟨[.type "set",a],[]⟩) (wants Q1 E) s:=by
 show codeAny_of_tree ?_;show wpAny _ A.in1 (do checkBuiltinCall "set.__new__" ⟨[.type "set",a],[]⟩;again (.builtin "set.__new__" ⟨[.type "set",a],[]⟩)) _ _ s;show aa (wpAny_of_eq (PySem.F.newCall_set_1 a) (af ⟨plainId_quiet PySem.F.plain_set_new _,codeAny_builtin PySem.F.entry_set_new ?_⟩));rw[bX PySem.F.plain_set_new _];unfold Builtin.«set.__new__» Builtin.Frozenset.newClass;have b:=PySem.sub_set_self;obtain⟨c,g,d,tk,os⟩:=s;dsimp only;wp_walk
 show wpAny_askSetting (af ?_);dsimp only;simp only[newObj];show aa (wpAny_alloc (af ?_));show af h
theorem Q8{h:Heap}{a:Addr}(e:h.get? a=some (r0 w)):dY prog w h a #[] 0 (.fresh 0 0 (!(w.params.followText "set-order"))):=
 ⟨e,λx hx=>by simp at hx,by show 0<4096;decide,by simp[SetTable.fits,SetTable.fresh,SetTable.fill],⟨rfl,.inl rfl⟩⟩
theorem S6{l:Addr}{a:List Value}{xs:List Str}{Q:Value->Shared->Prop}(hh:A.handled=none)(M:s.heap.IsList l a.toArray)(hi:StrsAre a xs)(hb:xs.length+1<scanBound)
  (h:∀(h':Heap)(tk:Nat) es ep t,dY prog w h' s.heap.objs.size es ep t->L2.Holds es xs->(∀b o,b<s.heap.objs.size->s.heap.get? b=some o->h'.get? b=some o)->Q (.ref s.heap.objs.size) { s with heap:=h',toks:=tk }) :
  wpAny (model prog w) A (call (.type "set") [.ref l]) Q E s:=by
 obtain⟨c,tl,Yl⟩:=PySem.F.called_set.mro;have M5:=PySem.F.called_set.made;have oB:=PySem.F.called_set.sub;show wpAny_call (codeAny_of_tree ?_);show wpAny _ _ (callAny (.type "set") _) _ _ _;show af ⟨Code.quiet_builtin _ (by decide +kernel),codeAny_builtin PySem.F.entry_type_call ?_⟩;rw[Around.under_plain (weight_type_call_type "set" [.ref l] []) rfl];have h1:=PySem.F.called_set.notType;have h2:=PySem.F.called_set.canCreate;have ZK:=PySem.F.typeCall_set_1 (.ref l);repeat(any_goals (first | assumption | wp_step))
 show codeAny_mono (RB (.ref l) (E:=E) (Q1:=λobj s1=>obj=.ref s.heap.objs.size/\s1={ s with heap:=s.heap.push (r0 w) }) ⟨rfl,rfl⟩) λr s1 g=>?_
 cases r with
 | error e=>show g
 | ok O=>
  cases O with
  | ret obj=>
   obtain⟨rfl,rfl⟩:=g;have y:(s.heap.push (r0 w)).get? s.heap.objs.size=some (r0 w):=ax _ rfl;have N:Shared.TypeIs { s with heap:=s.heap.push (r0 w) } (.ref s.heap.objs.size) "set":=⟨_,y,rfl⟩
   have Dn:=PySem.F.called_set.init.lookup;have ZN:=PySem.F.called_set.init.bind (.ref s.heap.objs.size);repeat(any_goals (first | assumption | wp_step))
   show codeAny_mono (codeAny_call_builtin (R:=wants (λr s2=>r=.none/\∃h' tk es ep t,s2={ s with heap:=h',toks:=tk }/\dY prog w h' s.heap.objs.size es ep t/\L2.Holds es xs/\
     (∀b o,b<s.heap.objs.size->s.heap.get? b=some o->h'.get? b=some o)) E) PySem.F.called_set.init.plain PySem.F.entry_set_init (check_set_init_1 N ?_)) λL s2 p=>?_
   .obtain⟨ol,j,q,nl,z⟩:=M;obtain⟨Xt,AE,MA,I⟩:=ol;simp only at q z;subst q z;have k:(s.heap.push (r0 w)).get? l=some { cls:=.type "list",dict:=AE,data:=.seq a.toArray nl,slots:=I }:=ag _ j;have X5:=PySem.F.sub_list_set;have X6:=PySem.F.sub_list_frozenset;have fL:(Value.type "list"==Value.type "dict")=false:=by decide
    have f:(s.heap.push (r0 w)).IsList l a.toArray:=⟨_,k,rfl,nl,rfl⟩
    unfold Builtin.«set.__init__» noKeywords Builtin.Frozenset.updateFrom;generalize W:pyIter=PI;wp_walk
    subst W;show wpAny_pyIter_list f (aa (wpAny_runValue ?_));have B:l<s.heap.objs.size:=aw j;have V:A.in1.in1.in1.handled=none:=by simp[hh]
    have n:(s.heap.push (r0 w)).objs.size=s.heap.objs.size+1:=Heap.size_push ..;have Z:l≠(s.heap.push (r0 w)).objs.size:=by rw[n];show aF (bT B)
    have C:s.heap.objs.size∉[(s.heap.push (r0 w)).objs.size,l]:=by
     rw[n];simp only[ao,bD,or_false,not_or];show⟨aF (Nat.lt_succ_self _),Nat.ne_of_gt B⟩
    have u:xs.length=a.toArray.size:=by
     rw[aq];clear j k f h hb;induction hi with
     | nil=>rfl
     | cons _ _ _ m=>simp[m]
    have D:∀(i:Nat)(v:Value),a.toArray[i]?=some v->∃x t,xs[i]?=some x/\v=.str x t:=λi v d=>by
     rw[List.getElem?_toArray] at d;clear j k f h hb u;induction hi generalizing i with
     | nil=>simp at d
     | cons x t g m=>
      cases i with
      | zero=>simp at d;show⟨x,t,rfl,d.symm⟩
      | succ i=>simp only[bR] at d ⊢;show m i d
    show S7 ((Walks.list V _ l Z a.toArray).toS) s.heap.objs.size C xs u D (by ext) (a.toArray.size-0) 0 _ #[] 0 _ (by ext) (aN _)
     ⟨⟨_,ax _ rfl,rfl,rfl⟩,(f.push _)⟩ (Q8 (ag _ y)) ⟨by simp[keysOf],by simp[keysOf],by simp⟩ ?hR
    case hR=>
     intro K es ep t hm T H;obtain⟨h',g',d',Y,G⟩:=K;have S:g'=s.gens:=hm.gens;have U:d'=s.drawn:=hm.drawn;have P:G=s.os:=hm.os;subst S U P;show wpAny _ _ _ _ _ _;show af ?_;show wpAny _ _ (ret Value.none) _ _ _;show af ⟨rfl,h',Y,es,ep,t,rfl,T,H,λb o hb e=>?_⟩;show hm.heap b o ?_ (ag _ (ag _ e));rw[n];simp only[ao,bD,or_false,not_or];show⟨aF hb,aF (bT hb)⟩
   cases L with
   | error e=>show p
   | ok X=>
    cases X with
    | ret r=>
     obtain⟨rfl,h',tk,es,ep,t,rfl,T,H,J⟩:=p;repeat(any_goals (first | assumption | wp_step))
     show h _ _ es ep t T H J
    | _=>show p.elim
  | _=>show g.elim
end
theorem ik:Slot "set_iterator" "__next__" "set_iterator.__next__":=
 .of (owner:="set_iterator") (n:="__next__") (by rw[typeLookup_type,builtinLookup_eq_fast];kernel_rfl) (by decide +kernel) (by decide +kernel) (by decide +kernel) (by first | show .inl (by decide +kernel) | show .inr (by decide +kernel)) (by rw[isSubtype_type];kernel_rfl)
theorem J1:Slot "set_iterator" "__iter__" "set_iterator.__iter__":=
 .of (owner:="set_iterator") (n:="__iter__") (by rw[typeLookup_type,builtinLookup_eq_fast];kernel_rfl) (by decide +kernel) (by decide +kernel) (by decide +kernel) (by first | show .inl (by decide +kernel) | show .inr (by decide +kernel)) (by rw[isSubtype_type];kernel_rfl)
theorem JZ:entryFor table "set_iterator.__next__"=some Builtin.«set_iterator.__next__»:=entryFor_of_fast (by kernel_rfl)
theorem Q7:entryFor table "set_iterator.__iter__"=some Builtin.«dict_keyiterator.__iter__»:=entryFor_alias (id':="dict_keyiterator.__iter__") (by kernel_rfl) rfl (by decide +kernel) (by kernel_rfl)
theorem RA:entryFor table "set.__iter__"=some Builtin.«frozenset.__iter__»:=entryFor_alias (id':="frozenset.__iter__") (by kernel_rfl) rfl (by decide +kernel) (by kernel_rfl)
theorem JY(a:Value):argsOk "set_iterator.__next__" ⟨[a],[]⟩:=by unfold argsOk;kernel_rfl
theorem Q6(a:Value):argsOk "set_iterator.__iter__" ⟨[a],[]⟩:=by unfold argsOk;kernel_rfl
section
variable{prog:Program}{w:World}{A:Around}{E:Value->Shared->Prop}{s:Shared}
theorem Fv{b:Type}:∀{l:List b}{i:Nat}(h:i<l.length),(l[i]::l.eraseIdx i).Perm l
 | a::r,0,_=>.refl _
 | a::r,i+1,h=>by
  simp only[List.getElem_cons_succ,List.eraseIdx_cons_succ];show(List.Perm.swap _ _ _).trans ((Fv (by simpa using h)).cons a)
theorem TV{M:Model}{src:Source}{n:Nat}{Q:Nat->Shared->Prop}(hn:n≠0)(h:∀i d,i<n->Q i { s with drawn:=d }):wpAny M A (choose src n) Q E s:=λa p _=>by
 show Sem.wp M a (.choose src n .pure) _ _ p s;rw[Sem.wp_choose];show⟨hn,h _ _ (Nat.mod_lt _ (Nat.pos_of_ne_zero hn))⟩
theorem Lp{M:Model}{b:Type}:∀(n:Nat)(xs:List b)(s:Shared)(Q:List b->Shared->Prop),xs.length<=n->(∀ys d,ys.Perm xs->Q ys { s with drawn:=d })->wpAny M A (drawOrder n xs) Q E s
 | 0,xs,s,Q,a,q=>by
  have:xs=[]:=bW (by ext);subst this;unfold drawOrder;show af (q [] s.drawn (.refl _))
 | n+1,[],s,Q,a,q=>by
  unfold drawOrder;show af (q [] s.drawn (.refl _))
 | n+1,x::r,s,Q,a,q=>by
  unfold drawOrder;show aa (TV (by simp) λi d hi=>?_);rw[ah hi];dsimp only;show aa (Lp n _ _ _ (by rw[List.length_eraseIdx];split<;>simp at a ⊢<;>ext) λys d' c=>af ?_);show q _ d' ((c.cons _).trans (Fv hi))
theorem JX{b:Type}(f:Nat->Nat):∀(n k:Nat)(left:List b)(out:Array b),left.length=n->(pickOrder.go f n k left out).toList.Perm (out.toList++left)
 | 0,k,left,out,h=>by
  have:left=[]:=bW h;subst this;simp[pickOrder.go]
 | n+1,k,left,out,h=>by
  unfold pickOrder.go;have a:f k%left.length<left.length:=Nat.mod_lt _ (by ext);rw[ah a];dsimp only;show(JX f n (k+1) _ _ (by rw[List.length_eraseIdx,if_pos a];ext)).trans ?_;rw[bV,bp];show(List.Perm.refl _).append (Fv a)
theorem Lo{a:Type}(f:Nat->Nat)(xs:Array a):(pickOrder f xs).toList.Perm xs.toList:=by
 have:=JX f xs.size 0 xs.toList #[] (by simp);simpa[pickOrder] using this
noncomputable abbrev tJ(first:Value)(i:Nat)(S:Addr)(n ep:Nat):Obj:={ cls:=.type "set_iterator",data:=.fields #[first,.int i 0,.ref S,.int n 0,.int ep 0] }
theorem Fu{a:Addr}{es:Array (Int×Value)}{ep:Nat}{t:SetTable}{Q:Array (Int×Value)->Shared->Prop}(S:dY prog w s.heap a es ep t)(h:Q es s):wpAny (model prog w) A (setEntries a) Q E s:=by
 unfold setEntries;show aa (wpAny_setState_of S.at_ rfl S.fits (af h))
theorem Kn{I:Addr}{o:Obj}{c:Array Value}{Q:Option Value->Shared->Prop}{K:Fin->Shared->Prop}(hh:A.handled=none)(g:s.heap.get? I=some o)(hd:o.data=.fields c)(f:2<c.size)
  (h:∀h',Heap.ExtBut I s.heap h'->Q none { s with heap:=h' }) :
  wpAny (model prog w) A.in1 (do setField (.ref I) 2 .none;raiseNew (<-newExc (.type "StopIteration") []):Sem Fin) K (λe d=>wpAny (model prog w) A (do if <-isInstance e (.type "StopIteration") then pure none else throw e:Sem (Option Value)) Q E d) s:=by
 show aa (wpAny_setField g hd f ?_);show wpAny _ _ (newExc (.type "StopIteration") [] >>= _) _ _ _;show aa ?_;simp only[newExc,newTuple];show aa (wpAny_newObj_type ?_ (by size_fits));show aa (m:=firstArgMember _ _) (wpAny_of_eq (a:=Value.none) (by first | rfl | (simp only[firstArgMember];rfl)) ?_);show wpAny_newObj_type ?_ (by size_fits);simp only[raiseNew];show aa (wpAny_handled ?_);rw[show A.in1.handled=none from hh];show aa (af (wpAny_throw ?_));show aa (wpAny_isInstance (T:="StopIteration") (b:=true) ⟨_,ax _ rfl,rfl⟩ isSubtype_stop ?_);show af (h _ (((Heap.SameBut.update ..).extBut.push _).push _))
end
section
variable{prog:Program}{w:World}{A:Around}{E:Value->Shared->Prop}{s:Shared}
theorem CB{I S:Addr}{es:Array (Int×Value)}{ep:Nat}{t:SetTable}{sl i:Nat}{Q:Option Value->Shared->Prop}(hh:A.handled=none)(a:s.heap.get? I=some (tJ (.int sl 0) i S es.size ep))(T:dY prog w s.heap S es ep t)(r:Option (Value×Nat))
  (e:∀(c:Option (Value×Nat)->Shared->Prop)(l:Value->Shared->Prop),c r s->wpAny (model prog w) A.in1 (setNext S sl i ep) c l s)
  (d:∀x j,r=some (x,j)->∀h',Heap.SameBut I s.heap h'->h'.get? I=some (tJ (.int j 0) (i+1) S es.size ep)->Q (some x) { s with heap:=h' })
  (hn:r=none->∀h',Heap.ExtBut I s.heap h'->Q none { s with heap:=h' }):wpAny (model prog w) A (pyNext (.ref I)) Q E s:=by
 have b:s.TypeIs (.ref I) "set_iterator":=⟨_,a,rfl⟩
 unfold pyNext;show aa (wpAny_attempt (wpAny_callSpecial?_slot (name:=Str.ofString "__next__") b ik (wpAny_call_entry ik b JZ ?_ (JY _))));show wpAny _ _ (fieldsOf (.ref I) >>= _) _ _ s;show aa (wpAny_fieldsOf a rfl ?_);dsimp only;show aa (Fu T ?_);simp only[bne_self_eq_false,aj,aP];simp only[Int.toNat_natCast];show aa (e _ _ ?_);cases r with
 | none=>show Kn hh a rfl (by simp) (hn rfl)
 | some p=>
  obtain⟨x,j⟩:=p;dsimp only;show aa (wpAny_setField_rec a (by simp) λg g1 k=>?_);show aa (wpAny_setField_rec (s:={ s with heap:=g }) g1 (by simp) λf g2 h=>?_);show af ⟨x,rfl,af (d x j rfl f (k.trans h) ?_)⟩;rw[g2];simp[rawInt]
theorem Km{I S f:Addr}{es:Array (Int×Value)}{ep:Nat}{t:SetTable}{ps:List Nat}{i:Nat}{Q:Option Value->Shared->Prop}(hh:A.handled=none)(a:s.heap.get? I=some (tJ (.ref f) i S es.size ep))(T:dY prog w s.heap S es ep t)
  (l:s.heap.get? f=some { cls:=.type "tuple",data:=.seq (ps.map λ(p:Nat)=>rawInt p).toArray })
  (j:∀p e,ps[i]?=some p->es[p]?=some e->∀h',Heap.SameBut I s.heap h'->h'.get? I=some (tJ (.ref f) (i+1) S es.size ep)->Q (some e.2) { s with heap:=h' })
  (h:∀p∈ps,p<es.size) (hn:ps[i]?=none->∀h',Heap.ExtBut I s.heap h'->Q none { s with heap:=h' }):wpAny (model prog w) A (pyNext (.ref I)) Q E s:=by
 have g:s.TypeIs (.ref I) "set_iterator":=⟨_,a,rfl⟩
 unfold pyNext;show aa (wpAny_attempt (wpAny_callSpecial?_slot (name:=Str.ofString "__next__") g ik (wpAny_call_entry ik g JZ ?_ (JY _))));show wpAny _ _ (fieldsOf (.ref I) >>= _) _ _ s;show aa (wpAny_fieldsOf a rfl ?_);dsimp only;show aa (Fu T ?_);simp only[bne_self_eq_false,aj,aP];show aa (wpAny_seqItems l rfl ?_);dsimp only;simp only[Int.toNat_natCast,List.getElem?_toArray,aG];cases b:ps[i]? with
 | none=>
  simp only[Option.map_none];show aa (wpAny_setField_rec a (by simp) λc g1 d=>?_);show Kn (s:={ s with heap:=c }) hh g1 rfl (by simp) λh' x=>hn b h' (d.extBut.trans x)
 | some p=>
  simp only[Option.map_some,rawInt,Int.toNat_natCast];have k:=h p (aM b);have he:es[p]?=some es[p]:=by simp[k]
  unfold setNextDrawn;show aa (aa (wpAny_setState_of T.at_ rfl T.fits ?_));simp only[bne_self_eq_false,aj,aP,he];show af ?_;show aa (wpAny_setField_rec a (by simp) λc g1 d=>?_);show af ⟨_,rfl,af (j p es[p] b he c d ?_)⟩;rw[g1];simp
theorem Ln{S:Addr}{es:Array (Int×Value)}{ep:Nat}{t:SetTable}(T:dY prog w s.heap S es ep t)(sl i:Nat)(a:w.params.followText "set-order"=true)(Q:Option (Value×Nat)->Shared->Prop)
  (q:Q (((pickOrder (w.params.setOrder S ep) es)[i]?).map λe=>(e.2,sl)) s):wpAny (model prog w) A (setNext S sl i ep) Q E s:=by
 unfold setNext;show aa (wpAny_setState_of T.at_ rfl T.fits ?_);dsimp only;unfold setsByText;show aa (aa (wpAny_askSetting (af ?_)));rw[show(model prog w).w.params.followText "set-order"=true from a];simp only[bne_self_eq_false,aj,aP,aQ];unfold setWalk;show aa (aa (wpAny_setState_of T.at_ rfl T.fits ?_));dsimp only;unfold setsByText;show aa (aa (wpAny_askSetting (af ?_)));rw[show(model prog w).w.params.followText "set-order"=true from a];simp only[aQ];show aa (wpAny_askSetting (af (af q)))
theorem LM{S:Addr}{es:Array (Int×Value)}{ep:Nat}{t:SetTable}(T:dY prog w s.heap S es ep t)(sl i:Nat)(a:w.params.followText "set-order"=false)(c:es.size<=1)(Q:Option (Value×Nat)->Shared->Prop)
  (q:Q (match es[SetTable.below t.place sl]?,t.place[SetTable.below t.place sl]? with | some (_,x),some j=>some (x,j+1) | _,_=>none) s):wpAny (model prog w) A (setNext S sl i ep) Q E s:=by
 unfold setNext;show aa (wpAny_setState_of T.at_ rfl T.fits ?_);dsimp only;unfold setsByText;show aa (aa (wpAny_askSetting (af ?_)));rw[show(model prog w).w.params.followText "set-order"=false from a];simp only[aj,aP];have b:t.led=true:=by rw[T.marks.led,a];rfl
 have hd:(!t.plain&&decide (es.size>1))=false:=by
  rw[decide_eq_false (by ext)];simp
 show wpAny_ite_split (λh=>absurd (show(!t.plain&&decide (es.size>1))=true from h) (by rw[hd];simp)) λ_=>?_
 show aa ?_;show wpAny _ _ (ite ((!t.led&&!es.isEmpty)=true) _ _) _ _ _;rw[b];simp only[Bool.not_true,Bool.false_and,aj,aP];show af (af q)
theorem EM{I S:Addr}{h h':Heap}{es:Array (Int×Value)}{ep:Nat}{t:SetTable}(T:dY prog w h S es ep t)(a:S≠I)(b:Heap.SameBut I h h'):dY prog w h' S es ep t:=T.kept λo e=>by rw[b.2 S a];show e
abbrev DK(a:List Value):Nat->Value->Prop:=λi v=>a[i]?=some v
theorem Er{I S:Addr}{first:Value}{i n ep:Nat}{Q:Value->Shared->Prop}(b:s.heap.get? I=some (tJ first i S n ep))(q:Q (.ref I) s):wpAny (model prog w) A (pyIter (.ref I)) Q E s:=by
 have a:s.TypeIs (.ref I) "set_iterator":=⟨_,b,rfl⟩
 show wpAny_pyIter_slot a J1 (wpAny_call_entry J1 a Q7 ?_ (Q6 _));show wpAny _ _ (ret (.ref I)) _ _ s;show af ⟨_,rfl,"set_iterator",_,a,ik.lookup,q⟩
theorem S5{I S:Addr}{es:Array (Int×Value)}{ep:Nat}{t:SetTable}(p:S≠I)(m:w.params.followText "set-order"=true)(hh:A.handled=none) :
  Walks prog w A I [I,S] [I] es.size (DK ((pickOrder (w.params.setOrder S ep) es).toList.map (·.2))) (λi h=>h.get? I=some (tJ (.int 0 0) i S es.size ep)/\dY prog w h S es ep t):=by
 have n:=Lo (w.params.setOrder S ep) es;have u:(pickOrder (w.params.setOrder S ep) es).size=es.size:=by rw[<-ai,n.length_eq,ai]
 show⟨λb hb=>by simp at hb;simp[hb],λi h h' st k=>⟨k I (by simp) _ st.1,st.2.kept (k S (by simp))⟩,λi s Q E hi st q=>?_,λs Q E st q=>?_,λi s Q E st q=>Er st.1 q⟩
 .have l:i<(pickOrder (w.params.setOrder S ep) es).size:=by ext
  show CB (sl:=0) hh st.1 st.2 _ (λf r a=>Ln st.2 0 i m f a) (λx j e h' b g=>?_) (λe=>?_)
  .rw[Array.getElem?_eq_getElem l] at e;simp only[Option.map_some,aZ,Prod.mk.injEq] at e;obtain⟨rfl,rfl⟩:=e;show q _ h' s.toks (by show(List.map _ _)[i]?=_;rw[aG,Array.getElem?_toList,Array.getElem?_eq_getElem l];rfl) ⟨g,EM st.2 p b⟩ λc o d e=>by rw[b.2 c (by simpa using d)];show e
  rw[Array.getElem?_eq_getElem l] at e;cases e
 show CB (sl:=0) hh st.1 st.2 _ (λf r a=>Ln st.2 0 _ m f a) (λx j e=>?_) (λ_ h' b=>q h' s.toks λc o d e=>b c o (by simpa using d) e);rw[Array.getElem?_eq_none (by ext)] at e;cases e
theorem Jp(p j:Nat):SetTable.below #[p] j=if p<j then 1 else 0:=by
 unfold SetTable.below;simp only[aq,aH,List.length_nil,Nat.zero_add];unfold SetTable.below.go;simp;split<;>unfold SetTable.below.go<;>rfl
theorem JW{b:Type}{a:Array b}(h:a.size=1):∃e,a=#[e]:=⟨a[0]'(by ext),Array.ext (by simpa using h) λi hi _=>by
 have:i=0:=by ext
 subst this;rfl⟩
theorem TU{I S:Addr}{es:Array (Int×Value)}{ep:Nat}{t:SetTable}(B:S≠I)(r:w.params.followText "set-order"=false)(u:es.size<=1)(hh:A.handled=none) :
  Walks prog w A I [I,S] [I] es.size (DK (es.toList.map (·.2))) (λi h=>∃sl:Nat,h.get? I=some (tJ (.int sl 0) i S es.size ep)/\dY prog w h S es ep t/\(i=0->sl=0)/\(1<=i->∃p,t.place=#[p]/\sl=p+1)):=by
 show⟨λb hb=>by simp at hb;simp[hb],λi h h' st k=>?_,λi s Q E hi st q=>?_,λs Q E st q=>?_,λi s Q E st q=>?_⟩
 .obtain⟨sl,a,T,b,c⟩:=st;show⟨sl,k I (by simp) _ a,T.kept (k S (by simp)),b,c⟩
 .obtain⟨sl,a,T,b,c⟩:=st;have F:es.size=1:=by ext
  have D:i=0:=by ext
  subst D;have n:=b rfl;subst n;obtain⟨e,rfl⟩:=JW F;have y:=T.fits;simp only[SetTable.fits,Bool.and_eq_true,beq_iff_eq] at y;obtain⟨p,d⟩:=JW (show t.place.size=1 from y.1);show CB hh a T (some (e.2,p+1)) (λm G f=>LM T _ _ r u m ?_) (λx j C h' v g=>?_) (λz=>nomatch z)
  .rw[d,Jp,if_neg (Nat.not_lt_zero _)];show f
  cases C;show q _ h' s.toks rfl ⟨p+1,g,EM T B v,λz=>by ext,λ_=>⟨p,d,rfl⟩⟩ λc o l e=>by rw[v.2 c (by simpa using l)];show e
 .obtain⟨sl,a,T,b,c⟩:=st;show CB hh a T none (λm G f=>LM T _ _ r u m ?_) (λx j e=>nomatch e) (λ_ h' b=>q h' s.toks λc o l e=>b c o (by simpa using l) e);have he:es[SetTable.below t.place sl]?=none:=by
   by_cases h0:es.size=0
   .exact Array.getElem?_eq_none (by ext)
   obtain⟨p,d,n⟩:=c (by ext);rw[d,n,Jp,if_pos (Nat.lt_succ_self _)];show Array.getElem?_eq_none (by ext)
  rw[he];show f
 obtain⟨sl,a,T,b,c⟩:=st;show Er a q
theorem TR{I S a:Addr}{es:Array (Int×Value)}{ep:Nat}{t:SetTable}{ps:List Nat}(n:S≠I)(r:a≠I)(l:ps.Perm (List.range es.size))(hh:A.handled=none) :
  Walks prog w A I [I,a,S] [I] es.size (DK (ps.map λp=>(es.getD p (0,.none)).2)) (λi h=>h.get? I=some (tJ (.ref a) i S es.size ep)/\dY prog w h S es ep t/\h.get? a=some { cls:=.type "tuple",data:=.seq (ps.map λ(p:Nat)=>rawInt p).toArray }):=by
 have j:∀p∈ps,p<es.size:=λp h=>bH.mp (l.mem_iff.mp h)
 have v:ps.length=es.size:=by rw[l.length_eq,bU]
 show⟨λb hb=>by simp at hb;simp[hb],λi h h' st k=>⟨k I (by simp) _ st.1,st.2.1.kept (k S (by simp)),k a (by simp) _ st.2.2⟩,λi s Q E hi st q=>?_,λs Q E st q=>?_,λi s Q E st q=>Er st.1 q⟩
 .have u:i<ps.length:=by ext
  show Km hh st.1 st.2.1 st.2.2 (λp e d m h' b g=>?_) j (λz=>by rw[ah u] at z;cases z);show q _ h' s.toks ?_ ⟨g,EM st.2.1 n b,by rw[b.2 a r];show st.2.2⟩ λc o f e=>by rw[b.2 c (by simpa using f)];show e
  show(List.map _ _)[i]?=_;rw[aG,d];simp[m]
 show Km hh st.1 st.2.1 st.2.2 (λp e d=>?_) j (λ_ h' b=>q h' s.toks λc o f e=>b c o (by simpa using f) e);rw[List.getElem?_eq_none (by ext)] at d;cases d
end
section
variable{prog:Program}{w:World}{A:Around}{E:Value->Shared->Prop}{s:Shared}
structure Laid(prog:Program)(w:World)(h:Heap)(a:Addr)(es:Array (Int×Value))(I:Addr)(h':Heap):Prop where
 ex:∃(fp:List Addr)(vals:List Value)(St:Nat->Heap->Prop),vals.Perm (es.toList.map (·.2))/\(∀A:Around,A.handled=none->Walks prog w A I fp [I] es.size (DK vals) St)/\St 0 h'/\∀b∈fp,b=a\/h.objs.size<=b
 old:∀b o,h.get? b=some o->h'.get? b=some o
 new:h.objs.size<=I
 type:∃o,h'.get? I=some o/\o.cls=.type "set_iterator"
theorem S4{es:Array (Int×Value)}{ps:List Nat}(a:ps.Perm (List.range es.size)):(ps.map λp=>(es.getD p (0,.none)).2).Perm (es.toList.map (·.2)):=by
 show(a.map _).trans ?_;have e:(List.range es.size).map (λp=>(es.getD p (0,.none)).2)=es.toList.map (·.2):=by
  apply List.ext_getElem
  .simp
  intro i b c;have hi:i<es.size:=by simpa using b
  simp[Array.getD,hi]
 rw[e]
theorem Ry{a:Addr}{es:Array (Int×Value)}{ep:Nat}{t:SetTable}{Q:Value->Shared->Prop}(T:dY prog w s.heap a es ep t)
  (q:∀(I:Addr)(h':Heap)(d:Drawn),Laid prog w s.heap a es I h'->Q (.ref I) { s with heap:=h',drawn:=d }):wpAny (model prog w) A (pyIter (.ref a)) Q E s:=by
 have l:s.TypeIs (.ref a) "set":=⟨_,T.at_,rfl⟩
 have n:a<s.heap.objs.size:=aw T.at_;show wpAny_pyIter_slot l PySem.F.slot_set_iter (wpAny_call_entry PySem.F.slot_set_iter l RA ?_ (PySem.F.args_set_iter_1 _));show wpAny _ _ (Builtin.Frozenset.sizeOf a >>= _) _ _ s;unfold Builtin.Frozenset.sizeOf;show aa (aa (Fu T (af ?_)));unfold setDrawn;show aa (aa (wpAny_setState_of T.at_ rfl T.fits ?_));dsimp only;unfold setsByText;show aa (aa (wpAny_askSetting (af ?_)));show af ?_;have here:∀(first:Value)(s1:Shared)(Q1:Fin->Shared->Prop)(c:dY prog w s1.heap a es ep t),(∀o,o=tJ first 0 a es.size ep->Q1 (.done (.ret (.ref s1.heap.objs.size))) { s1 with heap:=s1.heap.push o })->wpAny (model prog w) A.in1 (do
   let e <-setEpoch a
   let v <-newFields "set_iterator" [first,rawInt 0,Value.ref a,rawInt es.size,rawInt e]
   ret v) Q1 E s1:=by
  intro first s1 Q1 c u;show aa (wpAny_setEpoch_of c.at_ rfl c.fits ?_);show aa (wpAny_newObj_type (af (u _ rfl)) (by size_fits))
 show wpAny_ite_split (λk=>?_) λk=>?_
 .refine aa (Lp es.size _ _ _ (by simp) λps d g=>?_);have y:ps.length<=sizeLine:=by rw[g.length_eq,bU];show fits_of_scanBound T.small
  show aa (wpAny_newTuple ?_ (by rw[ae];show y));have c:dY prog w (s.heap.push { cls:=.type "tuple",data:=.seq (ps.map λ(p:Nat)=>rawInt p).toArray }) a es ep t:=T.kept λo e=>ag _ e
  show here _ _ _ c λo i=>?_
  subst i;show⟨_,rfl,"set_iterator",_,⟨_,ax _ rfl,rfl⟩,ik.lookup,?_⟩;have f:(s.heap.push { cls:=.type "tuple",data:=.seq (ps.map λ(p:Nat)=>rawInt p).toArray }).objs.size=s.heap.objs.size+1:=Heap.size_push ..
  show q _ _ d ⟨⟨[_,s.heap.objs.size,a],_,_,S4 g,λA hh=>TR (t:=t) (by rw[f];show aF (bT n)) (by rw[f];show aF (Nat.lt_succ_self _)) g hh,
   ⟨ax _ rfl,c.kept λo e=>ag _ e,ag _ (ax _ rfl)⟩,λb hb=>?_⟩,λb o e=>ag _ (ag _ e),by rw[f];show b8 _,⟨_,ax _ rfl,rfl⟩⟩
  simp only[ao,bD,or_false] at hb;rcases hb with rfl | rfl | rfl
  .right;rw[f];show b8 _
  .right;show ay _
  left;rfl
 show aa (af ?_);show here _ _ _ T λo i=>?_
 subst i;show⟨_,rfl,"set_iterator",_,⟨_,ax _ rfl,rfl⟩,ik.lookup,?_⟩;have r:∀b∈[s.heap.objs.size,a],b=a\/s.heap.objs.size<=b:=λb hb=>by
  simp only[ao,bD,or_false] at hb;rcases hb with rfl | rfl
  .right;show ay _
  left;rfl
 have m:a≠s.heap.objs.size:=aF n;have c:dY prog w (s.heap.push (tJ (rawInt 0) 0 a es.size ep)) a es ep t:=T.kept λo e=>ag _ e
 cases hf:w.params.followText "set-order" with
 | true=>
  show q _ _ s.drawn ⟨⟨_,_,_,(Lo (w.params.setOrder a ep) es).map _,λA hh=>S5 (t:=t) m hf hh,⟨ax _ rfl,c⟩,r⟩,λb o e=>ag _ e,ay _,⟨_,ax _ rfl,rfl⟩⟩
 | false=>
  have j:¬((!t.plain&&decide (es.size>1))=true):=λz=>k (by
   show(!(w.params.followText "set-order")&&(!t.plain&&decide (es.size>1)))=true;rw[hf,z];rfl)
  have x:es.size<=1:=by
   rcases T.marks.plain with h | h
   .omega
   rw[h] at j;simp at j;show j
  show q _ _ s.drawn ⟨⟨_,_,_,.refl _,λA hh=>TU (t:=t) m hf x hh,⟨0,ax _ rfl,c,λ_=>rfl,λz=>by ext⟩,r⟩,λb o e=>ag _ e,ay _,⟨_,ax _ rfl,rfl⟩⟩
theorem Rx{a:Addr}{Q:Bool->Shared->Prop}(d:s.TypeIs (.ref a) "set")(h:Q false s):wpAny (model prog w) A (Builtin.List.listLengthHint (.ref a)) Q E s:=by
 unfold Builtin.List.listLengthHint;show aa (wpAny_specialOf d PySem.F.slot_set_len.lookup ?_);generalize e:("set.__len__":String)=f;wp_delta
 rw[show splitId f=some ("set","__len__") from by subst e;decide +kernel];subst e;show aa (wpAny_isInstance (T:="set") (b:=true) d (by rw[isSubtype_type];kernel_rfl) ?_);show wpAny_ite_split (λc=>absurd c (by decide)) (λ_=>wpAny_ite_split (λ_=>?_) (λc=>absurd (by decide +kernel) c));show aa (wpAny_typeOf d (af h))
theorem TQ{R:Result->Shared->Prop}{a:Addr}{es:Array (Int×Value)}{ep:Nat}{t:SetTable}(T:dY prog w s.heap a es ep t)(hh:A.handled=none)(S:Addr)(x:S≠a)(res:Value)(u:Nat)(r:s.heap.get? S=some { cls:=.type "list",data:=.seq #[] u })
  (hR:∀h' d tk (acc:Array Value) g,(∀b o,b≠S->s.heap.get? b=some o->h'.get? b=some o)->h'.get? S=some { cls:=.type "list",dict:=none,data:=.seq acc g,slots:=#[] }->acc.toList.Perm (es.toList.map (·.2))->R (.ok (.ret res)) { s with heap:=h',drawn:=d,toks:=tk }) :
  wpAny (model prog w) A.in1 (Builtin.List.listExtendWith (.ref S) (.ref a) res) (λfin c=>match fin with | .done f=>R (.ok f) c | .again g=>g.quiet=true/\codeAny (model prog w) A g R c) (λe c=>R (.error e) c) s:=by
 have E:s.TypeIs (.ref a) "set":=⟨_,T.at_,rfl⟩
 have y:S<s.heap.objs.size:=aw r;unfold Builtin.List.listExtendWith;show aa (wpAny_typeOf (T:="set") E ?_);have J:Builtin.List.listSameRef (.ref S) (.ref a)=false:=by simp[Builtin.List.listSameRef,x]
 have H:(Value.type "set"==Value.type "list")=false:=by decide
 have G:(Value.type "set"==Value.type "tuple")=false:=by decide
 simp only[J,H,G,Bool.or_false,aj,aP];show aa (Ry T λI h0 d L=>?_);obtain⟨fp,vals,St,p,W,st,O⟩:=L.ex;have m:S∉fp:=λz=>by
  rcases O S z with e | e
  .exact x e
  show Nat.lt_irrefl _ (aK y e)
 have Q:S≠I:=λz=>Nat.lt_irrefl _ (aK y (z▸L.new))
 have go:∀(h:Heap)(c1 tk:Nat),St 0 h->(∀b o,b≠S->s.heap.get? b=some o->h.get? b=some o)->h.get? S=some { cls:=.type "list",data:=.seq #[] c1 }->
   codeAny (model prog w) A (.builtin "list.extend.loop" ⟨[.ref S,.ref I,res],[]⟩) R { s with heap:=h,drawn:=d,toks:=tk }:=by
  intro h c1 tk K D P;show codeAny_extend_loopS (W A.in1 hh).toS (fits_of_scanBound T.small) S m res es.size 0 _ #[] c1 rfl (aN _) K P (ItemsOf.nil _) λc i g hm C n=>?_
  rw[Moved.eq_with hm];show hR c.heap d c.toks i g (λb o hb e=>hm.heap b o (λk=>?_) (D b o hb e)) C ?_
  .rcases ao.mp k with M | k
   .exact hb M
   show absurd (aw e) (by rw[br.mp k];show Nat.not_lt.mpr L.new)
  have e:i.toList=vals:=by
   apply List.ext_getElem?;intro j;by_cases q:j<i.size
   .have:=n.2 j i[j] (by simp[q]);rw[this];simp[q]
   have U:vals.length=es.size:=by rw[p.length_eq];simp
   have:=n.1;rw[List.getElem?_eq_none (by simp;ext),List.getElem?_eq_none (by ext)]
  rw[e];show p
 have l:=L.old _ _ r;show aa (bh (Rx (s:={ s with heap:=h0,drawn:=d }) ⟨_,L.old _ _ T.at_,rfl⟩ ?_));show wpAny_ite_split (λ_=>?_) (λ_=>af ⟨plainId_quiet PySem.F.plain_extend_loop _,go _ u _ st (λb o _ e=>L.old b o e) l⟩);show aa (wpAny_rule (aa ?_));show wpAny _ _ (updateSeq S (·.push .none) >>= λ_=>updateSeq S (·.pop)) _ _ _;show aa (wpAny_updateSeq l rfl ?_);have v:=Heap.get?_update_self (Obj.mapSeq (·.push Value.none)) l rfl;show wpAny_updateSeq (hz:=by seq_fits) v rfl ?_;have N:=Heap.get?_update_self (Obj.mapSeq (·.pop)) v rfl;show af ⟨plainId_quiet PySem.F.plain_extend_loop _,go _ _ _ ?_ (λb o hb e=>?_) N⟩
 .refine(W A.in1 hh).frame 0 _ _ st λb hb o e=>?_
  have B:b≠S:=λh=>m (h▸hb)
  show(aY _ _ (Ne.symm B)).trans ((aY _ _ (Ne.symm B)).trans e)
 show(aY _ _ (Ne.symm hb)).trans ((aY _ _ (Ne.symm hb)).trans (L.old _ _ e))
end
section
variable{prog:Program}{w:World}{A:Around}{E:Value->Shared->Prop}{s:Shared}
theorem UQ{R:List Value->Shared->Prop}{a:Addr}{es:Array (Int×Value)}{ep:Nat}{t:SetTable}(T:dY prog w s.heap a es ep t)(hh:A.handled=none)
  (h:∀(h':Heap)(d:Drawn)(tk:Nat)(m:List Value),s.heap.objs.size<h'.objs.size->(∀b o,s.heap.get? b=some o->h'.get? b=some o)->m.Perm (es.toList.map (·.2))->R m { s with heap:=h',drawn:=d,toks:=tk }):wpAny (model prog w) A (collect (.ref a)) R E s:=by
 have n:a<s.heap.objs.size:=aw T.at_;unfold collect;show aa (wpAny_runValue (codeAny_builtin entry_proto_collect' ?_));rw[bX PySem.F.plain_proto_collect _];show wpAny _ A.in1 (newList [] >>= λl=>again (.builtin "list.__iadd__" ⟨[l,.ref a],[]⟩)) _ _ s;show aa (wpAny_newObj_type (af ⟨plainId_quiet PySem.F.plain_list_iadd _,codeAny_builtin entry_list_iadd' ?_⟩));rw[bX PySem.F.plain_list_iadd _];have r:(s.heap.push { cls:=.type "list",data:=.seq ([]:List Value).toArray }).get? s.heap.objs.size=some { cls:=.type "list",data:=.seq #[] }:=ax _ rfl;show wpAny _ A.in1 (Builtin.List.listExtendWith (.ref s.heap.objs.size) (.ref a) (.ref s.heap.objs.size)) _ _ _;have key:=TQ (A:=A) (s:={ s with heap:=s.heap.push { cls:=.type "list",data:=.seq ([]:List Value).toArray } })
  (R:=λ(q:Result)(k:Shared)=>∃(h':Heap)(d:Drawn)(tk:Nat)(acc:Array Value)(j:Nat),q=.ok (.ret (.ref s.heap.objs.size))/\k={ s with heap:=h',drawn:=d,toks:=tk }/\
   (∀b o,s.heap.get? b=some o->h'.get? b=some o)/\h'.get? s.heap.objs.size=some { cls:=.type "list",dict:=none,data:=.seq acc j,slots:=#[] }/\acc.toList.Perm (es.toList.map (·.2)))
  (T.kept λo e=>ag _ e) hh s.heap.objs.size (Nat.ne_of_gt n) (.ref s.heap.objs.size) 0 r
  (λh' d tk acc j i c g=>⟨h',d,tk,acc,j,rfl,rfl,λb o e=>i b o (aF (aw e)) (ag _ e),c,g⟩)
 show bZ key (λfin k x=>?_) λe k x=>?_
 .cases fin with
  | done f=>
   obtain⟨h',d,tk,acc,j,e,rfl,i,c,g⟩:=x;cases e;show wpAny _ A (load s.heap.objs.size >>= _) _ _ _;show aa (wpAny_load c (af (h h' d tk acc.toList (aw c) i g)))
  | again c1=>
   show⟨x.1,codeAny_mono x.2 λq s2 y=>?_⟩;obtain⟨h',d,tk,acc,j,rfl,rfl,i,c,g⟩:=y;show wpAny _ A (load s.heap.objs.size >>= _) _ _ _;show aa (wpAny_load c (af (h h' d tk acc.toList (aw c) i g)))
 obtain⟨_,_,_,_,_,p,_⟩:=x;cases p
theorem Lm:∀{a:List Value},(∀v∈a,∃x t,v=.str x t)->StrsAre a (a.map strOf)
 | [],_=>.nil
 | v::r,h=>by
  obtain⟨x,t,rfl⟩:=h v (by simp);show .cons x t (Lm λu b=>h u (by simp[b]))
theorem TM{a:Addr}{es:Array (Int×Value)}{ep:Nat}{t:SetTable}{Q:Value->Shared->Prop}(T:dY prog w s.heap a es ep t)(hh:A.handled=none)(H:es.size<64)
  (h:∀(p:Addr)(h':Heap)(d:Drawn)(tk:Nat)(out:Array Value)(e:Nat)(ss:List Str),s.heap.objs.size<=p->(∀b o,s.heap.get? b=some o->h'.get? b=some o)->h'.get? p=some (seqObj "list" out e)->StrsAre out.toList ss->ss.Perm (keysOf es)->sortedS ss=true->Q (.ref p) { s with heap:=h',drawn:=d,toks:=tk }) :
  wpAny (model prog w) A (call (.builtin "sorted") [.ref a]) Q E s:=by
 show Calls.call_function_entry kind_sorted plain_sorted entry_sorted (args_sorted1 _) ?_;unfold Builtin.«sorted»;show aa (m:=checkCount "sorted" 1 1 _) (af (aa (UQ (A:=A.in1) T hh λh' d tk c u i g=>?_)));have G:c.length=es.size:=by rw[g.length_eq];simp
 have F:∀v∈c,∃x t,v=.str x t:=λv q=>by
  obtain⟨e,he,rfl⟩:=aR.mp (g.mem_iff.mp q);obtain⟨⟨k,i,_⟩,_⟩:=T.el e he;obtain⟨t,ht⟩:=Value.isStrOf_shape i;show⟨k,t,ht⟩
 have j:=Lm F;show aa (wpAny_newList ?_ (by rw[G];show fits_of_scanBound T.small));have f:(h'.push (seqObj "list" c.toArray 0)).get? h'.objs.size=some (seqObj "list" c.toArray 0):=ax _ rfl;show aa (bh (wpAny_call_entry slot_list_sort ⟨_,f,rfl⟩ entry_list_sort (list_sort_treeK (s:={ s with heap:=h'.push (seqObj "list" c.toArray 0),drawn:=d,toks:=tk }) strKind_oneLt f j.keysOf (λv1 v2 mP e=>keyKind_strs (by rw[<-e];show j)) (by ext) λy a1 a2=>⟨_,rfl,?_⟩) (args_list_sort _)));obtain⟨n,C,B,z⟩:=sorted_out_str j a1 a2;obtain⟨r,D⟩:=sortedHeap_at (out:=(arrOf y).map (·.2)) f;have hle:s.heap.objs.size<=h'.objs.size:=Nat.le_of_lt u;show af ⟨_,rfl,h _ _ d tk _ r n hle (λb o e=>?_) D C (B.trans ?_) z⟩
 .have l:=i b o e;have hb:b<h'.objs.size:=aw l;rw[sortedHeap_old (aF hb) (by rw[size_push'];show bT hb)];show ag _ l
 have:=g.map strOf;rw[aS] at this;show this
theorem Inv.draw{X:Cx}{b:List (Addr×Obj)}{a:St}{H:Hp}{s:Shared}(I:Inv X b a H s)(d:Drawn):Inv X b a H { s with drawn:=d }:=
 ⟨I.ok,I.os,I.bare,I.base,I.loc,I.cell,I.free,I.gJ,I.pin,I.dD,I.len⟩
end
section
variable{X:Cx}{pos:Pos}{e:Expr}{te:TD}{ts:iW}{t:TA}
def Rw(K:J')(t:TA):TE:=λσ H Q=>t σ H λa H1=>∃(p:Addr)(ss:List Str),a=[.ref p]/\fT K H1 p (ss.map V.str)/\ss.length<4000/\(∀l:List Str,l.Nodup->(∀x∈l,x∈ss)->l.length<64)/\
 ∀l:List Str,l.Nodup->(∀x,x∈l↔x∈ss)->sortedS l=true->∀q,H1 q=none->Q (.ref q) (upd H1 q (.lst (l.map V.str)))
theorem TL{J g c:Pos}(m:X.calm=true)(E:X.mg "sorted"=none)(M:X.mg "set"=none)(ha:PA X [e] t)(Bd:Gl X "sorted":=by rfl)(F:Gl X "set":=by rfl)
  (he:starEach [e] X.env=(false,eval e X.env)::starEach [] X.env:=by rfl) (k:starEach [.Call (.Name "set" g) [e] [] c] X.env=(false,eval (.Call (.Name "set" g) [e] [] c) X.env)::starEach [] X.env:=by rfl) :
  PE X (.Call (.Name "sorted" J) [.Call (.Name "set" g) [e] [] c] [] pos) (Rw X.K t):=by
 intro v s σ H Q I h;show wpAny_Call_Name_kw (tO I Bd E boot_sorted ?_ (by decide) (by decide));show PyProof.Rows.callWith_builtin1 ?_ k rfl;rw[k];show wpAny _ _ (spliced ((false,eval (.Call (.Name "set" g) [e] [] c) X.env)::backTo pos (starEach [] X.env))) _ _ s;show Calls.spliced_cons ?_;show wpAny_Call_Name_kw (tO I F M Lu ?_ (by decide) (by decide));show PyProof.Rows.callWith_type1 (ez (ha c v s σ H _ I h) λus s1 S=>?_) he rfl;obtain⟨vs,H1,I1,D,G⟩:=S;obtain⟨p,ss,rfl,N,hn,Z,q⟩:=G;obtain⟨u,rfl,C⟩:=l7 D;cases C;obtain⟨its,B,pl,hz⟩:=I1.list N;have O:=LO B;show S6 (I1.ok.hd m) pl.isList O (by have:scanBound=4096:=rfl;ext) λn w es ep tb T i Y=>?_
 have I2:Inv X v σ H1 { s1 with heap:=n,toks:=w }:=I1.kept λb o e=>Y b o (aw e) e
 show Calls.spliced_nil ?_;have r:es.size<64:=by
  have:=Z (keysOf es) i.nd λx hx=>(i.mem x).mp hx
  simpa[keysOf] using this
 show TM (s:={ s1 with heap:=n,toks:=w }) T (I1.ok.hd m) r λpp P d A out R f l y L W j U=>?_
 have z:f.Nodup:=j.nodup_iff.mpr i.nd;have Dq:f.length<64:=by rw[j.length_eq];simpa[keysOf] using r
 have hf:H1 pp=none:=I2.dD.fresh l;show⟨.ref pp,upd H1 pp (.lst (f.map V.str)),?_,rfl,q f z (λx=>by rw[j.mem_iff];show i.mem x) U pp hf⟩;have I3:=Inv.laid (t':=A) (Inv.draw I2 d) (h':=P) (a:=pp) (o:=.lst (f.map V.str)) y l ?_
 .exact I3
 show⟨by rw[ae];have:=EO;ext,out.toList,R,Fl W,?_⟩;rw[Array.toArray_toList];show L
theorem LY{y c d:Pos}(B:X.calm=true)(u:X.mg "sorted"=none)(z:X.mg "set"=none)(ha:mI X [e] ts)(J:Gl X "sorted":=by rfl)(w:Gl X "set":=by rfl)
  (he:starEach [e] X.env=(false,eval e X.env)::starEach [] X.env:=by rfl) (m:starEach [.Call (.Name "set" c) [e] [] d] X.env=(false,eval (.Call (.Name "set" c) [e] [] d) X.env)::starEach [] X.env:=by rfl) :
  PD X (.Call (.Name "sorted" y) [.Call (.Name "set" c) [e] [] d] [] pos) (eY yi ts):=by
 obtain⟨t,pp,q⟩:=ha;show⟨_,TL B u z pp J w he m,λj σ I D G H Q P E h k=>q j σ I D G H _ _ E h λK L ds M x rs b=>?_⟩;unfold yi at b;split at b
 .split at b
  .rename_i es ss A;obtain⟨v,rfl,f⟩:=lZ rs;simp only[Rep] at f;obtain⟨a,xs,rfl,i,g⟩:=f;rw[Fw A] at g;rw[EN g] at i;show⟨a,ss,rfl,(x.s.gI i).sq,b.1,b.2.1,λl nd hm so=>?_⟩;show vi x.s (Lv l) (b.2.2 l nd hm so) λv C r F n o p=>k v C r F (x.trans n) (o.ie x.h) p
  show b.elim
 show b.elim
end
section
variable{X:Cx}{pos:Pos}{e i':Expr}{te ti:TD}
def Zn(i:Nat):TX:=λD a=>match gt a i with
 | .ow _=>D.nx (a.set i (.ow []))
 | _=>False
def xN(i:Nat)(te:TD):TX:=λD a=>match gt a i with
 | .ow ds=>te a λr=>match r with
  | .ow es=>ds.length+es.length<=sizeLine/\D.nx (a.set i (.ow (ds++es)))
  | _=>False
 | _=>False
theorem Ec(i:Nat){x:Str}{n o c:Pos}(he:PD X e te)(B:X.N[i]?=some x:=by rfl)(A:oM X.env.scope x:=by first | show Or.inl rfl | show Or.inr (Or.inl rfl) | show Or.inr (Or.inr rfl))(hd:(x==("__debug__":Str))=false:=by decide)(z:(x==("__classdict__":Str))=false:=by decide)
  (C:starEach [e] X.env=(false,eval e X.env)::starEach [] X.env:=by rfl)
  (hb:∀{m:TE}{t:TA},PE X (.Name x n) m->PA X [e] t->PE X (.Call (.Attribute (.Name x n) "extend" o) [e] [] c) (As X.K "list" Kg m t):=by intro m t l j;show y7 PySem.F.plainAttrs_list PySem.F.slot_list_extend PySem.F.type_list_extend Ul l j) :
  PX X (.Expr (.Call (.Attribute (.Name x n) "extend" o) [e] [] c) pos) (xN i te):=by
 obtain⟨t,p,q⟩:=he;show⟨_,zj (hb (rB B A hd z) (mZ p pj C)),λw σ L J G H D E k h g=>?_⟩;unfold xN at h;split at h
 .rename_i ds hg;obtain⟨a,xs,l,j,P,O,s⟩:=k.ow i ds hg;show⟨_,l,.inl ⟨rfl,xs,fT.of j⟩,q w σ L J G H _ _ k h λv S r M d y f=>?_⟩;split at f
  .rename_i es;obtain⟨b,zs,rfl,R,Q,I,u⟩:=y;have k2:=k.ext d;show⟨a,b,xs,zs,rfl,rfl,d.h _ _ j,I,by rw[s.length,u.length];show f.1,?_⟩;show g.nx _ _ M _ d.g (k2.change hg l ((s.mono d.g).append u)) f.2
  show f.elim
 show h.elim
def B3(i:Nat)(ti te:TD):TX:=λD a=>match gt a i with
 | .ow ds=>te a λr=>ti a λrk=>match rk.val with
  | .int k=>∃j,qK ds.length k=some j/\D.nx (a.set i (.ow (ds.set j r.val)))
  | _=>False
 | _=>False
theorem Rv(i:Nat){x:Str}{c b:Pos}(hi:PD X i' ti)(he:PD X e te)(S:X.N[i]?=some x:=by rfl)(O:oM X.env.scope x:=by first | show Or.inl rfl | show Or.inr (Or.inl rfl) | show Or.inr (Or.inr rfl))(hd:(x==("__debug__":Str))=false:=by decide)(M:(x==("__classdict__":Str))=false:=by decide)
  (ha:∀v,assign (.Subscript (.Name x c) i' b) X.env v=(do
   let ov <-holding [v] (eval (.Name x c) X.env)
   let n <-holding [v,ov] (eval i' X.env)
   standAt b
   holding [v,ov,n] (setItem ov n v)
   release [v,ov,n] []):=by intro _;rfl)
  (P:swapsWithSole [.Subscript (.Name x c) i' b] e pos.line X.env=pure false:=by rfl) (hw:swappedStores [.Subscript (.Name x c) i' b] e X.env=pure none:=by rfl)
  (l:(assignEach [.Subscript (.Name x c) i' b] X.env).map (·.2)=[assign (.Subscript (.Name x c) i' b) X.env]:=by rfl) :
  PX X (.Assign [.Subscript (.Name x c) i' b] e pos) (B3 i ti te):=by
 obtain⟨t,p,q⟩:=he;obtain⟨t2,W,K⟩:=hi;show⟨_,Jy p (Qv (rB S O hd M) W So ha) P hw l,λo σ A z G H D E k h g=>?_⟩;unfold B3 at h;split at h
 .rename_i ds hg;obtain⟨a,xs,l,T,h3,h4,y⟩:=k.ow i ds hg;show q o σ A z G H _ _ k h λv V r G' C J Q=>?_
  obtain⟨Z,w,I,_⟩:=J.freeze C;show⟨_,l,K o σ A z Z V _ _ (k.ext w) Q λu H3 rk G3 B F d=>?_⟩;obtain⟨Y,s,m,_⟩:=F.freeze B;split at d
  .rename_i L U;obtain⟨j,R,d⟩:=d;rw[U] at m;simp only[Rep] at m;have f:=w.trans s;show⟨a,xs,L,j,rfl,m,f.h _ _ T,by rw[y.length];show R,?_⟩;show g.nx _ _ Y _ f.g ((k.ext f).change hg l ((y.mono f.g).set j (I.mono s.g))) d
  show d.elim
 show h.elim
end
structure M2(X:Cx)(o:Expr)(m:Str)(apos:Pos)(e f:Expr)(gq:Pos):Prop where
 base:attributeBase o m X.env (eval o X.env)=eval o X.env
 NB:((backTo gq (starEach [e,f] X.env)).all (λx=>!x.1)&&(backToKw gq (keywordEach [] X.env)).all (λx=>x.1.isSome)
  && decide (([e,f]:List Expr).length+([]:List Keyword).length+(if ([]:List Keyword).isEmpty then 0 else 1)<30))=true
 line:(apos.endLine==gq.line)=true
 trees:backTo gq (starEach [e,f] X.env)=[(false,eval e X.env),(false,eval f X.env)]
end L2
namespace PySem
open Sem (wp)
end PySem
namespace L2
open PySem PySem.Spec PyProof.Rows
noncomputable def IB:D->Option Key
 | .int i=>some (.inl i)
 | .str x=>some (.inr x)
 | _=>none
noncomputable def look(a:List (Key×D))(k:Key):Option D:=(a.find? λkv=>decide (kv.1=k)).map (·.2)
section
variable{K:J'}{G:Hp}
theorem e7.nil:e7 K G [] []:=by simp only[e7]
end
section
variable{K:J'}{G H:Hp}
theorem cR.length:∀{a:List Addr}{b:List (List D)},cR K G H a b->a.length=b.length
 | [],[],_=>rfl
 | q::a,ds::b,h=>by
  simp only[cR] at h;simp only[aH,cR.length h.2]
 | [],_::_,h=>by simp only[cR] at h
 | _::_,[],h=>by simp only[cR] at h
theorem cR.snoc{p:Addr}{ds:List D}{a:List V}:∀{b:List Addr}{e:List (List D)},cR K G H b e->H p=some (.lst a)->cx K G a ds->cR K G H (b++[p]) (e++[ds])
 | [],[],_,d,c=>by simp only[List.nil_append,cR];show⟨⟨a,d,c⟩,trivial⟩
 | q::b,es::e,h,d,c=>by
  simp only[cR] at h;simp only[List.cons_append,cR];show⟨h.1,cR.snoc h.2 d c⟩
 | [],_::_,h,_,_=>by simp only[cR] at h
 | _::_,[],h,_,_=>by simp only[cR] at h
theorem cR.get:∀{a:List Addr}{b:List (List D)}{j:Nat}{ds:List D},cR K G H a b->b[j]?=some ds->∃q xs,a[j]?=some q/\H q=some (.lst xs)/\cx K G xs ds
 | [],[],j,ds,_,e=>by simp at e
 | q::a,es::b,0,ds,h,e=>by
  simp only[cR] at h;simp only[List.getElem?_cons_zero,aZ] at e;subst e;obtain⟨⟨xs,d,c⟩,_⟩:=h;show⟨q,xs,rfl,d,c⟩
 | q::a,es::b,j+1,ds,h,e=>by
  simp only[cR] at h;simp only[bR] at e ⊢;show cR.get h.2 e
 | [],_::_,_,_,h,_=>by simp only[cR] at h
 | _::_,[],_,_,h,_=>by simp only[cR] at h
theorem cR.set{q:Addr}{ys:List V}{es:List D}(c:cx K G ys es):∀{a:List Addr}{b:List (List D)}{j:Nat},cR K G H a b->a.Nodup->a[j]?=some q->cR K G (upd H q (.lst ys)) a (b.set j es)
 | [],[],j,_,_,e=>by simp at e
 | r::a,ds::b,0,h,nd,e=>by
  simp only[cR] at h;simp only[List.getElem?_cons_zero,aZ] at e;subst e;simp only[List.set_cons_zero,cR];show⟨⟨ys,jb,c⟩,h.2.mono (cJ.refl _) λp d xs e=>?_⟩;rw[eG (λz:p=r=>(bQ.mp nd).1 (z▸d))];show e
 | r::a,ds::b,j+1,h,nd,e=>by
  simp only[cR] at h;simp only[bR] at e;simp only[List.set_cons_succ,cR];show⟨?_,cR.set c h.2 (bQ.mp nd).2 e⟩;obtain⟨⟨xs,g,f⟩,_⟩:=h;show⟨xs,?_,f⟩;rw[eG (λz:r=q=>(bQ.mp nd).1 (z▸aM e))];show g
 | [],_::_,_,h,_,_=>by simp only[cR] at h
 | _::_,[],_,h,_,_=>by simp only[cR] at h
end
def zb(f:mj)(m:List (Option Nat))(g:jI)(tc:jA)(te:TD):TD:=λc Q=>f c λds=>∃a:Nat->List (List D)->Prop,a 0 []/\
 (∀i d acc,ds[i]?=some d->a i acc->g d (ij m c) λe=>tc e λb=>if b=true then te e λr=>match r with
  | .ow es=>acc.length<sizeLine/\a (i+1) (acc++[es])
  | _=>False
  else a (i+1) acc)/\∀acc,a ds.length acc->Q (.ov (.ll acc))
section
variable{X:Cx}{elt iter tg:Expr}{ifs:List Expr}{scope:Scope}{pos:Pos}{N':List Str}{m:List (Option Nat)}{wi:mj}{g:jI}{tc:jA}{te:TD}
theorem Ru(cs:cX X N' m scope)(hk:qw m g){ww:TI}{gg:pM TG}{vx:pM TT}{N:pM TE}
  (q1:∀(r:Ev)(σ:St)(x w G H:Hp)(Q:List D->Prop)(P:It->Hp->Prop),dU X.K x w r σ G H->wi r Q->(∀J t ds l,Ext G H l t->tI X.K J l ds->Q ds->P J t)->ww σ H P)
  (q2:∀s3 y ex (r:Ev) (σ:St) (x w G H:Hp) (d:D) (v:V) (Q:Ev->Prop) (P:St->Hp->Prop),dU X.K x w r σ G H->Rep X.K G v d->g d r Q->(∀ρ' I l t,dU X.K x w ρ' I l t->Ext G H l t->Q ρ'->P I t)->gg s3 y ex v σ H P)
  (q3:∀s3 y ex (r:Ev) (σ:St) (x w G H:Hp) (Q:Bool->Prop) (P:Bool->Hp->Prop),dU X.K x w r σ G H->tc r Q->(∀b t l,Ext G H l t->Q b->P b t)->vx s3 y ex σ H P)
  (q4:∀s3 y ex,rP X.K te (N s3 y ex)):rP X.K (zb wi m g tc te) (va ww m gg vx N):=by
 show λr σ x w G H Q P E h k=>q1 r σ x w G H _ _ E h λJ H1 ds u C wk f=>?_
 obtain⟨Iv,i0,turn,fin⟩:=f;intro D Y s3 ex;have E1:=E.ext C;have HP:u D=none:=C.s.free Y;have F:∀{i:Nat}{es:List L2.D},gt (ij m r) i=.ow es->False:=λ{i es} h=>by
  unfold ij at h;rw[tM] at h;split at h
  .rename_i o _;unfold rj at h;split at h
   .cases h
   split at h<;>cases h
  cases h
 have sv:∀{i:Nat}{o:OV},gt (ij m r) i=.ov o->False:=λ{i o} h=>by
  unfold ij at h;rw[tM] at h;split at h
  .rename_i o _;unfold rj at h;split at h
   .cases h
   split at h<;>cases h
  cases h
 have mn:dU X.K u H1 (ij m r) (sD m σ) u (upd H1 D (.lst [])):=by
  show⟨.own C.s Y,by simp[sD,ij],λi d h=>?_,λi es h=>(F h).elim,λi j es fs _ h=>(F h).elim,λ_=>none,λi es _ h=>(F h).elim,λi o h=>(sv h).elim⟩;unfold ij at h;rw[tM] at h;split at h
  .rename_i o ho;unfold rj at h;split at h
   .cases h
   rename_i j;split at h
   .rename_i d' uJ;cases h;obtain⟨v,hv,rv⟩:=E1.fz j d uJ;show⟨v,?_,rv⟩;unfold sD;rw[aG,ho];simp[hv]
   cases h
  cases h
 show⟨λi n I t=>n=ds.length-i/\i<=ds.length/\∃acc fp l,dU X.K u H1 (ij m r) I l t/\t D=some (.lst (fp.map V.ref))/\l D=none/\cR X.K l t fp acc/\(D::fp).Nodup/\(∀q∈fp,H1 q=none/\l q=none)/\Iv i acc,
  ⟨ds.length,by simp,aN _,[],[],u,mn,jb,HP,by simp only[cR],by simp,λq f=>(by cases f),i0⟩,?_⟩
 rintro i n I t ⟨rfl,hi,acc,fp,l,M,hx,Be,rx,nd,fr,iv⟩;by_cases eA:i<ds.length
 .obtain⟨w1,w2⟩:=wk;obtain⟨go,yl⟩:=w1 i ds[i] l t (ah eA) M.e.g M.e.s;show .inr ⟨go,λmM A=>∃acc fp l,dU X.K u H1 (ij m r) mM l A/\A D=some (.lst (fp.map V.ref))/\l D=none/\cR X.K l A fp acc/\(D::fp).Nodup/\(∀q∈fp,H1 q=none/\l q=none)/\Iv (i+1) acc,λmM A h2=>⟨ds.length-(i+1),by ext,rfl,eA,h2⟩,λv A hy=>?_⟩;obtain⟨G2,x2,rv⟩:=yl v A hy;show q2 _ _ _ (ij m r) I u H1 G2 A ds[i] v _ _ (M.ext x2) rv (hk _ _ _ (turn i ds[i] acc (ah eA) iv)) λua mW G3 y E3 x3 iN=>?_
  obtain⟨iN,Hu,yD⟩:=iN;have weak:∀j,gt (ij m r) j=.un\/gt (ij m r) j=gt ua j:=λj=>by
   cases hm:m[j]? with
   | none=>left;unfold ij;rw[tM,hm]
   | some o=>
    cases o with
    | none=>left;unfold ij;rw[tM,hm];rfl
    | some c=>right;show(yD j c hm).symm
  have F7:=x2.trans x3;show q3 _ _ _ ua mW u H1 G3 y _ _ E3 iN λb H4 S x4 W=>?_
  have R:=F7.trans x4;have E4:=(E3.ext x4).weak (ρ':=ij m r) (Hu.symm) weak;have U:H4 D=some (.lst (fp.map V.ref)):=R.h _ _ hx;have Bc:S D=none:=R.n D Be (by rw[hx];show nofun);have O:cR X.K S H4 fp acc:=rx.mono R.g λq _ zs e=>R.h _ _ e
  have Z:∀q∈fp,H1 q=none/\S q=none:=λq f=>⟨(fr q f).1,R.n q (fr q f).2 (rx.here q f)⟩
  cases b with
  | false=>
   rw[if_neg aD] at W ⊢;show⟨acc,fp,S,E4,U,Bc,O,nd,Z,W⟩
  | true=>
   rw[if_pos rfl] at W ⊢;show q4 _ _ _ ua mW u H1 S H4 _ _ (E3.ext x4) W λv5 H5 r5 G5 B Gn T=>?_
   split at T
   .rename_i es;obtain⟨p,zs,rfl,c1,c2,c3,c4⟩:=Gn;have L:=E4.ext B;have GW:H5 D=some (.lst (fp.map V.ref)):=B.h _ _ U;have Bb:G5 D=none:=B.n D Bc (by rw[U];show nofun);have MZ:p≠D:=λz=>by rw[z,U] at c1;cases c1
    have Yf:p∉fp:=λz=>O.here p z c1
    have YS:D∉fp:=λz=>(bQ.mp nd).1 z
    have r6:cR X.K G5 (upd H5 D (.lst ((fp++[p]).map V.ref))) (fp++[p]) (acc++[es]):=by
     show cR.snoc (O.mono B.g λq f ys e=>?_) ?_ c4
     .rw[eG (λz:q=D=>YS (z▸f))];show B.h _ _ e
     rw[eG MZ];show c3
    show⟨fp.map V.ref,GW,by rw[ae,O.length];show T.1,acc++[es],fp++[p],G5,?_,by rw[show fp.map V.ref++[V.ref p]=(fp++[p]).map V.ref by simp];show jb,Bb,by rw[show fp.map V.ref++[V.ref p]=(fp++[p]).map V.ref by simp];show r6,?_,λq f=>?_,T.2⟩
    .refine⟨⟨L.e.g,λb o e=>by rw[eG (kf e Y)];show L.e.h b o e,λb o e=>by rw[eG (kf e Bb)];show L.e.s b o e,L.e.n⟩,L.len,L.fz,λi es h=>(F h).elim,λi j es fs _ h=>(F h).elim,λ_=>none,λi es _ h=>(F h).elim,λi o h=>(sv h).elim⟩
    .rw[bQ] at nd ⊢;show⟨λz=>?_,?_⟩
     .rcases av.mp z with z | z
      .exact nd.1 z
      simp at z;show MZ z.symm
     rw[List.nodup_append];show⟨nd.2,by simp,λa ha b hb=>?_⟩;simp at hb;subst hb;show λz=>Yf (z▸ha)
    rcases av.mp f with f | f
    .exact⟨(Z q f).1,B.n q (Z q f).2 (O.here q f)⟩
    simp at f;subst f;show⟨E4.e.h.free c1,c2⟩
   show T.elim
 have e:i=ds.length:=by ext
 subst e;show .inl ⟨wk.2 l t M.e.g M.e.s,k _ t (.ov (.ll acc)) l (C.trans M.e) ⟨D,fp,rfl,nd,⟨hx,rx⟩,λq f=>?_⟩ (fin acc iv)⟩;rcases ao.mp f with rfl | f
 .exact⟨C.h.free Y,Be⟩
 show⟨C.h.free (fr q f).1,(fr q f).2⟩
theorem Rt(f:X.calm=true)(cs:cX X N' m scope)(e:qw m g)(hi:PId X tg iter wi)(hg:∀s3 a ex,tq (mH X N' scope s3 a ex) tg g)(ht:∀s3 a ex,xE (mH X N' scope s3 a ex) ifs tc)
  (he:∀s3 a ex,PD (mH X N' scope s3 a ex) elt te) (d:∀x,foldedSetIterable iter X.env x=pure x:=by intro _;rfl):PD X (.ListComp elt [⟨tg,iter,ifs,0⟩] scope pos) (zb wi m g tc te):=by
 obtain⟨ww,c,b⟩:=hi;show⟨_,Ke (g:=λs3 a ex=>(hg s3 a ex).choose) (tc:=λs3 a ex=>(ht s3 a ex).choose) (te:=λs3 a ex=>(he s3 a ex).choose) f cs c (λs3 a ex=>(hg s3 a ex).choose_spec.1) (λs3 a ex=>(ht s3 a ex).choose_spec.1) (λs3 a ex=>(he s3 a ex).choose_spec.1) d,
  Ru cs e b (λs3 a ex=>(hg s3 a ex).choose_spec.2) (λs3 a ex=>(ht s3 a ex).choose_spec.2) (λs3 a ex=>(he s3 a ex).choose_spec.2)⟩
end
section
variable{X:Cx}{pos:Pos}{e i':Expr}{te ti:TD}
def BL(i:Nat)(ti te:TD):TX:=λD a=>match gt a i with
 | .ov (.ll b)=>ti a λrk=>match rk.val with
  | .int k=>∃j ds,qK b.length k=some j/\b[j]?=some ds/\te a λr=>ds.length<sizeLine/\D.nx (a.set i (.ov (.ll (b.set j (ds++[r.val])))))
  | _=>False
 | _=>False
theorem Q5(i:Nat){x:Str}{w s B c:Pos}(hi:PD X i' ti)(he:PD X e te)(hN:X.N[i]?=some x:=by rfl)(hv:oM X.env.scope x:=by first | show Or.inl rfl | show Or.inr (Or.inl rfl) | show Or.inr (Or.inr rfl))(hd:(x==("__debug__":Str))=false:=by decide)
  (iP:(x==("__classdict__":Str))=false:=by decide) (Ye:Co i':=by intro _ _;rfl) (gE:starEach [e] X.env=(false,eval e X.env)::starEach [] X.env:=by rfl)
  (hb:∀{m:TE}{t:TA},PE X (.Subscript (.Name x w) i' s) m->PA X [e] t->PE X (.Call (.Attribute (.Subscript (.Name x w) i' s) "append" B) [e] [] c) (As X.K "list" EB m t):=by intro m t h1 h2;show y7 PySem.F.plainAttrs_list PySem.F.slot_list_append PySem.F.type_list_append Fe h1 h2) :
  PX X (.Expr (.Call (.Attribute (.Subscript (.Name x w) i' s) "append" B) [e] [] c) pos) (BL i ti te):=by
 obtain⟨t,p,q⟩:=he;obtain⟨t2,Gu,q2⟩:=hi;show⟨_,zj (hb (D2 qd (rB hN hv hd iP) Gu Ye) (mZ p pj gE)),λy σ S Q G H D E k h g=>?_⟩;unfold BL at h;split at h
 .rename_i eW hg;obtain⟨own,o1,o2⟩:=k.on;obtain⟨a,fp,O,b2,⟨ha,J⟩,b4⟩:=o2 i _ hg;show⟨_,O,q2 y σ S Q G H _ _ k h λu H1 rk G1 Y Gp d=>?_⟩;obtain⟨G2,l,n,_⟩:=Gp.freeze Y;split at d
  .rename_i C e1;obtain⟨j,ds,hj,T,d⟩:=d;rw[e1] at n;simp only[Rep] at n;obtain⟨o,xs,c1,M,L⟩:=J.get T;have nc:fN (fp.map V.ref) C=some (.ref o):=by
    unfold fN;rw[ae,J.length,hj];simp[c1]
   show⟨a,fp.map V.ref,C,_,rfl,n,fT.of (l.h _ _ ha),nc,.inl ⟨rfl,xs,fT.of (l.h _ _ M)⟩,?_⟩;show q y σ S Q G2 H1 _ _ (k.ext l) d λv H3 r G3 W Z I=>?_
   obtain⟨G4,U,wV,_⟩:=Z.freeze W;have f:=l.trans U;show⟨o,xs,v,rfl,rfl,f.h _ _ M,by rw[L.length];show I.1,?_⟩;show g.nx _ _ G4 _ f.g ((k.ext f).uR hg O λA nd ow=>?_) I.2;obtain⟨P,qL⟩:=ow;have e3:A=fp:=by
    have:=(f.h _ _ ha).symm.trans P;injection this with this
    injection this with this
    show((List.map_inj_right λa b h=>by cases h;rfl).mp this).symm
   subst e3;have R:=bQ.mp nd;show⟨A,nd,⟨?_,qL.set ((L.mono f.g).append (cx.cons wV cx.nil)) R.2 c1⟩,λq hq=>.inl hq,λb hb _=>eG λz=>hb (by rw[z];show aE _ (aM c1))⟩;rw[eG (λz:a=o=>R.1 (z▸aM c1))];show P
  show d.elim
 show h.elim
end
noncomputable def IU:R->Bool
 | .fz d=>uf d
 | .ow ds=>ds.all uf
 | .ov (.dc a)=>a.all λp=>uf p.2
 | _=>false
def B2(i:Nat)(te:TD):TD:=λa Q=>te (lJ i a) λr=>IU r=true/\Q r
theorem Ll{K:J'}{G b:Hp}:∀{a:List V}{ds:List D},ds.all uf=true->cx K G a ds->cx K b a ds
 | [],[],_,_=>cx.nil
 | v::a,d::ds,h,r=>by
  simp only[cx] at r;rw[List.all_cons,Bool.and_eq_true] at h;show cx.cons (CC h.1 r.1) (Ll h.2 r.2)
 | [],_::_,_,r=>by simp only[cx] at r
 | _::_,[],_,r=>by simp only[cx] at r
theorem Lk{K:J'}{G c:Hp}:∀{b:List (Key×V)}{a:List (Key×D)},(a.all λp=>uf p.2)=true->e7 K G b a->e7 K c b a
 | [],[],_,_=>e7.nil
 | v::e,d::ds,h,r=>by
  simp only[e7] at r ⊢;rw[List.all_cons,Bool.and_eq_true] at h;show⟨⟨r.1.1,CC h.1 r.1.2⟩,Lk h.2 r.2⟩
 | [],_::_,_,r=>by simp only[e7] at r
 | _::_,[],_,r=>by simp only[e7] at r
theorem Qe{K:J'}{te:TD}{j:TE}(i:Nat)(q:rP K te j):rP K (B2 i te) j:=by
 intro z σ u s G H Q P E h k;obtain⟨L,n,y,_⟩:=E.ng i;show q _ σ u s _ H _ _ y h λv t r w x e b=>?_
 have l:=Kp n x;show k v t r (we w L) l ?_ b.2;have a:=b.1;cases r with
 | fz d=>show CC a e
 | ow ds=>
  obtain⟨p,xs,rfl,c1,g,f,c⟩:=e;show⟨p,xs,rfl,c1,?_,f,Ll a c⟩;unfold we;split
  .rfl
  show g
 | ov o=>
  cases o with
  | dc A=>
   obtain⟨p,fp,rfl,c1,⟨rfl,m,ep,g,f⟩,c⟩:=e;show⟨p,[],rfl,c1,⟨rfl,m,ep,g,Lk a f⟩,λq b=>⟨(c q b).1,?_⟩⟩;unfold we;split
   .rfl
   show(c q b).2
  | ll=>cases a
  | dl=>cases a
  | tl=>cases a
  | ld=>cases a
  | dt=>cases a
  | tp=>cases a
  | ob=>cases a
  | dq=>cases a
section
variable{X:Cx}{elt iter tg:Expr}{ifs:List Expr}{scope:Scope}{pos:Pos}{N':List Str}{m:List (Option Nat)}{wi:mj}{g:jI}{tc:jA}{te:TD}
theorem Rr(j i:Nat){x:Str}{b c:Pos}(u:X.calm=true)(cs:cX X N' m scope)(s:qw m g)(hi:PId X tg iter wi)(hg:∀s3 a ex,tq (mH X N' scope s3 a ex) tg g)(ht:∀s3 a ex,xE (mH X N' scope s3 a ex) ifs tc)
  (he:∀s3 a ex,PD (mH X N' scope s3 a ex) elt te) (w:X.N.Nodup:=by assumption) (e:X.N[i]?=some x:=by rfl) (hx:Loc X.env.scope x:=by first | show Or.inl rfl | show Or.inr rfl) (p:∀x,foldedSetIterable iter X.env x=pure x:=by intro _;rfl)
  (f:swapsWith (.ListComp elt [⟨tg,iter,ifs,0⟩] scope pos) (some (.Name x b)) c.line X.env=pure true:=by rfl)
  (t:X.fn x=true\/X.env.scope.names.lookup x=some .local:=by first | show .inl rfl | show .inr rfl | assumption) :
  PX X (.Assign [.Name x b] (.ListComp elt [⟨tg,iter,ifs,0⟩] scope pos) c) (kY i (B2 j (gh wi m g tc te))):=by
 obtain⟨ww,o,n⟩:=hi;show⟨_,EA (g:=λs3 a ex=>(hg s3 a ex).choose) (tc:=λs3 a ex=>(ht s3 a ex).choose) (te:=λs3 a ex=>(he s3 a ex).choose) w e hx u cs o (λs3 a ex=>(hg s3 a ex).choose_spec.1) (λs3 a ex=>(ht s3 a ex).choose_spec.1) (λs3 a ex=>(he s3 a ex).choose_spec.1) p f t,λd σ B z G H D E k h y=>?_⟩;show Qe j (Cg cs s n (λs3 a ex=>(hg s3 a ex).choose_spec.2) (λs3 a ex=>(ht s3 a ex).choose_spec.2) (λs3 a ex=>(he s3 a ex).choose_spec.2)) d σ B z G H _ _ k h λv A r C x l q=>y.nx _ _ C A x.g (k.put x l) q
end
section
variable{X:Cx}{pos:Pos}{e i':Expr}{te ti:TD}
noncomputable def pairsOf:List D->Option (List (Key×D))
 | []=>some []
 | .tup [k,v]::r=>match IB k with
  | some key=>(pairsOf r).map ((key,v)::·)
  | none=>none
 | _=>none
end
end L2
namespace HT
open PySem PyProof.Rows
noncomputable def cY:List Int->List Int->Bool
 | [],[]=>false
 | [],_::_=>false
 | _::_,[]=>true
 | x::xs,y::ys=>if x=y then cY xs ys else decide (y<x)
end HT
namespace L2
open PySem PySem.Spec PyProof.Rows
section
variable{prog:Program}{w:World}{A:Around}{Rz:Result->Shared->Prop}{I:Addr}{fp wr:List Addr}{n:Nat}{P:Nat->Value->Prop}{St:Nat->Heap->Prop}{Hk:Heap->Prop}
theorem Ce:(toString "max"++toString ".loop":String)="max.loop":=by decide
theorem Qd(W:Walks prog w A.in1 I fp wr 0 P St)(S:Addr)(a:S∉fp)(d:Value){z:Shared}{c:Nat}(st:St 0 z.heap)(f:z.heap.get? S=some { cls:=.type "list",dict:=none,data:=.seq #[] c,slots:=#[] })
  (fin:∀h' tk,(∀b o,b∉wr->z.heap.get? b=some o->h'.get? b=some o)->Rz (.ok (.ret d)) { z with heap:=h',toks:=tk }) :
  codeAny (model prog w) A (.builtin "max.loop" ⟨[.ref I,.none,.ref S],[("default",d)]⟩) Rz z:=by
 show codeAny_builtin F.entry_max_loop ?_;rw[bX F.plain_max_loop _];show wpAny _ A.in1 (seqItems? (.ref S) >>= _) _ _ z;show aa (wpAny_seqItems f rfl ?_);show wpAny _ A.in1 (tryCatch (pyNext (.ref I)) _ >>= _) _ _ z;show aa (wpAny_tryCatch (W.done z _ _ st λe tk kp=>?_));show aa (wpAny_rule (af (fin e tk kp)))
end
section
variable{prog:Program}{w:World}{A:Around}{E:Value->Shared->Prop}{s:Shared}
theorem Vb{a:String}{b:Builtin}{args:List Value}{d:List (Str×Value)}{Q:Value->Shared->Prop}(j:builtinKind a=none)(i:plainId a=true)(hb:entryFor table a=some b)(ha:argsOk a ⟨args,d⟩)
  (g:wpAny (model prog w) A.in1 (b ⟨args,d⟩) (λfin c=>match fin with
   | .done f=>(match (Except.ok f:Result) with | .ok (.ret v)=>Q v c | .ok _=>False | .error e=>E e c)
   | .again h=>h.quiet=true/\codeAny (model prog w) A h (λr c=>match r with | .ok (.ret v)=>Q v c | .ok _=>False | .error e=>E e c) c) E s) :
  wpAny (model prog w) A (call (.builtin a) args d) Q E s:=by
 show wpAny_call (codeAny_call_builtin i hb ?_);simp only[checkBuiltinCall,j];cases l:Manifest.signature? a with
 | none=>show af g
 | some sig=>
  have k:Bind.checkArgs a sig ⟨args,d⟩=pure ():=by simpa only[argsOk,l] using ha
  simp only[k];show af g
theorem TK(x d:Value):argsOk "max" ⟨[x],[("default",d)]⟩:=by unfold argsOk;kernel_rfl
end
end L2
namespace HT
theorem mU:∀t:List Int,cY t t=false
 | []=>rfl
 | a::t=>by unfold cY;simp[mU t]
theorem oA:∀a b:List Int,cY a b=true->cY b a=false
 | [],[],h=>rfl
 | [],_::_,h=>by unfold cY at h;cases h
 | _::_,[],h=>by unfold cY;rfl
 | x::xs,y::ys,h=>by
  unfold cY at h ⊢;by_cases e:x=y
  .subst e;simp only[aQ] at h ⊢;simpa using oA xs ys (by simpa using h)
  have c:¬y=x:=λx=>e x.symm
  simp[e,c] at h ⊢;ext
theorem lG:∀a b c:List Int,cY a b=false->cY b c=false->cY a c=false
 | [],[],c,h,d=>d
 | [],_::_,[],h,d=>by unfold cY;rfl
 | [],_::_,_::_,h,d=>by unfold cY;rfl
 | _::_,[],_,h,_=>by unfold cY at h;cases h
 | x::xs,y::ys,[],h,d=>by unfold cY at d;cases d
 | x::xs,y::ys,z::zs,h,d=>by
  unfold cY at h d ⊢;have g:=lG xs ys zs;by_cases e:x=y
  .subst e;by_cases f:x=z
   .subst f;simp at h d ⊢;show g h d
   simp[f] at h d ⊢;ext
  by_cases f:y=z
  .subst f;simp[e] at h d ⊢;ext
  simp[e,f] at h d;have i:¬x=z:=by ext
  simp[i];ext
end HT
namespace L2
open PySem PySem.Spec PyProof.Rows
section
variable{X:Cx}{pos p kp:Pos}{e e2:Expr}{te te2:TD}
def BH(P:V->Hp->Prop):List V->Hp->Prop:=λa H=>match a with
 | [x]=>P x H
 | _=>False
theorem JV{P:V->Hp->Prop}{a:List V}{H:Hp}(h:BH P a H):∃x,a=[x]:=by
 unfold BH at h;split at h
 .exact⟨_,rfl⟩
 show h.elim
noncomputable def nH:List D->Option (List (List Int))
 | []=>some []
 | .tup es::r=>match l9 es,nH r with
  | some a,some b=>some (a::b)
  | _,_=>none
 | _=>none
theorem Kl{K:J'}{G:Hp}:∀{es:List D}{c:List (List Int)}{d:List V},nH es=some c->cx K G d es->d.length=c.length/\∀(i:Nat) x t,d[i]?=some x->c[i]?=some t->Rep K G x (.tup (t.map D.int))/\∃b,x=.ref b/\gR K G b (t.map V.int)
 | [],c,[],h,_=>by simp only[nH,aZ] at h;subst h;show⟨rfl,λi x t e=>by simp at e⟩
 | .tup es::r,c,v::d,h,rs=>by
  simp only[cx] at rs;simp only[nH] at h;split at h
  .rename_i a b ha hb;simp only[aZ] at h;subst h;obtain⟨m,l⟩:=Kl hb rs.2;show⟨by simp[m],λi x t g e2=>?_⟩;cases i with
   | zero=>
    simp only[List.getElem?_cons_zero,aZ] at g e2;subst g e2;have f:=rs.1;rw[wL ha] at f;show⟨f,?_⟩;simp only[Rep] at f;obtain⟨p,xs,rfl,j,k⟩:=f;rw[wD k] at j;show⟨p,rfl,gR.of j⟩
   | succ i=>
    simp only[bR] at g e2;show l i x t g e2
  cases h
 | [],_,_::_,_,rs=>by simp only[cx] at rs
 | _::_,_,[],_,rs=>by simp only[cx] at rs
 | .int _::_,_,_::_,h,_=>by simp[nH] at h
 | .str _::_,_,_::_,h,_=>by simp[nH] at h
 | .lst _::_,_,_::_,h,_=>by simp[nH] at h
 | .non::_,_,_::_,h,_=>by simp[nH] at h
 | .bl _::_,_,_::_,h,_=>by simp[nH] at h
 | .obj _ _::_,_,_::_,h,_=>by simp[nH] at h
 | .dic _::_,_,_::_,h,_=>by simp[nH] at h
 | .dit _::_,_,_::_,h,_=>by simp[nH] at h
 | .exc _ _::_,_,_::_,h,_=>by simp[nH] at h
 | .idn _ _::_,_,_::_,h,_=>by simp[nH] at h
end
end L2
namespace Ts
open PySem PyProof.Rows
noncomputable def vg:Bool->Keyed->Array Keyed->Nat->Nat->Nat->StateT SortSt Sem (Option Nat):=sortPriv% PySem.Builtin.gallop
noncomputable def EL:Array Keyed->Array Keyed->StateT SortSt Sem (Array Keyed):=sortPriv% PySem.Builtin.mergeLo
noncomputable def EY:Array Keyed->Array Keyed->StateT SortSt Sem (Array Keyed):=sortPriv% PySem.Builtin.mergeHi
noncomputable def wx(left:Bool)(key:Keyed)(a:Array Keyed)(base i:Nat):StateT SortSt Sem (Option Bool):=do
 let x <-elem' a (base+i)
 if left then lt' x key else return (<-lt' key x).map (!·)
theorem TJ(left:Bool)(key:Keyed)(b:Array Keyed)(base n a:Nat):vg left key b base n a=(do
 let mut k7:=0
 let mut rE:=1
 let mut lo:=0
 let mut hi:=0
 let some right <-wx left key b base a | return none
 if right then
  let c:=n-a
  for _ in [0:n] do
   if rE>=c then break
   let some more <-wx left key b base (a+rE) | return none
   if !more then break
   k7:=rE
   rE:=2*rE+1
  lo:=a+k7+1
  hi:=a+min rE c
 else
  let c:=a+1
  for _ in [0:n] do
   if rE>=c then break
   let some found <-wx left key b base (a-rE) | return none
   if found then break
   k7:=rE
   rE:=2*rE+1
  lo:=a+1-min rE c
  hi:=a-k7
 for _ in [0:n] do
  if lo>=hi then break
  let m:=lo+(hi-lo)/2
  let some more <-wx left key b base m | return none
  if more then lo:=m+1 else hi:=m
 return some hi):=rfl
variable{M:Model}{A:Around}{E:Value->Shared->Prop}{s:Shared}
structure Rk(M:Model)(A:Around)(E:Value->Shared->Prop)(s:Shared)(κ:SortKind)(ok:Keyed->Prop)(rk:Keyed->Int):Prop where
 lt:∀x y (st:SortSt) (Q:Option Bool->SortSt->Prop),ok x->ok y->kindOf st=κ->Q (some (decide (rk x<rk y))) st->wpS M A E s (lt' x y) Q st
theorem lq{a:Array Keyed}{i:Nat}{Q:Keyed->SortSt->Prop}{st:SortSt}(h:i<a.size)(q:Q a[i] st):wpS M A E s (elem' a i) Q st:=by
 rw[elem'_eq,Array.getElem?_eq_getElem h];show aA q
theorem TH{b:SortKind}{ok:Keyed->Prop}{rk:Keyed->Int}(R:Rk M A E s b ok rk){left:Bool}{key:Keyed}{a:Array Keyed}{base i:Nat}{Q:Option Bool->SortSt->Prop}{st:SortSt}(d:kindOf st=b)(c:∀x∈a,ok x)(e:ok key)(h:base+i<a.size)
  (q:Q (some (if left=true then decide (rk a[base+i]<rk key) else !decide (rk key<rk a[base+i]))) st):wpS M A E s (wx left key a base i) Q st:=by
 unfold wx;show au (lq h ?_);cases left with
 | true=>show R.lt _ _ st _ (c _ (bA h)) e d q
 | false=>show au (R.lt _ _ st _ e (c _ (bA h)) d (aA q))
def Cut(b:Nat->Bool)(n k:Nat):Prop:=k<=n/\∀i,i<n->(b i=true↔i<k)
theorem yh{u:SortKind}{ok:Keyed->Prop}{rk:Keyed->Int}(R:Rk M A E s u ok rk){left:Bool}{key:Keyed}{g:Array Keyed}{base n a k:Nat}{Q:Option Nat->SortSt->Prop}{st:SortSt}(y:kindOf st=u)(w:∀x∈g,ok x)(z:ok key)(hn:base+n<=g.size)(hh:a<n)
  (v:Cut (λi=>if left=true then decide (rk (g.getD (base+i) (Value.none,Value.none))<rk key) else !decide (rk key<rk (g.getD (base+i) (Value.none,Value.none)))) n k) (q:Q (some k) st):wpS M A E s (vg left key g base n a) Q st:=by
 have p:∀i,i<n->∀{t:Option Bool->SortSt->Prop},t (some (decide (i<k))) st->wpS M A E s (wx left key g base i) t st:=λi hi t h=>by
  show TH R y w z (by ext) ?_;have f:=v.2 i hi;have e:g.getD (base+i) (Value.none,Value.none)=g[base+i]'(by ext):=by simp[Array.getD,show base+i<g.size by ext]
  dsimp only at f;rw[e] at f;rw[show(if left=true then decide (rk (g[base+i]'(by ext))<rk key) else !decide (rk key<rk (g[base+i]'(by ext))))=decide (i<k) by rw[Bool.eq_iff_iff,f,bE]];show h
 have B:=v.1;rw[TJ];show au (p a hh ?_);dsimp only;by_cases h0:a<k
 .simp only[h0,bY,aQ];show au (wpS_mono (bJ (Q:=λc j=>j=st/\c.1=none/\a+c.2.1<k/\k<=a+min c.2.2 (n-a)) (λi c j=>j=st/\c.1=none/\a+c.2.1<k/\i+1<=c.2.2) ?_ ?_ ⟨rfl,rfl,by show a+0<k;ext,by show 0+1<=1;ext⟩) ?_)
  .rintro i ⟨c1,la,of⟩ j _ r ⟨rfl,b,d,f⟩;dsimp only at b d f ⊢;subst b;by_cases hd:of>=n-a
   .rw[if_pos hd];show aA ⟨rfl,rfl,d,by dsimp only;ext⟩
   rw[if_neg hd];show au (p _ (by ext) ?_);dsimp only;by_cases hm:a+of<k
   .simp only[hm,bY,Bool.not_true,aj,aP];show aA ⟨rfl,rfl,hm,by dsimp only;ext⟩
   simp only[hm,bO,Bool.not_false,aQ];show aA ⟨rfl,rfl,d,by dsimp only;ext⟩
  .rintro⟨c1,la,of⟩ j ⟨rfl,b,d,f⟩;dsimp only at b d f ⊢;show⟨rfl,b,d,by rw[Nat.max_eq_right (aN n)] at f;ext⟩
  rintro⟨c1,la,of⟩ j ⟨rfl,b,d,f⟩;dsimp only at b d f ⊢;subst b;dsimp only;show au (wpS_mono (bJ (Q:=λc m=>m=j/\c.1=none/\c.2.2=k) (λi c m=>m=j/\c.1=none/\c.2.1<=k/\k<=c.2.2/\c.2.2<=n/\c.2.2-c.2.1+i<=n) ?_ ?_ ⟨rfl,rfl,by dsimp only;ext,by dsimp only;ext,by dsimp only;ext,by dsimp only;ext⟩) ?_)
  .rintro i ⟨c1,lo,hi⟩ m _ r ⟨rfl,b,d,f,l,o⟩;dsimp only at b d f l o ⊢;subst b;by_cases hd:lo>=hi
   .rw[if_pos hd];show aA ⟨rfl,rfl,by dsimp only;ext⟩
   rw[if_neg hd];show au (p _ (by ext) ?_);dsimp only;by_cases hm:lo+(hi-lo)/2<k
   .simp only[hm,bY,aQ];show aA ⟨rfl,rfl,by dsimp only;ext,f,l,by dsimp only;ext⟩
   simp only[hm,bO,aj,aP];show aA ⟨rfl,rfl,d,by dsimp only;ext,by dsimp only;ext,by dsimp only;ext⟩
  .rintro⟨c1,lo,hi⟩ m ⟨rfl,b,d,f,l,o⟩;dsimp only at b d f l o ⊢;show⟨rfl,b,by ext⟩
  rintro⟨c1,lo,hi⟩ m ⟨rfl,b,d⟩;dsimp only at b d ⊢;subst b d;show aA q
 simp only[h0,bO,aj,aP];show au (wpS_mono (bJ (Q:=λc j=>j=st/\c.1=none/\k<=a-c.2.1/\c.2.1<=a/\a+1-min c.2.2 (a+1)<=k) (λi c j=>j=st/\c.1=none/\k<=a-c.2.1/\c.2.1<=a/\i+1<=c.2.2) ?_ ?_ ⟨rfl,rfl,by show k<=a-0;ext,aN _,by show 0+1<=1;ext⟩) ?_)
 .rintro i ⟨c1,la,of⟩ j _ r ⟨rfl,b,d,f,l⟩;dsimp only at b d f l ⊢;subst b;by_cases hd:of>=a+1
  .rw[if_pos hd];show aA ⟨rfl,rfl,d,f,by dsimp only;ext⟩
  rw[if_neg hd];show au (p _ (by ext) ?_);dsimp only;by_cases hm:a-of<k
  .simp only[hm,bY,aQ];show aA ⟨rfl,rfl,d,f,by dsimp only;ext⟩
  simp only[hm,bO,aj,aP];show aA ⟨rfl,rfl,by dsimp only;ext,by dsimp only;ext,by dsimp only;ext⟩
 .rintro⟨c1,la,of⟩ j ⟨rfl,b,d,f,l⟩;dsimp only at b d f l ⊢;show⟨rfl,b,d,f,by rw[Nat.max_eq_right (aN n)] at l;ext⟩
 rintro⟨c1,la,of⟩ j ⟨rfl,b,d,f,l⟩;dsimp only at b d f l ⊢;subst b;dsimp only;show au (wpS_mono (bJ (Q:=λc m=>m=j/\c.1=none/\c.2.2=k) (λi c m=>m=j/\c.1=none/\c.2.1<=k/\k<=c.2.2/\c.2.2<=n/\c.2.2-c.2.1+i<=n) ?_ ?_ ⟨rfl,rfl,by dsimp only;ext,by dsimp only;ext,by dsimp only;ext,by dsimp only;ext⟩) ?_)
 .rintro i ⟨c1,lo,hi⟩ m _ r ⟨rfl,b,d,f,l,o⟩;dsimp only at b d f l o ⊢;subst b;by_cases hd:lo>=hi
  .rw[if_pos hd];show aA ⟨rfl,rfl,by dsimp only;ext⟩
  rw[if_neg hd];show au (p _ (by ext) ?_);dsimp only;by_cases hm:lo+(hi-lo)/2<k
  .simp only[hm,bY,aQ];show aA ⟨rfl,rfl,by dsimp only;ext,f,l,by dsimp only;ext⟩
  simp only[hm,bO,aj,aP];show aA ⟨rfl,rfl,d,by dsimp only;ext,by dsimp only;ext,by dsimp only;ext⟩
 .rintro⟨c1,lo,hi⟩ m ⟨rfl,b,d,f,l,o⟩;dsimp only at b d f l o ⊢;show⟨rfl,b,by ext⟩
 rintro⟨c1,lo,hi⟩ m ⟨rfl,b,d⟩;dsimp only at b d ⊢;subst b d;show aA q
variable{α:Type}(rk:α->Int)
structure MI(a b out:List α)(ia ib:Nat):Prop where
 la:ia<=a.length
 lb:ib<=b.length
 pm:out.Perm (a.take ia++b.take ib)
 so:out.Pairwise λx y=>rk x<=rk y
 ga:∀x∈out,∀y∈a.drop ia,rk x<=rk y
 gb:∀x∈out,∀y∈b.drop ib,rk x<=rk y
variable{rk}
theorem MI.len{a b out:List α}{d c:Nat}(h:MI rk a b out d c):out.length=d+c:=by
 have:=h.pm.length_eq;rw[ar,aL,aL] at this;have:=h.la;have:=h.lb;ext
theorem LK{l:List α}{i k:Nat}:l.drop i=(l.drop i).take k++l.drop (i+k):=by
 rw[<-List.drop_drop,bB]
theorem MI.ip{a b out:List α}{c f:Nat}(h:MI rk a b out c f)(sa:a.Pairwise λx y=>rk x<=rk y){k:Nat}(g:c+k<=a.length)(hb:∀x∈(a.drop c).take k,∀y∈b.drop f,rk x<=rk y):MI rk a b (out++(a.drop c).take k) (c+k) f:=by
 have e:(a.drop c).Pairwise λx y=>rk x<=rk y:=sa.sublist (List.drop_sublist _ _)
 rw[LK (k:=k),ba] at e;have ha:=h.ga;rw[LK (k:=k)] at ha;show⟨g,h.lb,?_,?_,λx hx y d=>?_,λx hx y d=>?_⟩
 .rw[List.take_add];have:=h.pm.append_right ((a.drop c).take k);show this.trans ?_;rw[bp,bp];show List.Perm.append_left _ List.perm_append_comm
 .rw[ba];show⟨h.so,e.1,λx hx y d=>ha x hx y (List.mem_append_left _ d)⟩
 .rcases av.mp hx with hx | hx
  .exact ha x hx y (aW _ d)
  show e.2.2 x hx y d
 rcases av.mp hx with hx | hx
 .exact h.gb x hx y d
 show hb x hx y d
theorem MI.swap{a b out:List α}{d c:Nat}(h:MI rk a b out d c):MI rk b a out c d:=⟨h.lb,h.la,h.pm.trans List.perm_append_comm,h.so,h.gb,h.ga⟩
theorem MI.lK{a b out:List α}{d c:Nat}(h:MI rk a b out d c)(e:b.Pairwise λx y=>rk x<=rk y){k:Nat}(f:c+k<=b.length)(ha:∀x∈(b.drop c).take k,∀y∈a.drop d,rk x<=rk y):MI rk a b (out++(b.drop c).take k) d (c+k):=(h.swap.ip e f ha).swap
theorem Kk{l:List α}{i:Nat}(h:i<l.length):(l.drop i).take 1=[l[i]]:=by
 rw[bG h];rfl
theorem TF{l:List α}(s:l.Pairwise λx y=>rk x<=rk y){i:Nat}(h:i<l.length):∀y∈l.drop i,rk l[i]<=rk y:=by
 intro y a;rw[bG h] at a;rcases ao.mp a with rfl | a
 .exact Int.le_refl _
 have b:(l.drop i).Pairwise λx y=>rk x<=rk y:=s.sublist (List.drop_sublist _ _)
 rw[bG h,bN] at b;show b.1 y a
theorem MI.kK{a b out:List α}{c d:Nat}(h:MI rk a b out c d)(sa:a.Pairwise λx y=>rk x<=rk y)(f:b.Pairwise λx y=>rk x<=rk y)(hi:c<a.length)(i:d<b.length)(e:rk a[c]<=rk b[d]):MI rk a b (out++[a[c]]) (c+1) d:=by
 have:=h.ip sa (k:=1) (by ext) (λx hx y g=>by
  rw[Kk hi] at hx;simp at hx;subst hx;show Int.le_trans e (TF f i y g))
 rwa [Kk hi] at this
theorem MI.mT{a b out:List α}{d c:Nat}(h:MI rk a b out d c)(sa:a.Pairwise λx y=>rk x<=rk y)(f:b.Pairwise λx y=>rk x<=rk y)(hi:d<a.length)(g:c<b.length)(e:rk b[c]<=rk a[d]):MI rk a b (out++[b[c]]) d (c+1):=(h.swap.kK f sa g hi e).swap
theorem MI.j4{a b out:List α}{c d:Nat}(h:MI rk a b out c d)(sa:a.Pairwise λx y=>rk x<=rk y)(j:b.Pairwise λx y=>rk x<=rk y)(e:∀x∈a.drop c,∀y∈b.drop d,rk x<=rk y) :
  (out++a.drop c++b.drop d).Perm (a++b)/\(out++a.drop c++b.drop d).Pairwise λx y=>rk x<=rk y:=by
 have i:=h.ip sa (k:=a.length-c) (by have:=h.la;ext) (λx hx=>e x (List.mem_of_mem_take hx));have m:(a.drop c).take (a.length-c)=a.drop c:=bx (by simp);rw[m] at i
 have f:=i.lK j (k:=b.length-d) (by have:=h.lb;ext) (λx hx y g=>by
  rw[show c+(a.length-c)=a.length by have:=h.la;ext,List.drop_length] at g;cases g)
 have l:(b.drop d).take (b.length-d)=b.drop d:=bx (by simp);rw[l] at f;show⟨?_,f.so⟩;have:=f.pm;rwa [show c+(a.length-c)=a.length by have:=h.la;ext,show d+(b.length-d)=b.length by have:=h.lb;ext,bS,bS] at this
theorem MI.nh{a b out:List α}{d c:Nat}(h:MI rk a b out d c)(sa:a.Pairwise λx y=>rk x<=rk y)(f:b.Pairwise λx y=>rk x<=rk y)(e:∀x∈b.drop c,∀y∈a.drop d,rk x<=rk y) :
  (out++b.drop c++a.drop d).Perm (a++b)/\(out++b.drop c++a.drop d).Pairwise λx y=>rk x<=rk y:=by
 obtain⟨i,g⟩:=h.swap.j4 f sa e;show⟨i.trans List.perm_append_comm,g⟩
abbrev oi(st:SortSt)(g:Nat):SortSt:=SortSt.mk' (kindOf st) (arrOf st) (pendingOf st) g (failedOf st)
noncomputable def Aa:Nat->StateT SortSt Sem Unit:=sortPriv% PySem.Builtin.setMinGallop
theorem CZ(g:Nat):Aa g=modify λst=>oi st g:=rfl
theorem UP(a b:Array Keyed):EL a b=(do
 rule "list.sort.merge-lo"
 let total:=a.size+b.size
 let done (out:Array Keyed) (c d:Nat):=out++a.extract c a.size++b.extract d b.size
 let e (out:Array Keyed) (c d:Nat):=out++b.extract d b.size++a.extract c a.size
 let mut out:Array Keyed:=#[<-elem' b 0]
 let mut c:=0
 let mut d:=1
 if d==b.size then return done out c d
 if c+1==a.size then return e out c d
 let mut minGallop:=gallopOf (<-get)
 for _ in [0:total] do
  let mut fS:=0
  let mut fR:=0
  for _ in [0:total] do
   let some f <-lt' (<-elem' b d) (<-elem' a c) | return done out c d
   if f then
    out:=out.push (<-elem' b d);d:=d+1;fR:=fR+1;fS:=0
    if d==b.size then return done out c d
    if fR>=minGallop then break
   else
    out:=out.push (<-elem' a c);c:=c+1;fS:=fS+1;fR:=0
    if c+1==a.size then return e out c d
    if fS>=minGallop then break
  rule "list.sort.gallop"
  minGallop:=minGallop+1
  for _ in [0:total] do
   if minGallop>1 then minGallop:=minGallop-1
   Aa minGallop
   let some k <-vg false (<-elem' b d) a c (a.size-c) 0 | return done out c d
   fS:=k
   if k>0 then
    out:=out++a.extract c (c+k);c:=c+k
    if c+1==a.size then return e out c d
    if c==a.size then return done out c d
   out:=out.push (<-elem' b d);d:=d+1
   if d==b.size then return done out c d
   let some k <-vg true (<-elem' a c) b d (b.size-d) 0 | return done out c d
   fR:=k
   if k>0 then
    out:=out++b.extract d (d+k);d:=d+k
    if d==b.size then return done out c d
   out:=out.push (<-elem' a c);c:=c+1
   if c+1==a.size then return e out c d
   if fS<7&&fR<7 then break
  minGallop:=minGallop+1
  Aa minGallop
 unsupported "internal:list.sort.merge-bound"):=rfl
variable{M:Model}{A:Around}{E:Value->Shared->Prop}{s:Shared}
theorem yf{x:String}{Q:Unit->SortSt->Prop}{st:SortSt}(q:Q () st):wpS M A E s (liftM (rule x):StateT SortSt Sem Unit) Q st:=wpS_lift (wpAny_rule ⟨rfl,q⟩)
def fK(rk:Keyed->Int)(l:List Keyed):Prop:=l.Pairwise λx y=>rk x<=rk y
def pT(rk:Keyed->Int)(a b r:Array Keyed):Prop:=r.toList.Perm (a.toList++b.toList)/\fK rk r.toList
structure Mw(rk:Keyed->Int)(a b out:Array Keyed)(ia ib:Nat):Prop where
 mi:MI rk a.toList b.toList out.toList ia ib
 la:ia+1<a.size
 lb:ib<b.size
section
variable{rk:Keyed->Int}{a b out:Array Keyed}{ia ib:Nat}
theorem Cu(a:Array Keyed)(i:Nat):(a.extract i a.size).toList=a.toList.drop i:=by
 rw[Array.toList_extract];simp only[List.extract];show bx (by simp)
theorem JU(a:Array Keyed)(i k:Nat):(a.extract i (i+k)).toList=(a.toList.drop i).take k:=by
 rw[Array.toList_extract];simp[List.extract]
theorem Kj(a:Array Keyed):a.toList.drop a.size=[]:=by simp
theorem zz(h:MI rk a.toList b.toList out.toList ia ib)(sa:fK rk a.toList)(d:fK rk b.toList)(hi:ia=a.size\/ib=b.size):pT rk a b (out++a.extract ia a.size++b.extract ib b.size):=by
 obtain⟨g,f⟩:=h.j4 sa d (λx hx y c=>by
  rcases hi with e | e
  .rw[e,Kj] at hx;cases hx
  .rw[e,Kj] at c;cases c)
 unfold pT fK;rw[bC,bC,Cu,Cu];show⟨g,f⟩
theorem CL(h:MI rk a.toList b.toList out.toList ia ib)(sa:fK rk a.toList)(d:fK rk b.toList)(ha:0<a.size)(hi:ia+1=a.size)(g:∀x∈b,rk x<rk (a[a.size-1])):pT rk a b (out++b.extract ib b.size++a.extract ia a.size):=by
 obtain⟨j,i⟩:=h.nh sa d (λx hx y c=>by
  have e:a.toList.drop ia=[a[a.size-1]]:=by
   have f:ia<a.toList.length:=by simp;ext
   rw[bG f,List.drop_eq_nil_of_le (by simp;ext)];simp[show ia=a.size-1 by ext]
  rw[e] at c;simp at c;have:=g x (by simpa using List.mem_of_mem_drop hx);rw[c];ext)
 unfold pT fK;rw[bC,bC,Cu,Cu];show⟨j,i⟩
end
theorem vc(p:Nat->Bool):∀n,(∀i j,i<=j->j<n->p j=true->p i=true)->∃k,Cut p n k
 | 0,_=>⟨0,ay _,λi hi=>absurd hi (Nat.not_lt_zero i)⟩
 | n+1,h=>by
  obtain⟨k,k1,k2⟩:=vc p n λi j b c=>h i j b (by ext)
  cases a:p n with
  | true=>
   show⟨n+1,ay _,λi hi=>⟨λ_=>hi,λ_=>?_⟩⟩;show h i n (by ext) (by ext) a
  | false=>
   show⟨k,by ext,λi hi=>?_⟩;by_cases e:i=n
   .subst e;rw[a];show⟨λz=>(by cases z),λz=>by ext⟩
   show k2 i (by ext)
noncomputable abbrev dk:Keyed:=(Value.none,Value.none)
theorem mv{a:Array Keyed}{i:Nat}(h:i<a.size):a.getD i dk=a[i]:=by simp[Array.getD,h]
theorem vm{rk:Keyed->Int}{a:Array Keyed}(sa:fK rk a.toList){i j:Nat}(h:i<=j)(b:j<a.size):rk (a.getD i dk)<=rk (a.getD j dk):=by
 rw[mv b,mv (by ext)];by_cases e:i=j
 .subst e;show Int.le_refl _
 have:=List.pairwise_iff_getElem.mp sa i j (by simp;ext) (by simpa using b) (by ext);simpa using this
theorem JT{a:Array Keyed}{i k:Nat}(h:i+k<=a.size){x:Keyed}(hx:x∈(a.toList.drop i).take k):∃t,t<k/\x=a.getD (i+t) dk:=by
 obtain⟨t,ht,e⟩:=bP hx;have b:t<k:=by simp at ht;ext
 show⟨t,b,?_⟩;rw[mv (by ext),<-e];simp
theorem JS{a:Array Keyed}{i:Nat}{x:Keyed}(hx:x∈a.toList.drop i):∃t,i+t<a.size/\x=a.getD (i+t) dk:=by
 obtain⟨t,ht,e⟩:=bP hx;have b:i+t<a.size:=by simp at ht;ext
 show⟨t,b,?_⟩;rw[mv b,<-e];simp
theorem N1{rk:Keyed->Int}{a:Array Keyed}(sa:fK rk a.toList)(b:Nat)(key:Keyed):∃k,Cut (λi=>if false=true then decide (rk (a.getD (b+i) dk)<rk key) else !decide (rk key<rk (a.getD (b+i) dk))) (a.size-b) k:=
 vc _ _ λi j c d h=>by
  have:=vm (rk:=rk) sa (show b+i<=b+j by ext) (by ext);simp only[aj,aP,bK,bj] at h ⊢;ext
theorem Ow{rk:Keyed->Int}{b:Array Keyed}(c:fK rk b.toList)(a:Nat)(key:Keyed):∃k,Cut (λi=>if true=true then decide (rk (b.getD (a+i) dk)<rk key) else !decide (rk key<rk (b.getD (a+i) dk))) (b.size-a) k:=
 vc _ _ λi j d e h=>by
  have:=vm (rk:=rk) c (show a+i<=a+j by ext) (by ext);simp only[aQ,bE] at h ⊢;ext
theorem MI.xx{rk:Keyed->Int}{a b out:Array Keyed}{c d k:Nat}(h:MI rk a.toList b.toList out.toList c d)(sa:fK rk a.toList)(g:fK rk b.toList)(la:c<a.size)(lb:d<b.size)(e:Cut (λi=>if false=true then decide (rk (a.getD (c+i) dk)<rk b[d]) else !decide (rk b[d]<rk (a.getD (c+i) dk))) (a.size-c) k) :
  MI rk a.toList b.toList (out++a.extract c (c+k)).toList (c+k) d/\c+k<=a.size/\(c+k<a.size->rk b[d]<rk (a.getD (c+k) dk)):=by
 have o:=e.1;show⟨?_,by ext,λn=>?_⟩
 .rw[bC,JU];show h.ip sa (by simp;ext) λx hx y j=>?_
  obtain⟨t,ht,rfl⟩:=JT (by ext) hx;obtain⟨u,l,rfl⟩:=JS j;have f:=(e.2 t (by ext)).mpr ht;have m:=vm (rk:=rk) g (show d<=d+u by ext) l;rw[mv lb] at m;simp only[aj,aP,bK,bj] at f;ext
 have f:=mt (e.2 k (by ext)).mp (Nat.lt_irrefl k);simpa using f
theorem MI.xw{rk:Keyed->Int}{a b out:Array Keyed}{d c k:Nat}(h:MI rk a.toList b.toList out.toList d c)(sa:fK rk a.toList)(g:fK rk b.toList)(la:d<a.size)(lb:c<=b.size)(e:Cut (λi=>if true=true then decide (rk (b.getD (c+i) dk)<rk a[d]) else !decide (rk a[d]<rk (b.getD (c+i) dk))) (b.size-c) k) :
  MI rk a.toList b.toList (out++b.extract c (c+k)).toList d (c+k)/\c+k<=b.size/\(c+k<b.size->rk a[d]<=rk (b.getD (c+k) dk)):=by
 have o:=e.1;show⟨?_,by ext,λn=>?_⟩
 .rw[bC,JU];show h.lK g (by simp;ext) λx hx y j=>?_
  obtain⟨t,ht,rfl⟩:=JT (by ext) hx;obtain⟨u,l,rfl⟩:=JS j;have f:=(e.2 t (by ext)).mpr ht;have m:=vm (rk:=rk) sa (show d<=d+u by ext) l;rw[mv la] at m;simp only[aQ,bE] at f;ext
 have f:=mt (e.2 k (by ext)).mp (Nat.lt_irrefl k);simpa using f
theorem JR{a:Type}{f:Nat->StateT SortSt Sem a}{c:Prop}{_:Decidable c}{x y:Nat}{Q:a->SortSt->Prop}{st:SortSt}(h:∀n,wpS M A E s (f n) Q st):wpS M A E s (if c then f x else f y) Q st:=by split<;>show h _
theorem JQ{a:Type}{f:Array Keyed->Nat->StateT SortSt Sem a}{c c1:Prop}{_:Decidable c}{_:Decidable c1}{b:StateT SortSt Sem a}{o1 o0:Array Keyed}{i1 i0:Nat}{Q:a->SortSt->Prop}{st:SortSt}(P:Array Keyed->Nat->Prop)(h:∀o i,P o i->wpS M A E s (f o i) Q st)(j:c->c1->wpS M A E s b Q st)
  (g:c->¬c1->P o1 i1) (e:¬c->P o0 i0):wpS M A E s (if c then(if c1 then b else f o1 i1) else f o0 i0) Q st:=by
 split
 .rename_i d;split
  .rename_i h;show j d h
  rename_i z;show h _ _ (g d z)
 rename_i z;show h _ _ (e z)
theorem JP{b:Type}{f:Array Keyed->Nat->StateT SortSt Sem b}{c c1 a:Prop}{_:Decidable c}{_:Decidable c1}{_:Decidable a}{g e:StateT SortSt Sem b}{o1 o0:Array Keyed}{i1 i0:Nat}{Q:b->SortSt->Prop}{st:SortSt}(P:Array Keyed->Nat->Prop)(h:∀o i,P o i->wpS M A E s (f o i) Q st)
  (m:c->c1->wpS M A E s g Q st) (l:c->¬c1->a->wpS M A E s e Q st) (k:c->¬c1->¬a->P o1 i1) (j:¬c->P o0 i0):wpS M A E s (if c then(if c1 then g else if a then e else f o1 i1) else f o0 i0) Q st:=by
 split
 .rename_i d;split
  .rename_i h;show m d h
  rename_i z;split
  .rename_i y;show l d z y
  rename_i y;show h _ _ (k d z y)
 rename_i z;show h _ _ (j z)
theorem UO{Y:SortKind}{ok:Keyed->Prop}{rk:Keyed->Int}(R:Rk M A E s Y ok rk){a b:Array Keyed}{Q:Array Keyed->SortSt->Prop}{st:SortSt}(L:kindOf st=Y)(K:∀x∈a,ok x)(ob:∀x∈b,ok x)(sa:fK rk a.toList)(n:fK rk b.toList)(ha:0<a.size)(hb:0<b.size)
  (h0:rk b[0]<rk a[0]) (H:∀x∈b,rk x<rk (a[a.size-1])) (q:∀(r:Array Keyed) g,r.toList.Perm (a.toList++b.toList)->fK rk r.toList->Q r (oi st g)):wpS M A E s (EL a b) Q st:=by
 rw[UP];show au (yf ?_);show au (lq hb ?_);dsimp only;have O:st=oi st (gallopOf st):=rfl;have m0:MI rk a.toList b.toList (#[b[0]]:Array Keyed).toList 0 1:=by
  have n0:MI rk a.toList b.toList [] 0 0:=⟨aN _,aN _,by simp,.nil,λx hx=>(by cases hx),λx hx=>(by cases hx)⟩
  have:=n0.mT sa n (by simpa using ha) (by simpa using hb) (by simp only[aT];ext);simpa using this
 by_cases c1:1=b.size
 .rw[if_pos (by simpa using c1)];show aA ?_;rw[O];obtain⟨g1,g2⟩:=zz m0 sa n (.inr c1);show q _ _ g1 g2
 rw[if_neg (by simpa using c1)];by_cases U:0+1=a.size
 .rw[if_pos (by simpa using U)];show aA ?_;rw[O];obtain⟨g1,g2⟩:=CL m0 sa n ha U H;show q _ _ g1 g2
 rw[if_neg (by simpa using U)];show au (wpS_get ?_);show au (wpS_mono (bJ (Q:=λ(c:Option (Array Keyed)×Array Keyed×Nat×Nat×Nat) l=>∃g r,l=oi st g/\c.1=some r/\pT rk a b r) (λi (c:Option (Array Keyed)×Array Keyed×Nat×Nat×Nat) l=>(∃g,l=oi st g)/\c.1=none/\Mw rk a b c.2.1 c.2.2.1 c.2.2.2.1/\i<c.2.1.size) ?_ ?_ ⟨⟨_,O⟩,rfl,⟨m0,by dsimp only;ext,by dsimp only;ext⟩,by simp⟩) ?_)
 .rintro i ⟨c1,out,h,f,mg⟩ l _ nU ⟨⟨g,rfl⟩,p,d,m⟩;dsimp only at p d m ⊢;subst p;show au (wpS_mono (bJ (Q:=λ(c:Option (Array Keyed)×Array Keyed×Nat×Nat×Nat×Nat) l=>(l=oi st g)/\((∃r,c.1=some r/\pT rk a b r)\/(c.1=none/\Mw rk a b c.2.1 c.2.2.1 c.2.2.2.1/\i+1<c.2.1.size)))
   (λj (c:Option (Array Keyed)×Array Keyed×Nat×Nat×Nat×Nat) l=>(l=oi st g)/\c.1=none/\Mw rk a b c.2.1 c.2.2.1 c.2.2.2.1/\i+j<c.2.1.size) ?_ ?_ ⟨rfl,rfl,d,by dsimp only;ext⟩) ?_)
  .rintro j ⟨c1,out,h,f,ac,D⟩ l _ Hw ⟨rfl,p,d,m⟩;dsimp only at p d m ⊢;subst p;have la:=d.la;have lb:=d.lb;have ML:h<a.toList.length:=by simp;ext
   have MK:f<b.toList.length:=by simpa using lb
   show au (lq lb (au (lq (show h<a.size by ext) (au (R.lt _ _ _ _ (ob _ (bA _)) (K _ (bA _)) L ?_)))));dsimp only;by_cases eA:rk b[f]<rk (a[h]'(by ext))
   .simp only[eA,bY,aQ];have t:=d.mi.mT sa n ML MK (by simp only[aT];ext);rw[aT,<-bV] at t;show au (lq lb ?_);by_cases u:f+1=b.size
    .rw[if_pos (by simpa using u)];show aA ⟨rfl,.inl ⟨_,rfl,zz t sa n (.inr u)⟩⟩
    rw[if_neg (by simpa using u)];split
    .exact aA ⟨rfl,.inr ⟨rfl,⟨t,la,by dsimp only;ext⟩,by simp;ext⟩⟩
    show aA ⟨rfl,rfl,⟨t,la,by dsimp only;ext⟩,by simp;ext⟩
   simp only[eA,bO,aj,aP];have F:=d.mi.kK sa n ML MK (by simp only[aT];ext);rw[aT,<-bV] at F;show au (lq (show h<a.size by ext) ?_);by_cases u:h+1+1=a.size
   .rw[if_pos (by simpa using u)];show aA ⟨rfl,.inl ⟨_,rfl,CL F sa n ha u H⟩⟩
   rw[if_neg (by simpa using u)];split
   .exact aA ⟨rfl,.inr ⟨rfl,⟨F,by dsimp only;ext,lb⟩,by simp;ext⟩⟩
   show aA ⟨rfl,rfl,⟨F,by dsimp only;ext,lb⟩,by simp;ext⟩
  .rintro⟨c1,out,h,f,ac,D⟩ l ⟨rfl,p,d,m⟩;dsimp only at p d m ⊢;show⟨rfl,.inr ⟨p,d,by rw[Nat.max_eq_right (aN _)] at m;ext⟩⟩
  rintro⟨c1,out,h,f,ac,D⟩ l ⟨rfl,C⟩;dsimp only at C ⊢;rcases C with⟨r,rfl,N⟩ | ⟨rfl,d,m⟩
  .exact aA ⟨g,r,rfl,rfl,N⟩
  dsimp only;show au (yf ?_);show au (wpS_mono (bJ (Q:=λ(c:Option (Array Keyed)×Array Keyed×Nat×Nat×Nat×Nat×Nat) l=>(∃g,l=oi st g)/\((∃r,c.1=some r/\pT rk a b r)\/(c.1=none/\Mw rk a b c.2.1 c.2.2.1 c.2.2.2.1/\i+1<c.2.1.size)))
   (λj (c:Option (Array Keyed)×Array Keyed×Nat×Nat×Nat×Nat×Nat) l=>(∃g,l=oi st g)/\c.1=none/\Mw rk a b c.2.1 c.2.2.1 c.2.2.2.1/\i+1<c.2.1.size) ?_ ?_ ⟨⟨_,rfl⟩,rfl,d,m⟩) ?_)
  .clear d m;rintro j ⟨c1,out,h,f,mg,ac,D⟩ l _ Hw ⟨⟨g,rfl⟩,p,d,m⟩;dsimp only at p d m ⊢;subst p;have la:=d.la;have lb:=d.lb;have ol:=d.mi.len;rw[ai] at ol;generalize mg-1=GB;apply JR (x:=GB) (y:=mg);intro Xy;rw[CZ];show au (wpS_modify (au (lq lb ?_)));obtain⟨k,T⟩:=N1 sa h b[f];show au (yh R L K (ob _ (bA _)) (by ext) (by ext) T ?_);dsimp only;obtain⟨w,Z,B⟩:=d.mi.xx sa n (by ext) lb T;have k0:¬k>0->h+k=h:=λz=>by ext
   generalize out++a.extract h (h+k)=o1 at w ⊢;have lo1:h<=h+k:=Nat.le_add_right _ _;generalize h+k=i1 at w Z B k0 lo1 ⊢;apply JP (o1:=o1) (i1:=i1) (o0:=out) (i0:=h) (λo i=>MI rk a.toList b.toList o.toList i f/\i+1<a.size/\h<=i/\rk b[f]<rk (a.getD i dk));rotate_left
   .exact λ_ e=>aA ⟨⟨_,rfl⟩,.inl ⟨_,rfl,CL w sa n ha (by simpa using e) H⟩⟩
   .exact λ_ _ e=>aA ⟨⟨_,rfl⟩,.inl ⟨_,rfl,zz w sa n (.inl (by simpa using e))⟩⟩
   .intro _ u e2;have u:¬i1+1=a.size:=by simpa using u
    have e2:¬i1=a.size:=by simpa using e2
    show⟨w,by ext,lo1,B (by ext)⟩
   .intro z;have:=k0 z;rw[this] at B;show⟨d.mi,la,ay _,B (by ext)⟩
   clear w Z B k0 lo1 T;rintro o v ⟨mo,li,lo,lr⟩;rw[mv (by ext)] at lr;have t:=mo.mT sa n (show v<a.toList.length by simp;ext) (show f<b.toList.length by simpa using lb) (by simp only[aT];ext);rw[aT,<-bV] at t;show au (lq lb ?_);by_cases S:f+1=b.size
   .rw[if_pos (by simpa using S)];show aA ⟨⟨_,rfl⟩,.inl ⟨_,rfl,zz t sa n (.inr S)⟩⟩
   rw[if_neg (by simpa using S)];show au (lq (show v<a.size by ext) ?_);obtain⟨k1,V⟩:=Ow n (f+1) (a[v]'(by ext));show au (yh R L ob (K _ (bA _)) (by ext) (by ext) V ?_);dsimp only;obtain⟨n1,n2,n3⟩:=t.xw sa n (by ext) (by ext) V;have I:¬k1>0->f+1+k1=f+1:=λz=>by ext
   generalize o.push b[f]++b.extract (f+1) (f+1+k1)=o2 at n1 ⊢;generalize o.push b[f]=o3 at t ⊢;have W:f+1<=f+1+k1:=Nat.le_add_right _ _;generalize f+1+k1=j1 at n1 n2 n3 I W ⊢;have X:f<f+1:=Nat.lt_succ_self _;have G:f+1<b.size:=by ext
   generalize f+1=j0 at t n3 I W X G ⊢;apply JQ (o1:=o2) (i1:=j1) (o0:=o3) (i0:=j0) (λo j=>MI rk a.toList b.toList o.toList v j/\j<b.size/\f<j/\rk (a[v]'(by ext))<=rk (b.getD j dk));rotate_left
   .exact λ_ e=>aA ⟨⟨_,rfl⟩,.inl ⟨_,rfl,zz n1 sa n (.inr (by simpa using e))⟩⟩
   .intro _ e;have e:¬j1=b.size:=by simpa using e
    show⟨n1,by ext,by ext,n3 (by ext)⟩
   .intro z;have:=I z;rw[this] at n3;show⟨t,G,X,n3 G⟩
   clear n1 n2 n3 I W X G t V;rintro o XJ ⟨GA,J,Zz,Dg⟩;rw[mv J] at Dg;have nn:=GA.kK sa n (show v<a.toList.length by simp;ext) (show XJ<b.toList.length by simpa using J) (by simpa using Dg);rw[aT,<-bV] at nn;show au (lq (show v<a.size by ext) ?_);by_cases P:v+1+1=a.size
   .rw[if_pos (by simpa using P)];show aA ⟨⟨_,rfl⟩,.inl ⟨_,rfl,CL nn sa n ha P H⟩⟩
   rw[if_neg (by simpa using P)];have nl:=nn.len;rw[ai] at nl;split
   .exact aA ⟨⟨_,rfl⟩,.inr ⟨rfl,⟨nn,by dsimp only;ext,J⟩,by dsimp only;ext⟩⟩
   show aA ⟨⟨_,rfl⟩,rfl,⟨nn,by dsimp only;ext,J⟩,by dsimp only;ext⟩
  .rintro⟨c1,out,h,f,mg,ac,D⟩ l ⟨⟨g,rfl⟩,p,d,m⟩;dsimp only at p d m ⊢;show⟨⟨g,rfl⟩,.inr ⟨p,d,m⟩⟩
  rintro⟨c1,out,h,f,mg,ac,D⟩ l ⟨⟨g,rfl⟩,C⟩;dsimp only at C ⊢;rcases C with⟨r,rfl,N⟩ | ⟨rfl,d,m⟩
  .exact aA ⟨g,r,rfl,rfl,N⟩
  dsimp only;rw[CZ];show au (wpS_modify (aA ⟨⟨_,rfl⟩,rfl,d,m⟩))
 .rintro⟨c1,out,h,f,mg⟩ l ⟨⟨g,rfl⟩,p,d,m⟩;dsimp only at p d m ⊢;exfalso
  have h1:=d.mi.len;have h2:=d.la;have h3:=d.lb;rw[ai] at h1;rw[Nat.max_eq_right (aN _)] at m;ext
 rintro⟨c1,out,h,f,mg⟩ l ⟨g,r,rfl,rfl,g1,g2⟩;show aA (q r g g1 g2)
section
variable{α:Type}(rk:α->Int)
structure MH(a b out:List α)(na nb:Nat):Prop where
 la:na<=a.length
 lb:nb<=b.length
 pm:out.reverse.Perm (a.drop na++b.drop nb)
 so:out.reverse.Pairwise λx y=>rk x<=rk y
 ga:∀y∈a.take na,∀x∈out,rk y<=rk x
 gb:∀y∈b.take nb,∀x∈out,rk y<=rk x
variable{rk}
theorem MH.len{a b out:List α}{na nb:Nat}(h:MH rk a b out na nb):out.length+na+nb=a.length+b.length:=by
 have:=h.pm.length_eq;rw[ar,List.length_drop,List.length_drop,List.length_reverse] at this;have:=h.la;have:=h.lb;ext
theorem MH.swap{a b out:List α}{na nb:Nat}(h:MH rk a b out na nb):MH rk b a out nb na:=⟨h.lb,h.la,h.pm.trans List.perm_append_comm,h.so,h.gb,h.ga⟩
theorem LJ{l:List α}{n t:Nat}(ht:t<=n):l.take n=l.take t++(l.take n).drop t:=by
 have:=(bB t (l.take n)).symm;rwa [List.take_take,Nat.min_eq_left ht] at this
theorem MH.ip{a b out:List α}{na nb:Nat}(h:MH rk a b out na nb)(sa:a.Pairwise λx y=>rk x<=rk y){t:Nat}(ht:t<=na)(hb:∀x∈(a.take na).drop t,∀y∈b.take nb,rk y<=rk x):MH rk a b (out++((a.take na).drop t).reverse) t nb:=by
 have g:=h.la;have d:(a.take na).Pairwise λx y=>rk x<=rk y:=sa.sublist (List.take_sublist _ _)
 rw[LJ ht,ba] at d;have ga:=h.ga;rw[LJ ht] at ga;have f:(out++((a.take na).drop t).reverse).reverse=(a.take na).drop t++out.reverse:=by rw[List.reverse_append,List.reverse_reverse]
 show⟨by ext,h.lb,?_,?_,λy c x hx=>?_,λy c x hx=>?_⟩
 .rw[f];show(h.pm.append_left _).trans ?_;rw[<-bp];show List.Perm.append_right _ ?_;have:a.drop t=(a.take na).drop t++a.drop na:=by
   have e:a=a.take na++a.drop na:=(bB na a).symm;rw[show a.drop t=(a.take na++a.drop na).drop t by rw[<-e],List.drop_append_of_le_length (by simp;ext)]
  rw[this]
 .rw[f,ba];show⟨d.2.1,h.so,λx hx y c=>ga x (aW _ hx) y (List.mem_reverse.mp c)⟩
 .rcases av.mp hx with hx | hx
  .exact ga y (List.mem_append_left _ c) x hx
  show d.2.2 y c x (List.mem_reverse.mp hx)
 rcases av.mp hx with hx | hx
 .exact h.gb y c x hx
 show hb x (List.mem_reverse.mp hx) y c
theorem MH.lK{a b out:List α}{na nb:Nat}(h:MH rk a b out na nb)(c:b.Pairwise λx y=>rk x<=rk y){t:Nat}(ht:t<=nb)(ha:∀x∈(b.take nb).drop t,∀y∈a.take na,rk y<=rk x):MH rk a b (out++((b.take nb).drop t).reverse) na t:=(h.swap.ip c ht ha).swap
theorem LF{l:List α}{n:Nat}(h:n<l.length):(l.take (n+1)).drop n=[l[n]]:=by
 rw[bz,ah h,List.drop_append_of_le_length (by simp;ext),List.drop_eq_nil_of_le (by rw[aL];ext)];rfl
theorem TC{l:List α}(s:l.Pairwise λx y=>rk x<=rk y){n:Nat}(h:n<l.length):∀y∈l.take (n+1),rk y<=rk l[n]:=by
 intro y a;obtain⟨i,hi,rfl⟩:=bP a;have b:i<=n:=by simp at hi;ext
 rw[List.getElem_take];by_cases e:i=n
 .subst e;show Int.le_refl _
 show List.pairwise_iff_getElem.mp s i n (by ext) h (by ext)
theorem MH.kK{a b out:List α}{na nb:Nat}(h:MH rk a b out (na+1) (nb+1))(sa:a.Pairwise λx y=>rk x<=rk y)(d:b.Pairwise λx y=>rk x<=rk y)(hi:na<a.length)(f:nb<b.length)(c:rk b[nb]<=rk a[na]):MH rk a b (out++[a[na]]) na (nb+1):=by
 have:=h.ip sa (t:=na) (by ext) (λx hx y e=>by
  rw[LF hi] at hx;simp at hx;subst hx;show Int.le_trans (TC d f y e) c)
 rwa [LF hi] at this
theorem MH.mT{a b out:List α}{na nb:Nat}(h:MH rk a b out (na+1) (nb+1))(sa:a.Pairwise λx y=>rk x<=rk y)(d:b.Pairwise λx y=>rk x<=rk y)(hi:na<a.length)(e:nb<b.length)(c:rk a[na]<=rk b[nb]):MH rk a b (out++[b[nb]]) (na+1) nb:=(h.swap.kK d sa e hi c).swap
theorem MH.j4{a b out:List α}{na nb:Nat}(h:MH rk a b out na nb)(sa:a.Pairwise λx y=>rk x<=rk y)(g:b.Pairwise λx y=>rk x<=rk y)(d:∀x∈a.take na,∀y∈b.take nb,rk x<=rk y) :
  (a.take na++b.take nb++out.reverse).Perm (a++b)/\(a.take na++b.take nb++out.reverse).Pairwise λx y=>rk x<=rk y:=by
 have i:=h.lK g (t:=0) (aN _) (λx hx y c=>d y c x (by simpa using hx));have f:=i.ip sa (t:=0) (aN _) (λx hx y c=>by simp at c);have e:(out++((b.take nb).drop 0).reverse++((a.take na).drop 0).reverse).reverse=a.take na++b.take nb++out.reverse:=by simp
 have p:=f.pm;have s:=f.so;rw[e] at p s;show⟨by simpa using p,s⟩
theorem MH.nh{a b out:List α}{na nb:Nat}(h:MH rk a b out na nb)(sa:a.Pairwise λx y=>rk x<=rk y)(d:b.Pairwise λx y=>rk x<=rk y)(c:∀x∈b.take nb,∀y∈a.take na,rk x<=rk y) :
  (b.take nb++a.take na++out.reverse).Perm (a++b)/\(b.take nb++a.take na++out.reverse).Pairwise λx y=>rk x<=rk y:=by
 obtain⟨f,e⟩:=h.swap.j4 d sa c;show⟨f.trans List.perm_append_comm,e⟩
end
theorem UN(a b:Array Keyed):EY a b=(do
 rule "list.sort.merge-hi"
 let total:=a.size+b.size
 let done (out:Array Keyed) (na nb:Nat):=a.extract 0 na++b.extract 0 nb++out.reverse
 let c (out:Array Keyed) (na nb:Nat):=b.extract 0 nb++a.extract 0 na++out.reverse
 let mut na:=a.size-1
 let mut nb:=b.size
 let mut out:Array Keyed:=#[<-elem' a na]
 if na==0 then return done out na nb
 if nb==1 then return c out na nb
 let mut minGallop:=gallopOf (<-get)
 for _ in [0:total] do
  let mut fS:=0
  let mut fR:=0
  for _ in [0:total] do
   let some d <-lt' (<-elem' b (nb-1)) (<-elem' a (na-1)) | return done out na nb
   if d then
    na:=na-1;out:=out.push (<-elem' a na);fS:=fS+1;fR:=0
    if na==0 then return done out na nb
    if fS>=minGallop then break
   else
    nb:=nb-1;out:=out.push (<-elem' b nb);fR:=fR+1;fS:=0
    if nb==1 then return c out na nb
    if fR>=minGallop then break
  rule "list.sort.gallop"
  minGallop:=minGallop+1
  for _ in [0:total] do
   if minGallop>1 then minGallop:=minGallop-1
   Aa minGallop
   let some at_ <-vg false (<-elem' b (nb-1)) a 0 na (na-1) | return done out na nb
   let k:=na-at_
   fS:=k
   if k>0 then
    out:=out++(a.extract at_ na).reverse;na:=at_
    if na==0 then return done out na nb
   nb:=nb-1;out:=out.push (<-elem' b nb)
   if nb==1 then return c out na nb
   let some at_ <-vg true (<-elem' a (na-1)) b 0 nb (nb-1) | return done out na nb
   let k:=nb-at_
   fR:=k
   if k>0 then
    out:=out++(b.extract at_ nb).reverse;nb:=at_
    if nb==1 then return c out na nb
    if nb==0 then return done out na nb
   na:=na-1;out:=out.push (<-elem' a na)
   if na==0 then return done out na nb
   if fS<7&&fR<7 then break
  minGallop:=minGallop+1
  Aa minGallop
 unsupported "internal:list.sort.merge-bound"):=rfl
theorem B1(a:Array Keyed)(n:Nat):(a.extract 0 n).toList=a.toList.take n:=by
 rw[Array.toList_extract];simp[List.extract]
theorem Ki(a:Array Keyed){t n:Nat}(h:n<=a.size):(a.extract t n).toList=(a.toList.take n).drop t:=by
 rw[Array.toList_extract];simp only[List.extract];rw[List.drop_take]
structure Mv(rk:Keyed->Int)(a b out:Array Keyed)(na nb:Nat):Prop where
 mh:MH rk a.toList b.toList out.toList na nb
 la:0<na
 lb:1<nb
section
variable{rk:Keyed->Int}{a b out:Array Keyed}{na nb:Nat}
theorem zJ(h:MH rk a.toList b.toList out.toList na nb)(sa:fK rk a.toList)(d:fK rk b.toList)(hi:na=0\/nb=0):pT rk a b (a.extract 0 na++b.extract 0 nb++out.reverse):=by
 obtain⟨g,f⟩:=h.j4 sa d (λx hx y c=>by
  rcases hi with e | e
  .rw[e] at hx;simp at hx
  .rw[e] at c;simp at c)
 unfold pT fK;rw[bC,bC,B1,B1,Array.toList_reverse];show⟨g,f⟩
theorem CP(h:MH rk a.toList b.toList out.toList na nb)(sa:fK rk a.toList)(c:fK rk b.toList)(hb:0<b.size)(hi:nb=1)(j:∀x∈a,rk b[0]<rk x):pT rk a b (b.extract 0 nb++a.extract 0 na++out.reverse):=by
 obtain⟨i,g⟩:=h.nh sa c (λx hx y d=>by
  have e:b.toList.take nb=[b[0]]:=by
   have f:0<b.toList.length:=by simpa using hb
   rw[hi,show(1:Nat)=0+1 from rfl,bz,ah f];simp
  rw[e] at hx;simp at hx;subst hx;have:=j y (by simpa using List.mem_of_mem_take d);ext)
 unfold pT fK;rw[bC,bC,B1,B1,Array.toList_reverse];show⟨i,g⟩
theorem EX{t n:Nat}(hn:n<=a.size){x:Keyed}(hx:x∈(a.toList.take n).drop t):∃u,t<=u/\u<n/\x=a.getD u dk:=by
 obtain⟨u,b,e⟩:=bP hx;have c:t+u<n:=by simp at b;ext
 show⟨t+u,by ext,c,?_⟩;rw[mv (by ext),<-e];simp
theorem Jo{n:Nat}(hn:n<=a.size){x:Keyed}(hx:x∈a.toList.take n):∃u,u<n/\x=a.getD u dk:=by
 obtain⟨u,_,c,b⟩:=EX (a:=a) (t:=0) hn (x:=x) (by simpa using hx);show⟨u,c,b⟩
theorem MH.xx{c t:Nat}(h:MH rk a.toList b.toList out.toList na (c+1))(sa:fK rk a.toList)(j:fK rk b.toList)(lb:c<b.size)(d:Cut (λi=>if false=true then decide (rk (a.getD (0+i) dk)<rk b[c]) else !decide (rk b[c]<rk (a.getD (0+i) dk))) na t) :
  MH rk a.toList b.toList (out++(a.extract t na).reverse).toList t (c+1)/\t<=na/\∀u,u+1=t->rk (a.getD u dk)<=rk b[c]:=by
 have f:=h.la;rw[ai] at f;show⟨?_,d.1,λu n=>?_⟩
 .rw[bC,Array.toList_reverse,Ki a f];show h.ip sa d.1 λx hx y k=>?_
  obtain⟨u,m,g,rfl⟩:=EX f hx;obtain⟨v,v1,rfl⟩:=Jo (by ext) k;have e:=mt (d.2 u g).mp (by ext);have l:=vm (rk:=rk) j (show v<=c by ext) lb;rw[mv lb] at l;simp only[aj,aP,bK,bj,Nat.zero_add] at e;ext
 have:=d.1;have e:=(d.2 u (by ext)).mpr (by ext);simpa using e
theorem MH.xw{c t:Nat}(h:MH rk a.toList b.toList out.toList (c+1) nb)(sa:fK rk a.toList)(j:fK rk b.toList)(la:c<a.size)(d:Cut (λi=>if true=true then decide (rk (b.getD (0+i) dk)<rk a[c]) else !decide (rk a[c]<rk (b.getD (0+i) dk))) nb t) :
  MH rk a.toList b.toList (out++(b.extract t nb).reverse).toList (c+1) t/\t<=nb/\∀u,u+1=t->rk (b.getD u dk)<rk a[c]:=by
 have f:=h.lb;rw[ai] at f;show⟨?_,d.1,λu n=>?_⟩
 .rw[bC,Array.toList_reverse,Ki b f];show h.lK j d.1 λx hx y k=>?_
  obtain⟨u,m,g,rfl⟩:=EX f hx;obtain⟨v,v1,rfl⟩:=Jo (by ext) k;have e:=mt (d.2 u g).mp (by ext);have l:=vm (rk:=rk) sa (show v<=c by ext) la;rw[mv la] at l;simp only[aQ,bE,Nat.zero_add] at e;ext
 have:=d.1;have e:=(d.2 u (by ext)).mpr (by ext);simpa using e
end
theorem Ov{rk:Keyed->Int}{a:Array Keyed}(sa:fK rk a.toList){n:Nat}(hn:n<=a.size)(key:Keyed):∃k,Cut (λi=>if false=true then decide (rk (a.getD (0+i) dk)<rk key) else !decide (rk key<rk (a.getD (0+i) dk))) n k:=
 vc _ _ λi j b c h=>by
  have:=vm (rk:=rk) sa (show 0+i<=0+j by ext) (by ext);simp only[aj,aP,bK,bj] at h ⊢;ext
theorem Ou{rk:Keyed->Int}{b:Array Keyed}(a:fK rk b.toList){n:Nat}(hn:n<=b.size)(key:Keyed):∃k,Cut (λi=>if true=true then decide (rk (b.getD (0+i) dk)<rk key) else !decide (rk key<rk (b.getD (0+i) dk))) n k:=
 vc _ _ λi j c d h=>by
  have:=vm (rk:=rk) a (show 0+i<=0+j by ext) (by ext);simp only[aQ,bE] at h ⊢;ext
variable{M:Model}{A:Around}{E:Value->Shared->Prop}{s:Shared}
theorem UM{T:SortKind}{ok:Keyed->Prop}{rk:Keyed->Int}(R:Rk M A E s T ok rk){a b:Array Keyed}{Q:Array Keyed->SortSt->Prop}{st:SortSt}(J:kindOf st=T)(I:∀x∈a,ok x)(ob:∀x∈b,ok x)(sa:fK rk a.toList)(k:fK rk b.toList)(ha:0<a.size)(hb:0<b.size)
  (H:∀x∈a,rk b[0]<rk x) (h9:rk (b[b.size-1])<rk (a[a.size-1])) (q:∀(r:Array Keyed) g,r.toList.Perm (a.toList++b.toList)->fK rk r.toList->Q r (oi st g)):wpS M A E s (EY a b) Q st:=by
 rw[UN];show au (yf ?_);show au (lq (show a.size-1<a.size by ext) ?_);dsimp only;have L:st=oi st (gallopOf st):=rfl;have m0:MH rk a.toList b.toList (#[a[a.size-1]]:Array Keyed).toList (a.size-1) b.size:=by
  have n0:MH rk a.toList b.toList [] (a.size-1+1) (b.size-1+1):=⟨by simp;ext,by simp;ext,by
   rw[show a.size-1+1=a.size by ext,show b.size-1+1=b.size by ext];simp,.nil,λy _ x hx=>(by cases hx),λy _ x hx=>(by cases hx)⟩
  have:=n0.kK sa k (by simp;ext) (by simp;ext) (by simp only[aT];ext);rw[show b.size-1+1=b.size by ext] at this;simpa using this
 by_cases c1:a.size-1=0
 .rw[if_pos (by simpa using c1)];show aA ?_;rw[L];obtain⟨g1,g2⟩:=zJ m0 sa k (.inl c1);show q _ _ g1 g2
 rw[if_neg (by simpa using c1)];by_cases S:b.size=1
 .rw[if_pos (by simpa using S)];show aA ?_;rw[L];obtain⟨g1,g2⟩:=CP m0 sa k hb S H;show q _ _ g1 g2
 rw[if_neg (by simpa using S)];show au (wpS_get ?_);show au (wpS_mono (bJ (Q:=λ(c:Option (Array Keyed)×Nat×Nat×Array Keyed×Nat) f=>∃g r,f=oi st g/\c.1=some r/\pT rk a b r) (λi (c:Option (Array Keyed)×Nat×Nat×Array Keyed×Nat) f=>(∃g,f=oi st g)/\c.1=none/\Mv rk a b c.2.2.2.1 c.2.1 c.2.2.1/\i<c.2.2.2.1.size) ?_ ?_ ⟨⟨_,L⟩,rfl,⟨m0,by dsimp only;ext,by dsimp only;ext⟩,by simp⟩) ?_)
 .rintro i ⟨c1,na,nb,out,mg⟩ f _ nU ⟨⟨g,rfl⟩,l,d,h⟩;dsimp only at l d h ⊢;subst l;show au (wpS_mono (bJ (Q:=λ(c:Option (Array Keyed)×Nat×Nat×Array Keyed×Nat×Nat) f=>(f=oi st g)/\((∃r,c.1=some r/\pT rk a b r)\/(c.1=none/\Mv rk a b c.2.2.2.1 c.2.1 c.2.2.1/\i+1<c.2.2.2.1.size)))
   (λj (c:Option (Array Keyed)×Nat×Nat×Array Keyed×Nat×Nat) f=>(f=oi st g)/\c.1=none/\Mv rk a b c.2.2.2.1 c.2.1 c.2.2.1/\i+j<c.2.2.2.1.size) ?_ ?_ ⟨rfl,rfl,d,by dsimp only;ext⟩) ?_)
  .rintro j ⟨c1,na,nb,out,ac,C⟩ f _ Hw ⟨rfl,l,d,h⟩;dsimp only at l d h ⊢;subst l;have la:=d.la;have lb:=d.lb;have XD:=d.mh.la;have w:=d.mh.lb;rw[ai] at XD w;obtain⟨na,rfl⟩:∃n,na=n+1:=⟨na-1,by ext⟩
   obtain⟨nb,rfl⟩:∃n,nb=n+1:=⟨nb-1,by ext⟩
   simp only[Nat.add_sub_cancel];show au (lq (show nb<b.size by ext) (au (lq (show na<a.size by ext) (au (R.lt _ _ _ _ (ob _ (bA _)) (I _ (bA _)) J ?_)))));dsimp only;by_cases Y:rk (b[nb]'(by ext))<rk (a[na]'(by ext))
   .simp only[Y,bY,aQ];have D:=d.mh.kK sa k (show na<a.toList.length by simp;ext) (show nb<b.toList.length by simp;ext) (by simp only[aT];ext);rw[aT,<-bV] at D;show au (lq (show na<a.size by ext) ?_);by_cases p:na=0
    .rw[if_pos (by simpa using p)];show aA ⟨rfl,.inl ⟨_,rfl,zJ D sa k (.inl p)⟩⟩
    rw[if_neg (by simpa using p)];split
    .exact aA ⟨rfl,.inr ⟨rfl,⟨D,by dsimp only;ext,lb⟩,by simp;ext⟩⟩
    show aA ⟨rfl,rfl,⟨D,by dsimp only;ext,lb⟩,by simp;ext⟩
   simp only[Y,bO,aj,aP];have m:=d.mh.mT sa k (show na<a.toList.length by simp;ext) (show nb<b.toList.length by simp;ext) (by simp only[aT];ext);rw[aT,<-bV] at m;show au (lq (show nb<b.size by ext) ?_);by_cases p:nb=1
   .rw[if_pos (by simpa using p)];show aA ⟨rfl,.inl ⟨_,rfl,CP m sa k hb p H⟩⟩
   rw[if_neg (by simpa using p)];split
   .exact aA ⟨rfl,.inr ⟨rfl,⟨m,la,by dsimp only;ext⟩,by simp;ext⟩⟩
   show aA ⟨rfl,rfl,⟨m,la,by dsimp only;ext⟩,by simp;ext⟩
  .rintro⟨c1,na,nb,out,ac,C⟩ f ⟨rfl,l,d,h⟩;dsimp only at l d h ⊢;show⟨rfl,.inr ⟨l,d,by rw[Nat.max_eq_right (aN _)] at h;ext⟩⟩
  rintro⟨c1,na,nb,out,ac,C⟩ f ⟨rfl,B⟩;dsimp only at B ⊢;rcases B with⟨r,rfl,K⟩ | ⟨rfl,d,h⟩
  .exact aA ⟨g,r,rfl,rfl,K⟩
  dsimp only;show au (yf ?_);show au (wpS_mono (bJ (Q:=λ(c:Option (Array Keyed)×Nat×Nat×Array Keyed×Nat×Nat×Nat) f=>(∃g,f=oi st g)/\((∃r,c.1=some r/\pT rk a b r)\/(c.1=none/\Mv rk a b c.2.2.2.1 c.2.1 c.2.2.1/\i+1<c.2.2.2.1.size)))
   (λj (c:Option (Array Keyed)×Nat×Nat×Array Keyed×Nat×Nat×Nat) f=>(∃g,f=oi st g)/\c.1=none/\Mv rk a b c.2.2.2.1 c.2.1 c.2.2.1/\i+1<c.2.2.2.1.size) ?_ ?_ ⟨⟨_,rfl⟩,rfl,d,h⟩) ?_)
  .clear d h;rintro j ⟨c1,na,nb,out,mg,ac,C⟩ f _ Hw ⟨⟨g,rfl⟩,l,d,h⟩;dsimp only at l d h ⊢;subst l;have la:=d.la;have lb:=d.lb;have AS:=d.mh.la;have GL:=d.mh.lb;have ol:=d.mh.len;simp only[ai] at AS GL ol;obtain⟨nb,rfl⟩:∃n,nb=n+1:=⟨nb-1,by ext⟩
   have w:nb<b.size:=by ext
   simp only[Nat.add_sub_cancel];generalize mg-1=GB;apply JR (x:=GB) (y:=mg);intro Xy;rw[CZ];show au (wpS_modify (au (lq w ?_)));obtain⟨t,ct⟩:=Ov sa AS b[nb];show au (yh R J I (ob _ (bA _)) (by ext) (by ext) ct ?_);dsimp only;obtain⟨G,X,F⟩:=d.mh.xx sa k w ct;generalize Du:na-t=ZW;generalize out++(a.extract t na).reverse=o1 at G ⊢;apply JQ (o1:=o1) (i1:=t) (o0:=out) (i0:=na) (λo i=>MH rk a.toList b.toList o.toList i (nb+1)/\0<i/\i<=na/\∀u,u+1=i->rk (a.getD u dk)<=rk b[nb]);rotate_left
   .exact λ_ e=>aA ⟨⟨_,rfl⟩,.inl ⟨_,rfl,zJ G sa k (.inl (by simpa using e))⟩⟩
   .intro _ e;have e:¬t=0:=by simpa using e
    show⟨G,by ext,X,F⟩
   .intro z;have e:t=na:=by ext
    rw[e] at F;show⟨d.mh,by ext,ay _,F⟩
   clear G X F ct Du;rintro o U ⟨mo,pos,hle,lr⟩;obtain⟨t,rfl⟩:∃v,U=v+1:=⟨U-1,by ext⟩
   simp only[Nat.add_sub_cancel];have W:=lr t rfl;rw[mv (by ext)] at W;have m:=mo.mT sa k (show t<a.toList.length by simp;ext) (show nb<b.toList.length by simpa using w) (by simpa using W);rw[aT,<-bV] at m;show au (lq w ?_);by_cases O:nb=1
   .rw[if_pos (by simpa using O)];show aA ⟨⟨_,rfl⟩,.inl ⟨_,rfl,CP m sa k hb O H⟩⟩
   rw[if_neg (by simpa using O)];show au (lq (show t<a.size by ext) ?_);obtain⟨u,P⟩:=Ou k (show nb<=b.size by ext) (a[t]'(by ext));show au (yh R J ob (I _ (bA _)) (by ext) (by ext) P ?_);dsimp only;obtain⟨n1,n2,n3⟩:=m.xw sa k (by ext) P;generalize YI:nb-u=ZV;generalize o.push b[nb]++(b.extract u nb).reverse=o2 at n1 ⊢;generalize o.push b[nb]=o3 at m ⊢;apply JP (o1:=o2) (i1:=u) (o0:=o3) (i0:=nb) (λo j=>MH rk a.toList b.toList o.toList (t+1) j/\1<j/\j<=nb/\∀v,v+1=j->rk (b.getD v dk)<rk (a[t]'(by ext)));rotate_left
   .exact λ_ e=>aA ⟨⟨_,rfl⟩,.inl ⟨_,rfl,CP n1 sa k hb (by simpa using e) H⟩⟩
   .exact λ_ _ e=>aA ⟨⟨_,rfl⟩,.inl ⟨_,rfl,zJ n1 sa k (.inr (by simpa using e))⟩⟩
   .intro _ p Z;have p:¬u=1:=by simpa using p
    have Z:¬u=0:=by simpa using Z
    show⟨n1,by ext,n2,n3⟩
   .intro z;have e:u=nb:=by ext
    rw[e] at n3;show⟨m,by ext,ay _,n3⟩
   clear n1 n2 n3 P YI m;rintro o V ⟨GA,ZR,ZA,Dg⟩;obtain⟨u,rfl⟩:∃v,V=v+1:=⟨V-1,by ext⟩
   have n4:=Dg u rfl;rw[mv (by ext)] at n4;have nn:=GA.kK sa k (show t<a.toList.length by simp;ext) (show u<b.toList.length by simp;ext) (by simpa using Int.le_of_lt n4);rw[aT,<-bV] at nn;show au (lq (show t<a.size by ext) ?_);by_cases N:t=0
   .rw[if_pos (by simpa using N)];show aA ⟨⟨_,rfl⟩,.inl ⟨_,rfl,zJ nn sa k (.inl N)⟩⟩
   rw[if_neg (by simpa using N)];have nl:=nn.len;simp only[ai] at nl;split
   .exact aA ⟨⟨_,rfl⟩,.inr ⟨rfl,⟨nn,by dsimp only;ext,by dsimp only;ext⟩,by dsimp only;ext⟩⟩
   show aA ⟨⟨_,rfl⟩,rfl,⟨nn,by dsimp only;ext,by dsimp only;ext⟩,by dsimp only;ext⟩
  .rintro⟨c1,na,nb,out,mg,ac,C⟩ f ⟨⟨g,rfl⟩,l,d,h⟩;dsimp only at l d h ⊢;show⟨⟨g,rfl⟩,.inr ⟨l,d,h⟩⟩
  rintro⟨c1,na,nb,out,mg,ac,C⟩ f ⟨⟨g,rfl⟩,B⟩;dsimp only at B ⊢;rcases B with⟨r,rfl,K⟩ | ⟨rfl,d,h⟩
  .exact aA ⟨g,r,rfl,rfl,K⟩
  dsimp only;rw[CZ];show au (wpS_modify (aA ⟨⟨_,rfl⟩,rfl,d,h⟩))
 .rintro⟨c1,na,nb,out,mg⟩ f ⟨⟨g,rfl⟩,l,d,h⟩;dsimp only at l d h ⊢;exfalso
  have h1:=d.mh.len;have h2:=d.la;have h3:=d.lb;simp only[ai] at h1;rw[Nat.max_eq_right (aN _)] at h;ext
 rintro⟨c1,na,nb,out,mg⟩ f ⟨g,r,rfl,rfl,g1,g2⟩;show aA (q r g g1 g2)
theorem UL(i:Nat):mergeAt' i=(do
 let s <-get
 let(some (sa,na,power),some (b,nb,_)):=((pendingOf s)[i]?,(pendingOf s)[i+1]?) | unsupported "internal:list.sort.pending"
 set (setPending s (((pendingOf s).setIfInBounds i (sa,na+nb,power)).eraseIdxIfInBounds (i+1)))
 let some k <-vg false (<-elem' (arrOf s) b) (arrOf s) sa na 0 | return false
 let(sa,na):=(sa+k,na-k)
 if na==0 then return true
 let some nb <-vg true (<-elem' (arrOf s) (sa+na-1)) (arrOf s) b nb (nb-1) | return false
 if nb==0 then return true
 let x:=(arrOf s).extract sa b
 let y:=(arrOf s).extract b (b+nb)
 let merged <-if na<=nb then EL x y else EY x y
 modify λs=>setArr s (merged.toList.zipIdx.foldl (λa (p,j)=>a.setIfInBounds (sa+j) p) (arrOf s))
 return (failedOf (<-get)).isNone):=rfl
variable{M:Model}{A:Around}{E:Value->Shared->Prop}{s:Shared}
theorem LD(b:Nat):∀(m l:List Keyed)(k:Nat),b+k+m.length<=l.length->
  (m.zipIdx k).foldl (λ(a:Array Keyed)(q:Keyed×Nat)=>a.setIfInBounds (b+q.2) q.1) l.toArray=(l.take (b+k)++m++l.drop (b+k+m.length)).toArray
 | [],l,k,h=>by simp
 | x::m,l,k,h=>by
  simp only[aH] at h;rw[List.zipIdx_cons,List.foldl_cons];dsimp only;rw[show l.toArray.setIfInBounds (b+k) x=(l.set (b+k) x).toArray by simp];rw[LD b m (l.set (b+k) x) (k+1) (by rw[List.length_set];ext)];congr 1
  have c:(l.set (b+k) x).take (b+(k+1))=l.take (b+k)++[x]:=by
   rw[show b+(k+1)=b+k+1 by ext,bz,List.take_set,List.getElem?_set_self (by ext)];rw[List.set_eq_of_length_le (by simp;ext)];rfl
  rw[c,List.drop_set_of_lt (by ext)];simp only[aH,bp,List.cons_append,List.nil_append];rw[show b+(k+1)+m.length=b+k+(m.length+1) by ext]
theorem Qc{x:SortSt}{Q:PUnit->SortSt->Prop}{st:SortSt}(q:Q ⟨⟩ x):wpS M A E s (set x:StateT SortSt Sem PUnit) Q st:=wpS_modify (f:=λ_=>x) q
theorem B0{rk:Keyed->Int}{l:List Keyed}(h:fK rk l){i j:Nat}(b:i<=j)(a:j<l.length):rk (l[i]'(by ext))<=rk l[j]:=by
 by_cases e:i=j
 .subst e;show Int.le_refl _
 show List.pairwise_iff_getElem.mp h i j (by ext) a (by ext)
theorem fK.app{rk:Keyed->Int}{l m:List Keyed}(b:fK rk l)(a:fK rk m)(h:∀x∈l,∀y∈m,rk x<=rk y):fK rk (l++m):=ba.mpr ⟨b,a,h⟩
theorem UK{n:SortKind}{ok:Keyed->Prop}{rk:Keyed->Int}(R:Rk M A E s n ok rk){i v pb:Nat}{P X Y S:List Keyed}{Q:Bool->SortSt->Prop}{st:SortSt}(l:kindOf st=n)(O:failedOf st=none)(L:∀x∈arrOf st,ok x)
  (dec:(arrOf st).toList=P++(X++(Y++S))) (p1:(pendingOf st)[i]?=some (P.length,X.length,v)) (p2:(pendingOf st)[i+1]?=some (P.length+X.length,Y.length,pb)) (ha:0<X.length) (hb:0<Y.length) (p:fK rk X) (o:fK rk Y)
  (q:∀(Z:List Keyed) g,Z.Perm (X++Y)->fK rk Z->Q true (SortSt.mk' n (P++(Z++S)).toArray (((pendingOf st).setIfInBounds i (P.length,X.length+Y.length,v)).eraseIdxIfInBounds (i+1)) g none)):wpS M A E s (mergeAt' i) Q st:=by
 rw[UL];show au (wpS_get ?_);rw[p1,p2];dsimp only;show au (Qc ?_);have eF:(arrOf st).size=P.length+(X.length+(Y.length+S.length)):=by rw[<-ai,dec];simp
 have G:arrOf st=(P++(X++(Y++S))).toArray:=by rw[<-dec]
 have D:∀t,(h:t<X.length)->(arrOf st).getD (P.length+t) dk=X[t]:=λt h=>by
  rw[mv (by ext)];simp[G,List.getElem_append_right,List.getElem_append_left,h]
 have C:∀t,(h:t<Y.length)->(arrOf st).getD (P.length+X.length+t) dk=Y[t]:=λt h=>by
  rw[mv (by ext)];have H:P.length+X.length+t-P.length-X.length=t:=by ext
  simp only[G,List.getElem_toArray];rw[List.getElem_append_right (by ext),List.getElem_append_right (by ext),List.getElem_append_left (by ext)];congr 1
 have Y1:(arrOf st)[P.length+X.length]'(by ext)=Y[0]:=by
  have:=C 0 hb;rw[mv (by ext)] at this;simpa using this
 show au (lq (show P.length+X.length<(arrOf st).size by ext) ?_);rw[Y1]
 have F:∀x,x∈P\/x∈X\/x∈Y\/x∈S->ok x:=λx hx=>L x (by
  rw[<-bI,dec];simp only[av];show hx)
 obtain⟨k,J⟩:∃k,Cut (λi=>if false=true then decide (rk ((arrOf st).getD (P.length+i) dk)<rk Y[0]) else !decide (rk Y[0]<rk ((arrOf st).getD (P.length+i) dk))) X.length k:=by
  show vc _ _ λi j N B h=>?_
  have:=B0 p N B;rw[D j B] at h;rw[D i (by ext)];simp only[aj,aP,bK,bj] at h ⊢;ext
 have ND:=J.1;show au (yh R l L (F _ (.inr (.inr (.inl (List.getElem_mem _))))) (by ext) ha J ?_);dsimp only;have K:∀x∈X.take k,∀y∈Y,rk x<=rk y:=λx hx y f=>by
  obtain⟨t,ht,rfl⟩:=bP hx;obtain⟨u,hu,rfl⟩:=bP f;have c:t<k:=by simp at ht;ext
  have b:=(J.2 t (by ext)).mpr c;dsimp only at b;rw[D t (by ext)] at b;have h2:=B0 o (aN u) hu;simp only[aj,aP,bK,bj] at b;rw[List.getElem_take];ext
 have x2:∀x∈X.drop k,rk Y[0]<rk x:=λx hx=>by
  obtain⟨t,ht,rfl⟩:=bP hx;have c:k+t<X.length:=by simp at ht;ext
  have b:=mt (J.2 (k+t) c).mp (by ext);dsimp only at b;rw[D _ c] at b;rw[List.getElem_drop];simpa using b
 have same:∀g,SortSt.mk' n (P++((X++Y)++S)).toArray (((pendingOf st).setIfInBounds i (P.length,X.length+Y.length,v)).eraseIdxIfInBounds (i+1)) g none=SortSt.mk' n (arrOf st) (((pendingOf st).setIfInBounds i (P.length,X.length+Y.length,v)).eraseIdxIfInBounds (i+1)) g none:=λg=>by
  rw[G];simp
 have whole:fK rk (X++Y)->Q true (setPending st (((pendingOf st).setIfInBounds i (P.length,X.length+Y.length,v)).eraseIdxIfInBounds (i+1))):=λh=>by
  have:=q (X++Y) (gallopOf st) (List.Perm.refl _) h;rw[same] at this;show Q true (SortSt.mk' (kindOf st) (arrOf st) _ (gallopOf st) (failedOf st));rw[l,O];show this
 by_cases e1:X.length-k=0
 .rw[if_pos (by simpa using e1)];show aA (whole (p.app o λx hx=>K x ?_));rw[bx (by ext)];show hx
 rw[if_neg (by simpa using e1)];have gl:(arrOf st)[P.length+k+(X.length-k)-1]'(by ext)=X[X.length-1]:=by
  have:=D (X.length-1) (by ext);rw[mv (by ext)] at this;rw[<-this];congr 1
  ext
 show au (lq (show P.length+k+(X.length-k)-1<(arrOf st).size by ext) ?_);rw[gl];obtain⟨m,I⟩:∃m,Cut (λi=>if true=true then decide (rk ((arrOf st).getD (P.length+X.length+i) dk)<rk X[X.length-1]) else !decide (rk X[X.length-1]<rk ((arrOf st).getD (P.length+X.length+i) dk))) Y.length m:=by
  show vc _ _ λi j N B h=>?_
  have:=B0 o N B;rw[C j B] at h;rw[C i (by ext)];simp only[aQ,bE] at h ⊢;ext
 have T:=I.1;show au (yh R l L (F _ (.inr (.inl (List.getElem_mem _)))) (by ext) (by ext) I ?_);dsimp only;have y1:∀y∈Y.take m,rk y<rk X[X.length-1]:=λy f=>by
  obtain⟨t,ht,rfl⟩:=bP f;have c:t<m:=by simp at ht;ext
  have b:=(I.2 t (by ext)).mpr c;dsimp only at b;rw[C t (by ext)] at b;rw[List.getElem_take];simpa using b
 have V:∀x∈X,∀y∈Y.drop m,rk x<=rk y:=λx hx y f=>by
  obtain⟨t,ht,rfl⟩:=bP f;obtain⟨u,hu,rfl⟩:=bP hx;have c:m+t<Y.length:=by simp at ht;ext
  have b:=mt (I.2 (m+t) c).mp (by ext);dsimp only at b;rw[C _ c] at b;have h2:=B0 p (show u<=X.length-1 by ext) (by ext);rw[List.getElem_drop];simp only[aQ,bE] at b;ext
 by_cases H:m=0
 .rw[if_pos (by simpa using H)];show aA (whole (p.app o λx hx y f=>V x hx y ?_));rw[H];simpa using f
 rw[if_neg (by simpa using H)];have ex:((arrOf st).extract (P.length+k) (P.length+X.length)).toList=X.drop k:=by
  rw[Array.toList_extract,dec];simp only[List.extract];rw[List.drop_length_add_append,List.drop_append_of_le_length ND,show P.length+X.length-(P.length+k)=(X.drop k).length by rw[List.length_drop];ext,List.take_left]
 have e:((arrOf st).extract (P.length+X.length) (P.length+X.length+m)).toList=Y.take m:=by
  rw[Array.toList_extract,dec];simp only[List.extract];rw[List.drop_length_add_append,show X.length=X.length+0 from rfl,List.drop_length_add_append,List.drop_zero,show P.length+(X.length+0)+m-(P.length+(X.length+0))=m by ext,List.take_append_of_le_length T]
 have zx:((arrOf st).extract (P.length+k) (P.length+X.length)).size=X.length-k:=by rw[<-ai,ex,List.length_drop]
 have zy:((arrOf st).extract (P.length+X.length) (P.length+X.length+m)).size=m:=by rw[<-ai,e,aL];ext
 generalize (arrOf st).extract (P.length+k) (P.length+X.length)=x at ex zx ⊢;generalize (arrOf st).extract (P.length+X.length) (P.length+X.length+m)=y at e zy ⊢;have ox:∀z∈x,ok z:=λz hz=>F z (.inr (.inl (List.mem_of_mem_drop (by rw[<-ex];show bI.mpr hz))))
 have oy:∀z∈y,ok z:=λz hz=>F z (.inr (.inr (.inl (List.mem_of_mem_take (by rw[<-e];show bI.mpr hz)))))
 have sx:fK rk x.toList:=by rw[ex];show p.sublist (List.drop_sublist _ _)
 have W:fK rk y.toList:=by rw[e];show o.sublist (List.take_sublist _ _)
 have MQ:0<x.size:=by ext
 have U:0<y.size:=by ext
 have YX:y[0]=Y[0]:=by
  have:y.toList[0]'(by simpa using U)=Y[0]:=by simp only[e,List.getElem_take]
  simpa using this
 have YY:x[x.size-1]=X[X.length-1]:=by
  have:x.toList[x.size-1]'(by simp;ext)=X[X.length-1]:=by
   simp only[ex,List.getElem_drop];congr 1
   ext
  simpa using this
 have fx:∀z∈x,rk y[0]<rk z:=λz hz=>by
  rw[YX];show x2 z (by rw[<-ex];show bI.mpr hz)
 have fy:∀z∈y,rk z<rk (x[x.size-1]):=λz hz=>by
  rw[YY];show y1 z (by rw[<-e];show bI.mpr hz)
 have fin:∀(r:Array Keyed) g,r.toList.Perm (x.toList++y.toList)->fK rk r.toList->Q true (SortSt.mk' n (r.toList.zipIdx.foldl (λ(a:Array Keyed)(z:Keyed×Nat)=>a.setIfInBounds (P.length+k+z.2) z.1) (arrOf st)) (((pendingOf st).setIfInBounds i (P.length,X.length+Y.length,v)).eraseIdxIfInBounds (i+1)) g none):=λr g d rs=>by
  have rl:=d.length_eq;rw[ar,ex,e,List.length_drop,aL,Nat.min_eq_left T] at rl;rw[ex,e] at d;have e9:=LD (P.length+k) r.toList (P++(X++(Y++S))) 0 (by simp only[ar];ext);rw[<-G] at e9;rw[e9];have t1:(P++(X++(Y++S))).take (P.length+k+0)=P++X.take k:=by
   rw[Nat.add_zero,List.take_length_add_append,List.take_append_of_le_length ND]
  have t2:(P++(X++(Y++S))).drop (P.length+k+0+r.toList.length)=Y.drop m++S:=by
   rw[show P.length+k+0+r.toList.length=P.length+(X.length+m) by ext,List.drop_length_add_append,List.drop_length_add_append,List.drop_append_of_le_length T]
  rw[t1,t2];have:=q (X.take k++(r.toList++Y.drop m)) g ?_ ?_
  .simpa[bp] using this
  .have b:(X.take k++(r.toList++Y.drop m)).Perm (X.take k++((X.drop k++Y.take m)++Y.drop m)):=List.Perm.append_left _ (d.append_right _);show b.trans ?_;rw[bp,bB,<-bp,bB]
  have mr:∀z∈r.toList,z∈X.drop k\/z∈Y.take m:=λz hz=>av.mp (d.mem_iff.mp hz)
  have Xh:fK rk (X.take k++X.drop k):=by rw[bB];show p
  have Xg:fK rk (Y.take m++Y.drop m):=by rw[bB];show o
  have d1:=(ba.mp Xh)
  have d2:=(ba.mp Xg)
  show fK.app d1.1 (rs.app d2.2.1 λz hz w hw=>?_) λz hz w hw=>?_
  .rcases mr z hz with h | h
   .exact V z (List.mem_of_mem_drop h) w hw
   show d2.2.2 z h w hw
  rcases av.mp hw with hw | hw
  .rcases mr w hw with h | h
   .exact d1.2.2 z hz w h
   show K z hz w (List.mem_of_mem_take h)
  show K z hz w (List.mem_of_mem_drop hw)
 split
 .refine au (UO R l ox oy sx W MQ U (fx _ (bA _)) fy λr g d rs=>?_);show au (wpS_modify (au (wpS_get (aA ?_))));have:=fin r g d rs;show Q (failedOf st).isNone (SortSt.mk' (kindOf st) _ _ g (failedOf st));rw[O,l];show this
 show au (UM R l ox oy sx W MQ U fx (fy _ (bA _)) λr g d rs=>?_);show au (wpS_modify (au (wpS_get (aA ?_))));have:=fin r g d rs;show Q (failedOf st).isNone (SortSt.mk' (kindOf st) _ _ g (failedOf st));rw[O,l];show this
noncomputable def kr(rk:Keyed->Int)(xs:Array Keyed)(i:Nat):Int:=rk (xs.getD i dk)
def jC(rk:Keyed->Int)(xs:Array Keyed)(lo n:Nat):Prop:=∀i j,i<=j->j<n->kr rk xs (lo+i)<=kr rk xs (lo+j)
structure Sl(xs ys:Array Keyed)(lo n:Nat):Prop where
 pm:ys.Perm xs
 out:∀j,j<lo\/lo+n<=j->ys[j]?=xs[j]?
theorem Sl.size{xs ys:Array Keyed}{lo n:Nat}(h:Sl xs ys lo n):ys.size=xs.size:=h.pm.size_eq
theorem Sl.refl(xs:Array Keyed)(lo n:Nat):Sl xs xs lo n:=⟨Array.Perm.refl _,λ_ _=>rfl⟩
theorem Sl.trans{xs ys a:Array Keyed}{lo n:Nat}(h:Sl xs ys lo n)(h':Sl ys a lo n):Sl xs a lo n:=⟨h'.pm.trans h.pm,λj b=>(h'.out j b).trans (h.out j b)⟩
theorem zm{rk:Keyed->Int}{xs ys:Array Keyed}{i j:Nat}(h:ys[i]?=xs[j]?):kr rk ys i=kr rk xs j:=by
 unfold kr;rw[Array.getD_eq_getD_getElem?,Array.getD_eq_getD_getElem?,h]
variable{M:Model}{A:Around}{E:Value->Shared->Prop}{s:Shared}
theorem ym{a:SortKind}{ok:Keyed->Prop}{rk:Keyed->Int}(R:Rk M A E s a ok rk){i j:Nat}{Q:Option Bool->SortSt->Prop}{st:SortSt}(d:kindOf st=a)(b:∀x∈arrOf st,ok x)(hi:i<(arrOf st).size)(c:j<(arrOf st).size)
  (q:Q (some (decide (kr rk (arrOf st) i<kr rk (arrOf st) j))) st):wpS M A E s (ltAt' i j) Q st:=by
 rw[ltAt'_eq];show au (wpS_get (au (lq hi (au (lq c ?_)))));show R.lt _ _ _ _ (b _ (bA _)) (b _ (bA _)) d ?_;unfold kr at q;rwa [mv hi,mv c] at q
theorem Sl.ok{xs ys:Array Keyed}{lo n:Nat}(h:Sl xs ys lo n){ok:Keyed->Prop}(a:∀x∈xs,ok x):∀x∈ys,ok x:=λx hx=>a x (h.pm.mem_iff.mp hx)
theorem TB{F:SortKind}{ok:Keyed->Prop}{rk:Keyed->Int}(R:Rk M A E s F ok rk){lo n k0:Nat}{Q:Bool->SortSt->Prop}{st:SortSt}(P:kindOf st=F)(N:∀x∈arrOf st,ok x)(hn:lo+n<=(arrOf st).size)(O:jC rk (arrOf st) lo k0)(W:k0<=n)
  (q:∀ys,Sl (arrOf st) ys lo n->jC rk ys lo n->Q true (setArr st ys)):wpS M A E s (binarySort' lo n k0) Q st:=by
 rw[binarySort'_eq];show au (wpS_mono (bJ (I:=λk (c:Option Bool×Unit) b=>c.1=none/\∃ys,b=setArr st ys/\Sl (arrOf st) ys lo n/\jC rk ys lo (min k n))
  (Q:=λc b=>c.1=none/\∃ys,b=setArr st ys/\Sl (arrOf st) ys lo n/\jC rk ys lo n) ?step ?fin ?init) ?post)
 case post=>
  rintro⟨c,⟨⟩⟩ b ⟨a,ys,rfl,g,f⟩;dsimp only at a;subst a;show aA (q ys g f)
 case init=>
  show⟨rfl,arrOf st,rfl,Sl.refl _ _ _,λi j t u=>?_⟩;by_cases g:k0=0
  .have:i=j:=by ext
   subst this;show Int.le_refl _
  show O i j t (by ext)
 case fin=>
  rintro c b ⟨a,ys,rfl,g,f⟩;show⟨a,ys,rfl,g,by rwa [show min (max (max k0 1) n) n=n by ext] at f⟩
 case step=>
  rintro k ⟨c,⟨⟩⟩ b X U ⟨a,ys,rfl,g,f⟩;dsimp only at a ⊢;subst a;rw[show min k n=k by ext] at f;have V:=g.size;have L:=g.ok N;obtain⟨p,D⟩:∃p,Cut (λm=>!decide (kr rk ys (lo+k)<kr rk ys (lo+m))) k p:=by
   show vc _ _ λi j t u h=>?_
   have:=f i j t u;simp only[bK,bj] at h ⊢;ext
  have T:=D.1;show au (wpS_mono (bJ (I:=λj (c:Option Bool×Nat×Nat) b=>b=setArr st ys/\c.1=none/\c.2.1<=p/\p<=c.2.2/\c.2.2<=k/\c.2.2-c.2.1+j<=k)
   (Q:=λ(c:Option Bool×Nat×Nat) b=>b=setArr st ys/\c.1=none/\c.2.1=p) ?_ ?_ ⟨rfl,rfl,aN _,T,ay _,by show k-0+0<=k;ext⟩) ?_)
  .rintro j ⟨c,l,r⟩ b _ u ⟨rfl,a,o,C,B,y⟩;dsimp only at a o C B y ⊢;subst a;by_cases hd:l>=r
   .rw[if_pos hd];show aA ⟨rfl,rfl,by dsimp only;ext⟩
   rw[if_neg hd];have S:l<=(l+r)/2/\(l+r)/2<r:=by ext
   generalize (l+r)/2=d at S ⊢;show au (ym R P L (show lo+k<ys.size by ext) (show lo+d<ys.size by ext) ?_);have hm:=D.2 (d) (by ext);simp only[bK,bj] at hm;dsimp only;by_cases w:kr rk ys (lo+k)<kr rk ys (lo+d)
   .have:¬d<p:=λz=>hm.mpr z w
    rw[show decide (kr rk (arrOf (setArr st ys)) (lo+k)<kr rk (arrOf (setArr st ys)) (lo+d))=true from decide_eq_true w];simp only[aQ];show aA ⟨rfl,rfl,o,by dsimp only;ext,by dsimp only;ext,by dsimp only;ext⟩
   have:d<p:=hm.mp w;rw[show decide (kr rk (arrOf (setArr st ys)) (lo+k)<kr rk (arrOf (setArr st ys)) (lo+d))=false from decide_eq_false w];simp only[aj,aP];show aA ⟨rfl,rfl,by dsimp only;ext,C,B,by dsimp only;ext⟩
  .rintro⟨c,l,r⟩ b ⟨rfl,a,o,C,B,y⟩;dsimp only at a o C B y ⊢;show⟨rfl,a,by rw[Nat.max_eq_right (aN k)] at y;ext⟩
  rintro⟨c,l,r⟩ b ⟨rfl,a,o⟩;dsimp only at a o ⊢;subst a o;dsimp only;rw[moveDown'_eq];show au (wpS_modify (aA ⟨rfl,bubble ys (lo+k) (lo+k-(lo+l)),rfl,g.trans ⟨bubble_perm _ _ _,λj u=>?_⟩,?_⟩))
  .rw[getElem?_bubble (by ext) _ (by ext),if_neg (by ext),if_neg (by ext)]
  rw[show min (k+1) n=k+1 by ext];have G:∀j,kr rk (bubble ys (lo+k) (lo+k-(lo+l))) (lo+j)=if j=l then kr rk ys (lo+k) else if l<j/\j<=k then kr rk ys (lo+(j-1)) else kr rk ys (lo+j):=λj=>by
   have e:=getElem?_bubble (xs:=ys) (src:=lo+k) (by ext) (lo+k-(lo+l)) (by ext) (lo+j);by_cases c1:j=l
   .rw[if_pos (by ext)] at e;rw[if_pos c1];show zm e
   rw[if_neg (by ext)] at e;rw[if_neg c1];by_cases H:l<j/\j<=k
   .rw[if_pos (by ext),show lo+j-1=lo+(j-1) by ext] at e;rw[if_pos H];show zm e
   rw[if_neg (by ext)] at e;rw[if_neg H];show zm e
  have below:∀m,m<l->kr rk ys (lo+m)<=kr rk ys (lo+k):=λm hm=>by
   have:=(D.2 m (by ext)).mpr hm;simp only[bK,bj] at this;ext
  have above:∀m,l<=m->m<k->kr rk ys (lo+k)<=kr rk ys (lo+m):=λm hm K=>by
   have:=mt (D.2 m K).mp (by ext);simp only[bK,bj] at this;ext
  intro i j t u;rw[G,G];by_cases a1:i=l
  .rw[if_pos a1];by_cases v:j=l
   .rw[if_pos v];show Int.le_refl _
   rw[if_neg v,if_pos (by ext)];show above _ (by ext) (by ext)
  rw[if_neg a1];by_cases a2:l<i/\i<=k
  .rw[if_pos a2,if_neg (by ext),if_pos (by ext)];show f _ _ (by ext) (by ext)
  rw[if_neg a2];by_cases v:j=l
  .rw[if_pos v];show below i (by ext)
  rw[if_neg v];by_cases J:l<j/\j<=k
  .rw[if_pos J];show f _ _ (by ext) (by ext)
  rw[if_neg J];show f _ _ t (by ext)
theorem Fi{rk:Keyed->Int}{xs:Array Keyed}{i j:Nat}(b:j<=xs.size)(k:Nat):kr rk (mirror xs i j ((j-i)/2)) k=if i<=k/\k<j then kr rk xs (i+j-1-k) else kr rk xs k:=by
 have e:=getElem?_mirror_all (i:=i) b k;by_cases a:i<=k/\k<j
 .rw[if_pos a] at e ⊢;show zm e
 rw[if_neg a] at e ⊢;show zm e
theorem CK{xs:Array Keyed}{i j lo n:Nat}(a:j<=xs.size)(hi:lo<=i)(hn:j<=lo+n):Sl xs (mirror xs i j ((j-i)/2)) lo n:=
 ⟨mirror_perm _ _ _ _,λk b=>by rw[getElem?_mirror_all a,if_neg (by ext)]⟩
theorem FH{rk:Keyed->Int}{xs:Array Keyed}{i j:Nat}(b:j<=xs.size)(a:∀k,i<=k->k<j->kr rk xs k=kr rk xs (j-1))(k:Nat):kr rk (mirror xs i j ((j-i)/2)) k=kr rk xs k:=by
 rw[Fi b];split
 .rw[a _ (by ext) (by ext),a k (by ext) (by ext)]
 rfl
def Dec(rk:Keyed->Int)(xs:Array Keyed)(lo n:Nat):Prop:=∀i j,i<=j->j<n->kr rk xs (lo+j)<=kr rk xs (lo+i)
theorem jC.more{rk:Keyed->Int}{xs:Array Keyed}{lo n:Nat}(h:jC rk xs lo n)(hn:1<=n)(c:kr rk xs (lo+n-1)<=kr rk xs (lo+n)):jC rk xs lo (n+1):=λi j a d=>by
 by_cases e:j=n
 .subst e;by_cases b:i=j
  .subst b;show Int.le_refl _
  have:=h i (j-1) (by ext) (by ext);rw[show lo+(j-1)=lo+j-1 by ext] at this;ext
 show h i j a (by ext)
theorem Dec.more{rk:Keyed->Int}{xs:Array Keyed}{lo n:Nat}(h:Dec rk xs lo n)(hn:1<=n)(c:kr rk xs (lo+n)<=kr rk xs (lo+n-1)):Dec rk xs lo (n+1):=λi j a d=>by
 by_cases e:j=n
 .subst e;by_cases b:i=j
  .subst b;show Int.le_refl _
  have:=h i (j-1) (by ext) (by ext);rw[show lo+(j-1)=lo+j-1 by ext] at this;ext
 show h i j a (by ext)
theorem Dec.turn{rk:Keyed->Int}{xs:Array Keyed}{lo n:Nat}(h:Dec rk xs lo n)(hn:lo+n<=xs.size):jC rk (mirror xs lo (lo+n) ((lo+n-lo)/2)) lo n:=λi j a b=>by
 rw[Fi hn,Fi hn,if_pos (by ext),if_pos (by ext)];have:=h (n-1-j) (n-1-i) (by ext) (by ext);rw[show lo+(lo+n)-1-(lo+i)=lo+(n-1-i) by ext,show lo+(lo+n)-1-(lo+j)=lo+(n-1-j) by ext];show this
variable{M:Model}{A:Around}{E:Value->Shared->Prop}{s:Shared}
theorem Ct{i j:Nat}{Q:Unit->SortSt->Prop}{st:SortSt}(h:Q () (setArr st (mirror (arrOf st) i j ((j-i)/2)))):wpS M A E s (reverseSlice' i j) Q st:=by
 rw[reverseSlice'_eq];show wpS_modify h
theorem S1{J:SortKind}{ok:Keyed->Prop}{rk:Keyed->Int}(R:Rk M A E s J ok rk){lo f:Nat}{Q:Option Nat->SortSt->Prop}{st:SortSt}(B:kindOf st=J)(w:∀x∈arrOf st,ok x)(hn:lo+f<=(arrOf st).size)(X:1<=f)
  (q:∀ys n,1<=n->n<=f->Sl (arrOf st) ys lo f->jC rk ys lo n->Q (some n) (setArr st ys)):wpS M A E s (countRun' lo f) Q st:=by
 rw[countRun'_eq];show au (wpS_mono (bJ (I:=λi (c:Option (Option Nat)×Nat) a=>a=st/\c.1=none/\c.2=i/\jC rk (arrOf st) lo i)
  (Q:=λ(c:Option (Option Nat)×Nat) a=>a=st/\c.1=none/\1<=c.2/\c.2<=f/\jC rk (arrOf st) lo c.2/\(c.2<f->kr rk (arrOf st) (lo+c.2)<kr rk (arrOf st) (lo+c.2-1))) ?_ ?_ ⟨rfl,rfl,rfl,λi j r u=>by rw[show i=j by ext];show Int.le_refl _⟩) ?_)
 .rintro i ⟨c,n⟩ a D N ⟨rfl,b,e,d⟩;dsimp only at b e ⊢;subst b e;show au (ym R B w (by ext) (by ext) ?_);dsimp only;by_cases m:kr rk (arrOf a) (lo+n)<kr rk (arrOf a) (lo+n-1)
  .simp only[m,bY,aQ];show aA ⟨rfl,rfl,D,by dsimp only;ext,d,λ_=>m⟩
  simp only[m,bO,aj,aP];show aA ⟨rfl,rfl,rfl,d.more D (by ext)⟩
 .rintro⟨c,n⟩ a ⟨rfl,b,e,d⟩;dsimp only at b e ⊢;subst e;show⟨rfl,b,by ext,by ext,d,λz=>by ext⟩
 rintro⟨c,n⟩ a ⟨rfl,b,n1,n2,d,hd⟩;dsimp only at b n1 n2 d hd ⊢;subst b;dsimp only;by_cases G:n=f
 .rw[if_pos (by simpa using G)];show aA (q (arrOf a) n n1 n2 (Sl.refl _ _ _) d)
 rw[if_neg (by simpa using G)];have W:=hd (by ext);generalize hR:(rule "list.sort.descending-run" >>= _:StateT SortSt Sem (Option Nat))=V;have mP:∀v,Sl (arrOf a) v lo f->Dec rk v lo (n+1)->wpS M A E s V Q (setArr a v):=by
  rw[<-hR];clear hR;intro v F H;have n3:n<f:=by ext
  clear hd W d G n2;show au (yf ?_);show au (wpS_mono (bJ (I:=λi (c:Option (Option Nat)×Nat×Nat) h=>∃ys,h=setArr a ys/\Sl (arrOf a) ys lo f/\c.1=none/\c.2.1=i/\Dec rk ys lo i/\c.2.2<i/\∀t,t<=c.2.2->kr rk ys (lo+i-1-t)=kr rk ys (lo+i-1))
   (Q:=λ(c:Option (Option Nat)×Nat×Nat) h=>∃ys,h=setArr a ys/\Sl (arrOf a) ys lo f/\c.1=none/\1<=c.2.1/\c.2.1<=f/\Dec rk ys lo c.2.1/\c.2.2<c.2.1/\∀t,t<=c.2.2->kr rk ys (lo+c.2.1-1-t)=kr rk ys (lo+c.2.1-1)) ?_ ?_ ⟨v,rfl,F,rfl,rfl,H,by dsimp only;ext,λt ht=>by rw[show t=0 by dsimp only at ht;ext];rfl⟩) ?_)
  .clear H F;rintro i ⟨c,n,e⟩ h D N ⟨ys,rfl,g,b,C,o,p,eq⟩;dsimp only at b C p eq ⊢;subst b C;have T:=g.size;show au (ym R B (g.ok w) (show lo+n<ys.size by ext) (show lo+n-1<ys.size by ext) ?_);rw[show arrOf (setArr a ys)=ys from rfl];dsimp only;by_cases m:kr rk ys (lo+n)<kr rk ys (lo+n-1)
   .simp only[m,bY,aQ];have P:=o.more (by ext) (Int.le_of_lt m);by_cases ep:e>0
    .rw[if_pos ep]
     have l:=FH (rk:=rk) (xs:=ys) (i:=lo+n-(e+1)) (j:=lo+n) (by ext) (λk k1 k2=>by
      have:=eq (lo+n-1-k) (by ext)
      rwa [show lo+n-1-(lo+n-1-k)=k by ext] at this)
     show au (Ct ?_);show aA ⟨_,rfl,g.trans (CK (by show lo+n<=ys.size;ext) (by ext) (by ext)),rfl,rfl,λi j r u=>?_,by dsimp only;ext,λt ht=>by rw[show t=0 by dsimp only at ht;ext];rfl⟩;have:=P i j r u;rw[<-l,<-l] at this;show this
    rw[if_neg ep];show aA ⟨ys,rfl,g,rfl,rfl,P,by dsimp only;ext,λt ht=>by rw[show t=0 by dsimp only at ht;ext];rfl⟩
   simp only[m,bO,aj,aP];show au (ym R B (g.ok w) (show lo+n-1<ys.size by ext) (show lo+n<ys.size by ext) ?_);rw[show arrOf (setArr a ys)=ys from rfl];dsimp only;by_cases S:kr rk ys (lo+n-1)<kr rk ys (lo+n)
   .simp only[S,bY,aQ];show aA ⟨ys,rfl,g,rfl,by dsimp only;ext,by dsimp only;ext,o,p,eq⟩
   simp only[S,bO,aj,aP];show aA ⟨ys,rfl,g,rfl,rfl,o.more (by ext) (by ext),by dsimp only;ext,λt ht=>?_⟩;dsimp only at ht;rw[show lo+(n+1)-1=lo+n by ext];by_cases t0:t=0
   .subst t0;rfl
   have:=eq (t-1) (by ext);rw[show lo+n-1-(t-1)=lo+n-t by ext] at this;ext
  .rintro⟨c,n,e⟩ h ⟨ys,rfl,g,b,C,o,p,eq⟩;dsimp only at b C p eq ⊢;subst C;show⟨ys,rfl,g,b,by ext,by ext,o,p,eq⟩
  clear H F;rintro⟨c,n,e⟩ h ⟨ys,rfl,g,b,n1,n2,o,p,eq⟩;dsimp only at b n1 n2 o p eq ⊢;subst b;dsimp only;have T:=g.size;generalize L:(reverseSlice' lo (lo+n) >>= _:StateT SortSt Sem (Option Nat))=Tl;have tail:∀ws,Sl (arrOf a) ws lo f->Dec rk ws lo n->wpS M A E s Tl Q (setArr a ws):=by
   rw[<-L];clear L;intro ws lw U;have hw:=lw.size;show au (Ct ?_);have y:=lw.trans (CK (xs:=ws) (i:=lo) (j:=lo+n) (lo:=lo) (n:=f) (by ext) (by ext) (by ext));have hz:=U.turn (by ext);show wpS M A E s _ Q (setArr a (mirror ws lo (lo+n) ((lo+n-lo)/2)));generalize mirror ws lo (lo+n) ((lo+n-lo)/2)=zs at y hz;show au (wpS_mono (bJ (I:=λi (c:Option (Option Nat)×Nat) h=>h=setArr a zs/\c.1=none/\c.2=i/\jC rk zs lo i)
    (Q:=λ(c:Option (Option Nat)×Nat) h=>h=setArr a zs/\c.1=none/\1<=c.2/\c.2<=f/\jC rk zs lo c.2) ?_ ?_ ⟨rfl,rfl,rfl,hz⟩) ?_)
   .rintro i ⟨c,n⟩ h D N ⟨rfl,b,e,d⟩;dsimp only at b e ⊢;subst b e;show au (ym R B (y.ok w) (show lo+n<zs.size by have:=y.size;ext) (show lo+n-1<zs.size by have:=y.size;ext) ?_);rw[show arrOf (setArr a zs)=zs from rfl];dsimp only;by_cases m:kr rk zs (lo+n)<kr rk zs (lo+n-1)
    .simp only[m,bY,aQ];show aA ⟨rfl,rfl,by dsimp only;ext,by dsimp only;ext,d⟩
    simp only[m,bO,aj,aP];show aA ⟨rfl,rfl,rfl,d.more (by ext) (by ext)⟩
   .rintro⟨c,n⟩ h ⟨rfl,b,e,d⟩;dsimp only at b e ⊢;subst e;show⟨rfl,b,by ext,by ext,d⟩
   rintro⟨c,n⟩ h ⟨rfl,b,n1,n2,d⟩;dsimp only at b n1 n2 d ⊢;subst b;show aA (q zs n n1 n2 y d)
  by_cases ep:e>0
  .rw[if_pos ep]
   have l:=FH (rk:=rk) (xs:=ys) (i:=lo+n-(e+1)) (j:=lo+n) (by ext) (λk k1 k2=>by
    have:=eq (lo+n-1-k) (by ext)
    rwa [show lo+n-1-(lo+n-1-k)=k by ext] at this)
   show au (Ct (tail _ (g.trans (CK (xs:=ys) (i:=lo+n-(e+1)) (j:=lo+n) (lo:=lo) (n:=f) (by ext) (by ext) (by ext))) λi j r u=>?_));have:=o i j r u;rw[<-l,<-l] at this;show this
  rw[if_neg ep];show tail ys g o
 clear hR;by_cases O:n>1
 .rw[if_pos O];show au (ym R B w (by ext) (by ext) ?_);dsimp only;by_cases K:kr rk (arrOf a) lo<kr rk (arrOf a) (lo+n-1)
  .simp only[K,bY,aQ];show aA (q (arrOf a) n n1 n2 (Sl.refl _ _ _) d)
  simp only[K,bO,aj,aP];have same:∀k,lo<=k->k<lo+n->kr rk (arrOf a) k=kr rk (arrOf a) (lo+n-1):=λk k1 k2=>by
   have a1:=d 0 (k-lo) (by ext) (by ext);have a2:=d (k-lo) (n-1) (by ext) (by ext);rw[show lo+(k-lo)=k by ext] at a1 a2;rw[show lo+(n-1)=lo+n-1 by ext] at a2;simp only[Nat.add_zero] at a1;ext
  have l:=FH (rk:=rk) (xs:=arrOf a) (i:=lo) (j:=lo+n) (by ext) same;show au (Ct (mP _ (CK (xs:=arrOf a) (i:=lo) (j:=lo+n) (lo:=lo) (n:=f) (by ext) (by ext) (by ext)) (Dec.more (λi j r u=>?_) n1 ?_)))
  .rw[l,l,same _ (by ext) (by ext),same (lo+i) (by ext) (by ext)];show Int.le_refl _
  rw[l,l];ext
 rw[if_neg O];show mP (arrOf a) (Sl.refl _ _ _) (Dec.more (λi j r u=>by rw[show i=j by ext];show Int.le_refl _) n1 (by ext))
noncomputable def starts:Nat->List (List Keyed)->List (Nat×Nat)
 | _,[]=>[]
 | st,X::a=>(st,X.length)::starts (st+X.length) a
noncomputable abbrev ft(t:Nat×Nat×Nat):Nat×Nat:=(t.1,t.2.1)
theorem Ft:∀(st:Nat)(a:List (List Keyed)),(starts st a).length=a.length
 | _,[]=>rfl
 | st,X::a=>by simp[starts,Ft]
theorem L7:∀(st:Nat)(a:List (List Keyed))(W:List Keyed),starts st (a++[W])=starts st a++[(st+a.flatten.length,W.length)]
 | st,[],W=>by simp[starts]
 | st,X::a,W=>by
  simp only[List.cons_append,starts,L7 (st+X.length) a W,List.flatten_cons,ar];rw[show st+X.length+a.flatten.length=st+(X.length+a.flatten.length) by ext]
theorem Fh:∀(st:Nat)(a:List (List Keyed))(X:List Keyed)(Xs2:List (List Keyed)),(starts st (a++X::Xs2))[a.length]?=some (st+a.flatten.length,X.length)
 | st,[],X,Xs2=>by simp[starts]
 | st,A::a,X,Xs2=>by
  simp only[List.cons_append,starts,aH,bR,Fh (st+A.length) a X Xs2,List.flatten_cons,ar];rw[show st+A.length+a.flatten.length=st+(A.length+a.flatten.length) by ext]
theorem L6{X Y Z:List Keyed}{Xs2:List (List Keyed)}(hz:Z.length=X.length+Y.length):∀(st:Nat)(a:List (List Keyed)),((starts st (a++X::Y::Xs2)).set a.length (st+a.flatten.length,X.length+Y.length)).eraseIdx (a.length+1)=starts st (a++Z::Xs2)
 | st,[]=>by
  simp[starts,hz,Nat.add_assoc]
 | st,A::a=>by
  have b:=L6 (Xs2:=Xs2) hz (st+A.length) a;simp only[List.cons_append,starts,aH,List.set_cons_succ,List.eraseIdx_cons_succ,List.flatten_cons,ar];rw[show st+(A.length+a.flatten.length)=st+A.length+a.flatten.length by ext,b]
theorem L9{α b:Type}(f:α->b):∀(l:List α)(n:Nat),(l.map f).eraseIdx n=(l.eraseIdx n).map f
 | [],_=>rfl
 | a::r,0=>rfl
 | a::r,n+1=>by show f a::(r.map f).eraseIdx n=_;rw[L9 f r n];rfl
structure RI(rk:Keyed->Int)(a0 arr:Array Keyed)(pend:Array (Nat×Nat×Nat))(Xs:List (List Keyed))(S:List Keyed):Prop where
 pm:arr.toList.Perm a0.toList
 dec:arr.toList=Xs.flatten++S
 so:∀X∈Xs,fK rk X/\0<X.length
 ps:pend.toList.map ft=starts 0 Xs
theorem Rq{a:List (List Keyed)}{i:Nat}(h:i+1<a.length):∃b X Y Xs2,a=b++X::Y::Xs2/\b.length=i:=by
 show⟨a.take i,a[i],a[i+1],a.drop (i+2),?_,by simp;ext⟩;rw[<-bG,<-bG,bB]
theorem JO{b:Array (Nat×Nat×Nat)}{i a n:Nat}{l:List (Nat×Nat)}(h:b.toList.map ft=l)(e:l[i]?=some (a,n)):∃p,b[i]?=some (a,n,p):=by
 rw[<-h,aG,Array.getElem?_toList] at e;cases c:b[i]? with
 | none=>rw[c] at e;cases e
 | some t=>
  rw[c] at e;obtain⟨x,y,z⟩:=t;simp at e;obtain⟨rfl,rfl⟩:=e;show⟨z,rfl⟩
variable{M:Model}{A:Around}{E:Value->Shared->Prop}{s:Shared}
theorem Kh{e:SortKind}{ok:Keyed->Prop}{rk:Keyed->Int}(R:Rk M A E s e ok rk){a0:Array Keyed}{d:List (List Keyed)}{S:List Keyed}{i:Nat}{Q:Bool->SortSt->Prop}{st:SortSt}(u:kindOf st=e)(v:failedOf st=none)(t:∀x∈a0,ok x)
  (h:RI rk a0 (arrOf st) (pendingOf st) d S) (hi:i+1<d.length)
  (q:∀c k,kindOf c=e->failedOf c=none->RI rk a0 (arrOf c) (pendingOf c) k S->k.length+1=d.length->k.flatten.length=d.flatten.length->Q true c):wpS M A E s (mergeAt' i) Q st:=by
 obtain⟨a,X,Y,Xs2,rfl,rfl⟩:=Rq hi;obtain⟨r,o⟩:=JO h.ps (Fh 0 a X (Y::Xs2));have p:=Fh 0 (a++[X]) Y Xs2;rw[show a++[X]++Y::Xs2=a++X::Y::Xs2 by simp,ar,List.length_singleton] at p;obtain⟨pb,j⟩:=JO h.ps p;rw[Nat.zero_add] at o j;rw[show(a++[X]).flatten.length=a.flatten.length+X.length by simp] at j;have f:=h.so X (by simp);have n:=h.so Y (by simp);have hd:(arrOf st).toList=a.flatten++(X++(Y++(Xs2.flatten++S))):=by rw[h.dec];simp
 show UK R u v (λx hx=>t x ?_) hd o j f.2 n.2 f.1 n.1 λZ g l zs=>?_
 .have:=h.pm.mem_iff.mp (bI.mpr hx);show bI.mp this
 have m:Z.length=X.length+Y.length:=by rw[l.length_eq,ar]
 show q _ (a++Z::Xs2) rfl rfl ⟨?_,?_,λW b=>?_,?_⟩ (by simp only[ar,aH];ext) (by simp[m];ext)
 .refine List.Perm.trans ?_ h.pm;rw[hd];show(a.flatten++(Z++(Xs2.flatten++S))).Perm _;show List.Perm.append_left _ ?_;rw[<-bp X];show l.append_right _
 .show a.flatten++(Z++(Xs2.flatten++S))=_;simp
 .rcases av.mp b with b | b
  .exact h.so W (by simp[b])
  rcases ao.mp b with rfl | b
  .exact⟨zs,by have:=f.2;ext⟩
  show h.so W (by simp[b])
 have:=L6 (X:=X) (Y:=Y) (Z:=Z) (Xs2:=Xs2) m 0 a;rw[<-this,<-h.ps,Nat.zero_add];show List.map ft ((((pendingOf st).setIfInBounds a.length (a.flatten.length,X.length+Y.length,r)).eraseIdxIfInBounds (a.length+1)).toList)=_;rw[Array.toList_eraseIdxIfInBounds,Array.toList_setIfInBounds,<-L9,List.map_set]
theorem Pu{rk:Keyed->Int}{xs ys:Array Keyed}{F S:List Keyed}{m n:Nat}(h:Sl xs ys F.length m)(hd:xs.toList=F++S)(a:jC rk ys F.length n)(hn:F.length+n<=xs.size):∃W e,ys.toList=F++(W++e)/\W.length=n/\fK rk W:=by
 have g:=h.size;have c:ys.toList.take F.length=F:=by
  have:ys.toList.take F.length=xs.toList.take F.length:=by
   apply List.ext_getElem?;intro i;rw[List.getElem?_take,List.getElem?_take];split
   .rw[Array.getElem?_toList,Array.getElem?_toList];show h.out i (.inl (by assumption))
   rfl
  rw[this,hd,List.take_left]
 show⟨(ys.toList.drop F.length).take n,(ys.toList.drop F.length).drop n,?_,by simp;ext,?_⟩
 .rw[bB];conv=>lhs;rw[<-bB F.length ys.toList,c]
 show List.pairwise_iff_getElem.mpr λi j hi b f=>?_
 have d:j<n:=by simp at b;ext
 have:=a i j (by ext) d;unfold kr at this;rw[mv (by ext),mv (by ext)] at this;simpa[List.getElem_take,List.getElem_drop] using this
variable{M:Model}{A:Around}{E:Value->Shared->Prop}{s:Shared}
theorem Tz(p:Array (Nat×Nat×Nat))(k:Nat)(f:Nat×Nat×Nat->Nat×Nat×Nat)(h:∀x,ft (f x)=ft x):(p.modify k f).toList.map ft=p.toList.map ft:=by
 apply List.ext_getElem?;intro i;rw[aG,aG,Array.getElem?_toList,Array.getElem?_toList,Array.getElem?_modify];split
 .cases p[i]? with
  | none=>rfl
  | some x=>simp only[Option.map_some,h]
 rfl
theorem J7:∀(a:List (List Keyed)),(∀X∈a,0<X.length)->a.length<=a.flatten.length
 | [],_=>ay _
 | X::a,h=>by
  have d:=h X (by simp);have c:=J7 a λY b=>h Y (by simp[b])
  rw[List.flatten_cons,ar,aH];ext
theorem Sl.wide{xs ys:Array Keyed}{lo n m:Nat}(h:Sl xs ys lo n)(hn:n<=m):Sl xs ys lo m:=⟨h.pm,λj a=>h.out j (by ext)⟩
theorem Rp{d:Type}{f:Nat->StateT SortSt Sem d}{c:Prop}{_:Decidable c}{b:StateT SortSt Sem Bool}{u:StateT SortSt Sem d}{str:String}{x y:Nat}{Q:d->SortSt->Prop}{st:SortSt}(P:Nat->SortSt->Prop)(h:∀k a,P k a->wpS M A E s (f k) Q a)
  (i:c->wpS M A E s b (λr a=>r=true/\P x a) st) (j:¬c->P y st):wpS M A E s (if c then(rule str >>= λ_=>b >>= λr=>if (!r)=true then u else f x) else f y) Q st:=by
 split
 .rename_i e;show au (yf (au (wpS_mono (i e) λr a g=>?_)));rw[g.1];show h _ _ g.2
 rename_i e;show h _ _ (j e)
theorem Ro{w:SortKind}{ok:Keyed->Prop}{rk:Keyed->Int}(R:Rk M A E s w ok rk){Q:Unit->SortSt->Prop}{st:SortSt}(hk:kindOf st=w)(hf:failedOf st=none)(hp:pendingOf st=#[])(L:∀x∈arrOf st,ok x)
  (q:∀e,(arrOf e).toList.Perm (arrOf st).toList->fK rk (arrOf e).toList->failedOf e=none->Q () e):wpS M A E s sortRuns' Q st:=by
 rw[sortRuns'_eq];show au (wpS_get ?_);dsimp only;generalize ZG:minRun' (arrOf st).size (arrOf st).size 0=J;generalize O:(arrOf st).size=sz;have h0:RI rk (arrOf st) (arrOf st) (pendingOf st) [] (arrOf st).toList:=⟨List.Perm.refl _,rfl,λX r=>(by cases r),by rw[hp];rfl⟩
 show au (wpS_mono (bJ (I:=λi (c:Option Unit×Nat) e=>c.1=none/\kindOf e=w/\failedOf e=none/\∃b S,RI rk (arrOf st) (arrOf e) (pendingOf e) b S/\b.flatten.length=c.2/\c.2<=sz/\i<=c.2)
  (Q:=λ(c:Option Unit×Nat) e=>c.1=none/\kindOf e=w/\failedOf e=none/\∃b,RI rk (arrOf st) (arrOf e) (pendingOf e) b []) ?_ ?_ ⟨rfl,hk,hf,[],_,h0,rfl,aN _,ay _⟩) ?_)
 .rintro i ⟨c,lo⟩ e _ hi ⟨g,o,z,b,S,l,K,hle,H⟩;dsimp only at g K hle H ⊢;subst g K;have as:(arrOf e).size=sz:=by rw[<-O,<-ai,<-ai];show l.pm.length_eq
  have MC:∀x∈arrOf e,ok x:=λx hx=>L x (bI.mp (l.pm.mem_iff.mp (bI.mpr hx)))
  have sl:b.flatten.length+S.length=sz:=by rw[<-as,<-ai,l.dec,ar]
  by_cases hd:b.flatten.length>=sz
  .rw[if_pos hd];have:S=[]:=List.length_eq_zero_iff.mp (by ext);subst this;show aA ⟨rfl,o,z,b,l⟩
  rw[if_neg hd];show au (S1 R o MC (by ext) (by ext) λys n n1 n2 G T=>?_);dsimp only;have P:n<J->n<=min (sz-b.flatten.length) J/\min (sz-b.flatten.length) J<=sz-b.flatten.length:=λh=>by ext
  generalize min (sz-b.flatten.length) J=fr at P ⊢;apply Rp (x:=fr) (y:=n) (λk a=>∃zs,a=setArr e zs/\Sl (arrOf e) zs b.flatten.length (sz-b.flatten.length)/\jC rk zs b.flatten.length k/\1<=k/\k<=sz-b.flatten.length);rotate_left
  .intro g;have f2:=P g;show TB R (st:=setArr e ys) o (G.ok MC) (show _<=ys.size by have:=G.size;ext) T f2.1 λzs Gh U=>⟨rfl,zs,rfl,G.trans (Gh.wide f2.2),U,by ext,f2.2⟩
  .exact λ_=>⟨ys,rfl,G,T,n1,n2⟩
  clear P n1 n2 G T;rintro n _ ⟨zs,rfl,Z,U,n1,n2⟩;obtain⟨W,F,dz,wl,ws⟩:=Pu Z l.dec U (by ext);have Y:RI rk (arrOf st) zs (pendingOf e) b (W++F):=⟨(Array.perm_iff_toList_perm.mp Z.pm).trans l.pm,dz,l.so,l.ps⟩
  have ent:∀(a:SortSt)(d:List (List Keyed)),kindOf a=w->failedOf a=none->RI rk (arrOf st) (arrOf a) (pendingOf a) d (W++F)->d.flatten.length=b.flatten.length->∃v D,RI rk (arrOf st) (arrOf a) ((pendingOf a).push (b.flatten.length,n,0)) v D/\v.flatten.length=b.flatten.length+n:=λa d k2 f2 f m=>by
   show⟨d++[W],F,⟨f.pm,by rw[f.dec];simp,λX r=>?_,?_⟩,by simp[m,wl]⟩
   .rcases av.mp r with r | r
    .exact f.so X r
    simp at r;subst r;show⟨ws,by ext⟩
   rw[bV,aI,f.ps,L7,m,wl,Nat.zero_add];rfl
  show au (wpS_get ?_);cases ZM:(pendingOf (setArr e zs)).back? with
  | none=>
   dsimp only;show au (wpS_modify (aA ?_));obtain⟨v,D,B,C⟩:=ent (setArr e zs) b o z Y rfl;show⟨rfl,o,z,v,D,B,C,by dsimp only;ext,by dsimp only;ext⟩
  | some t=>
   obtain⟨s1,t1,p1⟩:=t;dsimp only;show au (wpS_mono (bJ (I:=λj (c:Option Unit×Unit) a=>c.1=none/\kindOf a=w/\failedOf a=none/\∃d,RI rk (arrOf st) (arrOf a) (pendingOf a) d (W++F)/\d.flatten.length=b.flatten.length)
    (Q:=λ(c:Option Unit×Unit) a=>c.1=none/\kindOf a=w/\failedOf a=none/\∃d,RI rk (arrOf st) (arrOf a) (pendingOf a) d (W++F)/\d.flatten.length=b.flatten.length) ?_ ?_ ⟨rfl,o,z,b,Y,rfl⟩) ?_)
   .rintro j ⟨c,⟨⟩⟩ a _ hj ⟨g,k2,f2,d,f,m⟩;dsimp only at g ⊢;subst g;show au (wpS_get ?_);have pl:(pendingOf a).size=d.length:=by
     have:=congrArg List.length f.ps;rwa [ae,ai,Ft] at this
    by_cases big:(pendingOf a).size>1
    .rw[if_pos big,Array.getElem?_eq_getElem (show(pendingOf a).size-2<(pendingOf a).size by ext)];generalize (pendingOf a)[(pendingOf a).size-2]'(by ext)=u;obtain⟨u1,u2,u3⟩:=u;dsimp only;split
     .exact aA ⟨rfl,k2,f2,d,f,m⟩
     show au (Kh R k2 f2 L f (by ext) λC7 v k3 N B _ C=>?_);simp only[Bool.not_true,aj,aP];show aA ⟨rfl,k3,N,v,B,by rw[C,m]⟩
    rw[if_neg big];dsimp only;show aA ⟨rfl,k2,f2,d,f,m⟩
   .rintro⟨c,⟨⟩⟩ a h;show h
   rintro⟨c,⟨⟩⟩ a ⟨g,k2,f2,d,f,m⟩;dsimp only at g ⊢;subst g;dsimp only;show au (wpS_modify (au (wpS_modify (aA ?_))));obtain⟨v,D,B,C⟩:=ent (setPending a ((pendingOf a).modify ((pendingOf a).size-1) λx=>(x.1,x.2.1,power' sz (2*s1+t1) (2*s1+t1+t1+n) sz))) d k2 f2 ⟨f.pm,f.dec,f.so,by rw[<-f.ps];show Tz _ _ _ λx=>rfl⟩ m;show⟨rfl,k2,f2,v,D,B,C,by dsimp only;ext,by dsimp only;ext⟩
 .rintro⟨c,lo⟩ e ⟨g,o,z,b,S,l,K,hle,H⟩;dsimp only at g K hle H ⊢;rw[Nat.max_eq_right (aN _)] at H;have as:(arrOf e).size=sz:=by rw[<-O,<-ai,<-ai];show l.pm.length_eq
  have sl:b.flatten.length+S.length=sz:=by rw[<-as,<-ai,l.dec,ar]
  have:S=[]:=List.length_eq_zero_iff.mp (by ext);subst this;show⟨g,o,z,b,l⟩
 rintro⟨c,lo⟩ e ⟨g,o,z,b,l⟩;dsimp only at g ⊢;subst g;dsimp only;have as:(arrOf e).size=sz:=by rw[<-O,<-ai,<-ai];show l.pm.length_eq
 have fl:b.flatten.length=sz:=by rw[<-as,<-ai,l.dec];simp
 have xl:=J7 b λX r=>(l.so X r).2
 show au (wpS_mono (bJ (I:=λj (c:Option Unit×Unit) a=>c.1=none/\kindOf a=w/\failedOf a=none/\∃d,RI rk (arrOf st) (arrOf a) (pendingOf a) d []/\d.length+j<=sz)
  (Q:=λ(c:Option Unit×Unit) a=>c.1=none/\kindOf a=w/\failedOf a=none/\∃d,RI rk (arrOf st) (arrOf a) (pendingOf a) d []/\d.length<=1) ?_ ?_ ⟨rfl,o,z,b,l,by ext⟩) ?_)
 .rintro j ⟨c,⟨⟩⟩ a _ hj ⟨g,k2,f2,d,f,m⟩;dsimp only at g ⊢;subst g;show au (wpS_get ?_);have pl:(pendingOf a).size=d.length:=by
   have:=congrArg List.length f.ps;rwa [ae,ai,Ft] at this
  by_cases V:(pendingOf a).size<=1
  .rw[if_pos V];show aA ⟨rfl,k2,f2,d,f,by ext⟩
  rw[if_neg V];have ix:∀(p:Prop)[Decidable p],(if p then(pendingOf a).size-2-1 else(pendingOf a).size-2)+1<d.length:=λp _=>by split<;>ext
  show au (Kh R k2 f2 L f (ix _) λC7 v k3 N B C _=>?_);simp only[Bool.not_true,aj,aP];show aA ⟨rfl,k3,N,v,B,by ext⟩
 .rintro⟨c,⟨⟩⟩ a ⟨g,k2,f2,d,f,m⟩;rw[Nat.max_eq_right (aN _)] at m;show⟨g,k2,f2,d,f,by ext⟩
 rintro⟨c,⟨⟩⟩ a ⟨g,k2,f2,d,f,m⟩;dsimp only at g ⊢;subst g;show aA (q a f.pm ?_ f2);rw[f.dec,a9];match d,m,f.so with
 | [],_,_=>show .nil
 | [X],_,so=>simpa using (so X (by simp)).1
section
variable{prog:Program}{w:World}{A:Around}{E:Value->Shared->Prop}{s:Shared}
structure Ky(prog:Program)(w:World)(A:Around)(s:Shared)(κ:SortKind)(ok:Keyed->Prop)(rk:Keyed->Int):Prop where
 key:∀x y (C:Bool->Shared->Prop),ok x->ok y->C (decide (rk x<rk y)) s->wpAny (model prog w) A (keyLt' κ x.1 y.1) C (λ_ _=>False) s
def kA(n:Nat):Prop:=∀{prog:Program}{w:World}{A:Around}{E:Value->Shared->Prop}{s:Shared}{b:SortKind}{rk:Keyed->Int}{it:Array Keyed}(R:Ky prog w A s b (λx=>x∈it) rk){Q:Unit->SortSt->Prop},it.size=n->
 (∀a,(arrOf a).toList.Perm it.toList->fK rk (arrOf a).toList->failedOf a=none->Q () a)->wpS (model prog w) A E s sortRuns' Q (SortSt.mk' b it #[] 7 none)
structure Ask(prog:Program)(w:World)(A:Around)(E:Value->Shared->Prop)(vs:List Value)(rk:Keyed->Int)(s:Shared):Prop where
 ask:2<=vs.length->∃κ,(∀Q':SortKind->Shared->Prop,Q' κ s->wpAny (model prog w) A (keyKind' vs.toArray) Q' E s)/\Ky prog w A s κ (λx=>x∈pairsOf vs) rk
theorem Tg{rk:Keyed->Int}{l:List Keyed}(h:l.length<2):fK rk l:=by
 cases l with
 | nil=>show .nil
 | cons a r=>
  cases r with
  | nil=>show List.pairwise_singleton _ _
  | cons b t=>
   simp only[aH] at h;ext
theorem UJ{a:Addr}{c:List Value}{n:Nat}{P:Fin->Shared->Prop}{rk:Keyed->Int}(f:s.heap.get? a=some (seqObj "list" c.toArray n))(g:c.length<=sizeLine)(r:2<=c.length->kA c.length)
  (R:∀h',(∀b o,b≠a->s.heap.get? b=some o->h'.get? b=some o)->Ask prog w A E c rk { s with heap:=h' })
  (h:∀d:SortSt,(arrOf d).toList.Perm (pairsOf c).toList->fK rk (arrOf d).toList->P (.done (.ret .none)) { s with heap:=sortedHeap s.heap a c ((arrOf d).map (·.2)) }) :
  wpAny (model prog w) A (Builtin.«list.sort» ⟨[.ref a],[]⟩) P E s:=by
 rw[list_sort_plain];have ha:a<s.heap.objs.size:=aw f;show aa (listItems_at f rfl ?_);show aa (listUpdate_at f rfl ?_ (by simpa using g) (aN _));obtain⟨k,m⟩:∃k,(s.heap.update a (Obj.mapSeq λ_=>#[])).get? a=some (seqObj "list" #[] k):=⟨_,get?_update_seq f (λ_=>#[])⟩
 show aa (seqEpoch_at m rfl ?_);show aa (wpAny_newTuple ?_ (by show c.length<=_;show g));show aa (wpAny_newList ?_ (aN _));show bh ?_;have j:(((s.heap.update a (Obj.mapSeq λ_=>#[])).push (seqObj "tuple" c.toArray 0)).push (seqObj "list" #[] 0)).get? a=some (seqObj "list" #[] k):=by
  rw[Heap.get?_push_ne _ _ _ (by rw[size_push',Heap.size_update];show aF (bT ha)),Heap.get?_push_ne _ _ _ (by rw[Heap.size_update];show aF ha)];show m
 have t:=R (((s.heap.update a (Obj.mapSeq λ_=>#[])).push (seqObj "tuple" c.toArray 0)).push (seqObj "list" #[] 0)) (λb o hb e=>ag _ (ag _ ((aY _ _ (Ne.symm hb)).trans e)));show wpAny (model prog w) A _ P E { s with heap:=((s.heap.update a (Obj.mapSeq λ_=>#[])).push (seqObj "tuple" c.toArray 0)).push (seqObj "list" #[] 0) };dsimp only;have y:c.toArray.size=c.length:=by simp
 have fin:=h;by_cases i:c.toArray.size<2
 .rw[if_pos i,if_pos i];show aa (af ?_);rw[StateT.run_pure];show aa (af ?_);dsimp only;show aa (seqEpoch_at j rfl ?_);show aa (listUpdate_at j rfl ?_ (aN _) (by rw[Array.size_map];show(pairsOf c).size<=_;rw[pairsOf_size];show Nat.le_succ_of_le g));simp only[bne_self_eq_false,aj,aP];show af (fin (SortSt.mk' general' (c.toArray.zip c.toArray) #[] 7 none) (List.Perm.refl _) ?_);show fK rk (pairsOf c).toList;show Tg (by rw[ai,pairsOf_size];ext)
 rw[if_neg i,if_neg i];obtain⟨v,p,kr⟩:=t.ask (by ext);show aa (p _ ?_)
 show aa (bZ (r (by ext) kr
  (Q:=λ_ d=>(arrOf d).toList.Perm (pairsOf c).toList/\fK rk (arrOf d).toList/\failedOf d=none) (pairsOf_size c) λd a1 a2 u=>⟨a1,a2,u⟩) ?_ λ_ _ e=>e)
 rintro⟨⟨⟩,d⟩ x ⟨rfl,l,q,hf⟩;dsimp only;show aa (seqEpoch_at j rfl ?_)
 show aa (listUpdate_at j rfl ?_ (aN _) (by
  rw[Array.size_map,<-ai,l.length_eq,ai,pairsOf_size];show Nat.le_succ_of_le g))
 rw[hf];simp only[bne_self_eq_false,aj,aP];show af (fin d l q)
theorem sg{l:Addr}{a:List Value}{Q:Value->Shared->Prop}{rk:Keyed->Int}(j:s.heap.IsList l a.toArray)(hz:a.length<=sizeLine)(i:2<=a.length->kA a.length)
  (R:∀h',(∀b o,s.heap.get? b=some o->h'.get? b=some o)->Ask prog w A.in1.in1 E a rk { s with heap:=h' })
  (h:∀c:SortSt,(arrOf c).toList.Perm (pairsOf a).toList->fK rk (arrOf c).toList->Q (.ref (s.heap.objs.size+1)) { s with heap:=sortedAll s.heap a ((arrOf c).map (·.2)) }) :
  wpAny (model prog w) A (call (.builtin "sorted") [.ref l]) Q E s:=by
 show Calls.call_function_entry kind_sorted plain_sorted entry_sorted (args_sorted1 _) ?_;unfold Builtin.«sorted»;show aa (m:=checkCount "sorted" 1 1 _) (af ?_);show aa (collect_list j ?_ hz);show aa (wpAny_newList ?_ hz);have d:((s.heap.push (seqObj "list" #[] 0)).update s.heap.objs.size (Obj.mapSeq (·++a.toArray))).objs.size=s.heap.objs.size+1:=by
  rw[Heap.size_update,size_push']
 have g:(((s.heap.push (seqObj "list" #[] 0)).update s.heap.objs.size (Obj.mapSeq (·++a.toArray))).push (seqObj "list" a.toArray 0)).get? (s.heap.objs.size+1)=some (seqObj "list" a.toArray 0):=by
  rw[<-d];show ax _ rfl
 have keep:∀b o,s.heap.get? b=some o->(((s.heap.push (seqObj "list" #[] 0)).update s.heap.objs.size (Obj.mapSeq (·++a.toArray))).push (seqObj "list" a.toArray 0)).get? b=some o:=λb o q=>by
  have f:b<s.heap.objs.size:=aw q;rw[Heap.get?_push_ne _ _ _ (by rw[d];show aF (bT f)),Heap.get?_update_ne _ _ _ _ (aF f),Heap.get?_push_ne _ _ _ (aF f)];show q
 show wpAny _ _ _ _ _ { s with heap:=((s.heap.push (seqObj "list" #[] 0)).update s.heap.objs.size (Obj.mapSeq (·++a.toArray))).push (seqObj "list" a.toArray 0) };rw[d];show aa (bh (wpAny_call_entry slot_list_sort ⟨_,g,rfl⟩ entry_list_sort (UJ (rk:=rk) g hz i (λh' k=>R h' λb o e=>k b o (aF (bT (aw e))) (keep b o e)) λc a1 a2=>⟨_,rfl,?_⟩) (args_list_sort _)));show af ⟨_,rfl,h c a1 a2⟩
end
theorem sr(n:Nat):kA n:=λR _ _ q=>Ro (ok:=λx=>x∈_) ⟨λx y st Q d c e q=>by
 rw[lt'_eq];show au (wpS_get ?_);rw[e]
 show au (wpS_lift (wpAny_attempt (bZ (R.key x y (λb a=>a=_/\b=decide _) d c ⟨rfl,rfl⟩) (λb a ⟨g,f⟩=>⟨g,by subst f;show aA q⟩) λ_ _ z=>z.elim)))⟩ rfl rfl rfl (λx hx=>hx) q
end Ts
namespace HT
theorem oz:∀a b:List Int,lexLt a b=cY b a
 | [],[]=>rfl
 | [],_::_=>rfl
 | _::_,[]=>rfl
 | x::xs,y::ys=>by
  unfold lexLt cY;rw[oz xs ys];by_cases e:x=y
  .subst e;simp
  have c:¬y=x:=λz=>e z.symm
  simp[e,c]
end HT
namespace Ts
open PySem PySem.W PyProof.Rows
section
variable{prog:Program}{w:World}{A:Around}{E:Value->Shared->Prop}{s:Shared}{fin:Bool}{Q:Bool->Shared->Prop}
theorem Rn{f ws:List Value}{ns c:List Int}(g:IntsAre f ns)(hw:IntsAre ws c)(i:Nat)(d:fin=decide (ns.length<c.length))(q:Q (HT.lexLt ns c) s):KatLex prog w A true fin Q (f.zip ws) i s:=by
 induction g generalizing ws c i with
 | nil=>
  subst d;cases hw with
  | nil=>show kat_nil q
  | cons b u hw=>show kat_nil (by simpa[HT.lexLt] using q)
 | cons a t g h=>
  cases hw with
  | nil=>subst d;show kat_nil (by simpa[HT.lexLt] using q)
  | cons b u hw=>
   rw[List.zip_cons_cons];show kat_cons (wpAny_eqBool_int ?_);rw[HT.pC] at q;by_cases e:a=b
   .rw[if_pos e] at q;subst e;simp only[BEq.rfl,bY];show kat_yes (h hw (i+1) (by rw[d];simp) q)
   rw[if_neg e] at q;simp only[beq_eq_false_iff_ne.mpr e,decide_eq_false e];show kat_no ?_;cases i with
   | zero=>show oneLt_int q
   | succ i=>show kat_one _ _ (HT.su A s a t b u prog w _ _ q)
noncomputable def jB(h:Heap)(v:Value):List Int:=match v with
 | .ref a=>match h.get? a with
  | some o=>match o.data with
   | .seq xs _=>numsOf xs.toList
   | _=>[]
  | none=>[]
 | _=>[]
def TupAt(h:Heap)(v:Value):Prop:=∃a o xs n,v=.ref a/\h.get? a=some o/\o.cls=.type "tuple"/\o.data=.seq xs n/\IntsAre xs.toList (jB h v)/\jB h v≠[]
noncomputable def yv(h:Heap)(a:List (List Int))(x:Keyed):Int:=(a.countP λt=>HT.cY (jB h x.1) t:Nat)
theorem vB{d:List (List Int)}{a b:List Int}(ha:a∈d):(d.countP λt=>HT.cY a t)<(d.countP λt=>HT.cY b t)↔HT.cY b a=true:=by
 constructor
 .intro h;cases hb:HT.cY b a with
  | true=>rfl
  | false=>
   have:(d.countP λt=>HT.cY b t)<=(d.countP λt=>HT.cY a t):=by
    show List.countP_mono_left λt _ ht=>?_
    cases e:HT.cY a t with
    | true=>rfl
    | false=>
     have:=HT.lG b a t hb e;rw[this] at ht;cases ht
   ext
 intro h;have sub:∀t,HT.cY a t=true->HT.cY b t=true:=λt ht=>by
  cases e:HT.cY b t with
  | true=>rfl
  | false=>
   have:=HT.lG b t a e (HT.oA a t ht);rw[this] at h;cases h
 induction d with
 | nil=>cases ha
 | cons c r f=>
  rw[List.countP_cons,List.countP_cons];rcases ao.mp ha with rfl | ha
  .have le:(r.countP λt=>HT.cY a t)<=(r.countP λt=>HT.cY b t):=List.countP_mono_left λt _ ht=>sub t ht
   rw[HT.mU,h];simp only[aj,aP,aQ];ext
  have:=f ha;cases e:HT.cY a c with
  | true=>rw[sub c e];simp only[aQ];ext
  | false=>simp only[aj,aP];split<;>ext
theorem LC{h h':Heap}(k:∀b o,h.get? b=some o->h'.get? b=some o):∀{its:List Value},(∀v∈its,TupAt h v)->∃fs,KatTups h' its fs/\fs.length=its.length/\∀v∈fs,∃n t,v=Value.int n t
 | [],_=>⟨[],.nil,rfl,λv c=>by cases c⟩
 | v::r,c=>by
  obtain⟨fs,j,i,g⟩:=LC k (its:=r) λx hx=>c x (aE _ hx)
  obtain⟨a,o,xs,n,rfl,e,f,hd,hi,d⟩:=c v bM;generalize jB h (.ref a)=t at hi d;generalize hx:xs.toList=l at hi;cases hi with
  | nil=>show absurd rfl d
  | cons m u p=>
   have h0:xs[0]?=some (.int m u):=by rw[<-Array.getElem?_toList,hx];rfl
   show⟨.int m u::fs,KatTups.cons (k _ _ e) f hd h0 j,by simp[i],λx hx=>by
    rcases ao.mp hx with rfl | hx
    .exact⟨_,_,rfl⟩
    .exact g x hx⟩
theorem tm{h h':Heap}{its:List Value}(k:∀b o,h.get? b=some o->h'.get? b=some o)(c:∀v∈its,TupAt h v):Ask prog w A E its (yv h (its.map (jB h))) { s with heap:=h' }:=by
 show⟨λH=>⟨tuples' (Value.type "int" != Value.type "tuple"),λJ q=>?_,⟨λx y Q l j q=>?_⟩⟩⟩
 .obtain⟨fs,u,K,r⟩:=LC k c;show kat_kind (s:={ s with heap:=h' }) (T:=.type "int") u (by ext) (λv c=>?_) (by decide +kernel) q;obtain⟨n,t,rfl⟩:=r v c;show Looks.of_pure rfl
 have mem:∀z,z∈pairsOf its->TupAt h z.1/\z.1∈its:=λz hz=>by
  have:z.1∈its:=by
   unfold pairsOf at hz;have D:z∈its.zip its:=by simpa using hz
   show(List.of_mem_zip D).1
  show⟨c _ this,this⟩
 obtain⟨⟨a,F,xs,n,i,ga,ca,C,f,_⟩,p⟩:=mem x l;obtain⟨⟨b,ob,ys,m,g,gb,I,db,d,_⟩,G⟩:=mem y j;have e:decide (yv h (its.map (jB h)) x<yv h (its.map (jB h)) y)=HT.lexLt (jB h x.1) (jB h y.1):=by
  rw[HT.oz,Bool.eq_iff_iff,bE];unfold yv;rw[Int.ofNat_lt];show vB (b9 p)
 rw[e] at q;rw[i,g];rw[i,g] at q;rw[i] at f;rw[g] at d;have B:(Value.type "int" != Value.type "tuple")=true:=by decide +kernel
 rw[B];show kat_lt (k _ _ ga) C (k _ _ gb) db (Rn f d 0 ?_ q);rw[<-f.length,<-d.length];simp
end
end Ts
namespace L2
open PySem PySem.Spec PyProof.Rows
theorem LB{d g:Type}{f:d->g}{a b:List g}(h:a.Perm b):∀{L:List d},b=L.map f->∃c:List d,c.Perm L/\a=c.map f:=by
 induction h with
 | nil=>intro L e;show⟨[],by rw[show L=[] from by simpa using e.symm],rfl⟩
 | cons x h k=>
  intro L e;cases L with
  | nil=>cases e
  | cons y L=>
   rw[az] at e;injection e with n m
   obtain⟨c,j,i⟩:=k m;show⟨y::c,j.cons y,by rw[az,n,i]⟩
 | swap x y l=>
  intro L e;match L,e with
  | [],e=>cases e
  | [_],e=>cases e
  | u::v::L,e=>
   simp only[az,List.cons.injEq] at e;show⟨v::u::L,List.Perm.swap u v L,by simp[e]⟩
 | trans j i q r=>
  intro L e;obtain⟨L2,a1,a2⟩:=r e;obtain⟨s,p,o⟩:=q a2;show⟨s,p.trans a1,o⟩
section
variable{X:Cx}{pos:Pos}{e:Expr}{te:TD}
theorem J6{a:Type}{f:a->V}{g:a->Value}:∀{L:List a},(∀q∈L,RelV (f q) (g q))->Vals (L.map f) (L.map g)
 | [],_=>.nil
 | q::L,h=>.cons (h q bM) (J6 λx hx=>h x (aE _ hx))
theorem Tx:dZ X (.builtin "sorted") (λxs H Q=>∃(p:Addr)(ps:List (V×List Int)),xs=[.ref p]/\fT X.K H p (ps.map (·.1))/\(∀q∈ps,q.2≠[]/\∃b,q.1=.ref b/\gR X.K H b (q.2.map V.int))/\(2<=ps.length->Ts.kA ps.length)/\
  ∀w:List (V×List Int),w.Perm ps->w.Pairwise (λx y=>HT.cY x.2 y.2=false)->∀l,H l=none->Q (.ref l) (upd H l (.lst (w.map (·.1))))):=by
 intro K' s σ H xs us Q I r h;obtain⟨p,ps,rfl,hq,hk,hr,q⟩:=h;obtain⟨u,rfl,Y⟩:=l7 r;cases Y;obtain⟨its,D,pl,hz⟩:=I.list hq;have A:ps.length=its.length:=by rw[<-D.length,ae]
 obtain⟨d,n,g⟩:∃d:List ((V×List Int)×Value),ps=d.map (·.1)/\its=d.map (·.2):=
  ⟨ps.zip its,(List.map_fst_zip (by ext)).symm,(List.map_snd_zip (by ext)).symm⟩
 have rel:∀z∈d,RelV z.1.1 z.2:=λz hz=>by
  obtain⟨i,hi⟩:=List.getElem?_of_mem hz;have c:(ps.map (·.1))[i]?=some z.1.1:=by rw[n];simp[hi]
  obtain⟨v',E,W⟩:=D.get c;have m:its[i]?=some z.2:=by rw[g];simp[hi]
  rw[m] at E;cases E;show W
 have tup:∀z∈d,Ts.TupAt s.heap z.2/\Ts.jB s.heap z.2=z.1.2:=λz hz=>by
  obtain⟨O,b,P,sq⟩:=hk z.1 (by rw[n];show b9 hz);have C:=rel z hz;obtain⟨i1,v1,Z,_⟩:=I.tuple sq;obtain⟨o1,g1,c1,n1,R⟩:=Z;obtain⟨⟨zv,S⟩,zw⟩:=z;simp only at P C v1 O ⊢;subst P;cases C;have L:=yj v1;have e:Ts.jB s.heap (.ref b)=S:=by
   unfold Ts.jB;simp only[g1,R];show L.numsOf
  show⟨⟨b,o1,_,n1,rfl,g1,c1,R,by rw[e];show L,by rw[e];show O⟩,e⟩
 show Ts.sg (rk:=Ts.yv s.heap (its.map (Ts.jB s.heap))) pl.isList (by rw[<-A,<-ae (f:=(·.1))];show hz) (by rw[<-A];show hr) (λh' k=>Ts.tm k λv M=>?_) λB N j=>?_
 .rw[g] at M;obtain⟨z,hz,rfl⟩:=aR.mp M;show(tup z hz).1
 have ep:(PyProof.Rows.pairsOf its).toList=d.map λz=>((z.2,z.2):Keyed):=by
  unfold PyProof.Rows.pairsOf;rw[g];simp only[List.zip_toArray];clear n g rel tup N j;induction d with
  | nil=>rfl
  | cons a r J=>simp at J ⊢;show J
 obtain⟨t,c,m⟩:=LB (N.trans (List.Perm.of_eq ep)) rfl;have Gs:∀z∈t,RelV z.1.1 z.2:=λz hz=>rel z (c.subset hz)
 have out:((arrOf B).map (·.2)).toList=t.map (·.2):=by
  rw[Array.toList_map,m,aS];rfl
 obtain⟨en,he⟩:=sortedAll_at s.heap its ((arrOf B).map (·.2));have hf:H (s.heap.objs.size+1)=none:=I.dD.fresh (b8 _)
 have F:=q (t.map (·.1)) (by rw[n];show c.map _) (by
  rw[List.pairwise_map];unfold Ts.fK at j;rw[m,List.pairwise_map] at j;show j.imp_of_mem λ{a b} ha hb G=>?_
  have U:=(tup a (c.subset ha)).2;have T:=(tup b (c.subset hb)).2;have mb:Ts.jB s.heap b.2∈its.map (Ts.jB s.heap):=b9 (by rw[g];show b9 (c.subset hb));unfold Ts.yv at G;cases hg:HT.cY a.1.2 b.1.2 with
  | false=>rfl
  | true=>
   rw[<-U,<-T] at hg;have:=(Ts.vB mb).mpr hg;simp only at G;ext) _ hf
 rw[aS] at F;show⟨.ref (s.heap.objs.size+1),_,I.laid (a:=s.heap.objs.size+1) (o:=.lst (t.map ((·.1)∘(·.1)))) (t':=s.toks) (λb o e=>sortedAll_old e) (b8 _) ?_,rfl,F⟩
 show⟨by
  rw[ae,c.length_eq];have:d.length=its.length:=by rw[g,ae]
  rw[this,<-A,<-ae (f:=(·.1))];show hz,((arrOf B).map (·.2)).toList,en,?_,?_⟩
 .rw[out];show J6 Gs
 rw[Array.toArray_toList];show he
def CA:fc:=λds Q=>match ds with
 | [.lst es]=>match nH es with
  | some b=>(∀t∈b,t≠[])/\∀a:List (List Int),a.Perm b->a.Pairwise (λx y=>HT.cY x y=false)->Q (.ow (a.map λt=>.tup (t.map D.int)))
  | none=>False
 | _=>False
theorem Ep{a:Type}{K:J'}{G:Hp}{f:a->V}{g:a->D}:∀{L:List a},(∀q∈L,Rep K G (f q) (g q))->cx K G (L.map f) (L.map g)
 | [],_=>cx.nil
 | q::L,h=>cx.cons (h q bM) (Ep λx hx=>h x (aE _ hx))
theorem Rm{G H:Hp}{m:List V}{es:List D}{c:List (List Int)}{Q:R->Prop}{P:VK}(s:cJ G H)(A:cx X.K G m [.lst es])(ht:nH es=some c)(hn:∀t∈c,t≠[])(C:2<=c.length->Ts.kA c.length)
  (q:∀g:List (List Int),g.Perm c->g.Pairwise (λx y=>HT.cY x y=false)->Q (.ow (g.map λt=>.tup (t.map D.int)))) (k:∀v j o w,Ext G H w j->eZ X.K w j H v o->Q o->P v j) :
  ∃(p:Addr)(ps:List (V×List Int)),m=[.ref p]/\fT X.K H p (ps.map (·.1))/\(∀q∈ps,q.2≠[]/\∃b,q.1=.ref b/\gR X.K H b (q.2.map V.int))/\(2<=ps.length->Ts.kA ps.length)/\
   ∀d:List (V×List Int),d.Perm ps->d.Pairwise (λx y=>HT.cY x.2 y.2=false)->∀l,H l=none->P (.ref l) (upd H l (.lst (d.map (·.1)))):=by
 obtain⟨v,rfl,n⟩:=lZ A;simp only[Rep] at n;obtain⟨a,xs,rfl,I,F⟩:=n;obtain⟨J,E⟩:=Kl ht F;have u:(xs.zip c).map (·.1)=xs:=List.map_fst_zip (by ext);have h:(xs.zip c).map (·.2)=c:=List.map_snd_zip (by ext);have el:(xs.zip c).length=c.length:=by rw[List.length_zip];ext
 have hz:∀q∈xs.zip c,Rep X.K G q.1 (.tup (q.2.map D.int))/\∃b,q.1=.ref b/\gR X.K G b (q.2.map V.int):=λq f=>by
  obtain⟨i,hi⟩:=List.getElem?_of_mem f;have a1:xs[i]?=some q.1:=by rw[<-u];simp only[aG,hi];rfl
  have a2:c[i]?=some q.2:=by rw[<-h];simp only[aG,hi];rfl
  show E i _ _ a1 a2
 show⟨a,xs.zip c,rfl,by rw[u];show(s.gI I).sq,λz f=>⟨hn _ (by rw[<-h];show b9 f),?_⟩,by rw[el];show C,λd r B=>?_⟩
 .obtain⟨_,b,e,sq⟩:=hz z f;show⟨b,e,s.si sq⟩
 show vi s (ds:=(d.map (·.2)).map λt=>.tup (t.map D.int)) ?_ (q (d.map (·.2)) (by rw[<-h];show r.map _) (by rw[List.pairwise_map];show B)) k;rw[aS];show Ep λq f=>(hz q (r.subset f)).1
theorem Tf(_:X.calm=true):rn X (.builtin "sorted") CA:=by
 show⟨_,Tx,λG H a ds Q P s rs h k=>?_⟩;unfold CA at h;split at h
 .split at h
  .rename_i es b ht;show Rm s rs ht h.1 (λ_=>Ts.sr _) h.2 k
  show h.elim
 show h.elim
end
theorem Fg{X:Cx}{a:List Stmt}:oN X a (λ_ _=>False):=⟨λ_ _ _=>False,λ_ _ _ _ _ _ h=>h.elim,λ_ _ _ _ _ _ _ _ _ h _=>h.elim⟩
end L2
namespace PySem
open Sem (wp)
end PySem
namespace L2
open PySem PySem.Spec PyProof.Rows
section
variable{K:J'}{G0 H0 G H G' H' G2 H2:Hp}{ρ:Ev}{σ:St}{v:V}
theorem dU.unset{i:Nat}{u:Option V}(E:dU K G0 H0 ρ σ G H):dU K G0 H0 (ρ.set i .un) (σ.set i u) G H:=by
 have a:∀j s,gt (ρ.set i .un) j=s->s≠.un->i≠j/\gt ρ j=s:=λj s e f=>by
  rw[wt] at e;by_cases h:i=j/\j<ρ.length
  .rw[if_pos h] at e;show absurd e.symm f
  rw[if_neg h] at e;show⟨λz=>h ⟨z,y4 e f⟩,e⟩
 have ss:∀j,i≠j->(σ.set i u)[j]?=σ[j]?:=λj h=>by rw[List.getElem?_set,if_neg h]
 obtain⟨own,o1,m⟩:=E.on;show⟨E.e,by simp[E.len],λj d h=>?_,λj ds h=>?_,λj k ds es l c b=>?_,own,λj ds p h g=>?_,λj o h=>?_⟩
 .obtain⟨n,h⟩:=a j _ h (by simp);rw[ss j n];show E.fz j d h
 .obtain⟨n,h⟩:=a j _ h (by simp);rw[ss j n];show E.ow j ds h
 .obtain⟨n,c⟩:=a j _ c (by simp);obtain⟨n2,b⟩:=a k _ b (by simp);rw[ss j n,ss k n2];show E.dj j k ds es l c b
 .obtain⟨n,h⟩:=a j _ h (by simp);rw[ss j n] at g;show o1 j ds p h g
 obtain⟨n,h⟩:=a j _ h (by simp);rw[ss j n];show m j o h
end
end L2
namespace PySem
open Sem (wp)
end PySem
namespace L2
open PySem PySem.Spec PyProof.Rows
end L2
namespace PySem
open Sem (wp)
end PySem
namespace L2
open PySem PySem.Spec PyProof.Rows
namespace SI
open PySem PySem.Spec PyProof.Rows
end SI
end L2
namespace L2
open PySem PySem.Spec PyProof.Rows
namespace SI
end SI
end L2
namespace L2
open PySem PySem.Spec PyProof.Rows
section
variable{P:Program}{w:World}{K:J'}{mg:Str->Option Value}{base:Heap}
structure v8(K:J')(mg:Str->Option Value)(x:Str)(st:Stmt)(ds:List Value):Prop where
 ex:∃(T f:Addr)(fd:FuncData)(o:Obj)(n:Nat),nr (.ref T) K x x st f fd/\mg x=some (.ref f)/\K.lookup T=some o/\o.data=.seq ds.toArray n
theorem tf{h:Heap}{x:Str}{st:Stmt}{f T:Addr}{g tc:Value}{od j e:Option Addr}{i m:Array (Option Value)}{kV b pm d ct:Value}{ds:List Value}{n:Nat}(X:K.In h)(G:h.Ns mainGlobals mg)(a:PySem.W.nsIn K mainGlobals x=some (some (.ref f)))
  (l:K.lookup f=some ⟨g,od,.func (PySem.W.fnOf x x (e8 st) (c7 st) (cw st) (.ref T) kV b pm j d ct),i⟩) (c:PySem.W.codeIn K d x=true) (k:PySem.W.keepIn K (.ref f)=true) (t:K.lookup T=some ⟨tc,e,.seq ds.toArray n,m⟩):v8 K mg x st ds:=
 ⟨T,f,_,_,n,Ei l c k,bF X G a,t,rfl⟩
theorem nr.pL{x a:Str}{st:Stmt}{f T:Addr}{c:FuncData}{ps:List Str}{o:Obj}{ds es:List Value}{n:Nat}(F:nr (.ref T) K x a st f c)(m:Nat)(d:K.lookup T=some o)(hd:o.data=.seq ds.toArray n)
  (h:∀(kV doc pm:Value)(an:Option Addr)(b ct:Value)(us:List Value),us.length=m->∃k:Option (Array Value)->Sem (List (Str×Value)),bindArgs (PySem.W.fnOf x a (e8 st) (c7 st) (cw st) (.ref T) kV doc pm an b ct) ⟨us,[]⟩=seqItems? (.ref T) >>= k/\k (some ds.toArray)=pure (ps.zip (us++es))) (hm:ps.length=m+es.length:=by rfl):Binds K c ps es:=by
 obtain⟨j,od,kV,doc,pm,an,b,ct,l,rfl,lf,p⟩:=F.ex;intro s us sC e;obtain⟨k,i,g⟩:=h kV doc pm an b ct us (by rw[ar,hm] at e;ext);show BindsTo.of_defaults rfl (sC _ _ d) hd i g
structure lO(P:Program)(w:World)(K:J')(mg:Str->Option Value)(base:Heap)(k:Nat)(x:Str)(n:Nat)(t:fc)(b:Bool):Prop where
 ex:∃(f:Addr)(fd:FuncData)(ps:List Str),iu P w K mg base nX k f fd ps (xG K n t)/\mg x=some (.ref f)/\PySem.W.keepIn K (.ref f)=true/\Binds K fd ps []/\Binds K fd ps [.bool b]
theorem lO.all{k:Nat}{x:Str}{n:Nat}{t:fc}{b:Bool}(C:lO P w K mg base k x n t b):Known P w K mg base k x n t:=by
 obtain⟨f,fd,ps,e,d,c,a,_⟩:=C.ex;show⟨f,fd,ps,e,d,c,a⟩
end
section
variable{X:Cx}{p p' pos pos':Pos}{e:Expr}{ts:iW}
theorem Rj:dZ X (.type "range") (λxs H Q=>∃j:Int,xs=[.int j]/\∀l,H l=none->Q (.ref l) (upd H l (.vA 0 j))):=by
 intro a s σ H xs us Q I r h;obtain⟨j,rfl,q⟩:=h;obtain⟨u,rfl,t,rfl⟩:=l7 r;show call_range_1 ⟨.ref s.heap.objs.size,_,I.laid (t':=s.toks+1+1) (λb o e=>ag _ e) (ay _) (show eV X.prog X.w _ _ _ (.vA 0 j) from⟨_,_,_,ax _ rfl⟩),rfl,q _ (I.dD.fresh (ay _))⟩
theorem LI:∀(l:List Value)(k:Nat),(∀(j:Nat) v,l[j]?=some v->∃t,v=.int ((k:Int)+j) t)->Vals ((List.range' k l.length).map λ(i:Nat)=>V.int i) l
 | [],_,_=>.nil
 | v::l,k,h=>by
  rw[aH,List.range'_succ,az];obtain⟨t,ht⟩:=h 0 v rfl;show .cons ⟨t,by rw[ht];simp⟩ (LI l (k+1) λj u a=>?_);obtain⟨t,ht⟩:=h (j+1) u (by simpa using a);show⟨t,by rw[ht];congr 1;ext⟩
theorem Tw(n:Nat)(acc:Array Value)(h:ItemsOf (λi v=>∃t,v=.int (0+i*1) t) acc n):Vals ((List.range n).map λ(i:Nat)=>V.int i) acc.toList:=by
 have:=LI acc.toList 0 λj v a=>by
  obtain⟨t,ht⟩:=h.2 j v (by simpa using a);show⟨t,by rw[ht];congr 1;ext⟩
 rw[ai,h.1] at this;rw[List.range_eq_range'];show this
theorem Vm(j:X.calm=true):dZ X (.type "list") (λxs H Q=>∃(p:Addr)(n:Nat),xs=[.ref p]/\H p=some (.vA 0 n)/\n<=sizeLine/\∀l,H l=none->Q (.ref l) (upd H l (.lst ((List.range n).map λ(i:Nat)=>V.int i)))):=by
 intro k s σ H xs us Q I r h;obtain⟨p,n,rfl,d,hn,q⟩:=h;obtain⟨u,rfl,a⟩:=l7 r;cases a;obtain⟨t,u,v,e⟩:=I.dD p _ d;have big:sizeLine=16777216:=rfl;show call_list_range (I.ok.hd j) (show IsRange s.heap p 0 n 1 t u v from e) (small_one (by ext) (by ext) (by ext) (by ext)) (n:=n) (by rw[rangeSize_one];split<;>ext) (by ext) λh' tk acc c g f hi=>?_
 have b:=Tw n acc hi;show⟨.ref s.heap.objs.size,_,I.laid (t':=tk) g (ay _) (show eV X.prog X.w _ h' _ (.lst ((List.range n).map λ(i:Nat)=>V.int i)) from⟨by simpa using hn,acc.toList,c,b,by simpa using f⟩),rfl,q _ (I.dD.fresh (ay _))⟩
def Ee(ts:iW):TD:=λa Q=>ts a λds=>match ds with
 | [.int j]=>0<=j/\j<=1000000/\Q (.ow ((List.range j.toNat).map λ(i:Nat)=>.int i))
 | _=>False
theorem Ri(z:X.calm=true)(hm:X.mg "list"=none)(w:X.mg "range"=none)(ha:mI X [e] ts)(hg:Gl X "list":=by rfl)(o:Gl X "range":=by rfl)(B:starEach [e] X.env=(false,eval e X.env)::starEach [] X.env:=by rfl):PD X (.Call (.Name "list" p) [.Call (.Name "range" p') [e] [] pos'] [] pos) (Ee ts):=by
 obtain⟨t,pp,q⟩:=ha;show⟨_,CS (Vm z) hg hm boot_list (mZ (CS Rj o w boot_range pp (he:=B)) pj),λg σ I D G H Q P E h k=>q g σ I D G H _ _ E h λJ d ds f x rs a=>?_⟩;split at a
 .rename_i j;obtain⟨A,K,a⟩:=a;obtain⟨v,rfl,c⟩:=lZ rs;simp only[Rep] at c;subst c;show⟨j,rfl,λl y=>?_⟩;have big:sizeLine=16777216:=rfl;have b:Ext f d f (upd d l (.vA 0 j)):=.own x.s y;show⟨l,j.toNat,rfl,by rw[jb,Int.toNat_of_nonneg A],by ext,vi b.s (ds:=(List.range j.toNat).map λ(i:Nat)=>.int i) (Ep λq _=>by simp only[Rep]) a λv C r F m n u=>k v C r F ((x.trans b).trans m) (n.ie (x.h.trans b.h)) u⟩
 show a.elim
end
section
variable{P:Program}{w:World}{K:J'}{mg:Str->Option Value}{base:Heap}
theorem jl{x:Str}{st:Stmt}{N ps:List Str}{t:fc}{T:TX}{n d:Nat}(k:Nat)(A:At K mg x st)(S:cB N ps (cw st))
  (body:∀(f:Addr)(c:Value)(A:Around)(outer:List Env)(s:Shared)(H:Hp)(E:XK),eC k (A.deeper (envOfC x (cw st) s.heap.objs.size f c))->oN (nY nX P w K mg base N x (cw st) f c A outer s H E).tX (c7 st) T)
  (a:∀(ds:List D)(e:R->Prop),ds.length=n->t ds e->T { nx:=λ_=>e (.fz .non),rt:=e } (og N ds))
  (b:∀(kV doc pm:Value)(an:Option Addr)(c ct:Value)(us:List Value),us.length=n->bindArgs (PySem.W.fnOf x x (e8 st) (c7 st) (cw st) .none kV doc pm an c ct) ⟨us,[]⟩=pure (ps.zip us)) (hn:ps.length=n:=by rfl) (hd:k+1=d:=by rfl):Known P w K mg base d x n t:=by
 subst hn hd;obtain⟨f,fd,F,hm⟩:=A.ex;show⟨f,fd,ps,Eu F S (body f) a,hm,F.kp,F.binds b⟩
end
end L2
namespace Ts
open PySem PySem.W PyProof.Rows
end Ts
namespace L2
open PySem PySem.Spec PyProof.Rows
theorem ub{b:Type}{l:List b}{n:Nat}(h:l.length=n+1):∃a r,l=a::r/\r.length=n:=by
 cases l with
 | nil=>cases h
 | cons a r=>show⟨a,r,rfl,Nat.succ.inj h⟩
theorem N0{a:Type}{l:List a}(h:l.length=0):l=[]:=bW h
theorem wc{b:Type}{l:List b}(h:l.length=1):∃a0,l=[a0]:=by
 obtain⟨a,r,e,h⟩:=ub h;show⟨a,by rw[e,N0 h]⟩
theorem DN{b:Type}{l:List b}(h:l.length=2):∃a0 a1,l=[a0,a1]:=by
 obtain⟨a,r,e,h⟩:=ub h;obtain⟨d,c⟩:=wc h;show⟨a,d,by rw[e,c]⟩
theorem DM{b:Type}{l:List b}(h:l.length=3):∃a0 a1 a2,l=[a0,a1,a2]:=by
 obtain⟨a,r,e,h⟩:=ub h;obtain⟨f,d,c⟩:=DN h;show⟨a,f,d,by rw[e,c]⟩
theorem IA{b:Type}{l:List b}(h:l.length=4):∃a0 a1 a2 i,l=[a0,a1,a2,i]:=by
 obtain⟨a,r,e,h⟩:=ub h;obtain⟨g,f,d,c⟩:=DM h;show⟨a,g,f,d,by rw[e,c]⟩
theorem Iz{b:Type}{l:List b}(h:l.length=5):∃a0 a1 a2 k j,l=[a0,a1,a2,k,j]:=by
 obtain⟨a,r,e,h⟩:=ub h;obtain⟨i,g,f,d,c⟩:=IA h;show⟨a,i,g,f,d,by rw[e,c]⟩
theorem BG{b:Type}{l:List b}(h:l.length=6):∃a0 a1 a2 n m k,l=[a0,a1,a2,n,m,k]:=by
 obtain⟨a,r,e,h⟩:=ub h;obtain⟨j,i,g,f,d,c⟩:=Iz h;show⟨a,j,i,g,f,d,by rw[e,c]⟩
theorem Iy{b:Type}{l:List b}(h:l.length=7):∃a0 a1 a2 p o n m,l=[a0,a1,a2,p,o,n,m]:=by
 obtain⟨a,r,e,h⟩:=ub h;obtain⟨k,j,i,g,f,d,c⟩:=BG h;show⟨a,k,j,i,g,f,d,by rw[e,c]⟩
theorem Iw{b:Type}{l:List b}(h:l.length=8):∃a0 a1 a2 s q p o n,l=[a0,a1,a2,s,q,p,o,n]:=by
 obtain⟨a,r,e,h⟩:=ub h;obtain⟨m,k,j,i,g,f,d,c⟩:=Iy h;show⟨a,m,k,j,i,g,f,d,by rw[e,c]⟩
theorem Zp{b:Type}{l:List b}(h:l.length=9):∃a0 a1 a2 u t s q p o,l=[a0,a1,a2,u,t,s,q,p,o]:=by
 obtain⟨a,r,e,h⟩:=ub h;obtain⟨n,m,k,j,i,g,f,d,c⟩:=Iw h;show⟨a,n,m,k,j,i,g,f,d,by rw[e,c]⟩
open PySem.Builtin PySem.Builtin.Str
end L2
namespace L2.SO
open PySem PySem.Spec PyProof.Rows L2
end L2.SO
namespace L2
open PySem PySem.Spec PyProof.Rows
section
variable{X:Cx}{pos:Pos}{e:Expr}{te:TD}{ts:iW}{t:TA}
noncomputable def oD:Option Str->D
 | none=>.non
 | some x=>.str x
end
def t9(a:Shared)(H:Hp)(b:Addr):Prop:=(∃o,a.heap.get? b=some o)\/H b≠none
def NL(l:List Env)(C a:Addr)(P:Addr->Prop)(h:Heap):Prop:=∃B a0,Heap.FlyingW B l a (.ref C) a0 h/\∀b o,P b->h.get? b=some o->b∉jZ l->B.get? b=some o
def rQ(P:Program)(w:World)(C:Addr):tw:=λouter H s E e b=>∃a c,e=.ref a/\b.os=s.os/\AllBare b.gens/\Un (jZ outer) [] H c s.heap b.heap/\kh P w c b.heap/\c a=none/\s.heap.get? a=none/\NL outer C a (t9 s c) b.heap/\E (.ref a) none c
section
variable{X:Cx}{K':List (Addr×Obj)}{σ:St}{H:Hp}{s:Shared}
theorem eV.some{P:Program}{w:World}{H:Hp}{h:Heap}{a:Addr}{o:HO}(x:eV P w H h a o):∃ob,h.get? a=some ob:=by
 cases o with
 | lst xs=>show⟨_,x.2.choose_spec.choose_spec.2⟩
 | tup xs=>
  obtain⟨_,its,_,ob,e,_⟩:=x;show⟨ob,e⟩
 | dK b ep=>
  obtain⟨_,_,_,_,ob,_,e,_⟩:=x;show⟨ob,e⟩
 | dT b bs=>
  obtain⟨_,_,_,_,_,ob,_,_,e,_⟩:=x;show⟨ob,e⟩
 | set S n=>
  obtain⟨ob,_,_,_,e,_⟩:=x;show⟨ob,e⟩
 | ins C d fs=>show⟨_,x.2.2.2.1⟩
 | own y=>show x
 | xd fs=>
  obtain⟨_,⟨ob,_,_,e,_⟩,_⟩:=x;show⟨ob,e⟩
 | vA lo hi=>
  obtain⟨_,_,_,e⟩:=x;show⟨_,e⟩
 | lJ ob u=>show⟨ob,x.1⟩
 | vy ps=>show⟨_,x⟩
 | met f y=>show⟨_,x⟩
 | ext c=>show x.2.1
theorem Inv.there(I:Inv X K' σ H s)(a:X.ex=[]){b:Addr}(h:t9 X.eK H b):∃o,s.heap.get? b=some o:=by
 rcases h with⟨o,e⟩ | h
 .exact I.base.there b o e (by rw[a];simp)
 cases e:H b with
 | none=>show absurd e h
 | some u=>show(I.dD b u e).some
theorem Inv.gone(I:Inv X K' σ H s)(c:X.ex=[])(y:X.stack=X.env::X.outer)(x:X.env.frame=some X.env.locals){B h':Heap}(st:B.StaysIn h')(j:∀b o,t9 X.eK H b->s.heap.get? b=some o->b∉jZ X.stack->B.get? b=some o)(up:∀b∈jZ X.outer,∀o,s.heap.get? b=some o->(∀l,o.data≠.fields l)->∃sl,h'.get? b=some { o with slots:=sl }) :
  Un (jZ X.outer) [] X.qX H X.eK.heap h'/\kh X.prog X.w H h'/\∀b o,t9 X.eK H b->h'.get? b=some o->b∉jZ X.outer->B.get? b=some o:=by
 have p:jZ X.stack=X.env.locals::jZ X.outer:=by rw[y];simp[jZ,x]
 have q:∀b,t9 X.eK H b->b≠X.env.locals:=λb h z=>by
  subst z;rcases h with⟨o,e⟩ | h
  .exact absurd (aw e) (Nat.not_lt.mpr I.ok.above)
  show h I.free
 have out:∀b,t9 X.eK H b->b∉jZ X.outer->b∉jZ X.stack:=λb h n=>by
  rw[p];simp only[ao,not_or];show⟨q b h,n⟩
 have same:∀b o,t9 X.eK H b->b∉jZ X.outer->s.heap.get? b=some o->h'.get? b=some o:=λb o h n e=>st b o (j b o h e (out b h n))
 have A:∀b,H b≠none->b∉jZ X.outer:=λb h m=>by
  obtain⟨_,o,t,_⟩:=I.ok.iQ.mem m;show h (I.base.free b o t (I.ok.sS b m) (by rw[c];simp))
 show⟨⟨λb o e n hb _=>?_,λb o e n hb _=>?_,λb o e n _=>?_,λb o e _=>?_,I.base.kQ,I.base.kz,I.base.kR⟩,λa u e=>?_,λb o h e n=>?_⟩
 .exact same b o (.inl ⟨o,e⟩) hb (I.base.keep b o e n hb (by rw[c];simp))
 .obtain⟨sl,d⟩:=I.base.slot b o e n hb (by rw[c];simp);obtain⟨_,f,i,hd⟩:=I.ok.iQ.mem hb;rw[e] at i;cases i;obtain⟨k,g⟩:=up b hb _ d hd;show⟨k,g⟩
 .exact I.base.free b o e n (by rw[c];simp)
 .by_cases hb:b∈jZ X.outer
  .obtain⟨sl,d⟩:=I.base.slot b o e (I.ok.sS b hb) hb (by rw[c];simp);obtain⟨_,f,i,hd⟩:=I.ok.iQ.mem hb;rw[e] at i;cases i;obtain⟨k,g⟩:=up b hb _ d hd;show⟨_,g⟩
  obtain⟨f,d⟩:=I.base.there b o e (by rw[c];simp);show⟨f,same b f (.inl ⟨o,e⟩) hb d⟩
 .refine(I.dD a u e).lA (λb v hb r=>?_) (λ_ h=>h) λ_ _ h=>h
  have hn:H b≠none:=by
   rcases hb with rfl | hb
   .rw[e];show nofun
   rw[hb];show nofun
  show same b v (.inr hn) (A b hn) r
 obtain⟨f,d⟩:=I.there c h;have g:=same b f h n d;rw[e] at g;cases g;show j b o h d (out b h n)
def DB(X:Cx)(C:Addr)(W:Hp->Prop):Prop:=∀(K':List (Addr×Obj))(σ:St)(H:Hp)(s:Shared)(a:Addr),Inv X K' σ H s->H a=none->X.eK.heap.get? a=none->NL X.stack C a (t9 X.eK H) s.heap->W H->X.xe (.ref a) s
def DU(X:Cx)(C:Addr)(W:Hp->Prop):Prop:=∀(K':List (Addr×Obj))(σ:St)(H:Hp)(s:Shared)(h':Heap)(a:Addr)(b:List Value),Inv X K' σ H s->Heap.MadeExcOf s.heap h' a (.ref C) b->W H->X.xe (.ref a) { s with heap:=h' }
theorem IT{C:Addr}{W:Hp->Prop}(h:X.ex=[])(T:DB X C W):wu (rQ X.prog X.w C) X λ_ _ i=>W i:=by
 intro K' σ H s e k I ⟨a,i,he,os,bare,un,dD,hn,m,⟨B,a0,p,l⟩,w⟩;subst he;obtain⟨hh,g,d,t,j⟩:=k;obtain rfl:j=s.os:=os;have back:∀b o,X.eK.heap.get? b=some o->∃c,s.heap.get? b=some c:=λb o e=>I.base.there b o e (by rw[h];simp)
 show T K' σ i _ a (I.call (h':=hh) (g':=g) (d':=d) (t':=t) (ch:=[]) un dD bare λb z=>absurd z (by simp)) hn ?_ ⟨B,a0,p,λb o hb e n=>l b o (hb.imp (λr=>by obtain⟨c,f⟩:=r;show back b c f) id) e n⟩ w;cases q:X.eK.heap.get? a with
 | none=>rfl
 | some o=>
  obtain⟨c,f⟩:=back a o q;rw[m] at f;cases f
end
section
variable{P:Program}{w:World}{K:J'}{mg:Str->Option Value}{base:Heap}{N:List Str}{qual:Str}{scope:Scope}{f C:Addr}{cd:Value}{A:Around}{outer:List Env}{s0:Shared}{H0:Hp}{E:XK}
theorem ui:DB (nY (rQ P w C) P w K mg base N qual scope f cd A outer s0 H0 E) C λh=>∀a,E (.ref a) none h:=by
 intro i σ H s a I hn h0 ⟨B,a0,e,d⟩ hw;show wpAny_leaves_onW (base:=B) (outer:=outer) (cls:=.ref C) (a0:=a0) I.ok.frames rfl e λh' c up=>?_
 obtain⟨un,dD,g⟩:=I.gone rfl rfl rfl c.1 d λb _=>up b
 show⟨a,H,rfl,I.os,I.bare,un,dD,hn,h0,⟨B,a0,c,g⟩,hw a⟩
theorem J5:DU (nY (rQ P w C) P w K mg base N qual scope f cd A outer s0 H0 E) C λp=>∀a,E (.ref a) none p:=by
 intro l σ H s h' a g I hx hw;have m:Inv (nY (rQ P w C) P w K mg base N qual scope f cd A outer s0 H0 E) l σ H { s with heap:=h' }:=I.kept (t':=s.toks) hx.keeps;have j:=I.qT.iQ;have no:∀b,t9 s0 H b->b≠a:=λb hb z=>by
  obtain⟨o,e⟩:=I.there rfl hb;rw[z,hx.new] at e;cases e
 show wpAny_leaves_madeW (base:=PySem.W.hideAll s.heap (jZ (envOfC qual scope s0.heap.objs.size f cd::outer))) (h:=s.heap) (cls:=.ref C) (args:=g) I.ok.frames rfl (λb o q=>PySem.W.of_hideAll _ q) (PySem.W.funFrames_hide j λenv he b hb=>List.mem_filterMap.mpr ⟨env,he,hb⟩) hx λr t c tup bt up=>?_
 have i:∀b o,t9 s0 H b->h'.get? b=some o->b∉jZ (envOfC qual scope s0.heap.objs.size f cd::outer)->(PySem.W.hideAll s.heap (jZ (envOfC qual scope s0.heap.objs.size f cd::outer))).get? b=some o:=λb o hb e n=>by
  obtain⟨o1,d⟩:=I.there rfl hb;have:=hx.keeps b o1 d;rw[e] at this;cases this;show PySem.W.hideAll_get _ d n
 obtain⟨un,dD,k⟩:=m.gone rfl rfl rfl c.1 i λb _=>up b
 show⟨a,H,rfl,I.os,I.bare,un,dD,?_,?_,⟨_,_,c,k⟩,hw a⟩
 .cases q:H a with
  | none=>rfl
  | some u=>show absurd rfl (no a (.inr (by rw[q];show nofun)))
 cases q:s0.heap.get? a with
 | none=>rfl
 | some u=>show absurd rfl (no a (.inl ⟨u,q⟩))
end
section
variable{X:Cx}{pos:Pos}{te:TE}{e0:Expr}{W:Hp->Prop}
def Pt(W:Hp->Prop)(te:TE):TS:=λ_ σ H=>te σ H λx H1=>[x].length=1/\W H1
structure fi(K:J')(mg:Str->Option Value)(x:Str)(C:Addr)(qm:List Value)(newId:String):Prop where
 bound:mg x=some (.ref C)
 exc:PySem.W.excIn K C qm newId=true
theorem fi.at{K:J'}{mg:Str->Option Value}{x:Str}{C:Addr}{f:List Value}{a:String}{h:Heap}(o:fi K mg x C f a)(b:K.In h):OwnCls x C f a mg h:=by
 obtain⟨hb,z⟩:=o;unfold PySem.W.excIn at z;split at z
 .rename_i q c1 s1 look;split at z
  .rename_i r p e0 n m l nn k he hz;simp only[Bool.and_eq_true,beq_iff_eq,bK] at z;obtain⟨⟨⟨⟨⟨j,i⟩,e⟩,g⟩,c⟩,d⟩:=z;subst j i;cases c1;dsimp only at he e c d;subst he e;obtain rfl:s1=#[e0,n,m,l,some (.builtin nn),k]:=by
    cases s1;simp only at hz;rw[hz]
   show⟨hb,_,_,_,_,_,_,_,_,_,_,_,_,_,_,_,_,_,b _ _ look,.of_isNs (PySem.W.isNs_of_in b c),PySem.W.nsMap_none_of_in b c d,PySem.W.tail_of_in b g⟩
  cases z
 cases z
theorem Rh{C:Addr}{x:Str}{f:List Value}{b B k:String}{l d:Pos}(O:fi X.K X.mg x C f b)(j:ExcBaseFacts B b k f)(o:X.calm=true)(T:DU X C W)(he:PE X e0 te)(hg:Gl X x:=by rfl)(hd:(x==("__debug__":Str))=false:=by decide)
  (c:starEach [e0] X.env=(false,eval e0 X.env)::starEach [] X.env:=by rfl) (m:(backTo d (starEach [] X.env)).any (·.1)=false:=by rfl):PS X (.Raise (some (.Call (.Name x l) [e0] [] d)) none pos) (Pt W te):=by
 intro i s σ H D I h;have O:=O.at I.ok.mod.sC;obtain⟨tl,w,nm,q,bs,hdct,sn,sub,ab,col,dd,k0,k1,k2,k3,k5,mN,t,p,y,g⟩:=O.obj;show wpAny_Raise_call_subT (C:=C) (nm:=nm) (q:=q) (N:=w) (bs:=bs) (bm:=tl) (hdct:=hdct) (sn:=sn) (sub:=sub) (ab:=ab) (col:=col) (dd:=dd) (k0:=k0) (k1:=k1) (k2:=k2) (k3:=k3) (k5:=k5) j (mN:=mN) (g.hasType j.hasBase) (I.ok.hd o) ?_ y (ye I hg O.bound ⟨rfl,?_⟩ hd)
 .rw[c];show m
 have v:PA X [e0] (D4 te DQ):=mZ he pj c;have run:=v d i s σ H (λe H1=>e.length=1/\W H1) I h;rw[c] at run ⊢;show Calls.evalArgs_plain (ez run λus s2 u=>?_);obtain⟨e,H1,I1,r,n,hw⟩:=u;show⟨rfl,?_,I1.bk _ _ t,p.keeps I1.bk,g.keeps I1.bk,λh' a hm=>T i σ H1 s2 h' a us I1 hm hw⟩;show us.length<=sizeLine;rw[<-r.length,n];decide
end
noncomputable abbrev nj:=List D->(R->Prop)->Prop->Prop
def xF(K:J')(n:Nat)(t:nj):Sp:=λe H Q E=>∃G ds d Qx,cJ G H/\cx K G e ds/\ds.length=n/\t ds d Qx/\(∀v b r c,Ext G H c b->eZ K c b H v r->d r->Q v b)/\∀c b,Ext G H c b->Qx->∀a,E (.ref a) none b
structure c8(P:Program)(w:World)(K:J')(mg:Str->Option Value)(base:Heap)(C:Addr)(k:Nat)(x:Str)(n:Nat)(t:nj):Prop where
 ex:∃(f:Addr)(fd:FuncData)(ps:List Str),iu P w K mg base (rQ P w C) k f fd ps (xF K n t)/\mg x=some (.ref f)/\PySem.W.keepIn K (.ref f)=true/\Binds K fd ps []
section
variable{X:Cx}{W:Hp->Prop}{Qx:Prop}{pos:Pos}{e:Expr}{es:List Expr}{te:TD}{ts:iW}
def Zh(X:Cx)(W:Hp->Prop)(Qx:Prop)(st:Stmt)(t:TX):Prop:=∃tt,PS X st tt/\∀(c:Ev)(σ:St)(b a G H:Hp)(D:DE)(E:Ends),dU X.K b a c σ G H->t D c->Goes X.K b a G D E->(∀e d,Ext b a e d->Qx->W d)->tt E σ H
def Iu(X:Cx)(W:Hp->Prop)(Qx:Prop)(st:List Stmt)(t:TX):Prop:=∃tt,nW X st tt/\∀(c:Ev)(σ:St)(b a G H:Hp)(D:DE)(E:Ends),dU X.K b a c σ G H->t D c->Goes X.K b a G D E->(∀e d,Ext b a e d->Qx->W d)->tt E σ H
def Ca(Qx:Prop)(te:TD):TX:=λ_ a=>te a λ_=>Qx
theorem KQ{C:Addr}{x:Str}{b:List Value}{a B f:String}{i c:Pos}(O:fi X.K X.mg x C b a)(w:ExcBaseFacts B a f b)(n:X.calm=true)(T:DU X C W)(he:PD X e te)(hg:Gl X x:=by rfl)(hd:(x==("__debug__":Str))=false:=by decide)
  (j:starEach [e] X.env=(false,eval e X.env)::starEach [] X.env:=by rfl) (m:(backTo c (starEach [] X.env)).any (·.1)=false:=by rfl):Zh X W Qx (.Raise (some (.Call (.Name x i) [e] [] c)) none pos) (Ca Qx te):=by
 obtain⟨tt,p,q⟩:=he;show⟨_,Rh O w n T p hg hd j m,λd σ t o G H D E k h g hw=>q d σ t o G H _ _ k h λv s r u x y l=>⟨rfl,hw u s (k.e.trans x) l⟩⟩
def ph(n:Nat)(t:nj)(Qx:Prop)(ts:iW):TD:=λa Q=>ts a λds=>ds.length=n/\t ds Q Qx
end
section
variable{P:Program}{w:World}{K:J'}{mg:Str->Option Value}{base:Heap}
theorem zu{C:Addr}{x:Str}{st:Stmt}{N ps:List Str}{t:nj}{T:Prop->TX}{n d:Nat}(k:Nat)(A:At K mg x st)(S:cB N ps (cw st))
  (body:∀(Qx:Prop)(f:Addr)(c:Value)(A:Around)(outer:List Env)(s:Shared)(H:Hp)(E:XK),eC k (A.deeper (envOfC x (cw st) s.heap.objs.size f c))->Iu (nY (rQ P w C) P w K mg base N x (cw st) f c A outer s H E) (λl=>∀a,E (.ref a) none l) Qx (c7 st) (T Qx))
  (i:∀(ds:List D)(g:R->Prop)(Qx:Prop),ds.length=n->t ds g Qx->T Qx { nx:=λ_=>g (.fz .non),rt:=g } (og N ds))
  (b:∀(kV doc pm:Value)(an:Option Addr)(c ct:Value)(us:List Value),us.length=n->bindArgs (PySem.W.fnOf x x (e8 st) (c7 st) (cw st) .none kV doc pm an c ct) ⟨us,[]⟩=pure (ps.zip us)) (hn:ps.length=n:=by rfl) (hd:k+1=d:=by rfl):c8 P w K mg base C d x n t:=by
 subst hn hd;obtain⟨f,fd,F,hm⟩:=A.ex;show⟨f,fd,ps,?_,hm,F.kp,F.binds b⟩;obtain⟨B,od,kV,doc,pm,an,c,ct,I,rfl,lk,u⟩:=F.ex;show D3 lk u S (λm H Q E h=>?_) λA outer s H m Q E v h=>?_
 .obtain⟨G,ds,g,Qx,_,r,j,_⟩:=h;rw[r.length,j]
 obtain⟨G,ds,g,Qx,s0,r,j,ht,k0,o⟩:=h;obtain⟨tt,p,q⟩:=body Qx f c A outer s H E v;show⟨tt,p,q _ _ G H G H _ _ (CD s0 r) (i ds g Qx j ht) ⟨λz σ y l _ e h=>k0 _ l _ y e.e (gf (Cn _ _)) h,k0,λ_ _ _ _ _ _ h=>h.elim,λ_ _ _ _ _ _ h=>h.elim⟩ o⟩
end
theorem Pr{P:Program}{w:World}{fs:List Addr}{H c:Hp}{h f d B:Heap}(u:Un fs [] H c h f)(k:∀b∈fs,H b=none/\∃o,h.get? b=some o/\∀p,o.data≠.fields p)(st:B.StaysIn d)
  (r:∀b o,((∃o,h.get? b=some o)\/c b≠none)->f.get? b=some o->b∉fs->B.get? b=some o) (up:f.UpToSlots d) (dD:kh P w c f):Un fs [] H c h d/\kh P w c d:=by
 have same:∀b o,((∃o,h.get? b=some o)\/c b≠none)->b∉fs->f.get? b=some o->d.get? b=some o:=λb o hb n e=>st b o (r b o hb e n)
 have slot:∀b∈fs,∀o,h.get? b=some o->∃sl,d.get? b=some { o with slots:=sl }:=λb hb o e=>by
  obtain⟨n,g,l,hd⟩:=k b hb;rw[e] at l;cases l;obtain⟨sl,j⟩:=u.slot b o e n hb (by simp);obtain⟨x,i⟩:=up b _ j hd;show⟨x,i⟩
 have s:∀b,c b≠none->b∉fs:=λb hb m=>by
  obtain⟨n,o,e,_⟩:=k b m;show hb (u.free b o e n (by simp))
 show⟨⟨λb o e n hb _=>same b o (.inl ⟨o,e⟩) hb (u.keep b o e n hb (by simp)),λb o e n hb _=>slot b hb o e,λb o e n _=>u.free b o e n (by simp),λb o e _=>?_,u.kQ,u.kz,u.kR⟩,λa v e=>?_⟩
 .by_cases hb:b∈fs
  .obtain⟨sl,i⟩:=slot b hb o e;show⟨_,i⟩
  obtain⟨g,j⟩:=u.there b o e (by simp);show⟨g,same b g (.inl ⟨o,e⟩) hb j⟩
 show(dD a v e).lA (λb q hb t=>?_) (λ_ z=>z) λ_ _ z=>z
 have hn:c b≠none:=by
  rcases hb with rfl | hb
  .rw[e];show nofun
  rw[hb];show nofun
 show same b q (.inr hn) (s b hn) t
section
variable{X:Cx}
noncomputable abbrev Cx.jW(X:Cx)(a:Addr):Cx:={ X with A:=X.A.mark (some (.ref a)),calm:=false }
theorem Inv.jW{c:List (Addr×Obj)}{b:St}{H:Hp}{s:Shared}(I:Inv X c b H s)(a:Addr):Inv (X.jW a) c b H s:=
 ⟨⟨I.ok.mod,I.ok.kind,I.ok.glob,I.ok.blt,I.ok.above,I.ok.inj,I.ok.has,I.ok.cab,λz=>(by cases z),I.ok.frames,I.ok.Aw,I.ok.exf,I.ok.bs,I.ok.uS,I.ok.qJ,I.ok.qS,I.ok.iQ,I.ok.sS⟩,I.os,I.bare,I.base,I.loc,I.cell,I.free,I.gJ,I.pin,I.dD,I.len⟩
theorem Inv.wX{c:List (Addr×Obj)}{b:St}{H:Hp}{s:Shared}{a:Addr}(ok:X.Ok)(I:Inv (X.jW a) c b H s):Inv X c b H s:=
 ⟨ok,I.os,I.bare,I.base,I.loc,I.cell,I.free,I.gJ,I.pin,I.dD,I.len⟩
theorem Qb{m:List (Addr×Obj)}{g:St}{H:Hp}{s:Shared}{Q:VK}{E:XK}{n:Value->Shared->Prop}{a ds:List Value}{c dvs:List V}{k:Nat}{f C:Addr}{l:FuncData}{ps:List Str}{i:Sp}(F:iu X.prog X.w X.K X.mg X.base (rQ X.prog X.w C) k f l ps i)(o:eC k X.A)(hb:Binds X.K l ps ds)(hd:Vals dvs ds)
  (I:Inv X m g H s) (r:Vals c a) (h:i (c++dvs) H Q E) (hx:∀e d,rQ X.prog X.w C X.stack H s E e d->n e d):wpAny (model X.prog X.w) X.A (call (.ref f) a) (EP X m g Q) n s:=by
 have j:Vals (c++dvs) (a++ds):=r.append hd;have p:(a++ds).length=ps.length:=by rw[<-j.length];show F.len _ _ _ _ h
 show wpAny_call (codeAny_mono (F.run X.A X.stack s H ⟨a,[]⟩ (a++ds) (c++dvs) Q E o I.qT (hb s a I.mf p) j h) λr d b=>?_);cases r with
 | error e=>show hx e d b
 | ok q=>
  cases q with
  | ret u=>show I.after b
  | next=>show False.elim b
  | brk=>show False.elim b
  | cont=>show False.elim b
end
end L2
namespace PySem
open Sem (wp)
end PySem
namespace L2
open PySem PySem.Spec PyProof.Rows
end L2
namespace Ts
open PySem PySem.W PyProof.Rows
end Ts
namespace L2
open PySem PySem.Spec PyProof.Rows
end L2
namespace Ts
open PySem PySem.W PyProof.Rows
open PySem.SeqAt
end Ts
namespace L2
open PySem PySem.Spec PyProof.Rows
section
variable{X:Cx}
theorem LA{K:J'}{G:Hp}:∀{xs:List V}{ns:List Int},cx K G xs (ns.map D.int)->xs=ns.map V.int
 | [],[],_=>rfl
 | x::xs,n::ns,r=>by
  rw[az] at r;simp only[cx,Rep] at r;rw[az,r.1,LA r.2]
 | [],_::_,r=>by rw[az] at r;simp only[cx] at r
 | _::_,[],r=>by rw[List.map_nil] at r;simp only[cx] at r
end
section
variable{M:Model}{A:Around}{E:Value->Shared->Prop}
variable{nm q MD q':Str}{C N C' N':Addr}{bs bm Bs Ic:List Value}{hdct vN:Bool}{sn Mr:List Str}{sub Av:List Value}{ab NG:Bool}{col Bp:Option Bool}{dd NC:Option Addr}{k0 k1 k2 k3 k5 l0 l1 l2 l3 l5:Option Value}{newId lE:String}
theorem VD{h:Heap}{g:Array GenState}{d:Drawn}{t:Nat}{os:OsState}{e:Addr}{a:Obj}{Q:Bool->Shared->Prop}
  (l:h.get? C=some (excClassObj nm q C N bs bm hdct sn sub ab col dd k0 k1 k2 k3 k5 newId)) (b:h.get? C'=some (excClassObj MD q' C' N' Bs Ic vN Mr Av NG Bp NC l0 l1 l2 l3 l5 lE)) (he:h.get? e=some a) (c:a.cls=.ref C) (i:Ic.contains (.type "BaseException")=true)
  (j:(Value.ref C::bm).contains (.ref C')=true) (k:Q true ⟨h,g,d,t,os⟩):wpAny M A (excMatches (.ref e) (.ref C')) Q E ⟨h,g,d,t,os⟩:=by
 have m:(Value.ref C'::Ic).contains (.type "BaseException")=true:=by rw[List.contains_cons,i,Bool.or_true]
 have f:=tc_notTuple;unfold excMatches;repeat(first | (with_reducible show wpAny_loadPart_at he ?_;rw[c]) | with_reducible show wpAny_loadPart_at b ?_ | (with_reducible show wpAny_isSubtype_exc b ?_;rw[m]) | (with_reducible show wpAny_isSubtype_exc l ?_;rw[j]) | wp_step)
 show k
end
section
variable{X:Cx}{K':List (Addr×Obj)}{σ:St}{H H0:Hp}{s s0:Shared}
theorem Inv.tell{a:Addr}{o:HO}(I:Inv X K' σ H s)(g:Inv X K' σ H0 s0)(hn:H a=none)(f:s0.heap.get? a=none)(new:eV X.prog X.w (upd H a o) s.heap a o):Inv X K' σ (upd H a o) s:=by
 have nl:a≠X.env.locals:=λz=>by
  obtain⟨m,⟨y,_,_,l,_⟩,_⟩:=g.loc;rw[z,l] at f;cases f
 show⟨I.ok,I.os,I.bare,⟨I.base.keep,I.base.slot,λb ob e n hx=>?_,I.base.there,λb xs e=>?_,λb i u e=>?_,λb ps e=>?_⟩,I.loc,I.cell,by rw[eG (Ne.symm nl)];show I.free,λx c e=>?_,λp j=>?_,λb u e=>?_,I.len⟩
 .have:b≠a:=λz=>by
   obtain⟨i,k⟩:=g.base.there b ob e hx;rw[z,f] at k;cases k
  rw[eG this];show I.base.free b ob e n hx
 .have z:=I.base.kQ b xs e;rw[eG (kf z hn)];show z
 .have z:=I.base.kz b i u e;rw[eG (kf z hn)];show z
 .obtain⟨more,z⟩:=I.base.kR b ps e;show⟨more,by rw[eG (kf z hn)];show z⟩
 .have:c≠a:=λz=>by
   obtain⟨v,t,h,_⟩:=g.cell x c e;rw[z,f] at h;cases h
  rw[eG this];show I.gJ x c e
 .obtain⟨e,n,ne,r,d⟩:=I.pin p j;have:p.1≠a:=λz=>by
   have:=(g.pin p j).1;rw[z,f] at this;cases this
  show⟨e,by rw[eG this];show n,ne,r,d⟩
 by_cases hb:b=a
 .subst hb;rw[jb] at e;cases e;show new
 rw[eG hb] at e;show(I.dD b u e).lA (λc v _ q=>q) (λc q=>by rw[eG (kf q hn)];show q) λc xs q=>by rw[eG (kf q hn)];show q
theorem Inv.Bk{m:Str->Option Value}{v:Option Value}{h':Heap}{x:Str}{i t':Nat}(I:Inv X K' σ H s)(E:X.N.Nodup)(hi:X.N[i]?=some x)(hm:∀(j:Nat)(y:Str)(v:V),X.N[j]?=some y->σ[j]?=some (some v)->oM X.env.scope y->∃u,RelV v u/\Look X.env s.heap m y u)
  (hn:h'.Ns X.env.locals (λy=>if y=x then v else m y)) (a:Heap.SameBut X.env.locals s.heap h'):Inv X K' (σ.set i none) H { s with heap:=h',toks:=t' }:=by
 obtain⟨m0,⟨J,es,ep,G,K⟩,_⟩:=id I.loc;have sV:=I.sV;show⟨I.ok,I.os,I.bare,⟨λb o e n hb hx=>?_,λb o e n hb hx=>?_,I.base.free,λb o e hx=>?_,I.base.kQ,I.base.kz,I.base.kR⟩,⟨_,hn,λj y t g f F=>?_⟩,λy c e=>?_,I.free,I.gJ,λp D=>?_,λb ob e=>?_,by simpa using I.len⟩
 .exact(a.2 b (aF (aK (aw e) I.ok.above))).trans (I.base.keep b o e n hb hx)
 .obtain⟨sl,g⟩:=I.base.slot b o e n hb hx;show⟨sl,(a.2 b (aF (aK (aw e) I.ok.above))).trans g⟩
 .obtain⟨B,g⟩:=I.base.there b o e hx;show⟨B,(a.2 b (aF (aK (aw e) I.ok.above))).trans g⟩
 .have r:j≠i:=λz=>by
   subst z;rw[List.getElem?_set] at f;split at f
   .split at f<;>cases f
   show absurd rfl (by assumption)
  rw[List.getElem?_set_ne (Ne.symm r)] at f;obtain⟨w,A,q⟩:=hm j y t g f F;show⟨w,A,?_⟩;rcases q with⟨k,e⟩ | ⟨k,c,e,z⟩
  .refine .inl ⟨k,?_⟩;have:y≠x:=λe=>r (EW E g (e▸hi))
   simp[this,e]
  show .inr ⟨k,c,e,z.sameBut a (sV y c e)⟩
 .obtain⟨l,z⟩:=I.cell y c e;show⟨l,z.sameBut a (sV y c e)⟩
 .obtain⟨e,n,ne,C,d⟩:=I.pin p D;show⟨(a.2 p.1 ne).trans e,n,ne,C,d⟩
 show(I.dD b ob e).lA (λc l h q=>(a.2 c ?_).trans q) (λ_ q=>q) λ_ _ q=>q
 rintro rfl;rcases h with rfl | h
 .rw[I.free] at e;cases e
 rw[I.free] at h;cases h
noncomputable def subIn(K:J')(C a:Addr):Bool:=match K.lookup C with
 | some ⟨_,_,.cls cd,_⟩=>cd.mro.contains (.ref a)
 | _=>false
def wb(a C:Addr):Heap->Prop:=λh=>∃o,h.get? a=some o/\o.cls=.ref C
theorem Rg{p:Shared}{E:XK}{e:Value}{C P:Addr}{x x0 c y:Str}{np pos G F D:Pos}{i j:Nat}{Q:Flow->Shared->Prop}{qm S:List Value}{l lE:String}(I:Inv X K' σ H s)(hx:rQ X.prog X.w C X.stack H s E e p)(O:OwnCls x0 C qm l X.mg X.base)(W:OwnCls x P S lE X.mg X.base)(HQ:S.contains (.type "BaseException")=true)
  (r:subIn X.K C P=true) (U:X.stack=X.env::X.outer) (hf:X.env.frame=some X.env.locals) (hg:Gl X x) (hd:(x==("__debug__":Str))=false) (AZ:X.xe=λ_ _=>False) (L:X.N.Nodup)
  (hi:X.N[i]?=some c) (YE:X.env.kindOf c=some .local) (Hy:oM X.env.scope c) (Dr:Loc X.env.scope c) (HB:(c==("__debug__":Str))=false) (HC:(c==("__classdict__":Str))=false) (HA:X.fn c=true\/X.env.scope.names.lookup c=some .local)
  (hj:X.N[j]?=some y) (XO:Loc X.env.scope y) (G7:∀a,swapsWith (.Name c F) (some (.Name y G)) D.line (X.jW a).env=pure false) (XR:X.fn y=true\/X.env.scope.names.lookup y=some .local)
  (k:∀a h s2,E (.ref a) none h->h a=none->Inv X K' (((σ.set i (some (.ref a))).set j (some (.ref a))).set i none) (upd h a (.ext (wb a C))) s2->Q .next s2) :
  wpAny (model X.prog X.w) X.A (noteFrame e X.env) (λ_ kS=>wpAny (model X.prog X.w) X.A (setFlight e none) (λ_ pw=>wpAny (model X.prog X.w) X.A (handleBy e X.env [.ExceptHandler (some (.Name x np)) (some c) [.Assign [.Name y G] (.Name c F) D] pos]) Q (λ_ _=>False) pw) (λ_ _=>False) kS) (λ_ _=>False) p:=by
 obtain⟨a,h,rfl,os,bare,un,dD,hn,hs,⟨B,a0,fl,rO⟩,hE⟩:=hx;obtain⟨tl,Nn,nm,q,bs,hdct,sn,sub,ab,col,dd,k0,k1,k2,k3,k5,mN,T,ZQ,M4,OT⟩:=O.obj;obtain⟨Zr,ZX,MD,q',Bs,vN,Mr,Av,NG,Bp,NC,l0,l1,l2,l3,l5,Zw,YV,YQ,Yj,Zi⟩:=W.obj;have nU:(Value.ref C::tl).contains (.ref P)=true:=by
  unfold subIn at r;split at r
  .rename_i cd _ look;have:=I.ok.mod.sC _ _ look;rw[T] at this;cases this;show r
  cases r
 have fr:∀b∈jZ X.stack,H b=none/\∃o,s.heap.get? b=some o/\∀vs,o.data≠.fields vs:=λb hb=>⟨I.qT.sS b hb,(I.qT.iQ.mem hb).2⟩
 have after:∀n,B.StaysIn n->p.heap.UpToSlots n->Inv X K' σ h { p with heap:=n }:=λn st up=>by
  obtain⟨W5,Hi⟩:=Pr un fr st rO up dD;obtain⟨hh,g,d,t,wZ⟩:=p;obtain rfl:wZ=s.os:=os;have J:Inv X K' σ h { s with heap:=n,gens:=g,drawn:=d,toks:=t }:=I.call (ch:=[]) W5 Hi bare λb z=>absurd z (by simp)
  show J
 have R:=fl;rw[U] at R;show wpAny_looks_onW (by rw[<-U];show I.ok.frames) hf R λn held Z=>?_
 show wpAny_landsW held λh3 M Mm=>?_
 have I3:=after h3 M.1 (Z.trans Mm);obtain⟨ob,Yh,Hm⟩:=M.there;show wpAny_handleBy_cons (codeAny_handlers_test (ye (I3.jW a) hg W.bound ?_ hd)) (by intro q;cases q);show VD (I3.bk _ _ T) (I3.bk _ _ YV) Yh Hm (Zi.hasType HQ) nU (codeAny_handlers_suite_as ?_);show lands_againW M λh4 Y W3=>?_
 have I4:=after h4 Y.1 ((Z.trans Mm).trans W3);obtain⟨MB,A2,A1⟩:=Y.there;have I5:=I4.tell (a:=a) (o:=.ext (wb a C)) I hn hs ⟨⟨MB,A2,A1⟩,⟨MB,A2⟩,λh1 n ⟨o,e1,e2⟩ kk=>⟨o,kk o e1,e2⟩⟩;show EV (v:=.ref a) I5 L hi Dr rfl (λs5 I6=>?_) HA;have t4:i<σ.length:=by rw[I.len];show(aB.mp hi).1
 have st:nW (X.jW a) [.Assign [.Name y G] (.Name c F) D] (yV (DL i) (y8 j)):=Ek (Eg L hj XO (rB hi Hy HB HC) (G7 a) XR);have run:=st K' s5 _ _ { nx:=λV H2=>V=(σ.set i (some (.ref a))).set j (some (.ref a))/\H2=upd h a (.ext (wb a C)),rt:=λ_ _=>False } (I6.jW a) ⟨.ref a,by rw[List.getElem?_set_self t4],rfl,rfl⟩;show bZ run (λf s6 z=>?_) λ_ _ z=>?_
 .cases f with
  | next=>
   obtain⟨V,H2,I7,rfl,rfl⟩:=z;have I8:=I7.wX I.ok;obtain⟨m,qi,kU⟩:=I8.loc;have sQ:(X.env.scope.kind==.class||(X.env.scope.kind==.module&&X.env.locals != X.env.globals))=false:=by rw[I.ok.kind];rfl
   show wpAny_nameGoes_keeps YE qi sQ λh' v Hq yA=>?_
   show k a h _ hE hn (I8.Bk L hi kU Hq yA)
  | brk=>obtain⟨_,_,_,z⟩:=z;show z.elim
  | cont=>obtain⟨_,_,_,z⟩:=z;show z.elim
  | ret u=>obtain⟨_,_,_,_,_,z⟩:=z;show z.elim
 rw[show(X.jW a).xe=X.xe from rfl,AZ] at z;show z.elim
end
end L2
namespace PySem.W
open PySem PySem.Spec PySem.Calls PyProof.Rows Builtin Builtin.ObjectAttr Builtin.Getset_descriptor
section
variable{prog:Program}{w:World}{A:Around}{E:Value->Shared->Prop}{s:Shared}{K:Frag}{x C D:Addr}{name:Str}
def nt(h:Heap)(x C:Addr):Prop:=∃o,h.get? x=some o/\o.cls=.ref C
theorem nt.type{M:Model}{h:Heap}(I:nt h x C):Looks M h (typeOf (.ref x)) (.ref C):=by
 obtain⟨o,e,c⟩:=I;show c▸(Looks.ld e).andThen .now
theorem Qa{M:Model}{h:Heap}{g a:Value}(X:K.In h)(ha:findIn K (.ref C) name=some (some a))(hg:specialIn K a "__get__"=some (some g))(ht:takesIn K a=some true):Looks M h (find (.ref x) (.ref C) name) (.bind g a):=by
 have c:=looks_findIn (M:=M) X ha;have L2:Looks M h (getOf (some a)) (some g):=looks_specialIn X hg;have b:=looks_takesIn (M:=M) X ht;show c.andThen (L2.andThen ((show Looks M h (dataDescriptor? (some a) (some g)) (some (g,a)) from b.andThen .now).andThen (Looks.tag .now)))
theorem Va{tp:Value}{R:Result->Shared->Prop}(X:K.In s.heap)(I:nt s.heap x C)(hm:mroIn K C (.type "object")=some true)
  (h:R (.ok (.ret (.ref C))) s):codeAny (model prog w) A (.call (.builtin "getset_descriptor.__get__") ⟨[.builtin "object.__class__",.ref x,tp],[]⟩) R s:=by
 obtain⟨hh,g,a,t,os⟩:=s;have c:=I.type (M:=model prog w);have b:=looks_mroIn (M:=model prog w) X hm;show codeAny_call_builtin KF.slot_gs.plain KF.entry_gs (KF.slot_gs.check _ _ _ _ _ _ _ _ KF.type_class (KF.args_gs _ _ _) ?_);unfold Builtin.«getset_descriptor.__get__» descrGet;rw[dga_obj];show aa (af ?_);unfold descrGetter descrCheckInstance descrNameAndClass isInstance;simp only[KF.owner_class];repeat lk
 show⟨Code.quiet_builtin _ (by decide +kernel),codeAny_builtin KF.entry_class ?_⟩;unfold Builtin.«object.__class__» shownTypeOf;repeat lk
 show h
theorem Rf{M:Model}{a:Value}{Q:Unit->Shared->Prop}(X:K.In s.heap)(I:nt s.heap x D)(hb:mroIn K D (.type "BaseException")=some true)(h:Q () s):wpAny M A (checkBuiltinCall "BaseException.__getattribute__" ⟨[.ref x,a],[]⟩) Q E s:=by
 obtain⟨hh,g,d,t,os⟩:=s;have c:builtinKind "BaseException.__getattribute__"=some .slot:=by decide +kernel
 have b:splitId "BaseException.__getattribute__"=some ("BaseException","__getattribute__"):=by decide +kernel
 have ha:=F.args_bexc_ga (.ref x) a;have f:=I.type (M:=M);have e:=looks_mroIn (M:=M) X hb;simp only[checkBuiltinCall,c,b];show aa ?_;unfold isInstance;show aa (f.at (e.at ?_));repeat(any_goals (first | assumption | wp_step))
theorem RZ{g a:Value}{tk:Tok}{R:Fin->Shared->Prop}(X:K.In s.heap)(I:nt s.heap x D)(ha:findIn K (.ref D) name=some (some a))(hg:specialIn K a "__get__"=some (some g))(ht:takesIn K a=some true)
  (h:wpAny (model prog w) A (call g [a,.ref x,.ref D]) (λv b=>R (.done (.ret v)) b) E s) :
  wpAny (model prog w) A (Builtin.«object.__getattribute__» ⟨[.ref x,.str name tk],[]⟩) R E s:=by
 obtain⟨hh,f,d,t,os⟩:=s;have e:=I.type (M:=model prog w);have c:=Qa (M:=model prog w) (x:=x) X ha hg ht;unfold Builtin.«object.__getattribute__»;show aa (af (aa (af (aa (e.at (aa (c.at ?_)))))));show wpAny _ _ (holding [a] (call g [a,.ref x,.ref D]) >>= ret) _ _ _;show aa (bh (bZ h (λv b z=>af z) λ_ _ z=>z))
theorem RY{Q:Option Value->Shared->Prop}{g a:Value}(X:K.In s.heap)(I:nt s.heap x D)(j:findIn K (.ref D) "__getattribute__"=some (some (.builtin "BaseException.__getattribute__")))(k:findIn K (.ref D) "__getattr__"=some none)
  (hb:mroIn K D (.type "BaseException")=some true) (ha:findIn K (.ref D) name=some (some a)) (hg:specialIn K a "__get__"=some (some g)) (ht:takesIn K a=some true)
  (h:wpAny (model prog w) A.in1 (call g [a,.ref x,.ref D]) (λv c=>wpAny (model prog w) A (handedOut v) (λv b=>Q (some v) b) (λ_ _=>False) c) (λ_ _=>False) { s with toks:=s.toks+1 }) :
  wpAny (model prog w) A (getAttr? (.ref x) name) Q E s:=by
 obtain⟨hh,e,d,t,os⟩:=s;have m:=I.type (M:=model prog w);have l:=looks_findIn (M:=model prog w) X j;have L2:=looks_findIn (M:=model prog w) X k;have i:=F.excAttr_ValueError.ga.bind (.ref x);unfold getAttr? getAttrBy? getAttrBy;show aa (wpAny_mkText (aa (wpAny_attempt (bh (aa (m.at (aa (l.at ?_))))))));show wpAny _ _ (getAttrByItsOwn _ _ _ _ _ _) _ _ _;unfold getAttrByItsOwn;show aa (L2.at (aa (wpAny_attempt (bh ?_))));show wpAny _ _ (boundAndCalled _ _ _) _ _ _;unfold boundAndCalled;rw[i];show aa (af (wpAny_call (codeAny_call_builtin F.excAttr_ValueError.ga.plain F.entry_bexc_ga (Rf (s:=⟨hh,e,d,t+1,os⟩) X I hb (RZ (s:=⟨hh,e,d,t+1,os⟩) X I ha hg ht (bZ h (λv c z=>?_) λ_ _ z=>z.elim))))));show bZ z (λv b f=>af f) (λ_ _ z=>z.elim)
structure Ip(K:Frag)(D:Addr):Prop where
 hg:findIn K (.ref D) "__getattribute__"=some (some (.builtin "BaseException.__getattribute__"))
 hh:findIn K (.ref D) "__getattr__"=some none
 hd:hasDictIn K D=true
 ha:findIn K (.ref D) "__class__"=some (some (.builtin "object.__class__"))
 hn:specialIn K (.builtin "object.__class__") "__get__"=some (some (.builtin "getset_descriptor.__get__"))
 ht:takesIn K (.builtin "object.__class__")=some true
 hm:mroIn K D (.type "object")=some true
 hb:mroIn K D (.type "BaseException")=some true
theorem RX{Q:Option Value->Shared->Prop}(B:Ip K D)(X:K.In s.heap)(I:nt s.heap x D)(h:Q (some (.ref D)) { s with toks:=s.toks+1 }):wpAny (model prog w) A (getAttr? (.ref x) "__class__") Q E s:=
 RY X I B.hg B.hh B.hb B.ha B.hn B.ht (wpAny_call (Va (s:={ s with toks:=s.toks+1 }) X I B.hm (handed_on rfl h)))
theorem qc(B:Ip K D):KitX K (.ref x) (.ref D) (λh=>nt h x D) where
 ty:=λ_ _ _ I=>I.type
 it:=λ_ _ X _=>by
  obtain⟨g,a,_⟩:=any_some B.hd;unfold clsIn at a;split at a
  .rename_i d d' f i b;intro o l m j k q;unfold isType loadHead;show aa (wpAny_loadPart (k _ _ (X _ _ b)) (af q))
  cases a
 ne:=λh tp dd its n sl X c=>by
  obtain⟨g,a,_⟩:=any_some B.hd;show Bool.eq_false_iff.mpr λq=>?_
  have e:D=tp:=Value.ref.inj (beq_iff_eq.mp q);subst e;unfold clsIn at a;split at a
  .rename_i d d' f i b;have:=X _ _ b;rw[c] at this;cases this
  cases a
 ca:=λX I k=>RX B X I k
end
end PySem.W
namespace L2
open PySem PySem.Spec PyProof.Rows
noncomputable abbrev uY:=PySem.W.Ip
section
variable{X:Cx}{pos:Pos}{e:Expr}{te:TD}{D:Addr}{b:Bool}
theorem Inv.Bn{j:List (Addr×Obj)}{d:St}{H:Hp}{s:Shared}{v:V}{c:Str}{fs:List (Str×L2.D)}(I:Inv X j d H s)(f:PySem.W.nsIn X.K mainGlobals c=some (some (.ref D)))(r:Rep X.K H v (.exc c fs)):∃a,v=.ref a/\PySem.W.nt s.heap a D:=by
 simp only[Rep] at r;obtain⟨a,k,C,dd,l,rfl,e,b,i,_⟩:=r;rw[f] at b;cases b;obtain⟨o,h,g,_⟩:=i _ (I.dD a _ e).1;show⟨a,rfl,o,h,g⟩
theorem Lz{c:V}{uc:Value}{d:Str}(j:uY X.K D)(g:PySem.W.nsIn X.K mainGlobals d=some (some (.ref D)))(i:∀u,RelV c u->u=uc)(hb:PySem.W.kitOne X.K (.ref D) uc=some b) :
  dZ X (.builtin "isinstance") (λxs H Q=>∃x fs,xs=[x,c]/\Rep X.K H x (.exc d fs)/\Q (.bl b) H):=by
 intro l s σ H xs us Q I r h;obtain⟨x,fs,rfl,e,q⟩:=h;obtain⟨u,k,rfl,f,rc⟩:=xV r;obtain⟨a,rfl,ex⟩:=I.Bn g e;cases (show u=Value.ref a from f);rw[i _ rc];show PySem.W.kia_one (PySem.W.qc j) I.mf ex hb (by intro z;cases z) λtk=>⟨.bl b,H,I.tok tk,rfl,q⟩
theorem Tv{cs:List Addr}{f:Str}(m:uY X.K D)(k:PySem.W.nsIn X.K mainGlobals f=some (some (.ref D)))(hb:PySem.W.kitAny X.K (.ref D) (cs.map Value.ref)=some b) :
  dZ X (.builtin "isinstance") (λxs H Q=>∃x p fs,xs=[x,.ref p]/\gR X.K H p (cs.map V.ref)/\Rep X.K H x (.exc f fs)/\Q (.bl b) H):=by
 intro w s σ H xs us Q I r h;obtain⟨x,p,fs,rfl,e,i,q⟩:=h;obtain⟨u,g,rfl,j,rc⟩:=xV r;obtain⟨a,rfl,ex⟩:=I.Bn k i;cases (show u=Value.ref a from j);cases (show g=Value.ref p from rc);obtain⟨its,d,ht,hz⟩:=I.tuple e;have v:its=cs.map Value.ref:=by
  clear ht hb e hz;induction cs generalizing its with
  | nil=>cases d;rfl
  | cons c r l=>
   cases d with
   | cons t o=>rw[az,<-l _ o];cases (show _=Value.ref c from t);rfl
 subst v;obtain⟨⟨cls,dd,data,sl⟩,g1,g2,n,g3⟩:=ht;simp only at g2 g3;subst g2 g3;show PySem.W.kia_tup (PySem.W.qc m) I.mf ex g1 hb (by intro z;cases z) λtk=>⟨.bl b,H,I.tok tk,rfl,q⟩
def vb(d:Str)(b:Bool)(te:TD):TD:=λa Q=>te a λr=>match r.val with
 | .exc c _=>c=d/\Q (.fz (.bl b))
 | _=>False
theorem P9{C:Addr}{l a:Str}{p d:Pos}(he:PD X e te)(A:uY X.K D)(o:PySem.W.nsIn X.K mainGlobals l=some (some (.ref D)))(hm:X.mg "isinstance"=none)(z:X.mg a=some (.ref C))(hb:PySem.W.kitOne X.K (.ref D) (.ref C)=some b)
  (hg:Gl X "isinstance":=by rfl) (w:Gl X a:=by rfl) (hd:(a==("__debug__":Str))=false:=by decide) (j:starEach [e,Expr.Name a d] X.env=(false,eval e X.env)::starEach [Expr.Name a d] X.env:=by rfl) (y:starEach [Expr.Name a d] X.env=(false,eval (.Name a d) X.env)::starEach [] X.env:=by rfl)
  (B:(backTo pos (starEach [Expr.Name a d] X.env)).any (·.1)=false:=by rfl):PD X (.Call (.Name "isinstance" p) [e,.Name a d] [] pos) (vb l b te):=by
 obtain⟨t,pp,q⟩:=he;show⟨_,wC (Lz (c:=.ref C) (uc:=.ref C) (b:=b) A o (λu h=>h) hb) hg hm boot_isinstance (mZ pp (mZ (Kc (v:=.ref C) w z rfl hd) pj y) j) (by decide) (by decide) j B,λm σ L I G H Q P E h k=>q m σ L I G H _ _ E h λv M r N x n f=>?_⟩;obtain⟨J,g,i,_⟩:=n.freeze x;split at f
 .rename_i c fs F;obtain⟨rfl,f⟩:=f;rw[F] at i;show⟨v,fs,rfl,i.mono g.s,k _ _ _ J g (gf (kF _ _ _)) f⟩
 show f.elim
theorem P8{T:String}{l a:Str}{p d:Pos}(he:PD X e te)(B:uY X.K D)(o:PySem.W.nsIn X.K mainGlobals l=some (some (.ref D)))(hm:X.mg "isinstance"=none)(z:X.mg a=none)(A:bootBuiltins a=some (.type T))(hb:PySem.W.kitOne X.K (.ref D) (.type T)=some b)
  (hg:Gl X "isinstance":=by rfl) (w:Gl X a:=by rfl) (hn:a≠"__name__":=by decide) (hd:(a==("__debug__":Str))=false:=by decide) (j:starEach [e,Expr.Name a d] X.env=(false,eval e X.env)::starEach [Expr.Name a d] X.env:=by rfl) (y:starEach [Expr.Name a d] X.env=(false,eval (.Name a d) X.env)::starEach [] X.env:=by rfl)
  (C:(backTo pos (starEach [Expr.Name a d] X.env)).any (·.1)=false:=by rfl):PD X (.Call (.Name "isinstance" p) [e,.Name a d] [] pos) (vb l b te):=by
 obtain⟨t,pp,q⟩:=he;show⟨_,wC (Lz (c:=.ty T) (uc:=.type T) (b:=b) B o (λu h=>h) hb) hg hm boot_isinstance (mZ pp (mZ (Kb (v:=.ty T) w z A rfl hn hd) pj y) j) (by decide) (by decide) j C,λm σ L I G H Q P E h k=>q m σ L I G H _ _ E h λv M r N x n f=>?_⟩;obtain⟨J,g,i,_⟩:=n.freeze x;split at f
 .rename_i c fs F;obtain⟨rfl,f⟩:=f;rw[F] at i;show⟨v,fs,rfl,i.mono g.s,k _ _ _ J g (gf (kF _ _ _)) f⟩
 show f.elim
theorem KP:∀(cs:List (Str×Addr×Pos)),(∀c∈cs,X.mg c.1=some (.ref c.2.1)/\Gl X c.1/\(c.1==("__debug__":Str))=false)->(∀es,(∃l,es=(cs.drop l).map λc=>Expr.Name c.1 c.2.2)->starEach es X.env=match es with | []=>starEach [] X.env | e::r=>(false,eval e X.env)::starEach r X.env)->
  ∃t,PA X (cs.map λc=>Expr.Name c.1 c.2.2) t/\∀(σ:St)(H:Hp)(Q:List V->Hp->Prop),Q (cs.map λc=>V.ref c.2.1) H->t σ H Q
 | [],_,_=>⟨_,pj,λ_ _ _ q=>q⟩
 | c::cs,h,a=>by
  obtain⟨t,p,q⟩:=KP cs (λd hd=>h d (aE _ hd)) (λes i=>by obtain⟨l,e⟩:=i;show a es ⟨l+1,e⟩);obtain⟨g,f,b⟩:=h c bM;show⟨_,mZ (Kc (v:=.ref c.2.1) f g rfl b) p (a _ ⟨0,rfl⟩),λσ H Q z=>q σ H _ z⟩
theorem KO{cs:List (Str×Addr×Pos)}{n:Str}{p d:Pos}{a:Nat}(he:PD X e te)(J:uY X.K D)(z:PySem.W.nsIn X.K mainGlobals n=some (some (.ref D)))(hm:X.mg "isinstance"=none)(I:∀c∈cs,X.mg c.1=some (.ref c.2.1)/\Gl X c.1/\(c.1==("__debug__":Str))=false)
  (hb:PySem.W.kitAny X.K (.ref D) ((cs.map λc=>c.2.1).map Value.ref)=some b) (F:cs.length<=sizeLine) (B:∀es,(∃l,es=(cs.drop l).map λc=>Expr.Name c.1 c.2.2)->starEach es X.env=match es with | []=>starEach [] X.env | e::r=>(false,eval e X.env)::starEach r X.env)
  (hg:Gl X "isinstance":=by rfl) (m:starEach [e,Expr.Tuple (cs.map λc=>Expr.Name c.1 c.2.2) a d] X.env=(false,eval e X.env)::starEach [Expr.Tuple (cs.map λc=>Expr.Name c.1 c.2.2) a d] X.env:=by rfl)
  (A:starEach [Expr.Tuple (cs.map λc=>Expr.Name c.1 c.2.2) a d] X.env=(false,eval (Expr.Tuple (cs.map λc=>Expr.Name c.1 c.2.2) a d) X.env)::starEach [] X.env:=by rfl)
  (L:(backTo pos (starEach [Expr.Tuple (cs.map λc=>Expr.Name c.1 c.2.2) a d] X.env)).any (·.1)=false:=by rfl):PD X (.Call (.Name "isinstance" p) [e,.Tuple (cs.map λc=>Expr.Name c.1 c.2.2) a d] [] pos) (vb n b te):=by
 obtain⟨t,pp,q⟩:=he;obtain⟨S,pg,y⟩:=KP (X:=X) cs I B;show⟨_,wC (Tv (cs:=cs.map λc=>c.2.1) (b:=b) J z hb) hg hm boot_isinstance (mZ pp (mZ (Jv pg) pj A) m) (by decide) (by decide) m L,λu σ R N G H Q P E h k=>q u σ R N G H _ _ E h λv T r U x w f=>?_⟩;obtain⟨O,i,j,_⟩:=w.freeze x;split at f
 .rename_i c fs M;obtain⟨rfl,f⟩:=f;rw[M] at j;show y _ _ _ ⟨by simpa using F,λp C=>?_⟩;have g:=i.trans (Ext.own (o:=.tup (cs.map λc=>V.ref c.2.1)) i.s C);show⟨v,p,fs,rfl,?_,j.mono g.s,k _ _ _ O g (gf (kF _ _ _)) f⟩;rw[aS];show gR.of jb
 show f.elim
end
section
variable{X:Cx}{pos:Pos}{e:Expr}{te:TD}
theorem Ly:∀{c:List Int}{its:List Value},Vals (c.map V.int) its->PySem.W.kf_ints its=true/\∀(i:Nat)(k:Int),c[i]?=some k->∃t,its[i]?=some (.int k t)
 | [],_,r=>by cases r;show⟨rfl,λi k h=>by simp at h⟩
 | a::c,_,.cons (b:=u) h r=>by
  obtain⟨f,e⟩:=Ly r;obtain⟨t,rfl⟩:=h;show⟨f,λi k d=>?_⟩;cases i with
  | zero=>simp at d;subst d;show⟨t,rfl⟩
  | succ i=>show e i k (by simpa using d)
theorem K8{b c:Type}(f:b->c):∀(l:List b)(j:Nat),(l.eraseIdx j).map f=(l.map f).eraseIdx j
 | [],_=>rfl
 | a::l,0=>rfl
 | a::l,j+1=>by rw[List.eraseIdx_cons_succ,az,az,List.eraseIdx_cons_succ,K8 f l j]
def J4:V->List V->Hp->VK->Prop:=λx b H Q=>∃(l:Addr)(a:List Int)(k:Int),x=.ref l/\b=[.int k]/\H l=some (.lst (a.map V.int))/\k∈a/\Q .non (upd H l (.lst ((a.erase k).map V.int)))
theorem Te:Ih X "list.remove" J4:=by
 intro K s σ H x J v us Q I j o h;obtain⟨l,a,k,rfl,rfl,d,B,q⟩:=h;cases j;obtain⟨u,rfl,p⟩:=o.one;obtain⟨z,its,n,r,A,e⟩:=I.uA d;obtain⟨hi,hg⟩:=Ly r;obtain⟨t,rfl⟩:=p;have C:a.idxOf k<a.length:=List.idxOf_lt_length_of_mem B;rw[ae] at A z;obtain⟨t1,f⟩:=hg (a.idxOf k) k (by rw[ah C];simp);have i:∀m (hm:m<its.toArray.size),m<a.idxOf k->isInt k its.toArray[m]=false:=λm hm D=>by
  have G:m<a.length:=by ext
  obtain⟨g,c⟩:=hg m a[m] (ah G);have b:its.toArray[m]=.int a[m] g:=by
   have:its[m]?=some its[m]:=ah (by simpa using hm);rw[this] at c;simpa using c
  rw[b];have:a[m]≠k:=by simpa using List.not_of_lt_findIdx D
  simpa[isInt] using this
 show call_meets F.slot_list_remove ⟨_,e,rfl⟩ F.entry_list_remove (F.args_list_remove_2 _ _)
  (MeetsSeq.list_remove l its.toArray n (.int k t) (isInt k) (λy w=>PySem.W.kf_eq hi y (by simpa using w)) (a.idxOf k) (by rw[aq];ext) (by
   have:its[a.idxOf k]?=some its[a.idxOf k]:=ah (by ext);rw[this] at f;have b:its[a.idxOf k]=.int k t1:=by simpa using f
   simp[b,isInt]) i (by rw[aq];ext)) ⟨e,?_⟩
 have E:(a.erase k).map V.int=(a.map V.int).eraseIdx (a.idxOf k):=by rw[List.erase_eq_eraseIdx_of_idxOf rfl,K8]
 rw[E] at q;show⟨.non,_,I.xc (its':=its.eraseIdx (a.idxOf k)) d e ?_ (r.eraseIdx _) ?_,rfl,q⟩
 .rw[List.eraseIdxIfInBounds_toArray]
 have:=Lx (a.map V.int) (a.idxOf k);rw[ae] at this;ext
def Cs(i:Nat)(te:TD):TX:=λD a=>match gt a i with
 | .ow ds=>te a λr=>∃(b:List Int)(k:Int),ds=b.map .int/\r=.fz (.int k)/\k∈b/\D.nx (a.set i (.ow ((b.erase k).map .int)))
 | _=>False
theorem K7{K:J'}{G:Hp}:∀{a:List Int}{xs:List V},cx K G xs (a.map D.int)->xs=a.map V.int
 | [],xs,r=>by cases xs with
  | nil=>rfl
  | cons x xs=>simp[cx] at r
 | k::a,xs,r=>by cases xs with
  | nil=>simp[cx] at r
  | cons x xs=>
   simp only[az,cx] at r;rw[K7 r.2];have:=r.1;simp only[Rep] at this;rw[this];rfl
theorem Td(i:Nat){x:Str}{s w c:Pos}(he:PD X e te)(M:X.N[i]?=some x:=by rfl)(L:oM X.env.scope x:=by first | show Or.inl rfl | show Or.inr (Or.inl rfl) | show Or.inr (Or.inr rfl))(hd:(x==("__debug__":Str))=false:=by decide)
  (J:(x==("__classdict__":Str))=false:=by decide) (Q:starEach [e] X.env=(false,eval e X.env)::starEach [] X.env:=by rfl)
  (hb:∀{o:TE}{t:TA},PE X (.Name x s) o->PA X [e] t->PE X (.Call (.Attribute (.Name x s) "remove" w) [e] [] c) (As X.K "list" J4 o t):=by intro o t j f;show y7 PySem.F.plainAttrs_list PySem.F.slot_list_remove PySem.F.type_list_remove Te j f) :
  PX X (.Expr (.Call (.Attribute (.Name x s) "remove" w) [e] [] c) pos) (Cs i te):=by
 obtain⟨t,p,q⟩:=he;show⟨_,zj (hb (rB M L hd J) (mZ p pj Q)),λz σ S R G H D E k h g=>?_⟩;unfold Cs at h;split at h
 .rename_i ds hg;obtain⟨a,xs,j,f,U,T,P⟩:=k.ow i ds hg;show⟨_,j,.inl ⟨rfl,xs,fT.of f⟩,?_⟩;show q z σ S R G H _ _ k h λv W r Y A C u=>?_
  obtain⟨d,m,rfl,rfl,hm,u⟩:=u;obtain⟨y,n,B,_⟩:=C.freeze A;have k2:=k.ext n;have ex:=K7 P;subst ex;have ev:v=.int m:=by simpa only[xZ,Rep] using B
  subst ev;show⟨a,d,m,rfl,rfl,n.h _ _ f,hm,?_⟩;have O:cx X.K y ((d.erase m).map V.int) ((d.erase m).map L2.D.int):=by
   generalize d.erase m=l;induction l with
   | nil=>show cx.nil
   | cons b l I=>show cx.cons (by simp only[Rep]) I
  show g.nx _ _ y _ n.g (k2.change hg j O) u
 show h.elim
end
structure M1(X:Cx)(o:Expr)(m:Str)(apos:Pos)(e:Expr)(gq:Pos):Prop where
 base:attributeBase o m X.env (eval o X.env)=eval o X.env
 NB:((backTo gq (starEach [e] X.env)).all (λx=>!x.1)&&(backToKw gq (keywordEach [] X.env)).all (λx=>x.1.isSome)
  && decide (([e]:List Expr).length+([]:List Keyword).length+(if ([]:List Keyword).isEmpty then 0 else 1)<30))=true
 line:(apos.endLine==gq.line)=true
 trees:backTo gq (starEach [e] X.env)=[(false,eval e X.env)]
def Di(v u:Value):Prop:=∀m t n k,v=.int m t->u=.int n k->m<=n
section
variable{prog:Program}{w:World}{A:Around}{Rz:Result->Shared->Prop}{I:Addr}{fp wr:List Addr}{n:Nat}{P:Nat->Value->Prop}{St:Nat->Heap->Prop}
theorem RW(W:Walks prog w A.in1 I fp wr n P St)(S:Addr)(g:∀i v,P i v->∃m t,v=.int m t)(U:∀i v u,P i v->P i u->v=u)(q:S∉fp)(X:List (Str×Value)) :
  ∀(m j:Nat)(z:Shared)(best:Value)(c:Nat),n-(j+1)=m->j<n->St (j+1) z.heap->(∃i,P i best)->(∀i v,i<=j->P i v->Di v best)->z.heap.get? S=some { cls:=.type "list",dict:=none,data:=.seq #[best,best] c,slots:=#[] }->
   (∀v h' tk,(∃i,P i v)->(∀i u,i<n->P i u->Di u v)->(∀b o,b∉wr->b≠S->z.heap.get? b=some o->h'.get? b=some o)->Rz (.ok (.ret v)) { z with heap:=h',toks:=tk })->
   codeAny (model prog w) A (.builtin "max.loop" ⟨[.ref I,.none,.ref S],X⟩) Rz z:=by
 have M:S∉wr:=λh=>q (W.sub _ h)
 intro m;induction m with
 | zero=>
  intro j z best c em V st pb le s fin;have Y:j+1=n:=by ext
  show codeAny_builtin F.entry_max_loop ?_;rw[bX F.plain_max_loop _];show wpAny _ A.in1 (seqItems? (.ref S) >>= _) _ _ z;show aa (wpAny_seqItems s rfl ?_);show wpAny _ A.in1 (tryCatch (pyNext (.ref I)) _ >>= _) _ _ z;show aa (wpAny_tryCatch (W.done z _ _ (Y▸st) λT tk kp=>?_));have p:=kp S _ M s;show wpAny _ A.in1 (updateSeq S (λ_=>#[]) >>= _) _ _ _;show aa ?_;show wpAny_updateSeq p rfl (aa (wpAny_letGo (af ?_)));show fin best _ tk pb (λi u hi=>le i u (by ext)) λb o d l e=>(aY _ _ (Ne.symm l)).trans (kp b o d e)
 | succ m R=>
  intro j z best c em V st pb le s fin;have H:j+1<n:=by ext
  show codeAny_builtin F.entry_max_loop ?_;rw[bX F.plain_max_loop _];show wpAny _ A.in1 (seqItems? (.ref S) >>= _) _ _ z;show aa (wpAny_seqItems s rfl ?_);show wpAny _ A.in1 (tryCatch (pyNext (.ref I)) _ >>= _) _ _ z;show aa (wpAny_tryCatch (W.item (j+1) z _ _ H st λv T tk pv N kp=>?_));have p:=kp S _ M s;show wpAny _ A.in1 (tryCatch (holding [v,v] (richCompare .Gt v best >>= _)) _ >>= _) _ _ _;obtain⟨i0,Q⟩:=pb;obtain⟨a,ta,rfl⟩:=g _ _ pv;obtain⟨G,O,rfl⟩:=g _ _ Q;show aa (wpAny_tryCatch (bh (aa (PyProof.Rows.gt_int (aa (bh (wpAny_truthy_bool (aa (wpAny_letGo (af ?_))))))))));cases hb:decide (a>G) with
  | true=>
   simp only[aQ];show aa ?_;show wpAny_updateSeq p rfl (aa (wpAny_letGo ?_));rw[Ce];have GO:∀f b o,b∉wr->b≠S->z.heap.get? b=some o->(T.update S f).get? b=some o:=λf b o d l e=>(aY _ _ (Ne.symm l)).trans (kp b o d e)
   show af ⟨plainId_quiet F.plain_max_loop _,R (j+1) _ _ _ (by ext) H (W.frame _ _ _ N λb Z o e=>?_) ⟨_,pv⟩ (λi u hi r m t n k x E=>?_) (Heap.get?_update_self _ p rfl) λB D y L K J=>?_⟩
   .exact(aY _ _ (λh:S=b=>q (by rw[h];show Z))).trans e
   .cases E;by_cases C:i=j+1
    .subst C;have:=U _ _ _ pv r;rw[x] at this;cases this;show Int.le_refl _
    have:=le i u (by ext) r m t G O x rfl;have:=of_decide_eq_true hb;ext
   show fin B D y L K λb o d l e=>J b o d l (GO _ b o d l e)
  | false=>
   simp only[aj,aP];show aa (wpAny_letGo ?_);rw[Ce];show af ⟨plainId_quiet F.plain_max_loop _,R (j+1) _ _ c (by ext) H N ⟨_,Q⟩ (λi u hi r m t n k x E=>?_) p λB D y L K J=>?_⟩
   .cases E;by_cases C:i=j+1
    .subst C;have:=U _ _ _ pv r;rw[x] at this;cases this;have:=of_decide_eq_false hb;ext
    show le i u (by ext) r m t G O x rfl
   show fin B D y L K λb o d l e=>J b o d l (kp b o d e)
theorem RV(W:Walks prog w A.in1 I fp wr n P St)(S:Addr)(d:∀i v,P i v->∃m t,v=.int m t)(r:∀i v u,P i v->P i u->v=u)(a:S∉fp)(p:List (Str×Value))(pos:0<n){z:Shared}{c:Nat}(st:St 0 z.heap)
  (q:z.heap.get? S=some { cls:=.type "list",dict:=none,data:=.seq #[] c,slots:=#[] })
  (fin:∀v h' tk,(∃i,P i v)->(∀i u,i<n->P i u->Di u v)->(∀b o,b∉wr->b≠S->z.heap.get? b=some o->h'.get? b=some o)->Rz (.ok (.ret v)) { z with heap:=h',toks:=tk }) :
  codeAny (model prog w) A (.builtin "max.loop" ⟨[.ref I,.none,.ref S],p⟩) Rz z:=by
 have y:S∉wr:=λh=>a (W.sub _ h)
 show codeAny_builtin F.entry_max_loop ?_;rw[bX F.plain_max_loop _];show wpAny _ A.in1 (seqItems? (.ref S) >>= _) _ _ z;show aa (wpAny_seqItems q rfl ?_);show wpAny _ A.in1 (tryCatch (pyNext (.ref I)) _ >>= _) _ _ z;show aa (wpAny_tryCatch (W.item 0 z _ _ pos st λv E tk pv B kp=>?_));have l:=kp S _ y q;show wpAny _ A.in1 (updateSeq S (λ_=>#[v,v]) >>= _) _ _ _;show aa ?_;show wpAny_updateSeq l rfl ?_;rw[Ce];have K:∀f b o,b∉wr->b≠S->z.heap.get? b=some o->(E.update S f).get? b=some o:=λf b o j g e=>(aY _ _ (Ne.symm g)).trans (kp b o j e)
 show af ⟨plainId_quiet F.plain_max_loop _,RW W S d r a p _ 0 _ v _ rfl pos (W.frame _ _ _ B λb J o e=>?_) ⟨_,pv⟩ (λi u hi C m t n k H G=>?_) (Heap.get?_update_self _ l rfl) λx D s N M L=>?_⟩
 .exact(aY _ _ (λh:S=b=>a (by rw[h];show J))).trans e
 .have h0:i=0:=by ext
  subst h0;have:=r _ _ _ pv C;rw[H,G] at this;cases this;show Int.le_refl _
 show fin x D s N M λb o j g e=>L b o j g (K _ b o j g e)
end
section
variable{prog:Program}{w:World}{A:Around}{E:Value->Shared->Prop}{s:Shared}
theorem RU{l:Addr}{a:List Value}{d:Value}{Q:Value->Shared->Prop}(hh:A.handled=none)(j:s.heap.IsList l a.toArray)(c:∀v∈a,∃m t,v=.int m t)
  (C:a=[]->∀h' tk,(∀b o,s.heap.get? b=some o->h'.get? b=some o)->Q d { s with heap:=h',toks:=tk })
  (n:∀v∈a,(∀u∈a,Di u v)->∀h' tk,(∀b o,s.heap.get? b=some o->h'.get? b=some o)->Q v { s with heap:=h',toks:=tk }) :
  wpAny (model prog w) A (call (.builtin "max") [.ref l] [("default",d)]) Q E s:=by
 show Vb F.kind_max F.plain_max F.entry_max (TK _ _) ?_;show wpAny _ A.in1 (Builtin.Builtins.bindParams "max" ["key","default"] 0 ⟨[],[("default",d)]⟩ >>= _) _ _ s;show aa (wpAny_of_eq (show Builtin.Builtins.bindParams "max" ["key","default"] 0 ⟨[],[("default",d)]⟩=pure [none,some d] from rfl) ?_);show aa (af ?_);show aa (wpAny_pyIter_list j ?_);show aa (wpAny_newObj_type ?_);rw[Ce];have q:l<s.heap.objs.size:=by obtain⟨_,e,_⟩:=j;show aw e
 have W:=Walks.list (prog:=prog) (w:=w) (A:=A.in1) hh s.heap.objs.size l (aF q) a.toArray;have g:∀b o,s.heap.get? b=some o->b∉[s.heap.objs.size]/\b≠(s.heap.push { cls:=.type "list_iterator",data:=.fields #[.ref l,.int 0 0] }).objs.size:=λb o e=>by
  have:=aw e;show⟨λhm=>?_,λh=>?_⟩
  .rcases ao.mp hm with f | hm
   .exact Nat.lt_irrefl _ (f▸this)
   cases hm
  rw[Heap.size_push] at h;show aF (bT this) h
 show af ⟨plainId_quiet F.plain_max_loop _,?_⟩;have r:=W.frame 0 _ (((s.heap.push { cls:=.type "list_iterator",data:=.fields #[.ref l,.int 0 0] }).push { cls:=.type "list",dict:=none,data:=.seq #[] 0,slots:=#[] })) (⟨⟨_,ax _ rfl,rfl,rfl⟩,j.push _⟩) λb _ o e=>ag _ e
 have off:(s.heap.push { cls:=.type "list_iterator",data:=.fields #[.ref l,.int 0 0] }).objs.size∉[s.heap.objs.size,l]:=λhm=>by
  rw[Heap.size_push] at hm;rcases ao.mp hm with f | hm
  .exact Nat.succ_ne_self _ f
  rcases ao.mp hm with f | hm
  .exact aF (bT q) f.symm
  cases hm
 have up:∀b o,s.heap.get? b=some o->_:=λb o e=>ag { cls:=.type "list",dict:=none,data:=.seq #[] 0,slots:=#[] } (ag { cls:=.type "list_iterator",data:=.fields #[.ref l,.int 0 0] } e)
 cases he:a with
 | nil=>
  subst he;show Qd W _ off d r (ax _ rfl) λh' tk kp=>C rfl h' tk λb o e=>kp b o (g b o e).1 (up b o e)
 | cons x xs=>
  show RV W _ (λi v y=>c v (aM (by simpa using y))) (λi v u n B=>Option.some.inj (n.symm.trans B)) off _ (by rw[he];simp) r (ax _ rfl) λv h' tk ⟨i,pv⟩ le kp=>?_
  show n v (aM (by simpa using pv)) (λu z=>?_) h' tk λb o e=>kp b o (g b o e).1 (g b o e).2 (up b o e)
  obtain⟨k,p⟩:=List.getElem?_of_mem z;show le k u (by simpa using (aB.mp p).1) (by simpa using p)
end
def BS(K:J')(x y:V)(H:Hp)(Q:VK):Prop:=∃a ns,x=.ref a/\fT K H a (ns.map V.int)/\(ns=[]->Q y H)/\∀n∈ns,(∀m∈ns,m<=n)->Q (.int n) H
section
variable{X:Cx}{pos p kp:Pos}{e e2:Expr}{te te2:TD}
theorem Tc(z:X.calm=true){j:List (Addr×Obj)}{s:Shared}{g:St}{H:Hp}{x y:V}{u d:Value}{Q:VK}(I:Inv X j g H s)(o:RelV x u)(l:RelV y d)(h:BS X.K x y H Q) :
  wpAny (model X.prog X.w) X.A (call (.builtin "max") [u] [("default",d)]) (EP X j g Q) X.xe s:=by
 obtain⟨a,ns,rfl,q,h0,B⟩:=h;cases o;obtain⟨its,c,pl,hz⟩:=I.list q;have at_:∀v∈its,∃n∈ns,RelV (.int n) v:=λv b=>by
  obtain⟨i,hi⟩:=List.getElem?_of_mem b;have C:i<(ns.map V.int).length:=by rw[c.length];show(aB.mp hi).1
  obtain⟨k,f,r⟩:=c.get (ah C);rw[hi] at f;cases f;rw[List.getElem_map] at r;show⟨_,List.getElem_mem _,r⟩
 show RU (I.ok.hd z) pl.isList (λv b=>?_) (λhe h' tk kp=>?_) λv b le h' tk kp=>?_
 .obtain⟨n,_,t,e⟩:=at_ v b;show⟨n,t,e⟩
 .subst he;have:=c.length;show⟨y,H,I.kept kp,l,h0 (bW (by simpa using this))⟩
 obtain⟨n,hn,r⟩:=at_ v b;show⟨.int n,H,I.kept kp,r,B n hn λm hm=>?_⟩;obtain⟨i,hi⟩:=List.getElem?_of_mem hm;obtain⟨k,f,p⟩:=c.get (show(ns.map V.int)[i]?=some (.int m) by rw[aG,hi];rfl);obtain⟨t,rfl⟩:=r;obtain⟨t',rfl⟩:=p;show le _ (aM f) m t' n t rfl rfl
def OW(K:J')(b a:TE):TE:=λσ H Q=>b σ H λx H1=>a σ H1 λy c=>BS K x y c Q
theorem P7{g b:TE}(n:X.calm=true)(ha:PE X e g)(hb:PE X e2 b)(hm:X.mg "max"=none)(hg:Gl X "max":=by rfl)(c:starEach [e] X.env=(false,eval e X.env)::starEach [] X.env:=by rfl) :
  PE X (.Call (.Name "max" p) [e] [⟨some "default",e2,kp⟩] pos) (OW X.K g b):=by
 intro j s σ H Q I h;show wpAny_Call_Name_kw (tO I hg hm (u:=.builtin "max") rfl ?_);show callWith_kw ?_ (by rw[c];rfl) (by rw[c];rfl);show ez (mZ ha pj c pos j s σ H (BH λx H1=>b σ H1 λy a=>BS X.K x y a Q) I h) λus s1 f=>?_
 obtain⟨o,H1,I1,r,q⟩:=f;obtain⟨x,rfl⟩:=JV q;obtain⟨u,rfl,l⟩:=l7 r;show ez (QW hb O7 pos j s1 σ H1 (BH λy a=>BS X.K x y a Q) I1 q) λws s2 f=>?_
 obtain⟨zs,a,I2,k,i⟩:=f;obtain⟨y,rfl⟩:=JV i;obtain⟨d,rfl,m⟩:=l7 k;show Tc n I2 l m i
def BR(c b:TD):TD:=λa Q=>c a λr=>b a λd=>∃ns:List Int,r.val=.lst (ns.map .int)/\(ns=[]->Q (.fz d.val))/\∀n∈ns,(∀m∈ns,m<=n)->Q (.fz (.int n))
theorem P6(J:X.calm=true)(ha:PD X e te)(hb:PD X e2 te2)(hm:X.mg "max"=none)(hg:Gl X "max":=by rfl)(F:starEach [e] X.env=(false,eval e X.env)::starEach [] X.env:=by rfl) :
  PD X (.Call (.Name "max" p) [e] [⟨some "default",e2,kp⟩] pos) (BR te te2):=by
 obtain⟨t1,C,A⟩:=ha;obtain⟨R,B,y⟩:=hb;show⟨_,P7 J C B hm hg F,λd σ m j G H Q P E h k=>A d σ m j G H _ _ E h λv M r U q w I=>?_⟩;obtain⟨N,c,f,_⟩:=w.freeze q;show y d σ m j N M _ _ (E.ext c) I λO S x T o t D=>?_
 obtain⟨l,b,u,_⟩:=t.freeze o;obtain⟨ns,L,h0,K⟩:=D;rw[L] at f;have i:=f.mono b.g;simp only[Rep] at i;obtain⟨a,xs,rfl,g1,g2⟩:=i;rw[LA g2] at g1;show⟨a,ns,rfl,(b.s.gI g1).sq,λz=>k _ _ (.fz x.val) l (c.trans b) u (h0 z),λn hn le=>k _ _ (.fz (.int n)) l (c.trans b) (gf (by simp only[Rep])) (K n hn le)⟩
end
open Builtin Builtin.ObjectAttr
noncomputable abbrev XQ:=Str->Str->R->Prop
section
variable{X:Cx}{c:Hp->Hp->Prop}{pos:Pos}{e:Expr}{es:List Expr}{te:TD}{ts:iW}
def Bx(X:Cx)(c:Hp->Hp->Prop)(e:Expr)(t:TD):Prop:=∃tt,PE X e tt/\∀(b:Ev)(σ:St)(f d G H:Hp)(Q:R->Prop)(P:VK),dU X.K f d b σ G H->t b Q->(∀v a r g,Ext G H g a->eZ X.K g a H v r->Q r->P v a)->c f d->tt σ H P
def BF(X:Cx)(c:Hp->Hp->Prop)(es:List Expr)(t:iW):Prop:=∃tt,PA X es tt/\∀(a:Ev)(σ:St)(f d G H:Hp)(Q:List D->Prop)(P:List V->Hp->Prop),dU X.K f d a σ G H->t a Q->(∀b e ds g,Ext G H g e->cx X.K g b ds->Q ds->P b e)->c f d->tt σ H P
def yJ(X:Cx)(c:Hp->Hp->Prop)(st:Stmt)(t:TX):Prop:=∃tt,PS X st tt/\∀(d:Ev)(σ:St)(b a G H:Hp)(D:DE)(E:Ends),dU X.K b a d σ G H->t D d->Goes X.K b a G D E->c b a->tt E σ H
def xM(X:Cx)(c:Hp->Hp->Prop)(st:List Stmt)(t:TX):Prop:=∃tt,nW X st tt/\∀(d:Ev)(σ:St)(b a G H:Hp)(D:DE)(E:Ends),dU X.K b a d σ G H->t D d->Goes X.K b a G D E->c b a->tt E σ H
theorem tS(h:mI X es ts):BF X c es ts:=let⟨tt,p,q⟩:=h;⟨tt,p,λa σ d b G H Q P E h k _=>q a σ d b G H Q P E h k⟩
theorem Jn{st:Stmt}{t:TX}(h:PX X st t):yJ X c st t:=let⟨tt,p,q⟩:=h;⟨tt,p,λa σ d b G H D E k h g _=>q a σ d b G H D E k h g⟩
theorem tR{a:List Stmt}{t:TX}(h:oN X a t):xM X c a t:=let⟨tt,p,q⟩:=h;⟨tt,p,λb σ e d G H D E k h g _=>q b σ e d G H D E k h g⟩
theorem r8{st:Stmt}{a:List Stmt}{t u:TX}(p:yJ X c st t)(o:xM X c a u):xM X c (st::a) (cM t u):=by
 obtain⟨t1,m,j⟩:=p;obtain⟨v,l,i⟩:=o;show⟨_,EU m l,λe σ d b G H D E k h g hw=>j e σ d b G H _ _ k h ⟨λρ' q s r f n h'=>i ρ' q d b s r D E n h' (g.shift f) hw,g.rt,g.bk,g.ct⟩ hw⟩
theorem vk{st:Stmt}{t:TX}(d:yJ X c st t):xM X c [st] t:=let⟨t1,b,a⟩:=d;⟨_,Ek b,a⟩
theorem xY{j:Expr}{a b:List Stmt}{tc:jA}{t u:TX}(v:PB X j tc)(ha:xM X c a t)(hb:xM X c b u):yJ X c (.If j a b pos) (gi tc t u):=by
 obtain⟨t0,s,p⟩:=v;obtain⟨t1,r,o⟩:=ha;obtain⟨w,q,n⟩:=hb;show⟨_,Jd s r q,λe σ i f G H D E k h g hw=>p e σ i f G H _ _ k h λb l m x d=>?_⟩;cases b with
 | true=>
  rw[if_pos rfl] at d ⊢;show o e σ i f m l D E (k.ext x) d (g.shift x.g) hw
 | false=>
  rw[if_neg aD] at d ⊢;show n e σ i f m l D E (k.ext x) d (g.shift x.g) hw
theorem Cz(h:Bx X c e te)(b:swapsWith e none pos.line X.env=pure false:=by rfl):yJ X c (.Expr e pos) (xW te):=by
 obtain⟨t,p,q⟩:=h;show⟨_,zj p b,λa σ j f G H D E k h g hw=>q a σ j f G H _ _ k h (λv i r l x m d=>g.nx a σ l i x.g (k.ext x) d) hw⟩
theorem zi(h:Bx X c e te):yJ X c (.Return (some e) pos) (fV te):=by
 obtain⟨t,p,q⟩:=h;show⟨_,Eh p,λa σ j f G H D E k h g hw=>q a σ j f G H _ _ k h (λv i r l x b d=>g.rt v i r l (k.e.trans x) (b.ie k.e.h) d) hw⟩
end
end L2
namespace PySem.W
open PySem PySem.Spec PySem.Calls PyProof.Rows Builtin Builtin.ObjectAttr Builtin.Getset_descriptor
end PySem.W
namespace L2
open PySem PySem.Spec PyProof.Rows
end L2
namespace Ts
open PySem PySem.W PyProof.Rows
noncomputable abbrev Kx:=Sum Int Str
noncomputable def kv:Value->Kx
 | .str x _=>.inr x
 | .int i _=>.inl i
 | _=>.inl 0
end Ts
namespace L2
open PySem PySem.Spec PyProof.Rows
noncomputable abbrev EK:=List Key
end L2
namespace PySem
open Sem (wp)
end PySem
namespace L2
open PySem PySem.Spec PyProof.Rows
def Wo(W:Hp->Prop)(Qx:Prop)(c b:Hp):Prop:=∀d a,Ext c b d a->Qx->W a
def NH(X:Cx)(c:Hp->Hp->Prop)(CG:Prop)(e:Expr)(t:TD):Prop:=∃tt,(CG->PE X e tt)/\∀(b:Ev)(σ:St)(f d G H:Hp)(Q:R->Prop)(P:VK),dU X.K f d b σ G H->t b Q->(∀v a r g,Ext G H g a->eZ X.K g a H v r->Q r->P v a)->c f d->tt σ H P
section
variable{X:Cx}{c:Hp->Hp->Prop}{CG:Prop}{W:Hp->Prop}{Qx:Prop}{pos:Pos}{e a b:Expr}{es:List Expr}{te ta tb:TD}{ts:iW}{pa:jA}
theorem OU(h:NH X c True e te):Bx X c e te:=let⟨tt,p,q⟩:=h;⟨tt,p trivial,q⟩
theorem K6{C:Addr}{k d n:Nat}{t:nj}{x:Str}{p:Pos}(F:c8 X.prog X.w X.K X.mg X.base C k x n t)(B:eC d X.A)(T:CG->wu (rQ X.prog X.w C) X λ_ _ j=>W j)(ha:BF X (Wo W Qx) (e::es) ts)(D:k<=d:=by decide)(hg:Gl X x:=by rfl)(z:(x==("__debug__":Str))=false:=by decide)
  (he:starEach (e::es) X.env=(false,eval e X.env)::starEach es X.env:=by rfl) (I:(backTo pos (starEach es X.env)).any (·.1)=false:=by rfl):NH X (Wo W Qx) CG (.Call (.Name x p) (e::es) [] pos) (ph n t Qx ts):=by
 obtain⟨f,fd,ps,F,hm,kp,hb⟩:=F.ex;obtain⟨tt,pp,q⟩:=ha;show⟨_,λg=>Ej F (B.mono D) hg hm kp hb .nil (T g) pp z he I,λl σ L J G H Q P E h k hw=>q l σ L J G H _ _ E h (λN j ds M y rs i=>?_) hw⟩;rw[a9];show⟨M,ds,Q,Qx,y.s,rs,i.1,i.2,λv b r c a m u=>k v b r c (y.trans a) (m.ie y.h) u,λc b a o _=>hw c b ((E.e.trans y).trans a) o⟩
theorem vo{C:Addr}{k b n:Nat}{t:nj}{x:Str}{p:Pos}(F:c8 X.prog X.w X.K X.mg X.base C k x n t)(d:eC b X.A)(a:X.ex=[])(T:DB X C W)(ha:BF X (Wo W Qx) (e::es) ts)(f:k<=b:=by decide)(hg:Gl X x:=by rfl)(c:(x==("__debug__":Str))=false:=by decide)
  (he:starEach (e::es) X.env=(false,eval e X.env)::starEach es X.env:=by rfl) (g:(backTo pos (starEach es X.env)).any (·.1)=false:=by rfl):Bx X (Wo W Qx) (.Call (.Name x p) (e::es) [] pos) (ph n t Qx ts):=
 OU (K6 F d (λ_=>IT a T) ha f hg c he g)
end
section
variable{X:Cx}{pos:Pos}{e:Expr}{es:List Expr}{ts:iW}
def DY(q j n:Nat)(t:nj)(ts:iW)(b:Str):TX:=λD a=>ts a λds=>ds.length=n/\t ds (λ_=>D.nx a) (D.nx (((a.set q .un).set j (.fz (.exc b []))).set q .un))
theorem P5(q j:Nat){C C':Addr}{k k' n:Nat}{t:nj}{f y ex c x:Str}{p2 J Z p5 Y V U p9:Pos}{qm S:List Value}{d lE:String}(F:c8 X.prog X.w X.K X.mg X.base C k f n t)(hr:eC k' X.A)(O:fi X.K X.mg x C qm d)(O':fi X.K X.mg ex C' S lE)(HQ:S.contains (.type "BaseException")=true)
  (qR:PySem.W.nsIn X.K mainGlobals x=some (some (.ref C))) (oB:subIn X.K C C'=true) (P:X.xe=λ_ _=>False) (hN:X.N.Nodup) (ha:mI X (e::es) ts)
  (gE:X.stack=X.env::X.outer:=by rfl) (qP:X.env.frame=some X.env.locals:=by rfl) (hk:k<=k':=by decide) (hg:Gl X f:=by rfl) (ky:(f==("__debug__":Str))=false:=by decide) (Yw:Gl X ex:=by rfl) (qQ:(ex==("__debug__":Str))=false:=by decide)
  (he:starEach (e::es) X.env=(false,eval e X.env)::starEach es X.env:=by rfl) (gj:(backTo J (starEach es X.env)).any (·.1)=false:=by rfl)
  (hs:swapsWith (.Call (.Name f p2) (e::es) [] J) none Z.line X.env=pure false:=by rfl)
  (hq:X.N[q]?=some c:=by rfl) (YD:X.env.kindOf c=some .local:=by rfl) (Hy:oM X.env.scope c:=by first | show Or.inl rfl | show Or.inr (Or.inl rfl) | show Or.inr (Or.inr rfl)) (Dr:Loc X.env.scope c:=by first | show Or.inl rfl | show Or.inr rfl) (HB:(c==("__debug__":Str))=false:=by decide) (HC:(c==("__classdict__":Str))=false:=by decide) (HA:X.fn c=true\/X.env.scope.names.lookup c=some .local:=by first | show .inl rfl | show .inr rfl)
  (hj:X.N[j]?=some y:=by rfl) (hy:Loc X.env.scope y:=by first | show Or.inl rfl | show Or.inr rfl) (G7:∀a,swapsWith (.Name c V) (some (.Name y Y)) U.line (X.jW a).env=pure false:=by intro _;rfl) (Yz:X.fn y=true\/X.env.scope.names.lookup y=some .local:=by first | show .inl rfl | show .inr rfl) :
  PX X (.Try [.Expr (.Call (.Name f p2) (e::es) [] J) Z] [.ExceptHandler (some (.Name ex p5)) (some c) [.Assign [.Name y Y] (.Name c V) U] p9] [] [] pos) (DY q j n t ts x):=by
 obtain⟨fa,fd,ps,F,hm,kp,hb⟩:=F.ex;obtain⟨tt,pp,qq⟩:=ha;show⟨λD σ H=>tt σ H λL H1=>xF X.K n t L H1 (λ_ b=>D.nx σ b) (λu _ b=>∀a,u=.ref a->b a=none->D.nx (((σ.set q (some (.ref a))).set j (some (.ref a))).set q none) (upd b a (.ext (wb a C)))),λM s σ H D I h=>?_,λρ σ G0 H0 G H D E k h g=>?_⟩
 .refine wpAny_Try_except ?_;rw[P];have args:=pp J M s σ H _ I h;rw[P] at args;show wpAny_execs_cons (bZ (Q:=λf s1=>f=.next/\∃b,Inv X M σ b s1/\D.nx σ b) (wpAny_Expr_any (bZ (Q:=EP X M σ λ_ b=>D.nx σ b) (wpAny_Call_Name_kw (ye I hg hm ?_ ky)) (λv s1 z=>?_) λ_ _ z=>z) I.quiet hs) (λf s1 z=>?_) λ_ _ z=>z)
  .refine PySem.W.callWith_K (h₀:=X.base) I.ok.mod.sC kp (bZ args (λus s1 z=>?_) λ_ _ z=>z.elim) he gj;obtain⟨L,H1,I1,r,z⟩:=z;show⟨I1.mf,Qb F (hr.mono hk) hb .nil I1 r (by rw[a9];show z) λe' s' hc=>?_⟩;show Rg I1 hc (O.at I1.ok.mod.sC) (O'.at I1.ok.mod.sC) HQ oB gE qP Yw qQ P hN hq YD Hy Dr HB HC HA hj hy G7 Yz λa H' s2 hE hn I2=>?_
   show⟨_,_,I2,hE a rfl hn⟩
  .obtain⟨u,b,I2,r2,m⟩:=z;show⟨rfl,b,I2,m⟩
  obtain⟨rfl,b,I2,m⟩:=z;show wpAny_execs_nil (wpAny_execs_nil ⟨_,b,I2,m⟩)
 show qq ρ σ G0 H0 G H _ _ k h λL H' ds G' p rs T=>?_
 show⟨G',ds,_,_,p.s,rs,T.1,T.2,λv b r B l rr z=>g.nx _ _ B b (p.g.trans l.g) (k.ext (p.trans l)) z,λB b l z a=>?_⟩;intro a' ea hn;cases ea;have k2:=k.ext (p.trans l);have R:Ext B b (upd B a (.ext (wb a C))) (upd b a (.ext (wb a C))):=.new l.s hn;have rep:Rep X.K (upd B a (.ext (wb a C))) (.ref a) (.exc x []):=by
  simp only[Rep,dF];show⟨a,_,C,none,[],rfl,jb,qR,λh cP=>by obtain⟨o,z1,m⟩:=cP;show⟨o,z1,m,.inl trivial⟩,.inl trivial,trivial⟩
 show g.nx _ _ _ _ ((p.g.trans l.g).trans R.g) (((k2.unset (i:=q) (u:=some (.ref a))).put R (r:=.fz (.exc x [])) (gf rep)).unset (i:=q) (u:=none)) z
theorem K5{C:Addr}{k a n:Nat}{t:nj}{x:Str}{p:Pos}(F:c8 X.prog X.w X.K X.mg X.base C k x n t)(d:eC a X.A)(ha:mI X (e::es) ts)(f:k<=a:=by decide)(hg:Gl X x:=by rfl)(c:(x==("__debug__":Str))=false:=by decide)
  (he:starEach (e::es) X.env=(false,eval e X.env)::starEach es X.env:=by rfl) (g:(backTo pos (starEach es X.env)).any (·.1)=false:=by rfl):PD X (.Call (.Name x p) (e::es) [] pos) (ph n t False ts):=by
 obtain⟨tt,pp,q⟩:=K6 (CG:=True) (W:=λ_=>False) (Qx:=False) (pos:=pos) F d (λ_ m σ H s e l I ⟨_,_,_,_,_,_,_,_,_,_,w⟩=>w.elim) (tS ha) f hg c he g;show⟨tt,pp trivial,λb σ j i G H Q P E h k=>q b σ j i G H Q P E h k λ_ _ _ z=>z⟩
end
open PySem.SeqAt
section
variable{X:Cx}{e:Expr}{te:TD}
def DT(te:TD):TD:=λb Q=>te b λr=>match r.val with
 | .obj n fs=>∀a,Q (.fz (.idn a (.obj n fs)))
 | _=>False
theorem Pq(h:PD X e te):PD X e (DT te):=by
 obtain⟨t,p,q⟩:=h;show⟨t,p,λf σ o l G H Q P E h k=>q f σ o l G H _ _ E h λv s r u x i c=>?_⟩;obtain⟨m,g,b,_⟩:=i.freeze x;split at c
 .rename_i n fs j;rw[j] at b;have d:=b;simp only[Rep] at d;obtain⟨a,_,_,_,rfl,_⟩:=d;show k _ _ _ m g (gf ?_) (c a);rw[Rep];show⟨rfl,b⟩
 show c.elim
def vS(te:TD):TD:=λa Q=>te a λr=>match r.val with
 | .idn _ d=>Q (.fz d)
 | _=>False
theorem BQ(h:PD X e te):PD X e (vS te):=by
 obtain⟨t,p,q⟩:=h;show⟨t,p,λf σ n l G H Q P E h k=>q f σ n l G H _ _ E h λv o r s x i b=>?_⟩;obtain⟨m,g,c,_⟩:=i.freeze x;split at b
 .rename_i a d j;rw[j,Rep] at c;show k _ _ _ m g (gf c.2) b
 show b.elim
def yO:O2:=λd e Q=>match d,e with
 | .lst ds,.lst es=>ds=es/\(∀x∈ds,∃a y,x=D.idn a y)/\Q (.fz (.bl true))
 | _,_=>False
theorem JI{K:J'}{H:Hp}:∀{ds:List D}{xs ys:List V},(∀x∈ds,∃a y,x=D.idn a y)->cx K H xs ds->cx K H ys ds->xs=ys/\∀v∈xs,∃a,v=V.ref a
 | [],xs,ys,_,c,b=>by
  cases xs with
  | cons x xs=>simp only[cx] at c
  | nil=>
   cases ys with
   | cons y ys=>simp only[cx] at b
   | nil=>show⟨rfl,λ_ h=>by cases h⟩
 | d::ds,xs,ys,h,c,b=>by
  cases xs with
  | nil=>simp only[cx] at c
  | cons x xs=>
  cases ys with
  | nil=>simp only[cx] at b
  | cons y ys=>
  simp only[cx] at c b;obtain⟨a,z,rfl⟩:=h d bM;obtain⟨i,j⟩:=JI (λx hx=>h x (aE _ hx)) c.2 b.2;have g:=c.1;have f:=b.1;rw[Rep] at g f;rw[g.1,f.1,i];show⟨rfl,λv e=>?_⟩;rcases ao.mp e with rfl | e
  .exact⟨a,rfl⟩
  show j v (by rw[i];show e)
theorem RT:∀{xs:List V}{us ws:List Value},(∀v∈xs,∃a,v=V.ref a)->Vals xs us->Vals xs ws->us=ws:=λ{xs us ws} h f b=>by
 induction f generalizing ws with
 | nil=>cases b;rfl
 | cons r t d=>
  cases b with
  | cons c t'=>
   rw[d (λv e=>h v (aE _ e)) t'];obtain⟨a,rfl⟩:=h _ bM;cases r;cases c;rfl
theorem IS(w:X.A.units+64<cLine):lN X (compareOp .Eq) yO:=by
 show⟨λx y H Q=>∃ds,(∀x∈ds,∃a y,x=D.idn a y)/\Rep X.K H x (.lst ds)/\Rep X.K H y (.lst ds)/\Q (.bl true) H,λz s σ H x y v u Q I i g h=>?_,λG H x y d e Q P s i g h k=>?_⟩
 .obtain⟨ds,hi,f,c,q⟩:=h;simp only[Rep] at f c;obtain⟨a,xs,rfl,o,f⟩:=f;obtain⟨b,ys,rfl,n,c⟩:=c;cases i;cases g;obtain⟨t,r⟩:=JI hi f c;subst t;obtain⟨us,v1,m,_⟩:=I.list o.sq;obtain⟨ws,v2,l,_⟩:=I.list n.sq;have p:=RT r v1 v2;subst p;have:=RcAt.lists (A:=X.A) (e:=λ_=>true) m.isList l.isList rfl (by ext) λj _ _=>EqAt.same _
  rw[show((List.range us.toArray.size).all λ_=>true)=true from by simp] at this;show this _ _ _ _ ⟨.bl _,H,I,rfl,q⟩
 unfold yO at h;split at h
 .obtain⟨rfl,hi,q⟩:=h;show⟨_,hi,i.mono s,g.mono s,k _ _ _ G (.refl s) (gf (kF _ _ _)) q⟩
 show h.elim
def BP:O2:=λd e Q=>match d,e with
 | .bl b,.bl c=>Q (.fz (.bl (b != c)))
 | _,_=>False
theorem Pp:lN X (compareOp .IsNot) BP:=by
 show⟨λx y H Q=>∃b c,x=.bl b/\y=.bl c/\Q (.bl (b != c)) H,λg s σ H x y v u Q I f a h=>?_,λG H x y d e Q P s f a h k=>?_⟩
 .obtain⟨b,c,rfl,rfl,q⟩:=h;cases (show v=Value.bool b from f);cases (show u=Value.bool c from a);show isnot_bool ⟨.bl _,H,I,rfl,q⟩
 unfold BP at h;split at h
 .simp only[Rep] at f a;show⟨_,_,f,a,k _ _ _ G (.refl s) (gf (kF _ _ _)) h⟩
 show h.elim
end
section
variable{P:Program}{w:World}{K:J'}{mg:Str->Option Value}{base:Heap}
structure j6(P:Program)(w:World)(K:J')(mg:Str->Option Value)(base:Heap)(C:Addr)(k:Nat)(x:Str)(n:Nat)(t:nj)(i:Int):Prop where
 ex:∃(f:Addr)(fd:FuncData)(ps:List Str)(tk:Nat),iu P w K mg base (rQ P w C) k f fd ps (xF K n t)/\mg x=some (.ref f)/\PySem.W.keepIn K (.ref f)=true/\Binds K fd ps [.int i tk]
theorem Tu{C:Addr}{x:Str}{st:Stmt}{N ps:List Str}{t:nj}{T:Prop->TX}{n d m:Nat}{l:List Value}{i:Int}{tk:Nat}(k:Nat)(A:v8 K mg x st l)(S:cB N ps (cw st))
  (body:∀(Qx:Prop)(f:Addr)(c:Value)(A:Around)(outer:List Env)(s:Shared)(H:Hp)(E:XK),eC k (A.deeper (envOfC x (cw st) s.heap.objs.size f c))->Iu (nY (rQ P w C) P w K mg base N x (cw st) f c A outer s H E) (λy=>∀a,E (.ref a) none y) Qx (c7 st) (T Qx))
  (j:∀(ds:List D)(g:R->Prop)(Qx:Prop),ds.length=n->t ds g Qx->T Qx { nx:=λ_=>g (.fz .non),rt:=g } (og N ds))
  (b:∀(u:Addr)(kV doc pm:Value)(an:Option Addr)(c ct:Value)(us:List Value),us.length=m->∃k:Option (Array Value)->Sem (List (Str×Value)),bindArgs (PySem.W.fnOf x x (e8 st) (c7 st) (cw st) (.ref u) kV doc pm an c ct) ⟨us,[]⟩=seqItems? (.ref u) >>= k/\k (some l.toArray)=pure (ps.zip (us++[.int i tk])))
  (hm:m+1=n:=by rfl) (hn:ps.length=n:=by rfl) (hd:k+1=d:=by rfl):j6 P w K mg base C d x n t i:=by
 subst hn hd;obtain⟨u,f,fd,o,nn,F,sN,L,J⟩:=A.ex;show⟨f,fd,ps,tk,?_,sN,F.kp,F.pL m L J (λkV doc pm an c ct us h=>b u kV doc pm an c ct us h) (by rw[<-hm];rfl)⟩;obtain⟨U,od,kV,doc,pm,an,c,ct,V,rfl,lk,B⟩:=F.ex;show D3 lk B S (λl H Q E h=>?_) λA outer s H l Q E I h=>?_
 .obtain⟨G,ds,g,Qx,_,r,v,_⟩:=h;rw[r.length,v]
 obtain⟨G,ds,g,Qx,s0,r,v,ht,k0,z⟩:=h;obtain⟨tt,p,q⟩:=body Qx f c A outer s H E I;show⟨tt,p,q _ _ G H G H _ _ (CD s0 r) (j ds g Qx v ht) ⟨λO σ M y _ e h=>k0 _ y _ M e.e (gf (Cn _ _)) h,k0,λ_ _ _ _ _ _ h=>h.elim,λ_ _ _ _ _ _ h=>h.elim⟩ z⟩
end
section
variable{X:Cx}{W:Hp->Prop}{Qx:Prop}{pos:Pos}{e:Expr}{es:List Expr}{ts:iW}
def Eo(n:Nat)(t:nj)(Qx:Prop)(i:Int)(ts:iW):TD:=λa Q=>ts a λds=>(ds++[D.int i]).length=n/\t (ds++[D.int i]) Q Qx
theorem Tt{C:Addr}{k g n:Nat}{t:nj}{x:Str}{i:Int}{p:Pos}(F:j6 X.prog X.w X.K X.mg X.base C k x n t i)(B:eC g X.A)(b:X.ex=[])(T:DB X C W)(ha:BF X (Wo W Qx) (e::es) ts)(I:k<=g:=by decide)(hg:Gl X x:=by rfl)(z:(x==("__debug__":Str))=false:=by decide)
  (he:starEach (e::es) X.env=(false,eval e X.env)::starEach es X.env:=by rfl) (J:(backTo pos (starEach es X.env)).any (·.1)=false:=by rfl):Bx X (Wo W Qx) (.Call (.Name x p) (e::es) [] pos) (Eo n t Qx i ts):=by
 obtain⟨f,fd,ps,tk,F,hm,kp,hb⟩:=F.ex;obtain⟨tt,pp,q⟩:=ha;show⟨_,Ej F (B.mono I) hg hm kp hb (dvs:=[.int i]) (.cons ⟨tk,rfl⟩ .nil) (IT b T) pp z he J,λl σ M L G H Q P E h k hw=>q l σ M L G H _ _ E h (λO R ds N y rs j=>?_) hw⟩;show⟨N,ds++[D.int i],Q,Qx,y.s,rs.append (cx.cons (by simp only[Rep]) cx.nil),j.1,j.2,λv c r d a m u=>k v c r d (y.trans a) (m.ie y.h) u,λd c a o _=>hw d c ((E.e.trans y).trans a) o⟩
end
end L2
section
namespace Wc
open PySem L2
noncomputable def jy(l:List Nat):Str:=⟨l.toArray⟩
theorem Cr(l:List Nat):(jy l).cps.toList=l:=by simp[jy]
theorem o5(l:List Nat):(jy l).length=l.length:=by simp[jy,Str.length]
theorem wy(a b:List Nat):jy a++jy b=jy (a++b):=by
 show(⟨(jy a).cps++(jy b).cps⟩:Str)=_;simp[jy]
theorem uz{a b:List Nat}:jy a=jy b↔a=b:=by
 constructor
 .intro h;have:(jy a).cps.toList=(jy b).cps.toList:=by rw[h]
  simpa[jy] using this
 rintro rfl;rfl
theorem Jm(w:Str):jy w.cps.toList=w:=by cases w;simp[jy]
theorem vH(c:Nat):(⟨#[c]⟩:Str)=jy [c]:=rfl
theorem Cq{a b:Type}(f:a->b)(l:List a)(i:Int):fN (l.map f) i=(fN l i).map f:=by
 unfold fN;rw[ae];cases qK l.length i with
 | none=>rfl
 | some j=>simp
theorem Po{b a:Type}{f:b->a}{o:Option b}{p:a->Prop}:(∃d,o.map f=some d/\p d)↔∃x,o=some x/\p (f x):=by
 cases o with
 | none=>simp
 | some x=>simp
theorem Jl{b a:Type}{f:b->a}{l:List b}{i:Int}{p:a->Prop}:(∃d,fN (l.map f) i=some d/\p d)↔∃x,fN l i=some x/\p (f x):=by rw[Cq];show Po
theorem wB{a:Type}{l:List a}{i:Int}(c:0<=i)(b:i<l.length):∃h:i.toNat<l.length,fN l i=some (l[i.toNat]'h):=by
 show⟨by ext,?_⟩;unfold fN qK;rw[if_pos c,if_pos b];simp only[Option.bind_some];show ah _
theorem Em{a:Type}{l:List a}{i:Int}(c:0<=i)(b:i<l.length):∃z,fN l i=some z/\z∈l:=by
 obtain⟨h,e⟩:=wB c b;show⟨_,e,List.getElem_mem h⟩
theorem B9{a:Type}{l:List a}{n:Nat}(i:Int)(b:n<=l.length)(h:0<n):∃z,fN l (i%(n:Int))=some z/\z∈l:=
 Em (bg _ (by ext)) (by have:=bw i (show(0:Int)<n by ext);ext)
theorem NF{a:Type}{l:List a}(i:Int)(b:l.length=8):∃z,fN l (i%8)=some z/\z∈l:=B9 (n:=8) i (by ext) (by ext)
theorem Zc{a:Type}{l:List a}(i:Int)(b:l.length=8):∃z,fN l (i%5)=some z/\z∈l:=B9 (n:=5) i (by ext) (by ext)
theorem Zd{a:Type}{l:List a}(i:Int)(b:l.length=8):∃z,fN l (i%3)=some z/\z∈l:=B9 (n:=3) i (by ext) (by ext)
theorem nM{a:Type}{l:List a}{j:Nat}(h:j<l.length):fN l (j:Int)=some l[j]:=by
 obtain⟨h',e⟩:=wB (l:=l) (i:=(j:Int)) (by ext) (by ext);simpa using e
theorem Cp{n d:Nat}{j:Int}(h:0<=j):HT.eR n d (some j)=min j.toNat n:=by show(if j<0 then _ else _)=_;rw[if_neg (by ext)]
theorem yc{b:Type}(l:List b){j:Int}(h:0<=j):kN l none (some j)=l.take j.toNat:=by
 unfold kN;rw[Cp h];show((l.drop 0).take (min j.toNat l.length-0))=_;rw[List.drop_zero,Nat.sub_zero,Nat.min_comm];by_cases a:l.length<=j.toNat
 .rw[Nat.min_eq_left a,bx a,bx (ay _)]
 rw[Nat.min_eq_right (by ext)]
theorem Fb{b:Type}(l:List b){j:Int}(h:0<=j):kN l (some j) none=l.drop j.toNat:=by
 unfold kN;rw[Cp h];show((l.drop (min j.toNat l.length)).take (l.length-_))=_;by_cases a:l.length<=j.toNat
 .rw[Nat.min_eq_right a,List.drop_of_length_le a,List.drop_of_length_le (ay _)];simp
 rw[Nat.min_eq_left (by ext),bx (by simp)]
theorem RS{c:Type}(l:List c){i j:Int}(hi:0<=i)(h:0<=j):kN l (some i) (some j)=(l.drop i.toNat).take (j.toNat-i.toNat):=by
 unfold kN;rw[Cp h,Cp hi];by_cases b:l.length<=i.toNat
 .rw[Nat.min_eq_right b,List.drop_of_length_le b,List.drop_of_length_le (ay _)];simp
 rw[Nat.min_eq_left (a:=i.toNat) (by ext)];by_cases d:l.length<=j.toNat
 .rw[Nat.min_eq_right d,bx (by simp),bx (by simp;ext)]
 rw[Nat.min_eq_left (by ext)]
theorem zh(l:List Nat){j:Int}(h:0<=j):rV (jy l) none (some j)=jy (l.take j.toNat):=by unfold rV;rw[Cr,yc _ h];rfl
theorem Sg(l:List Nat){j:Int}(h:0<=j):rV (jy l) (some j) none=jy (l.drop j.toNat):=by unfold rV;rw[Cr,Fb _ h];rfl
theorem RR(l:List Nat){i j:Int}(hi:0<=i)(h:0<=j):rV (jy l) (some i) (some j)=jy ((l.drop i.toNat).take (j.toNat-i.toNat)):=by unfold rV;rw[Cr,RS _ hi h];rfl
theorem RQ{a b:Type}(f:a->b)(l:List a)(lo hi:Option Int):kN (l.map f) lo hi=(kN l lo hi).map f:=by unfold kN;rw[ae,List.map_take,List.map_drop]
theorem El(n:Nat)(i:Int):ff n (.int i)=True:=by cases n<;>show eq_true trivial
theorem EC(n:Nat)(i:Str):ff n (.str i)=True:=by cases n<;>show eq_true trivial
theorem Pn(n:Nat)(i:Bool):ff n (.bl i)=True:=by cases n<;>show eq_true trivial
theorem JH(n:Nat):ff n .non=True:=by cases n<;>show eq_true trivial
theorem yb{c:Type}[BEq c][LawfulBEq c][DecidableEq c](a b:c):(a==b)=decide (a=b):=by rw[Bool.eq_iff_iff];simp
theorem JG(a b:Str):eH (.str a) (.str b)=decide (a=b):=by simp only[eH,yb]
theorem P4(a b:Int):eH (.int a) (.int b)=decide (a=b):=by simp only[eH,yb]
theorem iU:sizeLine=16777216:=by decide
@[irreducible] def rS(u:TX)(D:DE):Ev->Prop:=u D
theorem Pm(t u:TX)(D:DE)(a:Ev):cM t u D a=t { nx:=rS u D,rt:=D.rt,bk:=D.bk,ct:=D.ct } a:=by unfold rS;rfl
end Wc
open PySem L2 Wc
local macro_rules | `(tactic| walk_at"b")=>`(tactic| simp only[Pm,gi,tx,rm,xC,dA,x9,dC,xZ,vd,IW,Ox,eY,cy,cD,cf,az,List.map_nil,List.cons_append,List.nil_append,List.set,gt,lW,jx,oI,cA,fw,fV,gG,kY,eE,gM,lY,ij,rj,c6,ja,eJ,j9,xP,k9,oEq,vE,ec,mF,m7,lh,fO,DO,BI,uQ,u5,y3,pU,dM,B4,lX,pd,xW,xT,u4,lJ,kd,nG,wg,jJ,hV,Ea,n8,ug,uZ,yQ,oY,Px,Pw,Xr,Xq,kE,iR,Int.reduceLT,Int.reduceLE,Int.reduceAdd,Int.reduceSub,Int.reduceMul,Int.reduceNeg,Int.reducePow,Int.reduceToNat,bY,bO,true_and,and_true,and_self,or_true,true_or,El,EC,Pn,JH,Jl,aj,aP,aQ,Bool.not_true,Bool.not_false,aH,List.length_nil,Nat.reduceAdd,bE,P4,JG,RQ,vp,zK,D6,BM])
local macro_rules | `(tactic| walk_at"all")=>`(tactic| ((try walk_at"px");repeat(simp only[rS];try walk_at"px")))
local macro_rules | `(tactic| walk_at"px")=>`(tactic| walk_at"b")
local macro_rules | `(tactic| walk_at"go")=>`(tactic| (simp only[rS];walk_at"px"))
namespace Wc
open PySem L2
noncomputable def tG(c k:Int):Int:=(c%1000000000000000000000000000000*(k*k+48271)+7919*k*k*k+11)%2147483647/7
theorem Pl(c k:Int):0<=tG c k:=Int.ediv_nonneg (bg _ (by decide)) (by decide)
def qB:fc:=λds Q=>∃c k:Int,ds=[.int c,.int k]/\0<=k/\k<=1000000/\Q (.fz (.int (tG c k)))
def Fs:TX:=(fV (cA (oI kE λi j=>.int (i/j)) (cA (oI (λ_ j=>0<j) λi j=>.int (i%j)) (cA fw (cA fw (cA (oI iR λi j=>.int (i*j)) (cA (oI (λ_ j=>0<j) λi j=>.int (i%j)) (cf 0) (cA (oI o8 λi j=>.int (i ^ j.toNat)) (dC (.int 10)) (dC (.int 30)))) (cA fw (cA (oI iR λi j=>.int (i*j)) (cf 1) (cf 1)) (dC (.int 48271)))) (cA (oI iR λi j=>.int (i*j)) (cA (oI iR λi j=>.int (i*j)) (cA (oI iR λi j=>.int (i*j)) (dC (.int 7919)) (cf 1)) (cf 1)) (cf 1))) (dC (.int 11))) (dC (.int 2147483647))) (dC (.int 7))))
abbrev jc(n:Nat)(b:fc)(T:TX)(N:List Str):Prop:=∀(ds:List D)(a:R->Prop),ds.length=n->b ds a->T { nx:=λ_=>a (.fz .non),rt:=a } (og N ds)
theorem Vl:jc 2 qB Fs ["_law_cell","_law_k"]:=by
 intro ds f hl h;obtain⟨c,k,rfl,h0,b,q⟩:=h;show Fs _ [.fz (.int c),.fz (.int k)];unfold Fs;walk_at"all";have d:k*k<=1000000*1000000:=Int.mul_le_mul b b h0 (by decide);have e:0<=k*k:=Int.mul_nonneg h0 h0;show⟨.inl ⟨by ext,by ext⟩,.inr ⟨by ext,by ext⟩,.inr ⟨by ext,by ext⟩,.inr ⟨by ext,by ext⟩,?_⟩;show q
open PyProof.Rows
noncomputable def dO:Option Str->D
 | none=>.non
 | some s=>.str s
noncomputable def dP(l:List (Option Str)):D:=.lst (l.map dO)
noncomputable def dS(l:List Str):D:=.lst (l.map .str)
noncomputable def dI(l:List Int):D:=.lst (l.map .int)
noncomputable def uO(p:Str×Int):D:=.tup [.str p.1,.int p.2]
noncomputable def t8(p:Int×Str):D:=.tup [.int p.1,.str p.2]
noncomputable def Bo(p:Int×Int×Int):D:=.tup [.int p.1,.int p.2.1,.int p.2.2]
noncomputable def dW(l:List (Str×Int)):D:=.lst (l.map uO)
noncomputable def dB(l:List (Int×Str)):D:=.lst (l.map t8)
noncomputable def dK(l:List (Int×Int×Int)):D:=.lst (l.map Bo)
structure cS where
 top:List (Option Str)
 cg:List (Option Str)
 left:List Str
 right:List Str
 wide:List (Str×Int)
 cU:List (Int×Str)
 keeps:List (Int×Int×Int)
noncomputable def cS.parts(c:cS):List D:=[dP c.top,dP c.cg,dS c.left,dS c.right,dW c.wide,dB c.cU,dK c.keeps]
noncomputable def cS.obj(c:cS):D:=.obj "Channel" [("top",dP c.top),("bottom",dP c.cg),("left",dS c.left),("right",dS c.right),("wide",dW c.wide),("bends",dB c.cU),("keeps",dK c.keeps)]
theorem B8(n:Nat)(o:Option Str):ff n (dO o)=True:=by
 cases o with
 | none=>show JH n
 | some s=>show EC n s
theorem D8(a b:Option Str):eH (dO a) (dO b)=decide (a=b):=by
 cases a<;>cases b<;>simp only[dO,eH,yb,aZ,reduceCtorEq,bY,bO]
theorem CO(a:Option Str)(b:Str):eH (dO a) (.str b)=decide (a=some b):=D8 a (some b)
theorem Tq(a:Str)(b:Option Str):eH (.str a) (dO b)=decide (some a=b):=D8 (some a) b
theorem yX(w:Str)(l:List Str):inD (.str w) (l.map .str)=decide (w∈l):=by
 unfold inD;rw[List.any_map];induction l with
 | nil=>rfl
 | cons a r b=>
  rw[List.any_cons,b,Function.comp_apply,JG];by_cases h:a=w
  .subst h;simp
  simp[h,Ne.symm h]
theorem Jb(w:Str)(l:List (Option Str)):inD (.str w) (l.map dO)=decide (some w∈l):=by
 unfold inD;rw[List.any_map];induction l with
 | nil=>rfl
 | cons a r b=>
  rw[List.any_cons,b,Function.comp_apply,CO];by_cases h:a=some w
  .subst h;simp
  simp[h,Ne.symm h]
theorem vj(n:Nat)(l:List Str):∀e∈l.map D.str,ff n e:=by
 intro e he;rw[aR] at he;obtain⟨x,_,rfl⟩:=he;rw[EC];trivial
theorem Cy(n:Nat)(l:List (Option Str)):∀e∈l.map dO,ff n e:=by
 intro e he;rw[aR] at he;obtain⟨x,_,rfl⟩:=he;rw[B8];trivial
def gP(ws:List Str)(l:List (Option Str)):Prop:=∀w,some w∈l->w∈ws
theorem E9{f:Type}{h:mj}{g:jI}{j:TX}{D:DE}{c:Ev}(L:List f)(b:f->L2.D)(hw:∀k:List L2.D->Prop,k (o9 (L.map b))->h c k)(a:Nat->Ev->Prop)(l:a 0 c)
  (turn:∀(i:Nat) x ρ',L[i]?=some x->a i ρ'->g (.tup [.int i,b x]) ρ' λm=>j { D with nx:=a (i+1),ct:=a (i+1),bk:=D.nx } m) (fin:∀ρ',a L.length ρ'->D.nx ρ'):j8 h g j D c:=by
 show Kt (o9 (L.map b)) hw a l (λi d ρ' hd e=>?_) (λρ' e=>fin ρ' (by simpa[o9] using e));unfold o9 at hd;rw[List.getElem?_mapIdx,aG] at hd;cases hx:L[i]? with
 | none=>rw[hx] at hd;cases hd
 | some x=>rw[hx] at hd;cases hd;show turn i x ρ' hx e
theorem K4:∀{a b c:List Nat},Spec.ltCps a b=true->Spec.ltCps b c=true->Spec.ltCps a c=true
 | [],[],c,h,_=>by simp[Spec.ltCps] at h
 | [],b::bs,[],_,h=>by simp[Spec.ltCps] at h
 | [],b::bs,c::cs,_,_=>by simp[Spec.ltCps]
 | a::as,[],c,h,_=>by simp[Spec.ltCps] at h
 | a::as,b::bs,[],_,h=>by simp[Spec.ltCps] at h
 | a::as,b::bs,c::cs,h,h'=>by
  simp only[Spec.ltCps,Bool.or_eq_true,bE,Bool.and_eq_true,beq_iff_eq] at h h' ⊢;rcases h with h | ⟨rfl,h⟩
  .rcases h' with h' | ⟨rfl,h'⟩
   .left;ext
   left;ext
  rcases h' with h' | ⟨rfl,h'⟩
  .left;ext
  right;show⟨rfl,K4 h h'⟩
theorem JF:∀{a b:List Nat},Spec.ltCps a b=false->Spec.ltCps b a=false->a=b
 | [],[],_,_=>rfl
 | [],b::bs,h,_=>by simp[Spec.ltCps] at h
 | a::as,[],_,h=>by simp[Spec.ltCps] at h
 | a::as,b::bs,h,h'=>by
  simp only[Spec.ltCps,Bool.or_eq_false_iff,bj,Bool.and_eq_false_iff,beq_eq_false_iff_ne] at h h';have e:a=b:=by ext
  subst e;rw[JF (h.2.resolve_left λz=>z rfl) (h'.2.resolve_left λz=>z rfl)]
def ou(a b:Str):Prop:=Spec.ltCps a.cps.toList b.cps.toList=true
theorem Sf{a b c:Str}(h:ou a b)(h':ou b c):ou a c:=K4 h h'
theorem P2{a b:Str}(h:a.cps.toList=b.cps.toList):a=b:=by rw[<-Jm a,<-Jm b,h]
theorem K3:∀{p:Str}{l:List Str},risingS p l=true->(p::l).Nodup->(p::l).Pairwise ou
 | p,[],_,_=>by simp
 | p,x::r,h,nd=>by
  simp only[risingS,Bool.and_eq_true,bK] at h;have f:=nd;rw[bQ] at nd;have a:=K3 h.2 nd.2;have d:p≠x:=λz=>nd.1 (by simp[z])
  have c:ou p x:=by
   unfold ou;cases e:Spec.ltCps p.cps.toList x.cps.toList with
   | true=>rfl
   | false=>show absurd (P2 (JF e h.1)) d
  rw[bN];show⟨λb hb=>?_,a⟩;rcases ao.mp hb with rfl | hb
  .exact c
  show Sf c ((bN.mp a).1 b hb)
theorem E8{l:List Str}(h:sortedS l=true)(nd:l.Nodup):l.Pairwise ou:=by
 cases l with
 | nil=>show .nil
 | cons x r=>show K3 h nd
def DX(g:jI)(c:TX)(D:DE)(b:Ev)(ds:List L2.D):Prop:=∃a:Nat->Ev->Prop,a 0 b/\
 (∀i d ρ',ds[i]?=some d->a i ρ'->g d ρ' λe=>c { D with nx:=a (i+1),ct:=a (i+1),bk:=D.nx } e)/\∀ρ',a ds.length ρ'->D.nx ρ'
theorem EJ{b:mj}{g:jI}{c:TX}{D:DE}{a:Ev}(P:List L2.D->Prop)(hw:∀d:List L2.D->Prop,(∀ds,P ds->d ds)->b a d)(h:∀ds,P ds->DX g c D a ds):j8 b g c D a:=hw _ h
theorem To{f:Type}{g:jI}{h:TX}{D:DE}{e:Ev}(L:List f)(c:f->L2.D)(a:Nat->Ev->Prop)(j:a 0 e)
  (turn:∀i x ρ',L[i]?=some x->a i ρ'->g (c x) ρ' λk=>h { D with nx:=a (i+1),ct:=a (i+1),bk:=D.nx } k) (fin:∀ρ',a L.length ρ'->D.nx ρ'):DX g h D e (L.map c):=by
 show⟨a,j,λi d ρ' hd b=>?_,λρ' b=>fin ρ' (by simpa using b)⟩;rw[aG] at hd;cases hx:L[i]? with
 | none=>rw[hx] at hd;cases hd
 | some x=>rw[hx] at hd;cases hd;show turn i x ρ' hx b
theorem LH{f:Type}{g:jI}{h:TX}{D:DE}{e:Ev}(L:List f)(c:f->L2.D)(a:Nat->Ev->Prop)(j:a 0 e)
  (turn:∀(i:Nat) x ρ',L[i]?=some x->a i ρ'->g (.tup [.int i,c x]) ρ' λk=>h { D with nx:=a (i+1),ct:=a (i+1),bk:=D.nx } k) (fin:∀ρ',a L.length ρ'->D.nx ρ'):DX g h D e (o9 (L.map c)):=by
 show⟨a,j,λi d ρ' hd b=>?_,λρ' b=>fin ρ' (by simpa[o9] using b)⟩;unfold o9 at hd;rw[List.getElem?_mapIdx,aG] at hd;cases hx:L[i]? with
 | none=>rw[hx] at hd;cases hd
 | some x=>rw[hx] at hd;cases hd;show turn i x ρ' hx b
theorem P1{n:Nat}{a:Type}(f:a->D)(l:List a)(h:∀x∈l,ff n (f x)):ff (n+1) (.lst (l.map f)):=by
 intro d hd;rw[aR] at hd;obtain⟨x,hx,rfl⟩:=hd;show h x hx
theorem PN(n:Nat)(l:List Int):ff (n+1) (dI l):=P1 D.int l λx _=>by rw[El];trivial
theorem KN{b:Type}(l:List b)(a:b->D):o9 (l.map a)=l.zipIdx.map λp=>.tup [.int (p.2:Nat),a p.1]:=by
 unfold o9;apply List.ext_getElem
 .simp
 intro i d c;simp
noncomputable def dN(n:Nat):D:=.int n
noncomputable def t5(ns:List Int):Int:=(ns.take 1).sum
theorem KL{a:Type}(l:List a)(h:l≠[]):fN l (-1)=some (l.getLast h):=by
 have b:0<l.length:=List.length_pos_iff.mpr h;unfold fN qK;rw[if_neg (by decide),if_pos (by ext)];simp only[Option.bind_some];rw[List.getLast_eq_getElem,show(-1+(l.length:Int)).toNat=l.length-1 by ext];show ah _
theorem OS(o:OV):(R.ov o).sl=.ov o:=rfl
theorem PM(o:OV):(R.ov o).val=o.val:=rfl
theorem EH{d c:Type}(f:d->D)(g:c->D)(a:List d)(b:List c):xS (a.map f) (b.map g)=(a.zip b).map λp=>.tup [f p.1,g p.2]:=by
 unfold xS;rw[List.zipWith_map,List.zip,List.map_zipWith]
theorem KJ(L:List (Option Str)):(L.filter λx=>x.isSome).map dO=(L.filterMap id).map D.str:=by
 induction L with
 | nil=>rfl
 | cons a r b=>cases a<;>simp_all[dO]
noncomputable def lg:Nat->Int->List Nat
 | 0,_=>[]
 | n+1,c=>(97+(c%26).toNat)::lg n (c/26)
theorem Se(n:Nat)(c:Int):(lg n c).length=n:=by
 induction n generalizing c with
 | zero=>rfl
 | succ n a=>simp[lg,a]
theorem RP(n:Nat)(c:Int):∀x∈lg n c,97<=x/\x<=122:=by
 induction n generalizing c with
 | zero=>intro x hx;cases hx
 | succ n a=>
  intro x hx;rcases ao.mp hx with rfl | h
  .have h0:=bg c (show(26:Int)≠0 by decide);have b:=bw c (show(0:Int)<26 by decide);ext
  show a _ x h
noncomputable def Ie:Str:="abcdefghijklmnopqrstuvwxyz"
theorem PL:∀k:Fin 26,fN Ie.cps.toList (k.val:Int)=some (97+k.val):=by decide +kernel
theorem PZ(c:Int):fN Ie.cps.toList (c%26)=some (97+(c%26).toNat):=by
 have h0:=bg c (show(26:Int)≠0 by decide);have a:=bw c (show(0:Int)<26 by decide);have:=PL ⟨(c%26).toNat,by ext⟩;simp only at this;rwa [Int.toNat_of_nonneg h0] at this
def Ah:fc:=λds Q=>∃(c:Int)(n:Nat),ds=[.int c,.int n]/\n<=1000/\Q (.fz (.str (jy (lg n c))))
def FP:TX:=(cM (eE 2 (dC (.str "abcdefghijklmnopqrstuvwxyz")))
 (cM (eE 3 (dC (.str "")))
 (cM (j8 (n8 (cy (cf 1) cD)) (c6 4) (cM (eE 3 (cA fw (cf 3) (cA ec (cf 2) (cA (oI (λ_ j=>0<j) λi j=>.int (i%j)) (cf 0) (dC (.int 26))))))
 (eE 0 (cA (oI kE λi j=>.int (i/j)) (cf 0) (dC (.int 26))))))
 (fV (cf 3)))))
theorem V7:jc 2 Ah FP ["_law_cell","_law_size","_law_signs","_law_stem_here","_law_k"]:=by
 intro ds f hl h;obtain⟨c,n,rfl,hn,q⟩:=h;show FP _ [.fz (.int c),.fz (.int n),.un,.un,.un];unfold FP;walk_at"all";show wM n (λg h=>?_) (λi d=>∃(b:Int)(acc:List Nat)(k:Sl),d=[.fz (.int b),.fz (.int n),.fz (.str Ie),.fz (.str (jy acc)),k]/\acc.length=i/\acc++lg (n-i) b=lg n c) ⟨_,[],_,rfl,rfl,rfl⟩ ?_ ?_
 .walk_at"all";show⟨by ext,by ext,by simpa using h⟩
 .rintro i d hi ⟨b,acc,k,rfl,e,he⟩;walk_at"all";show⟨by decide,_,PZ b,?_,_,acc++[97+(b%26).toNat],_,by rw[vH,wy],by simp[e],?_⟩
  .rw[o5,vH,o5,iU];simp;ext
  rw[<-he,show n-i=(n-(i+1))+1 by ext,lg];simp
 rintro d ⟨b,acc,k,rfl,e,he⟩;walk_at"all";rw[Nat.sub_self] at he;simp only[lg,a9] at he;rw[he];show q
noncomputable def y9(c:Int):List (List Nat):=
 if c/64%3=0 then [104,103,102,101,100,99,98,97].map λs=>(lg 6 (c/512)).take (c/8%(c%6+1)).toNat++[s]++((lg 6 (c/512)).drop (c/8%(c%6+1)).toNat).take ((c%6).toNat-(c/8%(c%6+1)).toNat)
 else if c/64%3=1 then(List.range 8).map λk=>(lg 6 (c/512)).take (c%6%4).toNat++[if k/4=0 then 109 else 116]++[if k/2%2=0 then 110 else 117]++[if k%2=0 then 111 else 118]
 else(List.range 6).map (λk=>(lg 6 (c/512)).take (k+1))++[([if (lg 6 (c/512)).headD 0=97 then 98 else 97]++(lg 6 (c/512)).drop 1).take 1,([if (lg 6 (c/512)).headD 0=97 then 98 else 97]++(lg 6 (c/512)).drop 1).take 3]
noncomputable def DW(i:Int):Int:=(i%1000000000000000000000000+5)*7046029254386353131%1000000000000000000000007
noncomputable def uh(i:Int):List Str:=(y9 (DW i)).map jy
theorem Ja(x:Int):∃a b c d e f:Nat,lg 6 x=[a,b,c,d,e,f]/\(97<=a/\a<=122)/\(97<=b/\b<=122)/\(97<=c/\c<=122)/\(97<=d/\d<=122)/\(97<=e/\e<=122)/\(97<=f/\f<=122):=by
 have h:=RP 6 x;simp only[lg,ao,bD,or_false,forall_eq_or_imp,forall_eq] at h;show⟨_,_,_,_,_,_,by simp only[lg],h.1,h.2.1,h.2.2.1,h.2.2.2.1,h.2.2.2.2.1,h.2.2.2.2.2⟩
theorem RO{l:List (List Nat)}(h:l.Nodup):(l.map jy).Nodup:=by
 unfold List.Nodup at *;rw[List.pairwise_map];show h.imp λa e=>a (uz.mp e)
theorem Sd(c:Int):(y9 c).length=8/\(y9 c).Nodup:=by
 unfold y9;by_cases h0:c/64%3=0
 .rw[if_pos h0];show⟨rfl,by simp[bp]⟩
 rw[if_neg h0];by_cases h:c/64%3=1
 .rw[if_pos h];show⟨by simp,by simp[List.range,List.range.loop,bp]⟩
 rw[if_neg h];obtain⟨a,b,j,d,e,f,i,_⟩:=Ja (c/512);rw[i];have g:(if a=97 then 98 else 97)≠a:=by split<;>ext
 generalize (if a=97 then 98 else 97)=o at g;show⟨by simp,?_⟩;have:¬a=o:=λz=>g z.symm
 simp[List.range,List.range.loop];split<;>ext
theorem KZ(i:Int):(uh i).length=8/\(uh i).Nodup:=by
 obtain⟨b,a⟩:=Sd (DW i);show⟨by simp[uh,b],RO a⟩
def z9:fc:=λds Q=>∃i:Int,ds=[.int i]/\Q (.ow ((uh i).map .str))
def FG:TX:=(cM (eE 0 (cA (oI (λ_ j=>0<j) λi j=>.int (i%j)) (cA (oI iR λi j=>.int (i*j)) (cA fw (cA (oI (λ_ j=>0<j) λi j=>.int (i%j)) (cf 0) (cA (oI o8 λi j=>.int (i ^ j.toNat)) (dC (.int 10)) (dC (.int 24)))) (dC (.int 5))) (dC (.int 7046029254386353131))) (cA fw (cA (oI o8 λi j=>.int (i ^ j.toNat)) (dC (.int 10)) (dC (.int 24))) (dC (.int 7)))))
 (cM (eE 1 (cA (oI (λ_ j=>0<j) λi j=>.int (i%j)) (cf 0) (dC (.int 6))))
 (cM (eE 2 (fO 2 Ah (cy (cA (oI kE λi j=>.int (i/j)) (cf 0) (dC (.int 512))) (cy (dC (.int 6)) cD))))
 (cM (eE 3 (cA (oI (λ_ j=>0<j) λi j=>.int (i%j)) (cA (oI kE λi j=>.int (i/j)) (cf 0) (dC (.int 8))) (cA fw (cf 1) (dC (.int 1)))))
 (cM (gi (dA (cA oEq (cA (oI (λ_ j=>0<j) λi j=>.int (i%j)) (cA (oI kE λi j=>.int (i/j)) (cf 0) (dC (.int 64))) (dC (.int 3))) (dC (.int 0)))) (fV (gh (hV (dC (.str "hgfedcba"))) [none,some 2,some 3,some 1] (c6 0) jJ (cA fw (cA fw (mF (cf 1) m7 (lh (cf 2))) (cf 0)) (mF (cf 1) (lh (cf 2)) (lh (cf 3)))))) gG)
 (cM (gi (dA (cA oEq (cA (oI (λ_ j=>0<j) λi j=>.int (i%j)) (cA (oI kE λi j=>.int (i/j)) (cf 0) (dC (.int 64))) (dC (.int 3))) (dC (.int 1)))) (fV (gh (n8 (cy (dC (.int 8)) cD)) [none,some 2,some 1] (c6 0) jJ (cA fw (cA fw (cA fw (mF (cf 1) m7 (lh (cA (oI (λ_ j=>0<j) λi j=>.int (i%j)) (cf 2) (dC (.int 4))))) (cA ec (dC (.str "mt")) (cA (oI kE λi j=>.int (i/j)) (cf 0) (dC (.int 4))))) (cA ec (dC (.str "nu")) (cA (oI (λ_ j=>0<j) λi j=>.int (i%j)) (cA (oI kE λi j=>.int (i/j)) (cf 0) (dC (.int 2))) (dC (.int 2))))) (cA ec (dC (.str "ov")) (cA (oI (λ_ j=>0<j) λi j=>.int (i%j)) (cf 0) (dC (.int 2))))))) gG)
 (cM (eE 4 (cA fw (cA ec (dC (.str "ab")) (eY yQ (cy (cA oEq (cA ec (cf 2) (dC (.int 0))) (dC (.str "a"))) cD))) (mF (cf 2) (lh (dC (.int 1))) m7)))
 (fV (cA fw (gh (n8 (cy (dC (.int 6)) cD)) [none,some 2] (c6 0) jJ (mF (cf 1) m7 (lh (cA fw (cf 0) (dC (.int 1)))))) (gM (cy (mF (cf 4) m7 (lh (dC (.int 1)))) (cy (mF (cf 4) m7 (lh (dC (.int 3)))) cD))))))))))))
theorem PJ:(Str.ofString "hgfedcba").cps.toList=[104,103,102,101,100,99,98,97]:=by decide +kernel
theorem OR(k:Nat)(h:k<8):fN (Str.ofString "mt").cps.toList ((k:Int)/4)=some (if k/4=0 then 109 else 116):=by
 have:∀k:Fin 8,fN (Str.ofString "mt").cps.toList ((k.val:Int)/4)=some (if k.val/4=0 then 109 else 116):=by decide +kernel
 show this ⟨k,h⟩
theorem OQ(k:Nat)(h:k<8):fN (Str.ofString "nu").cps.toList ((k:Int)/2%2)=some (if k/2%2=0 then 110 else 117):=by
 have:∀k:Fin 8,fN (Str.ofString "nu").cps.toList ((k.val:Int)/2%2)=some (if k.val/2%2=0 then 110 else 117):=by decide +kernel
 show this ⟨k,h⟩
theorem OP(k:Nat)(h:k<8):fN (Str.ofString "ov").cps.toList ((k:Int)%2)=some (if k%2=0 then 111 else 118):=by
 have:∀k:Fin 8,fN (Str.ofString "ov").cps.toList ((k.val:Int)%2)=some (if k.val%2=0 then 111 else 118):=by decide +kernel
 show this ⟨k,h⟩
theorem VC:jc 1 z9 FG ["_law_cell","_law_size","_law_stem_here","_law_at","_law_other"]:=by
 intro ds B hl h;obtain⟨i,rfl,q⟩:=h;show FG _ [.fz (.int i),.un,.un,.un,.un];unfold FG;walk_at"all";unfold uh y9 DW at q;generalize (i%1000000000000000000000000+5)*7046029254386353131%1000000000000000000000007=c at q ⊢;have s0:0<=c%6:=bg _ (by decide);have s1:c%6<6:=bw _ (by decide);show⟨c/512,6,rfl,by decide,by ext,?_⟩;have t0:0<=c/8%(c%6+1):=bg _ (by ext);have t1:c/8%(c%6+1)<c%6+1:=bw _ (by ext);have A:=Se 6 (c/512);have big:=iU;by_cases h0:c/64%3=0
 .rw[if_pos h0] at q;rw[if_pos h0];show nN [104,103,102,101,100,99,98,97] (λc=>.str ⟨#[c]⟩) (λs=>.str (jy ((lg 6 (c/512)).take (c/8%(c%6+1)).toNat++[s]++((lg 6 (c/512)).drop (c/8%(c%6+1)).toNat).take ((c%6).toNat-(c/8%(c%6+1)).toNat)))) (λr h=>?_) (by decide) (λs g t k=>?_) ?_
  .walk_at"all";rw[PJ];show h
  .walk_at"all";rw[zh _ t0,RR _ t0 s0,vH,wy,wy];show⟨by rw[o5];ext,?_,by rw[o5];ext,?_,k⟩
   .simp only[o5,aL,aH,List.length_nil];ext
   simp only[o5,ar,aL,List.length_drop,aH,List.length_nil];ext
  show q
 rw[if_neg h0] at q;rw[if_neg h0];by_cases j:c/64%3=1
 .rw[if_pos j] at q;rw[if_pos j];have v:0<=c%6%4:=bg _ (by decide);show nN (List.range 8) (λ(i:Nat)=>.int (0+i)) (λk=>.str (jy ((lg 6 (c/512)).take (c%6%4).toNat++[if k/4=0 then 109 else 116]++[if k/2%2=0 then 110 else 117]++[if k%2=0 then 111 else 118]))) (λr h=>?_) (by decide) (λs g t k=>?_) ?_
  .walk_at"all";show h
  .have n:s<8:=by simpa using g
   rw[Int.zero_add];walk_at"all";rw[zh _ v];show⟨by rw[o5];ext,by decide,_,OR s n,?_,by decide,_,OQ s n,?_,by decide,_,OP s n,?_,?_⟩
   .simp only[o5,vH,aL,aH,List.length_nil];ext
   .simp only[o5,vH,wy,ar,aL,aH,List.length_nil];ext
   .simp only[o5,vH,wy,ar,aL,aH,List.length_nil];ext
   simp only[vH,wy];show k
  rw[aS] at q;show q
 rw[if_neg j] at q;rw[if_neg j];obtain⟨a,b,p,d,e,f,g,ha,hb,y,hd,he,hf⟩:=Ja (c/512);rw[g] at q ⊢;have w:fN (jy [a,b,p,d,e,f]).cps.toList 0=some a:=by rw[Cr];rfl
 show⟨by rw[o5];simp;ext,a,w,?_⟩;have x:fN (Str.ofString "ab").cps.toList (if (⟨#[a]⟩:Str)=Str.ofString "a" then 1 else 0)=some (if a=97 then 98 else 97):=by
  by_cases o:a=97
  .subst o;decide +kernel
  have:¬((⟨#[a]⟩:Str)=Str.ofString "a"):=by
   intro z;have m:(⟨#[a]⟩:Str).cps.toList=(Str.ofString "a").cps.toList:=by rw[z]
   have u:(Str.ofString "a").cps.toList=[97]:=by decide +kernel
   rw[u] at m;simp at m;show o m
  rw[if_neg this,if_neg o];decide +kernel
 show⟨by decide,_,x,?_⟩;walk_at"all";rw[Sg _ (by decide),vH,wy];show⟨by rw[o5];simp;ext,by simp only[o5];simp;ext,?_⟩;show nN (List.range 6) (λ(i:Nat)=>.int (0+i)) (λk=>.str (jy ([a,b,p,d,e,f].take (k+1)))) (λr h=>?_) (by decide) (λs g t k=>?_) ?_
 .walk_at"all";show h
 .walk_at"all";rw[zh _ (by ext),show(0+(s:Int)+1).toNat=s+1 by ext];show⟨by rw[o5];simp;ext,k⟩
 walk_at"all";rw[zh _ (by decide),zh _ (by decide)];show⟨by rw[o5];simp;ext,by rw[o5];simp;ext,by decide,by simp;ext,?_⟩;simp only[aI,aS,az,List.map_nil] at q;show q
def Ag:fc:=λds Q=>∃(ws:List Str)(cells:List Int)(a:Int)(W:Nat),ds=[dS ws,dI cells,.int a,.int W]/\ws.length=8/\W<=40/\
 ∀top cg:List (Option Str),top.length=W->cg.length=W->gP ws top->gP ws cg->Q (.fz (.tup [dP top,dP cg]))
def FO:TX:=(cM (kY 4 (gM cD))
 (cM (kY 5 (gM cD))
 (cM (j8 (n8 (cy (cf 3) cD)) (c6 6) (cM (kY 7 (gM cD))
 (cM (j8 (n8 (cy (dC (.int 2)) cD)) (c6 8) (cM (eE 9 (cA fw (cA (oI iR λi j=>.int (i*j)) (dC (.int 2)) (cf 6)) (cf 8)))
 (cM (eE 10 (fO 2 qB (cy (cf 2) (cy (cf 9) cD))))
 (cM (gi (dA (cA (jx λi j=>.bl (decide (i<j))) (cf 9) (eY lW (cy (cf 1) cD)))) (eE 10 (fO 2 qB (cy (cA ec (cf 1) (cf 9)) (cy (cf 9) cD)))) gG)
 (lX 7 (cA ec (gM (cy (cA ec (cf 0) (cA (oI (λ_ j=>0<j) λi j=>.int (i%j)) (cf 10) (dC (.int 8)))) (cy (cA ec (cf 0) (cA (oI (λ_ j=>0<j) λi j=>.int (i%j)) (cA (oI kE λi j=>.int (i/j)) (cf 10) (dC (.int 8))) (dC (.int 3)))) (cy (cA ec (cf 0) (cA (oI (λ_ j=>0<j) λi j=>.int (i%j)) (cA (oI kE λi j=>.int (i/j)) (cf 10) (dC (.int 8))) (dC (.int 5)))) (cy (dC .non) cD))))) (cA (oI (λ_ j=>0<j) λi j=>.int (i%j)) (cA (oI kE λi j=>.int (i/j)) (cf 10) (dC (.int 64))) (dC (.int 4)))))))))
 (cM (lX 4 (u5 7 (dC (.int 0))))
 (lX 5 (u5 7 (dC (.int 1))))))))
 (u4 5 (u4 4 (fV (lY (cy (cf 4) (cy (cf 5) cD)))))))))
theorem EG(ws:List Str):gP ws []:=λw h=>by cases h
theorem E7{ws:List Str}{l:List (Option Str)}{x:Option Str}(h:gP ws l)(hx:∀w,x=some w->w∈ws):gP ws (l++[x]):=λw hw=>by
 rcases av.mp hw with a | a
 .exact h w a
 show hx w (br.mp a).symm
theorem V6:jc 4 Ag FO ["_law_words","_law_cells","_law_seed","_law_width","_law_top","_law_bottom","_law_c","_law_row","_law_side","_law_k","_law_one"]:=by
 intro ds K hl h;obtain⟨ws,cells,g,W,rfl,m,J,q⟩:=h;show FO _ [.fz (dS ws),.fz (dI cells),.fz (.int g),.fz (.int W),.un,.un,.un,.un,.un,.un,.un];unfold FO;have big:=iU;walk_at"px";show⟨by ext,?_⟩;walk_at"go";show⟨by ext,?_⟩;walk_at"go";show wM W (λH h=>?_) (λi f=>∃(top cg:List (Option Str))(a b c d e:Sl),f=[.fz (dS ws),.fz (dI cells),.fz (.int g),.fz (.int W),.ow (top.map dO),.ow (cg.map dO),a,b,c,d,e]/\top.length=i/\cg.length=i/\gP ws top/\gP ws cg) ⟨[],[],_,_,_,_,_,rfl,rfl,rfl,EG _,EG _⟩ ?_ ?_
 .walk_at"px";show⟨by ext,by ext,by simpa using h⟩
 .rintro i f hi ⟨top,cg,a,b,c,d,e,rfl,ht,hb,pt,pb⟩;walk_at"px";show⟨by ext,?_⟩;walk_at"go";show wM 2 (λH h=>?_) (λj f=>∃(row:List (Option Str))(c d e:Sl),f=[.fz (dS ws),.fz (dI cells),.fz (.int g),.fz (.int W),.ow (top.map dO),.ow (cg.map dO),.fz (.int i),.ow (row.map dO),c,d,e]/\row.length=j/\gP ws row) ⟨[],_,_,_,rfl,rfl,EG _⟩ ?_ ?_
  .walk_at"px";show h
  .rintro j f I ⟨row,c,d,e,rfl,o,pr⟩;walk_at"px";walk_at"go";have k0:(0:Int)<=2*(i:Int)+j:=by ext
   have k1:2*(i:Int)+j<=1000000:=by ext
   show⟨g,_,rfl,k0,k1,?_⟩;walk_at"go";unfold dI;walk_at"px";split
   focus
    rename_i u;rw[ae] at u;obtain⟨z,hz,_⟩:=Em (l:=cells) k0 u;show⟨z,hz,z,_,rfl,k0,k1,?_⟩
   all_goals
    generalize tG _ _=one;walk_at"go";unfold dS;walk_at"px";obtain⟨s,F,B⟩:=NF one m;obtain⟨r,E,A⟩:=Zd (one/8) m;obtain⟨p,D,v⟩:=Zc (one/8) m;show⟨s,F,r,E,p,D,by ext,?_⟩;have C:=B9 (l:=[some s,some r,some p,none]) (n:=4) (one/64) (by simp) (by decide);obtain⟨z,hz,t⟩:=C;show⟨dO z,?_,by simp;ext,row++[z],_,_,_,by rw[aI];rfl,by simp[o],E7 pr ?_⟩
    .have:=congrArg (Option.map dO) hz;rw[<-Cq] at this;show this
    intro w hw;subst hw;simp only[ao,aZ,bD,or_false,reduceCtorEq] at t;rcases t with rfl | rfl | rfl
    .exact B
    .exact A
    show v
  rintro f ⟨row,c,d,e,rfl,o,pr⟩;obtain⟨x,y,rfl⟩:∃x y,row=[x,y]:=by
   match row,o with
   | [x,y],_=>show⟨x,y,rfl⟩
  walk_at"go";show⟨dO x,rfl,by simp;ext,?_⟩;walk_at"go";show⟨dO y,rfl,by simp;ext,top++[x],cg++[y],_,_,_,_,_,by rw[aI,aI];rfl,by simp[ht],by simp[hb],E7 pt λw hw=>pr w (by simp[hw]),E7 pb λw hw=>pr w (by simp[hw])⟩
 rintro f ⟨top,cg,a,b,c,d,e,rfl,ht,hb,pt,pb⟩;walk_at"go";show⟨by ext,q top cg ht hb pt pb⟩
noncomputable def fQ(top cg:List (Option Str))(left right:List Str)(w:Str):Nat:=top.count (some w)+cg.count (some w)+left.count w+right.count w
def vt:fc:=λds Q=>∃(top cg:List (Option Str))(left right:List Str)(w:Str),ds=[dP top,dP cg,dS left,dS right,.str w]/\top.length+cg.length+left.length+right.length<=100000/\Q (.fz (.int (fQ top cg left right w)))
def FN:TX:=(cM (eE 5 (cA fw (cA fw (cA fw (cf 0) (cf 1)) (cf 2)) (cf 3)))
 (fV (dM "list" B4 (cf 5) (cy (cf 4) cD))))
theorem Jk(w:Str)(l:List (Option Str)):rh (.str w) (l.map dO)=l.count (some w):=by
 unfold rh;rw[List.countP_map,List.count];congr 1
 funext x
 simp only[Function.comp_apply,CO];rw[yb]
theorem Jj(w:Str)(l:List Str):rh (.str w) (l.map D.str)=l.count w:=by
 unfold rh;rw[List.countP_map,List.count];congr 1
theorem EF(d:D)(a b:List D):rh d (a++b)=rh d a+rh d b:=by unfold rh;show List.countP_append
theorem V5:jc 5 vt FN ["_law_top","_law_bottom","_law_left","_law_right","_law_word","_law_some"]:=by
 intro ds b hl h;obtain⟨top,cg,left,right,w,rfl,hz,q⟩:=h;show FN _ [.fz (dP top),.fz (dP cg),.fz (dS left),.fz (dS right),.fz (.str w),.un];unfold FN;have big:=iU;unfold dP dS;walk_at"px";show⟨by simp;ext,by simp;ext,by simp;ext,?_⟩;walk_at"go";show⟨rfl,?_,?_⟩
 .intro e he;simp only[av] at he;rcases he with((he | he) | he) | he
  .exact Cy 8 top e he
  .exact Cy 8 cg e he
  .exact vj 8 left e he
  show vj 8 right e he
 rw[EF,EF,EF,Jk,Jk,Jj,Jj];show q
theorem BE(l:List Int)(a:Int):l.map D.int++[D.int a]=(l++[a]).map D.int:=by simp
noncomputable def places(top cg:List (Option Str))(left right:List Str)(w:Str):List Int:=
 (((List.range top.length).filter λc=>top[c]?==some (some w)||cg[c]?==some (some w)).map λ(c:Nat)=>(c:Int))++(if w∈left then [-1] else [])++(if w∈right then [(top.length:Int)] else [])
def vY(m:Int)(l:List Int):Prop:=m∈l/\∀a∈l,m<=a
def vZ(m:Int)(l:List Int):Prop:=m∈l/\∀a∈l,a<=m
def zU:fc:=λds Q=>∃(top cg:List (Option Str))(left right:List Str)(w:Str),ds=[dP top,dP cg,dS left,dS right,.str w]/\cg.length=top.length/\top.length<=100/\left.length<=100/\right.length<=100/\
 ∀m M,vY m (places top cg left right w++[99])->vZ M (places top cg left right w++[-9])->Q (.fz (.tup [.int m,.int M]))
def F4:TX:=(cM (kY 5 (gh (n8 (cy (eY lW (cy (cf 0) cD)) cD)) [none,some 4,some 0,some 1] (c6 0) (dA (cA (k9 false) (cf 1) (gM (cy (cA ec (cf 2) (cf 0)) (cy (cA ec (cf 3) (cf 0)) cD))))) (cf 0)))
 (cM (gi (dA (cA (k9 false) (cf 4) (cf 2))) (lX 5 (pU (dC (.int 1)))) gG)
 (cM (gi (dA (cA (k9 false) (cf 4) (cf 3))) (lX 5 (eY lW (cy (cf 0) cD))) gG)
 (u4 5 (fV (lY (cy (eY tH (cy (cA fw (cf 5) (gM (cy (dC (.int 99)) cD))) cD)) (cy (eY rT (cy (cA fw (cf 5) (gM (cy (pU (dC (.int 9))) cD))) cD)) cD))))))))
theorem WL:jc 5 zU F4 ["_law_top","_law_bottom","_law_left","_law_right","_law_word","_law_places"]:=by
 intro ds t hl h;obtain⟨top,cg,left,right,w,rfl,hb,ht,y,s,q⟩:=h;show F4 _ [.fz (dP top),.fz (dP cg),.fz (dS left),.fz (dS right),.fz (.str w),.un];unfold F4;have big:=iU;unfold dP dS;walk_at"px";show qC (List.range top.length) (λ(i:Nat)=>.int (0+i)) (λ(i:Nat)=>.int i) (λc=>top[c]?==some (some w)||cg[c]?==some (some w)) (λu h=>?_) (by simp;ext) (λc n v x k1 k0=>?_) ?_
 .walk_at"px";rw[ae];show⟨by ext,by ext,by simpa using h⟩
 .have b:c<top.length:=by simpa using n
  rw[Int.zero_add];walk_at"px";show⟨_,nM b,_,nM (l:=cg) (by ext),by ext,?_,?_⟩
  .intro e he;simp only[ao,bD,or_false] at he;rcases he with rfl | rfl<;>(rw[B8];trivial)
  have o:inD (.str w) [dO top[c],dO cg[c]]=(top[c]?==some (some w)||cg[c]?==some (some w)):=by
   unfold inD;simp only[List.any_cons,List.any_nil,Bool.or_false,CO];rw[ah b,ah (l:=cg) (by ext),yb,yb];simp
  rw[o];cases hb:(top[c]?==some (some w)||cg[c]?==some (some w)) with
  | true=>show k1 hb
  | false=>show k0 hb
 have e:∀L:List Nat,(L.map λ(i:Nat)=>D.int i)=(L.map (λ(c:Nat)=>(c:Int))).map D.int:=λL=>by simp
 rw[e];have hlen:(((List.range top.length).filter λc=>top[c]?==some (some w)||cg[c]?==some (some w)).map λ(c:Nat)=>(c:Int)).length<=100:=by
  rw[ae];show aJ (aX _ _) ?_;simp;ext
 unfold places at q;generalize (((List.range top.length).filter λc=>top[c]?==some (some w)||cg[c]?==some (some w)).map λ(c:Nat)=>(c:Int))=base at q hlen ⊢;walk_at"go";show⟨vj 8 left,?_⟩;rw[yX];by_cases f:w∈left<;>by_cases d:w∈right
 all_goals
  simp only[f,d,aQ,aP,a9] at q;simp only[f,bY,bO,aQ,aj,aP];try(show⟨by simp;ext,?_⟩)
  walk_at"go";show⟨vj 8 right,?_⟩;rw[yX];simp only[d,bY,bO,aQ,aj,aP];try(show⟨by simp;ext,?_⟩)
  try simp only[BE,ae]
  walk_at"go";show⟨by ext,by simp;ext,?_⟩;try simp only[BE,tH,rT,vp]
  show⟨by simp,λm g j=>?_⟩;show⟨by ext,by simp;ext,?_⟩;try simp only[BE,vp]
  show⟨by simp,λM p r=>?_⟩;show⟨by ext,q m M ⟨by simpa using g,by simpa using j⟩ ⟨by simpa using p,by simpa using r⟩⟩
structure jk(top cg:List (Option Str))(left right ws:List Str)(cU:List (Int×Str)):Prop where
 len:cU.length<=top.length
 up:cU.Pairwise λa b=>a.1<b.1
 at_:∀p∈cU,∃n:Nat,p.1=n/\n<top.length/\p.2∈ws/\(∃m M,vY m (places top cg left right p.2++[99])/\vZ M (places top cg left right p.2++[-9])/\m<p.1/\p.1<M)/\((top[n]?=some none/\cg[n]?=some none)\/top[n]?=some (some p.2)\/cg[n]?=some (some p.2))
def z8:fc:=λds Q=>∃(top cg:List (Option Str))(left right ws:List Str)(cells:List Int)(a:Int),ds=[.lst [dP top,dP cg,dS left,dS right],dS ws,dI cells,.int a]/\cg.length=top.length/\top.length<=40/\left.length<=100/\right.length<=100/\ws.length=8/\gP ws top/\cells.length<=1000/\
 ∀cU,jk top cg left right ws cU->Q (.ow (cU.map t8))
def FF:TX:=(cM (xT (cf 0) (xP 4 (eJ (c6 4) (eJ (c6 5) (eJ (c6 6) (eJ (c6 7) ja))))))
 (cM (kY 8 (gM cD))
 (cM (j8 (n8 (cy (eY lW (cy (cf 4) cD)) cD)) (c6 9) (cM (eE 10 (fO 2 qB (cy (cA ec (cA fw (cf 2) (gM (cy (cf 3) cD))) (cA (oI (λ_ j=>0<j) λi j=>.int (i%j)) (cf 9) (cA fw (eY lW (cy (cf 2) cD)) (dC (.int 1))))) (cy (cA fw (cf 9) (dC (.int 200))) cD))))
 (cM (eE 11 (cA ec (cf 1) (cA (oI (λ_ j=>0<j) λi j=>.int (i%j)) (cf 10) (dC (.int 8)))))
 (cM (gi (rm (dA (cA oEq (cA (oI (λ_ j=>0<j) λi j=>.int (i%j)) (cA (oI kE λi j=>.int (i/j)) (cf 10) (dC (.int 8))) (dC (.int 3))) (dC (.int 0)))) (dA (cA (nG true) (cA ec (cf 4) (cf 9)) (dC .non)))) (eE 11 (cA ec (cf 4) (cf 9))) gG)
 (cM (xT (fO 5 zU (cy (cf 4) (cy (cf 5) (cy (cf 6) (cy (cf 7) (cy (cf 11) cD)))))) (j9 2 (eJ (c6 12) (eJ (c6 13) ja))))
 (cM (eE 14 (gh (hV (gM (cy (cA ec (cf 4) (cf 9)) (cy (cA ec (cf 5) (cf 9)) cD)))) [none] (c6 0) (dA (cA (nG true) (cf 0) (dC .non))) (cf 0)))
 (gi (rm (dA (cA (jx λi j=>.bl (decide (i<j))) (cf 12) (cf 9))) (rm (dA (cA (jx λi j=>.bl (decide (i<j))) (cf 9) (cf 13))) (rm (xC (dA (cA oEq (cf 14) (gM cD))) (dA (cA (k9 false) (cf 11) (cf 14)))) (dA (cA (jx λi j=>.bl (decide (j<i))) (cA (oI (λ_ j=>0<j) λi j=>.int (i%j)) (cA (oI kE λi j=>.int (i/j)) (cf 10) (dC (.int 24))) (dC (.int 3))) (dC (.int 0))))))) (lX 8 (lY (cy (cf 9) (cy (cf 11) cD)))) gG)))))))
 (pd 8))))
theorem RN(l:List D):nZ l []=l.isEmpty:=by cases l<;>simp[nZ]
theorem VB:jc 4 z8 FF ["_law_lists","_law_words","_law_cells","_law_seed","_law_top","_law_bottom","_law_left","_law_right","_law_bends_here","_law_c","_law_one","_law_word","_law_l","_law_r","_law_here"]:=by
 intro ds Qr hl h;obtain⟨top,cg,left,right,ws,cells,j,rfl,hb,ht,V,P,N,pt,W,q⟩:=h;show FF _ [.fz (.lst [dP top,dP cg,dS left,dS right]),.fz (dS ws),.fz (dI cells),.fz (.int j),.un,.un,.un,.un,.un,.un,.un,.un,.un,.un,.un];unfold FF;have big:=iU;walk_at"px";walk_at"go";show⟨by ext,?_⟩;walk_at"go";show wM top.length (λU h=>?_) (λi u=>∃(cU:List (Int×Str))(a b c d e f:Sl),u=[.fz (.lst [dP top,dP cg,dS left,dS right]),.fz (dS ws),.fz (dI cells),.fz (.int j),.fz (dP top),.fz (dP cg),.fz (dS left),.fz (dS right),.ow (cU.map t8),a,b,c,d,e,f]/\jk top cg left right ws cU/\(∀p∈cU,p.1<i)/\cU.length<=i) ⟨[],_,_,_,_,_,_,rfl,⟨by simp,by simp,by simp⟩,by simp,by simp⟩ ?_ ?_
 .unfold dP;walk_at"px";rw[ae];show⟨by ext,by ext,by simpa using h⟩
 .rintro i u hi ⟨cU,a,b,c,d,e,f,rfl,s,lt,ln⟩;unfold dI;walk_at"px";rw[ae];show⟨by ext,by ext,by ext,?_⟩;have m0:0<=(i:Int)%((cells.length:Int)+1):=bg _ (by ext);have m1:(i:Int)%((cells.length:Int)+1)<(cells.length:Int)+1:=bw _ (by ext);rw[BE];obtain⟨z,hz,_⟩:=Em (l:=cells++[j]) m0 (by simp;ext);rw[Jl];show⟨z,hz,z,_,rfl,by ext,by ext,?_⟩;generalize tG _ _=one;unfold dS;walk_at"go";obtain⟨o,R,H⟩:=NF one N;show⟨o,R,?_⟩;unfold dP;walk_at"go";have J:top[i]?=some top[i]:=ah hi;have O:cg[i]?=some cg[i]:=ah (by ext);have key:∃w:Str,w∈ws/\∀K:D->Prop,K (.str w)->(if one/8%3=0 then ∃x,fN top (i:Int)=some x/\(if (!wg (dO x))=true then ∃x,fN top (i:Int)=some x/\K (dO x) else K (.str o)) else K (.str o)):=by
   by_cases t:one/8%3=0
   .cases hx:top[i] with
    | none=>show⟨o,H,λK k=>by rw[if_pos t];show⟨none,by rw[nM hi,hx],by simpa[dO,wg] using k⟩⟩
    | some w=>
     show⟨w,pt w (by rw[<-hx];show List.getElem_mem hi),λK k=>?_⟩;rw[if_pos t];show⟨some w,by rw[nM hi,hx],by simp only[dO,wg,Bool.not_false,aQ];show⟨some w,by rw[nM hi,hx],k⟩⟩
   show⟨o,H,λK k=>by rw[if_neg t];show k⟩
  obtain⟨w,hw,kw⟩:=key;show kw (λd=>rS _ _ [_,_,_,_,_,_,_,_,_,_,_,.fz d,_,_,_]) ?_;walk_at"go";show⟨top,cg,left,right,w,rfl,hb,by ext,V,P,λm M hm Q=>?_⟩;walk_at"go";show qC [top[i],cg[i]] dO dO (λx=>x.isSome) (λU h=>?_) (by simp;ext) (λc t K1 K0 k1 k0=>?_) ?_
  .walk_at"px";show⟨_,nM hi,_,nM (l:=cg) (by ext),by ext,h⟩
  .walk_at"px";cases c with
   | none=>show k0 rfl
   | some x=>show k1 rfl
  walk_at"go";have skip:∀(a b c d e f:Sl)(X Y Z:D),∃(g:List (Int×Str))(C B A d' y v:Sl),[Sl.fz (D.lst [D.lst (List.map dO top),D.lst (List.map dO cg),D.lst (List.map D.str left),D.lst (List.map D.str right)]),Sl.fz (D.lst (List.map D.str ws)),Sl.fz (D.lst (List.map D.int cells)),Sl.fz (D.int j),Sl.fz (D.lst (List.map dO top)),Sl.fz (D.lst (List.map dO cg)),Sl.fz (D.lst (List.map D.str left)),Sl.fz (D.lst (List.map D.str right)),Sl.ow (List.map t8 cU),a,b,c,d,e,f]=[Sl.fz (D.lst [D.lst (List.map dO top),D.lst (List.map dO cg),D.lst (List.map D.str left),D.lst (List.map D.str right)]),Sl.fz (D.lst (List.map D.str ws)),Sl.fz (D.lst (List.map D.int cells)),Sl.fz (D.int j),Sl.fz (D.lst (List.map dO top)),Sl.fz (D.lst (List.map dO cg)),Sl.fz (D.lst (List.map D.str left)),Sl.fz (D.lst (List.map D.str right)),Sl.ow (List.map t8 g),C,B,A,d',y,v]/\jk top cg left right ws g/\(∀p∈g,p.1<((i+1:Nat):Int))/\g.length<=i+1:=
   λa b c d e f _ _ _=>⟨cU,a,b,c,d,e,f,rfl,s,λp r=>by have:=lt p r;ext,by ext⟩
  have F:some w∈[top[i],cg[i]].filter (λx=>x.isSome)↔top[i]=some w\/cg[i]=some w:=by
   simp only[aU,ao,bD,or_false,Option.isSome_some,and_true];constructor
   .rintro(h | h)
    .exact .inl h.symm
    show .inr h.symm
   rintro(h | h)
   .exact .inl h.symm
   show .inr h.symm
  have I:([top[i],cg[i]].filter (λx=>x.isSome)=[])->top[i]=none/\cg[i]=none:=by
   intro h;rw[List.filter_eq_nil_iff] at h;show⟨by simpa using h top[i] (by simp),by simpa using h cg[i] (by simp)⟩
  generalize [top[i],cg[i]].filter (λx=>x.isSome)=here at F I ⊢;split
  .rename_i c1;split
   .rename_i T;show⟨by ext,ff.mono (n:=1) (by ext) (by intro d hd;show Cy 0 here d hd),ff.mono (n:=1) (by ext) (by intro d hd;cases hd),?_⟩;have fin:(top[i]=none/\cg[i]=none)\/top[i]=some w\/cg[i]=some w->jk top cg left right ws (cU++[((i:Int),w)]):=λr=>by
     show⟨by simp;ext,?_,?_⟩
     .rw[ba];show⟨s.up,by simp,λa ha b hb=>?_⟩;have:b=((i:Int),w):=by simpa using hb
      subst this;show lt a ha
     intro p E;rcases av.mp E with h | h
     .exact s.at_ p h
     have:p=((i:Int),w):=by simpa using h
     subst this;show⟨i,rfl,hi,hw,⟨m,M,hm,Q,c1,T⟩,?_⟩;rw[J,O];simpa using r
    have put:(top[i]=none/\cg[i]=none)\/top[i]=some w\/cg[i]=some w->2<=sizeLine/\(List.map t8 cU).length<sizeLine/\∃(g:List (Int×Str))(C B A d' y v:Sl),[Sl.fz (D.lst [D.lst (List.map dO top),D.lst (List.map dO cg),D.lst (List.map D.str left),D.lst (List.map D.str right)]),Sl.fz (D.lst (List.map D.str ws)),Sl.fz (D.lst (List.map D.int cells)),Sl.fz (D.int j),Sl.fz (D.lst (List.map dO top)),Sl.fz (D.lst (List.map dO cg)),Sl.fz (D.lst (List.map D.str left)),Sl.fz (D.lst (List.map D.str right)),Sl.ow (List.map t8 cU++[D.tup [D.int i,D.str w]]),Sl.fz (D.int i),Sl.fz (D.int one),Sl.fz (D.str w),Sl.fz (D.int m),Sl.fz (D.int M),Sl.fz (D.lst (here.map dO))]=[Sl.fz (D.lst [D.lst (List.map dO top),D.lst (List.map dO cg),D.lst (List.map D.str left),D.lst (List.map D.str right)]),Sl.fz (D.lst (List.map D.str ws)),Sl.fz (D.lst (List.map D.int cells)),Sl.fz (D.int j),Sl.fz (D.lst (List.map dO top)),Sl.fz (D.lst (List.map dO cg)),Sl.fz (D.lst (List.map D.str left)),Sl.fz (D.lst (List.map D.str right)),Sl.ow (List.map t8 g),C,B,A,d',y,v]/\jk top cg left right ws g/\(∀p∈g,p.1<((i+1:Nat):Int))/\g.length<=i+1:=λr=>by
     show⟨by ext,by simp;ext,cU++[((i:Int),w)],_,_,_,_,_,_,by rw[aI];rfl,fin r,?_,by simp;ext⟩;intro p E;rcases av.mp E with h | h
     .have:=lt p h;ext
     have:p=((i:Int),w):=by simpa using h
     subst this;show(i:Int)<_;ext
    by_cases ce:here=[]
    .simp only[ce,List.map_nil,eH,nZ,aQ];split
     .have:=put (.inl (I ce));rw[ce] at this;show this
     have:=skip (.fz (D.int i)) (.fz (D.int one)) (.fz (D.str w)) (.fz (D.int m)) (.fz (D.int M)) (.fz (D.lst [])) .non .non .non;show this
    have S:eH (D.lst (here.map dO)) (D.lst [])=false:=by
     simp only[eH,RN];cases here with
     | nil=>show absurd rfl ce
     | cons=>rfl
    simp only[S,aj,aP];show⟨Cy 8 here,?_⟩;rw[Jb];simp only[bE];split
    .rename_i L;split
     .exact put (.inr (F.mp L))
     show skip _ _ _ _ _ _ .non .non .non
    show skip _ _ _ _ _ _ .non .non .non
   show skip _ _ _ _ _ _ .non .non .non
  show skip _ _ _ _ _ _ .non .non .non
 rintro u ⟨cU,a,b,c,d,e,f,rfl,s,lt,ln⟩;walk_at"go";show q cU s
def nq(W:Nat)(keeps:List (Int×Int×Int)):Prop:=keeps.length<=6/\∀p∈keeps,0<=p.1/\p.1<=p.2.1/\p.2.1<W/\1<=p.2.2/\p.2.2<=3
def z7:fc:=λds Q=>∃(W:Nat)(cells:List Int)(a:Int),ds=[.int W,dI cells,.int a]/\1<=W/\W<=40/\∀keeps,nq W keeps->Q (.ow (keeps.map Bo))
def FE:TX:=(cM (kY 3 (gM cD))
 (cM (j8 (ug (cy (mF (cf 1) m7 (lh (dC (.int 6)))) cD)) (j9 2 (eJ (c6 4) (eJ (c6 5) ja))) (cM (eE 6 (fO 2 qB (cy (cA fw (cf 5) (cf 2)) (cy (cA fw (cf 4) (dC (.int 300))) cD))))
 (cM (eE 7 (cA (oI (λ_ j=>0<j) λi j=>.int (i%j)) (cf 6) (cf 0)))
 (gi (dA (cA oEq (cA (oI (λ_ j=>0<j) λi j=>.int (i%j)) (cA (oI kE λi j=>.int (i/j)) (cf 6) (dC (.int 64))) (dC (.int 4))) (dC (.int 0)))) (lX 3 (lY (cy (cf 7) (cy (cA fw (cf 7) (cA (oI (λ_ j=>0<j) λi j=>.int (i%j)) (cA (oI kE λi j=>.int (i/j)) (cf 6) (dC (.int 256))) (cA (jx λi j=>.int (i-j)) (cf 0) (cf 7)))) (cy (cA fw (dC (.int 1)) (cA (oI (λ_ j=>0<j) λi j=>.int (i%j)) (cA (oI kE λi j=>.int (i/j)) (cf 6) (dC (.int 1024))) (dC (.int 3)))) cD))))) gG))))
 (pd 3)))
theorem VA:jc 3 z7 FE ["_law_width","_law_cells","_law_seed","_law_keeps_here","_law_k","_law_cell","_law_one","_law_first"]:=by
 intro ds t hl h;obtain⟨W,cells,f,rfl,r,s,q⟩:=h;show FE _ [.fz (.int W),.fz (dI cells),.fz (.int f),.un,.un,.un,.un,.un];unfold FE dI;have big:=iU;walk_at"px";show⟨by ext,?_⟩;walk_at"go";show E9 (cells.take 6) D.int (λu h=>?_) (λi g=>∃(keeps:List (Int×Int×Int))(a b c d:Sl),g=[.fz (.int W),.fz (D.lst (List.map D.int cells)),.fz (.int f),.ow (keeps.map Bo),a,b,c,d]/\keeps.length<=i/\∀p∈keeps,0<=p.1/\p.1<=p.2.1/\p.2.1<W/\1<=p.2.2/\p.2.2<=3) ⟨[],_,_,_,_,rfl,by simp,by simp⟩ ?_ ?_
 .walk_at"px";rw[yc _ (by decide)];show h
 .rintro i x g hx ⟨keeps,a,b,c,d,rfl,j,e⟩;have hi:i<6:=by
   have:=(aB.mp hx).1;simp at this;ext
  walk_at"px";show⟨x+f,(i:Int)+300,rfl,by ext,by ext,?_⟩;have n0:=Pl (x+f) ((i:Int)+300);generalize tG _ _=one at n0 ⊢;walk_at"go";have f0:0<=one%(W:Int):=bg _ (by ext);have f1:one%(W:Int)<W:=bw _ (by ext);show⟨by ext,?_⟩;generalize one%(W:Int)=fst at f0 f1 ⊢;walk_at"go";have o:0<=one/256%((W:Int)-fst):=bg _ (by ext);have g1:one/256%((W:Int)-fst)<(W:Int)-fst:=bw _ (by ext);have k0:0<=one/1024%3:=bg _ (by ext);have k1:one/1024%3<3:=bw _ (by ext);generalize one/256%((W:Int)-fst)=sp at o g1 ⊢;generalize one/1024%3=m at k0 k1 ⊢;split
  .refine⟨by ext,by ext,by simp;ext,keeps++[(fst,fst+sp,1+m)],_,_,_,_,by rw[aI];rfl,by simp;ext,λp n=>?_⟩;rcases av.mp n with h | h
   .exact e p h
   have:p=(fst,fst+sp,1+m):=by simpa using h
   subst this;show⟨f0,?_,?_,?_,?_⟩<;>dsimp only<;>ext
  show⟨keeps,_,_,_,_,rfl,by ext,e⟩
 rintro g ⟨keeps,a,b,c,d,rfl,j,e⟩;walk_at"go";show q keeps ⟨?_,e⟩;rw[aL] at j;ext
def yn:fc:=λds Q=>∃(ws:List Str)(bits:Int),ds=[dS ws,.int bits]/\ws.length=8/\ws.Nodup/\∀l:List Str,l.length<=8->l.Nodup->(∀w∈l,w∈ws)->sortedS l=true->Q (.ow (l.map .str))
def FL:TX:=(cM (gi (dA (cA oEq (cA (oI (λ_ j=>0<j) λi j=>.int (i%j)) (cA (oI kE λi j=>.int (i/j)) (cf 1) (dC (.int 256))) (dC (.int 2))) (dC (.int 0)))) (fV (gM cD)) gG)
 (fV (eY wz (cy (gh (n8 (cy (dC (.int 8)) cD)) [none,some 0,some 1] (c6 0) (dA (cA oEq (cA (oI (λ_ j=>0<j) λi j=>.int (i%j)) (cA (oI kE λi j=>.int (i/j)) (cf 2) (cA ec (gM (cy (dC (.int 1)) (cy (dC (.int 2)) (cy (dC (.int 4)) (cy (dC (.int 8)) (cy (dC (.int 16)) (cy (dC (.int 32)) (cy (dC (.int 64)) (cy (dC (.int 128)) cD))))))))) (cf 0))) (dC (.int 2))) (dC (.int 1)))) (cA ec (cf 1) (cf 0))) cD))))
theorem PY(k:Nat)(h:k<8):fN ([1,2,4,8,16,32,64,128]:List Int) (k:Int)=some ((2:Int) ^ k):=by
 have:∀k:Fin 8,fN ([1,2,4,8,16,32,64,128]:List Int) (k.val:Int)=some ((2:Int) ^ k.val):=by decide +kernel
 show this ⟨k,h⟩
theorem PH(k:Nat)(h:k<8):0<(2:Int) ^ k/\(2:Int) ^ k<1073741824:=by
 have:∀k:Fin 8,0<(2:Int) ^ k.val/\(2:Int) ^ k.val<1073741824:=by decide +kernel
 show this ⟨k,h⟩
theorem Tn{a:Type}(ws:List a)(d:a):(List.range ws.length).map (λk=>ws.getD k d)=ws:=by
 apply List.ext_getElem
 .simp
 intro i c b;simp[b]
theorem V4:jc 2 yn FL ["_law_words","_law_bits"]:=by
 intro ds n hl h;obtain⟨ws,bits,rfl,d,nd,q⟩:=h;show FL _ [.fz (dS ws),.fz (.int bits)];unfold FL dS;have big:=iU;walk_at"px";split
 .exact⟨by ext,q [] (by simp) (by simp) (by simp) rfl⟩
 walk_at"go";show qC (List.range 8) (λ(i:Nat)=>.int (0+i)) (λk=>.str (ws.getD k "")) (λk=>decide (bits/2 ^ k%2=1)) (λo h=>?_) (by simp;ext) (λc m r s k1 k0=>?_) ?_
 .walk_at"px";show h
 .have f:c<8:=by simpa using m
  rw[Int.zero_add];walk_at"px";show⟨by ext,D.int (2 ^ c),?_,?_⟩
  .have:=congrArg (Option.map D.int) (PY c f);rw[<-Cq] at this;show this
  walk_at"px";show⟨PH c f,?_⟩;by_cases hb:bits/2 ^ c%2=1
  .simp only[hb,eH,beq_self_eq_true,aQ];show⟨ws[c],nM (by ext),?_⟩;have:=k1 (by simpa using hb);rwa [show ws.getD c ""=ws[c] by simp[show c<ws.length by ext]] at this
  rw[if_neg hb];show k0 (by simpa using hb)
 have e:∀L:List Nat,(L.map λk=>D.str (ws.getD k ""))=(L.map λk=>ws.getD k "").map D.str:=λL=>by simp
 show wz [D.lst _] _;rw[e];have sub:List.Sublist (((List.range 8).filter λk=>decide (bits/2 ^ k%2=1)).map λk=>ws.getD k "") ws:=by
  have:=List.Sublist.map (λk=>ws.getD k "") (List.filter_sublist (p:=λk=>decide (bits/2 ^ k%2=1)) (l:=List.range 8));rwa [<-d,Tn,d] at this
 generalize (((List.range 8).filter λk=>decide (bits/2 ^ k%2=1)).map λk=>ws.getD k "")=ss at sub ⊢;unfold wz;simp only[zK];have hle:=sub.length_le;show⟨by ext,λg b j=>q g (by rw[b.length_eq];ext) (b.nodup_iff.mpr (sub.nodup nd)) (λw hw=>sub.subset (b.subset hw)) j⟩
noncomputable def jG(a:List Str):Option Str->Option Str
 | none=>none
 | some w=>if w∈a then none else some w
theorem OO(x:Option Str)(l:List Str):inD (dO x) (l.map .str)=(match x with | none=>false | some w=>decide (w∈l)):=by
 cases x with
 | none=>
  unfold inD;rw[List.any_map];induction l with
  | nil=>rfl
  | cons a r b=>rw[List.any_cons,b];simp[dO,eH]
 | some w=>show yX w l
theorem LX(b:List Str)(w:Str)(l:List (Option Str)):(l.map (jG b)).count (some w)=if w∈b then 0 else l.count (some w):=by
 induction l with
 | nil=>simp
 | cons a r c=>
  rw[az,List.count_cons,c,List.count_cons];cases a with
  | none=>simp[jG]
  | some v=>
   unfold jG;by_cases h:v∈b
   .by_cases hw:w∈b
    .simp[h,hw]
    have:v≠w:=λz=>hw (z▸h)
    simp[h,hw,this]
   by_cases hw:w∈b
   .have:v≠w:=λz=>h (z▸hw)
    simp[h,hw,this]
   simp[h,hw]
theorem LG(a:List Str)(w:Str)(l:List Str):(l.filter λx=>decide (x∉a)).count w=if w∈a then 0 else l.count w:=by
 by_cases hw:w∈a
 .rw[if_pos hw,List.count_eq_zero];intro h;rw[aU] at h;simpa[hw] using h.2
 rw[if_neg hw,List.count_filter];simpa using hw
theorem CY{ws b:List Str}{l:List (Option Str)}(h:gP ws l):gP ws (l.map (jG b)):=λw hw=>by
 rw[aR] at hw;obtain⟨x,hx,e⟩:=hw;cases x with
 | none=>cases e
 | some v=>
  by_cases a:v∈b
  .simp[jG,a] at e
  simp[jG,a] at e;subst e;show h _ hx
theorem PV{ws:List Str}{top cg:List (Option Str)}{left right:List Str}(pt:gP ws top)(pb:gP ws cg)(lf:∀w∈left,w∈ws)(rt:∀w∈right,w∈ws){w:Str}(h:w∉ws):fQ top cg left right w=0:=by
 unfold fQ;rw[List.count_eq_zero.mpr λz=>h (pt w z),List.count_eq_zero.mpr λz=>h (pb w z),List.count_eq_zero.mpr λz=>h (lf w z),List.count_eq_zero.mpr λz=>h (rt w z)]
theorem LW{ws:List Str}{top cg:List (Option Str)}{left right:List Str}(pt:gP ws top)(pb:gP ws cg)(lf:∀w∈left,w∈ws)(rt:∀w∈right,w∈ws)(a:List Str)(c:a=ws.filter λw=>decide (fQ top cg left right w=1))(w:Str) :
  fQ (top.map (jG a)) (cg.map (jG a)) (left.filter λx=>decide (x∉a)) (right.filter λx=>decide (x∉a)) w≠1:=by
 have e:fQ (top.map (jG a)) (cg.map (jG a)) (left.filter λx=>decide (x∉a)) (right.filter λx=>decide (x∉a)) w=if w∈a then 0 else fQ top cg left right w:=by
  unfold fQ;rw[LX,LX,LG,LG];split<;>simp
 rw[e];by_cases h:w∈a
 .rw[if_pos h];decide
 rw[if_neg h];by_cases b:w∈ws
 .intro z;apply h;rw[c,aU];show⟨b,by simpa using z⟩
 rw[PV pt pb lf rt b];decide
structure fB(ws:List Str)(most:Nat)(c:cS):Prop where
 w1:1<=c.top.length
 w2:c.top.length<=most
 bl:c.cg.length=c.top.length
 pt:gP ws c.top
 pb:gP ws c.cg
 ll:c.left.length<=8
 lw:∀w∈c.left,w∈ws
 lo:c.left.Pairwise ou
 rl:c.right.length<=8
 rw_:∀w∈c.right,w∈ws
 ro:c.right.Pairwise ou
 cnt:∀w,fQ c.top c.cg c.left c.right w≠1
 wl:c.wide.length<=8
 wo:(c.wide.map (·.1)).Pairwise ou
 ww:∀p∈c.wide,p.1∈ws/\(p.2=2\/p.2=3)/\1<fQ c.top c.cg c.left c.right p.1
 be:jk c.top c.cg c.left c.right ws c.cU
 ke:nq c.top.length c.keeps
noncomputable def wF(h:Int)(a:Nat):Nat:=(1+h%1000000000000000000000000000000*40014%2147483563%a).toNat
def zT:fc:=λds Q=>∃(ns:List Int)(most:Nat),ds=[dI ns,.int most]/\ns.length<=1000/\1<=most/\most<=40/\∀c,fB (uh (t5 ns)) most c->c.top.length=wF (t5 ns) most->Q (.ow c.parts)
theorem Cd(b:List Str)(l:List (Option Str))(j k:Nat)(f:Ev)(Q:R->Prop)(hl:l.length<=100)(p:gt f j=.fz (.lst (l.map dO)))(o:gt f k=.fz (.lst (b.map .str)))(i:Q (.ow ((l.map (jG b)).map dO))) :
  gh (hV (cf j)) [none,some k] (c6 0) jJ (uQ (dA (cA (k9 false) (cf 0) (cf 1))) (dC D.non) (cf 0)) f Q:=by
 have big:=iU;show nN l dO (λx=>dO (jG b x)) (λq h=>?_) (by ext) (λx hx n k=>?_) ?_
 .simp only[hV,cf,p];show h
 .simp only[ij,az,List.map_nil,rj,o];walk_at"px";have d:ff 8 (dO x)/\(∀e∈b.map D.str,ff 8 e):=⟨by rw[B8];trivial,vj 8 b⟩
  have m:if inD (dO x) (b.map D.str)=true then n D.non else n (dO x):=by
   rw[OO];cases x with
   | none=>simpa[jG] using k
   | some v=>
    by_cases g:v∈b
    .simpa[jG,g,dO] using k
    simpa[jG,g,dO] using k
  cases x with
  | none=>show⟨d.1,d.2,m⟩
  | some v=>show⟨d.1,d.2,m⟩
 rw[aS] at i;show i
theorem Cw(b l:List Str)(j k:Nat)(e:Ev)(Q:R->Prop)(hl:l.length<=100)(i:gt e j=.fz (.lst (l.map .str)))(g:gt e k=.fz (.lst (b.map .str)))(f:Q (.ow ((l.filter λx=>decide (x∉b)).map D.str))) :
  gh (hV (cf j)) [none,some k] (c6 0) (dA (cA (k9 true) (cf 0) (cf 1))) (cf 0) e Q:=by
 have big:=iU;show qC l D.str D.str (λx=>decide (x∉b)) (λm h=>?_) (by ext) (λx hx n o k1 k0=>?_) f
 .simp only[hV,cf,i];show h
 simp only[ij,az,List.map_nil,rj,g];walk_at"px";show⟨vj 8 b,?_⟩;rw[yX];by_cases d:x∈b
 .simpa[d] using k0 (by simpa using d)
 simpa[d] using k1 (by simpa using d)
def F3:TX:=(cM (eE 2 (cA (oI (λ_ j=>0<j) λi j=>.int (i%j)) (cA (oI iR λi j=>.int (i*j)) (cA (oI (λ_ j=>0<j) λi j=>.int (i%j)) (eY uZ (cy (mF (cf 0) m7 (lh (dC (.int 1)))) cD)) (cA (oI o8 λi j=>.int (i ^ j.toNat)) (dC (.int 10)) (dC (.int 30)))) (dC (.int 40014))) (dC (.int 2147483563))))
 (cM (eE 3 (fO 1 z9 (cy (eY uZ (cy (mF (cf 0) m7 (lh (dC (.int 1)))) cD)) cD)))
 (cM (eE 4 (cA fw (dC (.int 1)) (cA (oI (λ_ j=>0<j) λi j=>.int (i%j)) (cf 2) (cf 1))))
 (cM (eE 5 (mF (cf 0) (lh (dC (.int 1))) m7))
 (cM (xT (fO 4 Ag (cy (cf 3) (cy (cf 5) (cy (cf 2) (cy (cf 4) cD))))) (j9 2 (eJ (c6 6) (eJ (c6 7) ja))))
 (cM (eE 8 (fO 2 qB (cy (eY uZ (cy (mF (cf 0) (lh (dC (.int 1))) (lh (dC (.int 2)))) cD)) (cy (cA fw (dC (.int 400)) (cA (oI (λ_ j=>0<j) λi j=>.int (i%j)) (cf 2) (dC (.int 7)))) cD))))
 (cM (eE 9 (fO 2 yn (cy (cf 3) (cy (cf 8) cD))))
 (cM (eE 10 (fO 2 yn (cy (cf 3) (cy (cA (oI kE λi j=>.int (i/j)) (cf 8) (dC (.int 512))) cD))))
 (cM (eE 11 (gh (hV (cf 3)) [none,some 6,some 7,some 9,some 10] (c6 0) (dA (cA oEq (fO 5 vt (cy (cf 1) (cy (cf 2) (cy (cf 3) (cy (cf 4) (cy (cf 0) cD)))))) (dC (.int 1)))) (cf 0)))
 (cM (eE 6 (gh (hV (cf 6)) [none,some 11] (c6 0) jJ (uQ (dA (cA (k9 false) (cf 0) (cf 1))) (dC .non) (cf 0))))
 (cM (eE 7 (gh (hV (cf 7)) [none,some 11] (c6 0) jJ (uQ (dA (cA (k9 false) (cf 0) (cf 1))) (dC .non) (cf 0))))
 (cM (eE 9 (gh (hV (cf 9)) [none,some 11] (c6 0) (dA (cA (k9 true) (cf 0) (cf 1))) (cf 0)))
 (cM (eE 10 (gh (hV (cf 10)) [none,some 11] (c6 0) (dA (cA (k9 true) (cf 0) (cf 1))) (cf 0)))
 (cM (kY 12 (gM cD))
 (cM (j8 (ug (cy (eY wz (cy (cf 3) cD)) cD)) (j9 2 (eJ (c6 13) (eJ (c6 14) ja))) (cM (eE 15 (fO 2 qB (cy (cA fw (cf 2) (cf 13)) (cy (dC (.int 500)) cD))))
 (gi (rm (dA (cA oEq (cA (oI (λ_ j=>0<j) λi j=>.int (i%j)) (cf 15) (dC (.int 4))) (dC (.int 0)))) (dA (cA (jx λi j=>.bl (decide (j<i))) (fO 5 vt (cy (cf 6) (cy (cf 7) (cy (cf 9) (cy (cf 10) (cy (cf 14) cD)))))) (dC (.int 1))))) (lX 12 (lY (cy (cf 14) (cy (cA fw (dC (.int 2)) (cA (oI (λ_ j=>0<j) λi j=>.int (i%j)) (cA (oI kE λi j=>.int (i/j)) (cf 15) (dC (.int 4))) (dC (.int 2)))) cD)))) gG)))
 (cM (eE 16 (fO 4 z8 (cy (gM (cy (cf 6) (cy (cf 7) (cy (cf 9) (cy (cf 10) cD))))) (cy (cf 3) (cy (cf 5) (cy (cf 2) cD))))))
 (cM (eE 17 (gM cD))
 (cM (gi (dA (cA oEq (cA (oI (λ_ j=>0<j) λi j=>.int (i%j)) (cA (oI kE λi j=>.int (i/j)) (cf 2) (dC (.int 97))) (dC (.int 3))) (dC (.int 0)))) (eE 17 (fO 3 z7 (cy (cf 4) (cy (cf 5) (cy (cf 2) cD))))) gG)
 (u4 12 (fV (gM (cy (cf 6) (cy (cf 7) (cy (cf 9) (cy (cf 10) (cy (cf 12) (cy (cf 16) (cy (cf 17) cD))))))))))))))))))))))))))))
theorem WK:jc 2 zT F3 ["_law_script","_law_most","_law_seed","_law_words","_law_width","_law_cells","_law_top","_law_bottom","_law_bits","_law_left","_law_right","_law_lone","_law_wide","_law_k","_law_word","_law_one","_law_bends_here","_law_keeps_here"]:=by
 intro ds Y hl h;obtain⟨ns,most,rfl,hn,hm,kU,q⟩:=h;show F3 _ [.fz (dI ns),.fz (.int most),.un,.un,.un,.un,.un,.un,.un,.un,.un,.un,.un,.un,.un,.un,.un,.un];unfold F3 dI;have big:=iU;walk_at"px";generalize o:((kN ns none (some 1)).sum%1000000000000000000000000000000*40014)%2147483563=e;have s0:0<=e:=by rw[<-o];show bg _ (by decide)
 have J:t5 ns%1000000000000000000000000000000*40014%2147483563=e:=by rw[<-o,yc _ (by decide)];rfl
 clear o;walk_at"go";show⟨_,rfl,?_⟩;rw[yc _ (by decide)];have hw:=KZ (t5 ns);change rS _ _ [_,_,_,.fz (.lst ((uh (t5 ns)).map .str)),_,_,_,_,_,_,_,_,_,_,_,_,_,_];generalize uh (t5 ns)=ws at hw q ⊢;walk_at"go";show⟨by ext,?_⟩;have m0:0<=e%(most:Int):=bg _ (by ext);have m1:e%(most:Int)<most:=bw _ (by ext);obtain⟨W,z⟩:∃W:Nat,1+e%(most:Int)=W:=⟨(1+e%(most:Int)).toNat,by ext⟩
 rw[z];walk_at"go";rw[Fb _ (by decide)];walk_at"go";show⟨ws,ns.drop 1,e,W,rfl,hw.1,by ext,λtop cg ht hb pt pb=>?_⟩;walk_at"px";walk_at"go";show⟨_,_,rfl,by have:=bg e (show(7:Int)≠0 by decide);ext,by have:=bw e (show(0:Int)<7 by decide);ext,?_⟩;generalize tG _ _=bits;walk_at"go";show⟨ws,bits,rfl,hw.1,hw.2,λleft T U C V=>?_⟩;walk_at"go";show⟨ws,_,rfl,hw.1,hw.2,λright O P B Q=>?_⟩;walk_at"go";show qC ws D.str D.str (λw=>decide (fQ top cg left right w=1)) (λZ h=>?_) (by have:=hw.1;ext) (λw _ K1 K0 k1 k0=>?_) ?_
 .walk_at"px";show h
 .walk_at"px";show⟨top,cg,left,right,w,rfl,by ext,?_⟩;walk_at"px";by_cases u:fQ top cg left right w=1
  .rw[if_pos (by ext)];show k1 (by simpa using u)
  rw[if_neg (by ext)];show k0 (by simpa using u)
 generalize y:ws.filter (λw=>decide (fQ top cg left right w=1))=d;have F:=LW pt pb C B d y.symm;have M6:d.length<=8:=by rw[<-y];have:=aX (λw=>decide (fQ top cg left right w=1)) ws;have:=hw.1;ext
 walk_at"go";show Cd d top 6 11 _ _ (by ext) rfl rfl ?_;walk_at"go";show Cd d cg 7 11 _ _ (by ext) rfl rfl ?_;walk_at"go";show Cw d left 9 11 _ _ (by ext) rfl rfl ?_;walk_at"go";show Cw d right 10 11 _ _ (by ext) rfl rfl ?_;have E:gP ws (top.map (jG d)):=CY pt;have H:gP ws (cg.map (jG d)):=CY pb;have A:(top.map (jG d)).length=W:=by simpa using ht
 have xt:(cg.map (jG d)).length=W:=by simpa using hb
 have GH:(left.filter λx=>decide (x∉d)).Pairwise ou:=(E8 V U).sublist List.filter_sublist;have Gq:(right.filter λx=>decide (x∉d)).Pairwise ou:=(E8 Q P).sublist List.filter_sublist;have GD:∀w∈(left.filter λx=>decide (x∉d)),w∈ws:=λw h=>C w (aU.mp h).1
 have I:∀w∈(right.filter λx=>decide (x∉d)),w∈ws:=λw h=>B w (aU.mp h).1
 have GI:(left.filter λx=>decide (x∉d)).length<=8:=aJ (aX _ _) T;have Gr:(right.filter λx=>decide (x∉d)).length<=8:=aJ (aX _ _) O;generalize top.map (jG d)=f at *;generalize cg.map (jG d)=j at *;generalize (left.filter λx=>decide (x∉d))=g at *;generalize (right.filter λx=>decide (x∉d))=right' at *;walk_at"go";show⟨by ext,?_⟩;walk_at"go";show EJ (λds=>∃ss:List Str,ss.Perm ws/\sortedS ss=true/\ds=o9 (ss.map .str)) (λZ h=>?_) ?_
 .walk_at"px";simp only[wz,zK];show⟨by have:=hw.1;ext,λss m t=>?_⟩;walk_at"px";show h _ ⟨ss,m,t,rfl⟩
 rintro _ ⟨ss,m,t,rfl⟩;have Zt:ss.length=8:=by rw[m.length_eq];show hw.1
 have S:ss.Pairwise ou:=E8 t (m.nodup_iff.mpr hw.2);show LH ss D.str (λi n=>∃(wide:List (Str×Int))(a b c:Sl),n=[.fz (D.lst (List.map D.int ns)),.fz (D.int most),.fz (D.int e),.fz (D.lst (List.map D.str ws)),.fz (D.int W),.fz (D.lst (List.map D.int (List.drop 1 ns))),.fz (D.lst (f.map dO)),.fz (D.lst (j.map dO)),.fz (D.int bits),.fz (D.lst (g.map D.str)),.fz (D.lst (right'.map D.str)),.fz (D.lst (d.map D.str)),.ow (wide.map uO),a,b,c,.un,.un]/\List.Sublist (wide.map (·.1)) (ss.take i)/\(∀p∈wide,(p.2=2\/p.2=3)/\1<fQ f j g right' p.1)) ⟨[],_,_,_,rfl,by simp,by simp⟩ ?_ ?_
 .rintro i x n hx ⟨wide,a,b,c,rfl,sub,wo⟩;have hi:i<8:=by have:=(aB.mp hx).1;ext
  have tk:ss.take (i+1)=ss.take i++[x]:=by rw[bz,hx];rfl
  have v:wide.length<=8:=by have:=sub.length_le;simp at this;ext
  walk_at"px";show⟨_,_,rfl,by ext,by ext,?_⟩;generalize tG _ _=one;walk_at"go";have skip:∃(r:List (Str×Int))(N M K:Sl),[Sl.fz (D.lst (List.map D.int ns)),.fz (D.int most),.fz (D.int e),.fz (D.lst (List.map D.str ws)),.fz (D.int W),.fz (D.lst (List.map D.int (List.drop 1 ns))),.fz (D.lst (f.map dO)),.fz (D.lst (j.map dO)),.fz (D.int bits),.fz (D.lst (g.map D.str)),.fz (D.lst (right'.map D.str)),.fz (D.lst (d.map D.str)),.ow (wide.map uO),.fz (D.int i),.fz (D.str x),.fz (D.int one),.un,.un]=[Sl.fz (D.lst (List.map D.int ns)),.fz (D.int most),.fz (D.int e),.fz (D.lst (List.map D.str ws)),.fz (D.int W),.fz (D.lst (List.map D.int (List.drop 1 ns))),.fz (D.lst (f.map dO)),.fz (D.lst (j.map dO)),.fz (D.int bits),.fz (D.lst (g.map D.str)),.fz (D.lst (right'.map D.str)),.fz (D.lst (d.map D.str)),.ow (r.map uO),N,M,K,.un,.un]/\List.Sublist (r.map (·.1)) (ss.take (i+1))/\(∀p∈r,(p.2=2\/p.2=3)/\1<fQ f j g right' p.1):=
   ⟨wide,_,_,_,rfl,by rw[tk];show sub.trans (List.sublist_append_left _ _),wo⟩
  split
  .refine⟨f,j,g,right',x,rfl,by ext,?_⟩;walk_at"px";split
   .rename_i u;have e2:one/4%2=0\/one/4%2=1:=by ext
    show⟨by ext,by simp;ext,wide++[(x,2+one/4%2)],_,_,_,by rw[aI];rfl,?_,λp m=>?_⟩
    .rw[tk,aI];show sub.append (List.Sublist.refl _)
    rcases av.mp m with h | h
    .exact wo p h
    have:p=(x,2+one/4%2):=by simpa using h
    subst this;show⟨by dsimp only;ext,by dsimp only;ext⟩
   show skip
  show skip
 rintro n ⟨wide,a,b,c,rfl,sub,wo⟩;rw[bS] at sub;have v:wide.length<=8:=by have:=sub.length_le;simp at this;ext
 have X:(wide.map (·.1)).Pairwise ou:=S.sublist sub;have ww:∀p∈wide,p.1∈ws/\(p.2=2\/p.2=3)/\1<fQ f j g right' p.1:=λp h=>⟨m.subset (sub.subset (b9 h)),wo p h⟩
 walk_at"go";show⟨by ext,f,j,g,right',ws,ns.drop 1,e,rfl,by ext,by ext,by ext,by ext,hw.1,E,by simp;ext,λcU L=>?_⟩;walk_at"go";show⟨by ext,?_⟩;have fin:∀keeps,nq W keeps->Y (R.ow [dP f,dP j,dS g,dS right',dW wide,dB cU,dK keeps]):=λkeeps s=>q ⟨f,j,g,right',wide,cU,keeps⟩ ⟨by dsimp only;ext,by dsimp only;ext,by dsimp only;ext,E,H,GI,GD,GH,Gr,I,Gq,F,v,X,ww,L,by dsimp only;rw[A];show s⟩ (by show f.length=wF _ _;unfold wF;rw[J,z,A];show(Int.toNat_natCast W).symm)
 walk_at"go";split
 .refine⟨W,ns.drop 1,e,rfl,by ext,by ext,λkeeps s=>?_⟩;walk_at"go";show⟨by ext,fin keeps s⟩
 walk_at"go";show⟨by ext,fin [] ⟨by simp,by simp⟩⟩
def zI:fc:=λds Q=>∃a b c d e f g:List D,ds=[.lst a,.lst b,.lst c,.lst d,.lst e,.lst f,.lst g]/\Q (.fz (.obj "Channel" [("top",.lst a),("bottom",.lst b),("left",.lst c),("right",.lst d),("wide",.lst e),("bends",.lst f),("keeps",.lst g)]))
def CJ:vT:=(oX "top" (eY oY (cy (cf 1) cD)) (oX "bottom" (eY oY (cy (cf 2) cD)) (oX "left" (eY oY (cy (cf 3) cD)) (oX "right" (eY oY (cy (cf 4) cD)) (oX "wide" (eY oY (cy (cf 5) cD)) (oX "bends" (eY oY (cy (cf 6) cD)) (oX "keeps" (eY oY (cy (cf 7) cD)) yP)))))))
theorem UI(ds:List D)(i:R->Prop)(j:List (Str×D)->Prop)(na:∀fs:List (Str×D),fs.map (·.1)=(["top","bottom","left","right","wide","bends","keeps"]:List Str)->j fs)(h:zI ds i) :
  CJ (uj ["self","top","bottom","left","right","wide","bends","keeps"] ds) [] λfs=>j fs/\i (.fz (.obj "Channel" fs)):=by
 obtain⟨a,b,c,d,e,f,g,rfl,q⟩:=h;show CJ [.un,.fz (.lst a),.fz (.lst b),.fz (.lst c),.fz (.lst d),.fz (.lst e),.fz (.lst f),.fz (.lst g)] [] _;unfold CJ;simp only[oX,yP,eY,cy,cD,cf,gt,oY,xZ,vd];show⟨by decide,show 1<1000 by decide,show 2<1000 by decide,show 3<1000 by decide,show 4<1000 by decide,show 5<1000 by decide,show 6<1000 by decide,na _ rfl,q⟩
end Wc
open PySem L2 PyProof.Rows Wc
local macro_rules | `(tactic| walk_at"px")=>`(tactic| (repeat(first | walk_at"b" | simp only[CO,Tq,D8,B8,yX,Jb,xR,xN,OS,PM,B3,BL,IB,pd,uf,Ee,Cs,B2,IU,rT,tH,pU,vE,BX])))
namespace Wc
open PySem L2 PyProof.Rows
inductive En where
 | lf | tp (n:Nat) | bt (n:Nat) | rt
noncomputable def dE:En->D
 | .lf=>.tup [.str "left"]
 | .tp n=>.tup [.str "top",.int n]
 | .bt n=>.tup [.str "bottom",.int n]
 | .rt=>.tup [.str "right"]
noncomputable def rA(c:cS)(w:Str)(n:Nat):List En:=(if c.top[n]?=some (some w) then [.tp n] else [])++(if c.cg[n]?=some (some w) then [.bt n] else [])
noncomputable def rY(c:cS)(w:Str):List En:=(if w∈c.left then [.lf] else [])++(List.range c.top.length).flatMap (rA c w)++(if w∈c.right then [.rt] else [])
theorem Tj(c:cS)(w:Str)(n:Nat):(rA c w n).length<=2:=by unfold rA;split<;>split<;>simp
theorem EE(c:cS)(w:Str)(i:Nat):((List.range i).flatMap (rA c w)).length<=2*i:=by
 induction i with
 | zero=>simp
 | succ i a=>
  rw[List.range_succ,List.flatMap_append,ar];have:=Tj c w i;simp only[List.flatMap_cons,List.flatMap_nil,a9];ext
structure nk(c:cS):Prop where
 w:c.top.length<=40
 b:c.cg.length=c.top.length
 l:c.left.length<=100
 r:c.right.length<=100
def zH:fc:=λds Q=>∃(c:cS)(w:Str),ds=[c.obj,.str w]/\nk c/\Q (.ow ((rY c w).map dE))
def E5:TX:=(cM (kY 2 (gM cD))
 (cM (gi (dA (cA (k9 false) (cf 1) (kd "left" (cf 0)))) (lX 2 (lY (cy (dC (.str "left")) cD))) gG)
 (cM (j8 (n8 (cy (eY lW (cy (kd "top" (cf 0)) cD)) cD)) (c6 3) (cM (gi (dA (cA oEq (cA ec (kd "top" (cf 0)) (cf 3)) (cf 1))) (lX 2 (lY (cy (dC (.str "top")) (cy (cf 3) cD)))) gG)
 (gi (dA (cA oEq (cA ec (kd "bottom" (cf 0)) (cf 3)) (cf 1))) (lX 2 (lY (cy (dC (.str "bottom")) (cy (cf 3) cD)))) gG)))
 (cM (gi (dA (cA (k9 false) (cf 1) (kd "right" (cf 0)))) (lX 2 (lY (cy (dC (.str "right")) cD))) gG)
 (pd 2)))))
theorem UH:jc 2 zH E5 ["channel","name","ends","column"]:=by
 intro ds n hl h;obtain⟨c,w,rfl,d,q⟩:=h;show E5 _ [.fz c.obj,.fz (.str w),.un,.un];unfold E5;have big:=iU;unfold cS.obj;walk_at"px";show⟨by ext,?_⟩;walk_at"go";show⟨_,rfl,?_⟩;unfold dS;walk_at"px";show⟨vj 8 _,?_⟩;have obj:D.obj (Str.ofString "Channel") [(Str.ofString "top",dP c.top),(Str.ofString "bottom",dP c.cg),(Str.ofString "left",D.lst (c.left.map D.str)),(Str.ofString "right",D.lst (c.right.map D.str)),(Str.ofString "wide",dW c.wide),(Str.ofString "bends",dB c.cU),(Str.ofString "keeps",dK c.keeps)]=c.obj:=rfl;rw[obj];have mP:∀k:Sl,rS (cM (j8 (n8 (cy (eY lW (cy (kd "top" (cf 0)) cD)) cD)) (c6 3) (cM (gi (dA (cA oEq (cA ec (kd "top" (cf 0)) (cf 3)) (cf 1))) (lX 2 (lY (cy (dC (.str "top")) (cy (cf 3) cD)))) gG)
 (gi (dA (cA oEq (cA ec (kd "bottom" (cf 0)) (cf 3)) (cf 1))) (lX 2 (lY (cy (dC (.str "bottom")) (cy (cf 3) cD)))) gG)))
 (cM (gi (dA (cA (k9 false) (cf 1) (kd "right" (cf 0)))) (lX 2 (lY (cy (dC (.str "right")) cD))) gG)
 (pd 2))) { nx:=λx=>n (R.fz D.non),rt:=n } [.fz c.obj,.fz (.str w),.ow ((if w∈c.left then [En.lf] else []).map dE),k]:=by
  intro k;walk_at"go";show wM c.top.length (λs h=>?_) (λi g=>∃k:Sl,g=[.fz c.obj,.fz (.str w),.ow (((if w∈c.left then [En.lf] else [])++(List.range i).flatMap (rA c w)).map dE),k]) ⟨k,by simp⟩ ?_ ?_
  .unfold cS.obj;walk_at"px";show⟨_,rfl,?_⟩;unfold dP;walk_at"px";rw[ae];have:=d.w;show⟨by ext,by ext,by simpa using h⟩
  .rintro i g hi ⟨k,rfl⟩;have hle:=EE c w i;have hw:=d.w;have m:∀(b:Prop)[Decidable b],(if b then [En.lf] else []).length<=1:=λb _=>by split<;>simp
   have p:=m (w∈c.left);rw[List.range_succ,List.flatMap_append,<-bp];generalize j:(if w∈c.left then [En.lf] else [])++(List.range i).flatMap (rA c w)=acc;have r:acc.length<=1000:=by rw[<-j,ar];ext
   simp only[List.flatMap_cons,List.flatMap_nil,a9];have o:i<c.cg.length:=by rw[d.b];show hi
   unfold cS.obj;walk_at"px";show⟨_,rfl,?_⟩;unfold dP;walk_at"px";show⟨_,nM hi,?_⟩;unfold rA;rw[ah hi,ah o];simp only[aZ];split
   focus show⟨by ext,by simp;ext,?_⟩
   all_goals
    walk_at"go";show⟨_,rfl,?_⟩;walk_at"px";show⟨_,nM o,?_⟩;split
   .exact⟨by ext,by simp;ext,_,by simp[dE];rfl⟩
   .exact⟨_,by simp[dE];rfl⟩
   .exact⟨by ext,by simp;ext,_,by simp[dE];rfl⟩
   show⟨_,by simp;rfl⟩
  rintro g ⟨k,rfl⟩;have hle:=EE c w c.top.length;have hw:=d.w;have m:∀(b:Prop)[Decidable b],(if b then [En.lf] else []).length<=1:=λb _=>by split<;>simp
  have p:=m (w∈c.left);unfold rY at q;generalize j:(if w∈c.left then [En.lf] else [])++(List.range c.top.length).flatMap (rA c w)=acc at q ⊢;have r:acc.length<=1000:=by rw[<-j,ar];ext
  unfold cS.obj;walk_at"go";show⟨_,rfl,?_⟩;unfold dS;walk_at"px";show⟨vj 8 _,?_⟩;by_cases e:w∈c.right
  .rw[if_pos e];rw[if_pos e,aI] at q;show⟨by ext,by simp;ext,?_⟩;walk_at"go";show q
  rw[if_neg e];rw[if_neg e,a9] at q;walk_at"go";show q
 by_cases f:w∈c.left
 .rw[if_pos f];show⟨by ext,by ext,?_⟩;have:=mP .un;rw[if_pos f] at this;show this
 rw[if_neg f];have:=mP .un;rw[if_neg f] at this;show this
noncomputable def rg(c:cS):En->Int
 | .lf=>-1
 | .tp n=>n
 | .bt n=>n
 | .rt=>c.top.length
def Af:fc:=λds Q=>∃(c:cS)(e:En),ds=[c.obj,dE e]/\Q (.fz (.int (rg c e)))
def FV:TX:=(cM (gi (dA (cA oEq (cA ec (cf 1) (dC (.int 0))) (dC (.str "left")))) (fV (pU (dC (.int 1)))) gG)
 (cM (gi (dA (cA oEq (cA ec (cf 1) (dC (.int 0))) (dC (.str "right")))) (fV (eY lW (cy (kd "top" (cf 0)) cD))) gG)
 (fV (cA ec (cf 1) (dC (.int 1))))))
theorem V3:jc 2 Af FV ["channel","end"]:=by
 intro ds b hl h;obtain⟨c,e,rfl,q⟩:=h;show FV _ [.fz c.obj,.fz (dE e)];unfold FV;have n1:¬(Str.ofString "top"=Str.ofString "left"):=by decide +kernel
 have n2:¬(Str.ofString "bottom"=Str.ofString "left"):=by decide +kernel
 have n3:¬(Str.ofString "right"=Str.ofString "left"):=by decide +kernel
 have n4:¬(Str.ofString "top"=Str.ofString "right"):=by decide +kernel
 have n5:¬(Str.ofString "bottom"=Str.ofString "right"):=by decide +kernel
 cases e with
 | lf=>
  unfold dE;walk_at"px";show⟨_,rfl,?_⟩;walk_at"px";show q
 | tp n=>
  unfold dE;walk_at"px";show⟨_,rfl,?_⟩;walk_at"px";rw[if_neg n1];walk_at"go";show⟨_,rfl,?_⟩;walk_at"px";rw[if_neg n4];walk_at"go";show⟨_,rfl,q⟩
 | bt n=>
  unfold dE;walk_at"px";show⟨_,rfl,?_⟩;walk_at"px";rw[if_neg n2];walk_at"go";show⟨_,rfl,?_⟩;walk_at"px";rw[if_neg n5];walk_at"go";show⟨_,rfl,q⟩
 | rt=>
  unfold dE;walk_at"px";show⟨_,rfl,?_⟩;walk_at"px";rw[if_neg n3];walk_at"go";show⟨_,rfl,?_⟩;walk_at"px";unfold cS.obj;walk_at"px";show⟨_,rfl,?_⟩;unfold dP;walk_at"px";rw[ae];show q
noncomputable def pl(c:cS)(w:Str):List Int:=
 (if w∈c.left then [-1] else [])++(((List.range c.top.length).filter λn=>c.top[n]?==some (some w)||c.cg[n]?==some (some w)).map λ(n:Nat)=>(n:Int))++(if w∈c.right then [(c.top.length:Int)] else [])
theorem BO(c:cS)(w:Str):(pl c w).Pairwise (·<·):=by
 unfold pl;have d:∀x∈(((List.range c.top.length).filter λn=>c.top[n]?==some (some w)||c.cg[n]?==some (some w)).map λ(n:Nat)=>(n:Int)),0<=x/\x<c.top.length:=by
  intro x hx;rw[aR] at hx;obtain⟨n,hn,rfl⟩:=hx;rw[aU,bH] at hn;ext
 have e:(((List.range c.top.length).filter λn=>c.top[n]?==some (some w)||c.cg[n]?==some (some w)).map λ(n:Nat)=>(n:Int)).Pairwise (·<·):=by
  rw[List.pairwise_map];show List.Pairwise.imp ?_ (List.Pairwise.filter _ List.pairwise_lt_range);intro a b h;ext
 generalize (((List.range c.top.length).filter λn=>c.top[n]?==some (some w)||c.cg[n]?==some (some w)).map λ(n:Nat)=>(n:Int))=mid at d e;rw[ba,ba];show⟨⟨by split<;>simp,e,λa ha b hb=>?_⟩,by split<;>simp,λa ha b hb=>?_⟩
 .split at ha
  .have:=d b hb;simp at ha;ext
  cases ha
 split at hb
 .rcases av.mp ha with ha | ha
  .split at ha
   .simp at ha hb;ext
   cases ha
  have:=d a ha;simp at hb;ext
 cases hb
theorem RM(c:cS)(w:Str)(k:Int):k∈(rY c w).map (rg c)↔k∈pl c w:=by
 unfold rY pl;simp only[aI,av];have d:k∈(if w∈c.left then [En.lf] else []).map (rg c)↔k∈(if w∈c.left then [(-1:Int)] else []):=by split<;>simp[rg]
 have a:k∈(if w∈c.right then [En.rt] else []).map (rg c)↔k∈(if w∈c.right then [(c.top.length:Int)] else []):=by split<;>simp[rg]
 rw[d,a];have b:k∈((List.range c.top.length).flatMap (rA c w)).map (rg c)↔k∈(((List.range c.top.length).filter λn=>c.top[n]?==some (some w)||c.cg[n]?==some (some w)).map λ(n:Nat)=>(n:Int)):=by
  simp only[aR,List.mem_flatMap,bH,aU,Bool.or_eq_true,beq_iff_eq];constructor
  .rintro⟨e,⟨n,hn,he⟩,rfl⟩;unfold rA at he;rcases av.mp he with h | h
   .split at h
    .rename_i ht;simp at h;subst h;show⟨n,⟨hn,.inl ht⟩,rfl⟩
    cases h
   split at h
   .rename_i hb;simp at h;subst h;show⟨n,⟨hn,.inr hb⟩,rfl⟩
   cases h
  rintro⟨n,⟨hn,ht | hb⟩,rfl⟩
  .exact⟨.tp n,⟨n,hn,by simp[rA,ht]⟩,rfl⟩
  show⟨.bt n,⟨n,hn,by simp[rA,hb]⟩,rfl⟩
 rw[b]
noncomputable def yU:List Int->D
 | []=>.non
 | a::r=>if a=(a::r).getLast (by simp) then .non else .tup [.int a,.int ((a::r).getLast (by simp))]
def zZ:fc:=λds Q=>∃(c:cS)(w:Str),ds=[c.obj,.str w]/\nk c/\Q (.fz (yU (pl c w)))
def FD:TX:=(cM (eE 2 (gh (hV (fO 2 zH (cy (cf 0) (cy (cf 1) cD)))) [none,some 0] (c6 0) jJ (fO 2 Af (cy (cf 1) (cy (cf 0) cD)))))
 (cM (gi (dA (cA (jx λi j=>.bl (decide (i<j))) (eY vh (cy (cf 2) cD)) (dC (.int 2)))) (fV (dC .non)) gG)
 (fV (lY (cy (eY tH (cy (cf 2) cD)) (cy (eY rT (cy (cf 2) cD)) cD))))))
theorem zk{a:Int}{r:List Int}(h:(a::r).Pairwise (·<·)):∀x∈a::r,x<=(a::r).getLast (by simp):=by
 induction r generalizing a with
 | nil=>intro x hx;simp at hx;simp[hx]
 | cons b r c=>
  intro x hx;rw[bN] at h;rw[List.getLast_cons (by simp)];rcases ao.mp hx with rfl | hx
  .have:=h.1 b (by simp);have:=c h.2 b (by simp);ext
  show c h.2 x hx
theorem Vz:jc 2 zZ FD ["channel","name","columns"]:=by
 intro ds E hl h;obtain⟨c,w,rfl,i,q⟩:=h;show FD _ [.fz c.obj,.fz (.str w),.un];unfold FD;have big:=iU;walk_at"px";have I:(rY c w).length<=2*c.top.length+2:=by
  unfold rY;simp only[ar];have:=EE c w c.top.length;have a:∀(b:Prop)[Decidable b](x:En),(if b then [x] else []).length<=1:=λb _ x=>by split<;>simp
  have a1:=a (w∈c.left) .lf;have a2:=a (w∈c.right) .rt;ext
 have hw:=i.w;show nN (rY c w) dE (λe=>.int (rg c e)) (λF h=>?_) (by ext) (λe he H k=>?_) ?_
 .walk_at"px";show⟨c,w,rfl,i,h⟩
 .walk_at"px";show⟨c,e,rfl,k⟩
 have y:(rY c w).map (λe=>D.int (rg c e))=((rY c w).map (rg c)).map D.int:=by simp
 rw[y];have hm:=RM c w;have d:=BO c w;have g:(pl c w).Nodup:=d.imp λh=>by ext
 have o:((rY c w).map (rg c)).length<=1000:=by rw[ae];ext
 generalize (rY c w).map (rg c)=cols at hm o ⊢;generalize pl c w=p at hm d g q ⊢;walk_at"go";simp only[vh,vp];show⟨by ext,λl ln lm=>?_⟩;have u:l.Perm p:=(List.perm_ext_iff_of_nodup ln g).mpr λk=>by rw[lm,hm]
 have hlen:=u.length_eq;walk_at"px";match p,d,hm,hlen,q with
 | [],_,_,hlen,q=>
  rw[if_pos (by rw[hlen];decide)];show q
 | [a],_,_,hlen,q=>
  rw[if_pos (by rw[hlen];simp)];simpa[yU] using q
 | a::b::r,d,hm,hlen,q=>
  rw[if_neg (by rw[hlen];simp only[aH];ext)];walk_at"go";try simp only[tH,rT,vp]
  have n:cols≠[]:=λz=>by have:=(hm a).mpr (by simp);rw[z] at this;cases this
  show⟨n,λm s t=>⟨n,λM A B=>⟨by ext,?_⟩⟩⟩;have em:m=a:=by
   have j:=t a ((hm a).mpr (by simp));have f:=(hm m).mp s;rcases ao.mp f with h | h
   .exact h
   have:=(bN.mp d).1 m h;ext
  have v:M=(a::b::r).getLast (by simp):=by
   have j:=B _ ((hm _).mpr (List.getLast_mem (by simp:a::b::r≠[])));have f:=zk d M ((hm M).mp A);ext
  have C:a<(a::b::r).getLast (by simp):=by
   have j:=(bN.mp d).1 b (by simp);have f:=zk d b (by simp);ext
  subst em v;simp only[yU] at q;rw[if_neg (by ext)] at q;show q
def m9(c:cS)(w:Str):Prop:=some w∈c.top\/some w∈c.cg\/w∈c.left\/w∈c.right
def wK:fc:=λds Q=>∃(c:cS)(ws:List Str),ds=[c.obj]/\nk c/\ws.length<=40/\(∀w,m9 c w->w∈ws)/\∀l:List Str,l.Nodup->(∀w,w∈l↔m9 c w)->sortedS l=true->Q (.ow (l.map D.str))
def EZ:TX:=(cM (eE 1 (gh (hV (cA fw (kd "top" (cf 0)) (kd "bottom" (cf 0)))) [none] (c6 0) (dA (cA (nG true) (cf 0) (dC .non))) (cf 0)))
 (fV (eY yi (cy (cA fw (cA fw (cf 1) (kd "left" (cf 0))) (kd "right" (cf 0))) cD))))
theorem zr{l ws:List Str}(nd:l.Nodup)(h:∀w∈l,w∈ws):l.length<=ws.length:=by
 induction l generalizing ws with
 | nil=>simp
 | cons a r b=>
  rw[bQ] at nd;have ha:a∈ws:=h a (by simp);have:=b (ws:=ws.erase a) nd.2 λw hw=>(List.mem_erase_of_ne λ(z:w=a)=>nd.1 (z▸hw)).mpr (h w (by simp[hw]))
  rw[List.length_erase_of_mem ha] at this;have c:0<ws.length:=List.length_pos_of_mem ha;simp only[aH];ext
theorem UG:jc 1 wK EZ ["channel","pins"]:=by
 intro ds o hl h;obtain⟨c,ws,rfl,d,m,hm,q⟩:=h;show EZ _ [.fz c.obj,.un];unfold EZ cS.obj;have big:=iU;have hw:=d.w;have hb:=d.b;walk_at"px";show qC (c.top++c.cg) dO dO (λx=>x.isSome) (λp h=>?_) (by simp;ext) (λx hx s t k1 k0=>?_) ?_
 .walk_at"px";show⟨_,rfl,_,rfl,?_⟩;unfold dP;walk_at"px";show⟨by simp;ext,?_⟩;rw[aI] at h;show h
 .walk_at"px";cases x with
  | none=>show k0 rfl
  | some x=>show k1 rfl
 rw[KJ];have i:((c.top++c.cg).filterMap id).length<=100:=by
  show aJ (List.length_filterMap_le _ _) ?_;simp;ext
 have e:∀w,w∈(c.top++c.cg).filterMap id↔some w∈c.top\/some w∈c.cg:=by
  intro w;simp[List.mem_filterMap]
 generalize (c.top++c.cg).filterMap id=j at i e ⊢;walk_at"go";show⟨_,rfl,?_⟩;unfold dS;walk_at"px";have u:=d.l;have n:=d.r;show⟨by simp;ext,_,rfl,?_⟩;walk_at"px";show⟨by simp;ext,?_⟩;rw[<-aI,<-aI];simp only[yi,zK];have f:∀w,w∈j++c.left++c.right↔m9 c w:=by
  intro w;simp only[av,e,m9];constructor
  .rintro(((h | h) | h) | h)
   .exact .inl h
   .exact .inr (.inl h)
   .exact .inr (.inr (.inl h))
   show .inr (.inr (.inr h))
  rintro(h | h | h | h)
  .exact .inl (.inl (.inl h))
  .exact .inl (.inl (.inr h))
  .exact .inl (.inr h)
  show .inr h
 show⟨by simp;ext,λl nd h=>?_,λl nd h g=>q l nd (λw=>by rw[h,f]) g⟩;have:=zr nd λw hw=>hm w ((f w).mp (h w hw))
 ext
noncomputable def pV:List (Str×Int)->Str->Int
 | [],_=>1
 | p::r,w=>if p.1=w then p.2 else pV r w
def yq:fc:=λds Q=>∃(c:cS)(w:Str),ds=[c.obj,.str w]/\Q (.fz (.int (pV c.wide w)))
def Fq:TX:=(cM (j8 (hV (kd "wide" (cf 0))) (j9 2 (eJ (c6 2) (eJ (c6 3) ja))) (gi (dA (cA oEq (cf 2) (cf 1))) (fV (cf 3)) gG))
 (fV (dC (.int 1))))
theorem U4:jc 2 yq Fq ["channel","name","wide_name","width"]:=by
 intro ds f hl h;obtain⟨c,w,rfl,q⟩:=h;show Fq _ [.fz c.obj,.fz (.str w),.un,.un];unfold Fq;walk_at"px";show um c.wide uO (λg h=>?_) (λi d=>∃a b:Sl,d=[.fz c.obj,.fz (.str w),a,b]/\pV c.wide w=pV (c.wide.drop i) w) ⟨_,_,rfl,rfl⟩ ?_ ?_
 .unfold cS.obj;walk_at"px";show⟨_,rfl,h⟩
 .rintro i x d hx ⟨a,b,rfl,hd⟩;obtain⟨hi,e⟩:=aB.mp hx;rw[bG hi,e] at hd;unfold uO;walk_at"px";by_cases hw:x.1=w
  .rw[if_pos hw];simp only[pV,if_pos hw] at hd;rw[hd] at q;show q
  rw[if_neg hw];simp only[pV,if_neg hw] at hd;show⟨_,_,rfl,hd⟩
 rintro d ⟨a,b,rfl,hd⟩;rw[List.drop_length] at hd;simp only[pV] at hd;rw[hd] at q;walk_at"go";show q
structure Pc where
 n:Option Str
 l:Int
 r:Int
 k:Int
 deriving DecidableEq
noncomputable def jg(p:Pc):D:=.tup [dO p.n,.int p.l,.int p.r,.int p.k]
noncomputable def iL(ps:List Pc):D:=.lst (ps.map jg)
noncomputable def dJ:Option Int->D
 | none=>.non
 | some i=>.int i
noncomputable def BD(p:Pc)(c:Int):Bool:=decide (p.l<=c)&&decide (c<=p.r)
noncomputable def yT(p q:Pc):Option Int:=
 if (if q.l>p.l then q.l else p.l)>(if q.r<p.r then q.r else p.r) then none else some (if q.l>p.l then q.l else p.l)
def Ae:fc:=λds Q=>∃p q:Pc,ds=[jg p,jg q]/\Q (.fz (dJ (yT p q)))
def FU:TX:=(cM (eE 2 (eY rT (cy (cA ec (cf 0) (dC (.int 1))) (cy (cA ec (cf 1) (dC (.int 1))) cD))))
 (cM (gi (dA (cA (jx λi j=>.bl (decide (j<i))) (cf 2) (eY tH (cy (cA ec (cf 0) (dC (.int 2))) (cy (cA ec (cf 1) (dC (.int 2))) cD))))) (fV (dC .non)) gG)
 (fV (cf 2))))
theorem V2:jc 2 Ae FU ["one","other","column"]:=by
 intro ds d hl h;obtain⟨p,q,rfl,Q⟩:=h;show FU _ [.fz (jg p),.fz (jg q),.un];unfold FU jg;walk_at"px";show⟨_,rfl,_,rfl,?_⟩;simp only[rT,xZ,IW];walk_at"go";show⟨_,rfl,_,rfl,?_⟩;try unfold tH
 walk_at"px";unfold yT at Q;generalize (if q.l>p.l then q.l else p.l)=a at Q ⊢;generalize (if q.r<p.r then q.r else p.r)=b at Q ⊢;by_cases h:b<a
 .rw[if_pos h] at Q;rw[if_pos h];show Q
 rw[if_neg h] at Q;rw[if_neg h];walk_at"go";show Q
theorem KY{b:Type}(f:b->List Int):∀L:List b,nH (L.map λa=>D.tup ((f a).map D.int))=some (L.map f)
 | []=>rfl
 | a::L=>by
  rw[az,az];unfold nH;rw[vp,KY f L]
noncomputable def oK(ps:List Pc)(n:Option Str)(c:Int):List Nat:=(ps.zipIdx.filter λp=>decide (p.1.n=n)&&BD p.1 c).map (·.2)
def yr:fc:=λds Q=>∃(ps:List Pc)(n:Option Str)(c:Int),ds=[iL ps,dO n,.int c]/\ps.length<=100000/\Q (.ow ((oK ps n c).map dN))
def FT:TX:=(fV (gh (ug (cy (cf 0) cD)) [none,none,some 1,some 2] (j9 2 (eJ (c6 0) (eJ (c6 1) ja))) (rm (dA (cA oEq (cA ec (cf 1) (dC (.int 0))) (cf 2))) (dA (x9 (jx λi j=>.bl (decide (i<=j))) (jx λi j=>.bl (decide (i<=j))) (cA ec (cf 1) (dC (.int 1))) (cf 3) (cA ec (cf 1) (dC (.int 2)))))) (cf 0)))
theorem V1:jc 3 yr FT ["pieces","name","column"]:=by
 intro ds g hl h;obtain⟨ps,n,c,rfl,hn,q⟩:=h;show FT _ [.fz (iL ps),.fz (dO n),.fz (.int c)];unfold FT iL;have big:=iU;walk_at"px";show qC ps.zipIdx (λp=>.tup [.int (p.2:Nat),jg p.1]) (λp=>dN p.2) (λp=>decide (p.1.n=n)&&BD p.1 c) (λi h=>?_) (by simp;ext) (λp f j m k1 k0=>?_) ?_
 .walk_at"px";rw[KN];show h
 .unfold jg;walk_at"px";show⟨_,rfl,?_⟩;walk_at"px";unfold BD at k1 k0;by_cases b:p.1.n=n
  .rw[if_pos b];show⟨_,rfl,?_⟩;walk_at"px";by_cases d:p.1.l<=c
   .rw[if_pos d];show⟨_,rfl,?_⟩;walk_at"px";by_cases e:c<=p.1.r
    .rw[if_pos e];show k1 (by simp[b,d,e])
    rw[if_neg e];show k0 (by simp[b,d,e])
   rw[if_neg d];show k0 (by simp[b,d])
  rw[if_neg b];show k0 (by simp[b])
 unfold oK at q;rw[aS] at q;show q
theorem Sb{b:Type}{e:mj}{m:List (Option Nat)}{g:jI}{te:TD}{a:Ev}{Q:R->Prop}(L:List b)(c:b->D)(f:b->List D)(hw:∀j:List D->Prop,j (L.map c)->e a j)(n:L.length<=sizeLine)
  (h:∀x∈L,∀(k:List D->Prop),k (f x)->g (c x) (ij m a) λl=>te l λr=>match r with | .ow es=>k es | _=>False) (q:Q (.ov (.ll (L.map f)))):zb e m g jJ te a Q:=by
 unfold zb;show hw _ ⟨λi acc=>acc=(L.take i).map f,by simp,λi d acc hd ha=>?_,λacc ha=>?_⟩
 .subst ha;rw[aG] at hd;cases hx:L[i]? with
  | none=>rw[hx] at hd;cases hd
  | some x=>
   rw[hx] at hd;cases hd;have o:i<L.length:=(aB.mp hx).1;have:=h x (aM hx) (λes=>((L.take i).map f).length<sizeLine/\(L.take i).map f++[es]=(L.take (i+1)).map f) ⟨by simp;ext,by rw[bz,hx];simp⟩;show this
 subst ha;simpa using q
noncomputable abbrev Tr:=Nat×Nat×Int
noncomputable def dT(t:Tr):D:=.tup [.int t.1,.int t.2.1,.int t.2.2]
noncomputable def oG(ts:List Tr):D:=.lst (ts.map dT)
def DV(n:Nat)(ts:List Tr):Prop:=∀t∈ts,t.1<n/\t.2.1<n
noncomputable def keys(kv:List (Nat×Int)):List Nat:=kv.map (·.1)
theorem JE{n k:Nat}(h:k<n):qK n (k:Int)=some k:=by
 unfold qK;rw[if_pos (by ext),if_pos (by ext)];simp
theorem Sa{a:Type}(n:Nat)(f:Nat->a)(u:Nat)(v:a):((List.range n).map f).set u v=(List.range n).map λx=>if x=u then v else f x:=by
 apply List.ext_getElem?;intro i;rw[List.getElem?_set,aG,aG];by_cases hi:i<n
 .rw[List.getElem?_range hi];by_cases h:u=i
  .subst h;simp[hi]
  rw[if_neg h];simp[Ne.symm h]
 rw[List.getElem?_eq_none (by simpa using hi)];simp only[Option.map_none,ae,bU];split
 .rename_i h;rw[if_neg (by ext)]
 rfl
theorem RL{a:Type}{n:Nat}(f:Nat->a){u:Nat}(h:u<n):((List.range n).map f)[u]?=some (f u):=by rw[aG,List.getElem?_range h];rfl
theorem R9{a:Type}{n:Nat}(f:Nat->a){u:Nat}(h:u<n):fN ((List.range n).map f) (u:Int)=some (f u):=by
 rw[Cq,nM (by simpa using h)];simp
noncomputable def tF:List Int->Option (Int×Int)
 | []=>none
 | a::r=>if a=(a::r).getLast (by simp) then none else some (a,(a::r).getLast (by simp))
theorem PU(p:List Int):yU p=match tF p with | none=>.non | some q=>.tup [.int q.1,.int q.2]:=by
 cases p with
 | nil=>rfl
 | cons a r=>
  simp only[yU,tF];by_cases h:a=(a::r).getLast (by simp)
  .rw[if_pos h,if_pos h]
  rw[if_neg h,if_neg h]
noncomputable def pf(c:cS)(w:Str):List Int:=(c.cU.filter λp=>decide (p.2=w)).map (·.1)
def zS:fc:=λds Q=>∃(c:cS)(w:Str),ds=[c.obj,.str w]/\c.cU.length<=100/\Q (.ow ((pf c w).map D.int))
def F2:TX:=(fV (gh (hV (kd "bends" (cf 0))) [none,none,some 1] (j9 2 (eJ (c6 0) (eJ (c6 1) ja))) (dA (cA oEq (cf 1) (cf 2))) (cf 0)))
theorem WJ:jc 2 zS F2 ["channel","name"]:=by
 intro ds e hl h;obtain⟨c,w,rfl,hb,q⟩:=h;show F2 _ [.fz c.obj,.fz (.str w)];unfold F2;have big:=iU;walk_at"px";show qC c.cU t8 (λp=>.int p.1) (λp=>decide (p.2=w)) (λf h=>?_) (by ext) (λp d g i k1 k0=>?_) ?_
 .unfold cS.obj;walk_at"px";show⟨_,rfl,h⟩
 .unfold t8;walk_at"px";by_cases b:p.2=w
  .rw[if_pos b];show k1 (by simpa using b)
  rw[if_neg b];show k0 (by simpa using b)
 unfold pf at q;rw[aS] at q;show q
noncomputable def ud(w:Str)(k:Int)(bs:List Int):List Pc:=(bs.zip (bs.drop 1)).map λp=>⟨some w,p.1,p.2,k⟩
noncomputable def tE(c:cS)(cL:Bool)(w:Str):List Pc:=match tF (pl c w) with
 | none=>[]
 | some p=>ud w (pV c.wide w) ([p.1]++(if cL then pf c w else [])++[p.2])
def wJ:fc:=λds Q=>∃(c:cS)(w:Str)(cL:Bool),ds=[c.obj,.str w,.bl cL]/\nk c/\c.cU.length<=100/\Q (.ow ((tE c cL w).map jg))
def FC:TX:=(cM (eE 3 (fO 2 zZ (cy (cf 0) (cy (cf 1) cD))))
 (cM (gi (dA (cA (nG false) (cf 3) (dC .non))) (fV (gM cD)) gG)
 (cM (eE 4 (uQ (dA (cf 2)) (fO 2 zS (cy (cf 0) (cy (cf 1) cD))) (gM cD)))
 (cM (eE 5 (cA fw (cA fw (gM (cy (cA ec (cf 3) (dC (.int 0))) cD)) (cf 4)) (gM (cy (cA ec (cf 3) (dC (.int 1))) cD))))
 (cM (eE 6 (fO 2 yq (cy (cf 0) (cy (cf 1) cD))))
 (fV (gh (xR (cy (cf 5) (cy (mF (cf 5) (lh (dC (.int 1))) m7) cD))) [none,none,some 1,some 6] (j9 2 (eJ (c6 0) (eJ (c6 1) ja))) jJ (lY (cy (cf 2) (cy (cf 0) (cy (cf 1) (cy (cf 3) cD))))))))))))
theorem Vy:jc 3 wJ FC ["channel","name","bent","stretch","cuts","borders","width"]:=by
 intro ds b hl h;obtain⟨c,w,cL,rfl,e,hb,q⟩:=h;show FC _ [.fz c.obj,.fz (.str w),.fz (.bl cL),.un,.un,.un,.un];unfold FC;have big:=iU;walk_at"px";show⟨c,w,rfl,e,?_⟩;rw[PU];unfold tE at q;generalize tF (pl c w)=st at q ⊢;cases st with
 | none=>
  walk_at"go";show⟨by ext,q⟩
 | some p=>
  walk_at"go";have d:(if cL then pf c w else []).length<=100:=by
   split
   .unfold pf;rw[ae];show aJ (aX _ _) hb
   simp
  have fin:∀cs:List Int,cs=(if cL then pf c w else [])->rS (cM (eE 5 (cA fw (cA fw (gM (cy (cA ec (cf 3) (dC (.int 0))) cD)) (cf 4)) (gM (cy (cA ec (cf 3) (dC (.int 1))) cD))))
 (cM (eE 6 (fO 2 yq (cy (cf 0) (cy (cf 1) cD))))
 (fV (gh (xR (cy (cf 5) (cy (mF (cf 5) (lh (dC (.int 1))) m7) cD))) [none,none,some 1,some 6] (j9 2 (eJ (c6 0) (eJ (c6 1) ja))) jJ (lY (cy (cf 2) (cy (cf 0) (cy (cf 1) (cy (cf 3) cD))))))))) { nx:=λ_=>b (.fz .non),rt:=b } [.fz c.obj,.fz (.str w),.fz (.bl cL),.fz (.tup [.int p.1,.int p.2]),.fz (.lst (cs.map D.int)),.un,.un]:=by
   intro cs i;rw[<-i] at q d;walk_at"go";show⟨.int p.1,rfl,by ext,by simp;ext,.int p.2,rfl,by ext,by simp;ext,?_⟩;walk_at"go";show⟨c,w,rfl,?_⟩;walk_at"go";have f:(D.int p.1::(List.map D.int cs++[D.int p.2]))=([p.1]++cs++[p.2]).map D.int:=by simp
   simp only[f];have g:([p.1]++cs++[p.2]).length<=102:=by simp;ext
   dsimp only at q;generalize [p.1]++cs++[p.2]=bs at q g ⊢;show nN (bs.zip (bs.drop 1)) (λp=>.tup [.int p.1,.int p.2]) (λp=>jg ⟨some w,p.1,p.2,pV c.wide w⟩) (λm h=>?_) (by simp;ext) (λx hx n k=>?_) ?_
   .walk_at"px";rw[Fb _ (by decide)];have j:Int.toNat 1=1:=rfl;rw[EH];show h
   .walk_at"px";show⟨by ext,k⟩
   unfold ud at q;rw[aS] at q;show q
  cases cL with
  | true=>
   walk_at"go";show⟨c,w,rfl,hb,?_⟩;show fin _ rfl
  | false=>
   walk_at"go";show⟨by ext,fin [] rfl⟩
structure xH(c:cS)(l:List Str):Prop where
 nd:l.Nodup
 mem:∀w,w∈l↔m9 c w
 Ge:sortedS l=true
noncomputable def wq(c:cS):List Pc:=c.keeps.map λk=>⟨none,k.1,k.2.1,k.2.2⟩
noncomputable def dh(c:cS)(cL:Bool)(l:List Str):List Pc:=wq c++l.flatMap (tE c cL)
theorem ED(c:cS)(cL:Bool)(w:Str):(tE c cL w).length<=c.cU.length+1:=by
 unfold tE;split
 .simp
 unfold ud;have:(pf c w).length<=c.cU.length:=by unfold pf;rw[ae];show aX _ _
 have:(if cL then pf c w else []).length<=c.cU.length:=by split<;>simp[*]
 simp;ext
theorem KI{b c:Type}(f:b->List c)(k:Nat)(h:∀a,(f a).length<=k):∀l:List b,(l.flatMap f).length<=l.length*k:=by
 intro l;induction l with
 | nil=>simp
 | cons a r d=>
  rw[List.flatMap_cons,ar,aH,Nat.succ_mul];have:=h a;ext
def Ad:fc:=λds Q=>∃(c:cS)(cL:Bool)(ws:List Str),ds=[c.obj,.bl cL]/\nk c/\c.cU.length<=100/\c.keeps.length<=100/\ws.length<=40/\(∀w,m9 c w->w∈ws)/\∀l,xH c l->Q (.ow ((dh c cL l).map jg))
def CW:TX:=(cM (kY 2 (gh (hV (kd "keeps" (cf 0))) [none,none,none] (j9 3 (eJ (c6 0) (eJ (c6 1) (eJ (c6 2) ja)))) jJ (lY (cy (dC .non) (cy (cf 0) (cy (cf 1) (cy (cf 2) cD)))))))
 (cM (j8 (hV (fO 1 wK (cy (cf 0) cD))) (c6 3) (xN 2 (fO 3 wJ (cy (cf 0) (cy (cf 3) (cy (cf 1) cD))))))
 (pd 2)))
theorem V0:jc 2 Ad CW ["channel","bent","pieces","name"]:=by
 intro ds s hl h;obtain⟨c,cL,ws,rfl,e,hb,g,f,hm,q⟩:=h;show CW _ [.fz c.obj,.fz (.bl cL),.un,.un];unfold CW;have big:=iU;walk_at"px";show nN c.keeps Bo (λk=>jg ⟨none,k.1,k.2.1,k.2.2⟩) (λm h=>?_) (by ext) (λx hx u k=>?_) ?_
 .unfold cS.obj;walk_at"px";show⟨_,rfl,h⟩
 .unfold Bo;walk_at"px";show⟨by ext,k⟩
 have j:c.keeps.map (λk=>jg ⟨none,k.1,k.2.1,k.2.2⟩)=(wq c).map jg:=by unfold wq;rw[aS];rfl
 rw[j];walk_at"go";show EJ (λds=>∃l,xH c l/\ds=l.map D.str) (λm h=>?_) ?_
 .walk_at"px";show⟨c,ws,rfl,e,f,hm,λl nd mem Ge=>h _ ⟨l,⟨nd,mem,Ge⟩,rfl⟩⟩
 rintro _ ⟨l,d,rfl⟩;have t:l.length<=40:=aJ (zr d.nd λw hw=>hm w ((d.mem w).mp hw)) f;show To l D.str (λi b=>∃a:Sl,b=[.fz c.obj,.fz (.bl cL),.ow ((wq c++(l.take i).flatMap (tE c cL)).map jg),a]) ⟨.un,by simp⟩ ?_ ?_
 .rintro i x b hx ⟨a,rfl⟩;walk_at"px";show⟨c,x,cL,rfl,e,hb,?_⟩;have r:=KI (tE c cL) 101 (λw=>by have:=ED c cL w;ext) (l.take i);have p:=ED c cL x;have o:(wq c).length<=100:=by unfold wq;rw[ae];show g
  have n:(l.take i).length<=40:=by rw[aL];ext
  show⟨by simp only[ar,ae];ext,.fz (.str x),?_⟩;rw[bz,hx];simp[List.flatMap_append]
 rintro b ⟨a,rfl⟩;walk_at"go";rw[bS];show q l d
noncomputable def u7(p:Pc)(ps:List Pc):List (Nat×Option Int):=(ps.zipIdx.filter λq=>q.1.n.isSome).map λq=>(q.2,yT p q.1)
noncomputable def wa(p:Pc)(ps:List Pc):List (Nat×Int):=(u7 p ps).filterMap λx=>x.2.map λc=>(x.1,c)
def zR:fc:=λds Q=>∃(p:Pc)(ps:List Pc),ds=[jg p,iL ps]/\ps.length<=1000/\Q (.ow ((wa p ps).map λx=>.tup [dN x.1,.int x.2]))
def F1:TX:=(cM (eE 2 (gh (ug (cy (cf 1) cD)) [none,none,some 0] (j9 2 (eJ (c6 0) (eJ (c6 1) ja))) (dA (cA (nG true) (cA ec (cf 1) (dC (.int 0))) (dC .non))) (lY (cy (cf 0) (cy (fO 2 Ae (cy (cf 2) (cy (cf 1) cD))) cD)))))
 (fV (gh (hV (cf 2)) [none,none] (j9 2 (eJ (c6 0) (eJ (c6 1) ja))) (dA (cA (nG true) (cf 1) (dC .non))) (lY (cy (cf 0) (cy (cf 1) cD))))))
theorem WI:jc 2 zR F1 ["keep","pieces","commons"]:=by
 intro ds s hl h;obtain⟨p,ps,rfl,hn,q⟩:=h;show F1 _ [.fz (jg p),.fz (iL ps),.un];unfold F1;have big:=iU;walk_at"px";show qC ps.zipIdx (λp=>.tup [.int (p.2:Nat),jg p.1]) (λq=>.tup [dN q.2,dJ (yT p q.1)]) (λq=>q.1.n.isSome) (λj h=>?_) (by simp;ext) (λx hx m o k1 k0=>?_) ?_
 .unfold iL;walk_at"px";rw[KN];show h
 .show j9 2 (eJ (c6 0) (eJ (c6 1) ja)) (.tup [.int (x.2:Nat),jg x.1]) _ _;walk_at"px";have d:jg x.1=.tup [dO x.1.n,.int x.1.l,.int x.1.r,.int x.1.k]:=rfl;simp only[d];show⟨_,rfl,?_⟩;cases b:x.1.n with
  | none=>simp only[dO];walk_at"px";show k0 (by rw[b];rfl)
  | some w=>
   simp only[dO];walk_at"px";have g:D.tup [D.str w,D.int x.1.l,D.int x.1.r,D.int x.1.k]=jg x.1:=by rw[d,b];rfl
   rw[g];show⟨p,x.1,rfl,?_⟩;show⟨by ext,k1 (by rw[b];rfl)⟩
 have i:(ps.zipIdx.filter λq=>q.1.n.isSome).map (λq=>D.tup [dN q.2,dJ (yT p q.1)])=(u7 p ps).map λx=>.tup [dN x.1,dJ x.2]:=by unfold u7;rw[aS];rfl
 rw[i];have f:(u7 p ps).length<=1000:=by
  unfold u7;rw[ae];show aJ (aX _ _) ?_;simpa using hn
 unfold wa at q;generalize u7 p ps=cs at q f ⊢;walk_at"go";show Cf cs (λx=>.tup [dN x.1,dJ x.2]) (λx=>(x.2.map λc=>(x.1,c)).map λx=>.tup [dN x.1,.int x.2]) (λj h=>?_) (by ext) (λx hx m o k1 k0=>?_) ?_
 .walk_at"px";show h
 .walk_at"px";cases e:x.2 with
  | none=>simp only[dJ];walk_at"px";show k0 (by rw[e];rfl)
  | some c=>
   simp only[dJ];walk_at"px";show⟨by ext,k1 _ (by rw[e];rfl)⟩
 rw[List.map_filterMap] at q;show q
theorem JD(p:Pc)(ps:List Pc):(wa p ps).length<=ps.length:=by
 unfold wa u7;show aJ (List.length_filterMap_le _ _) ?_;rw[ae];show aJ (aX _ _) ?_;simp
noncomputable def tL(ps:List Pc)(p:Pc×Nat):List Tr:=if p.1.n=none then(wa p.1 ps).map λx=>(p.2,x.1,x.2) else []
noncomputable def kL(ps:List Pc):List Tr:=ps.zipIdx.flatMap (tL ps)
theorem LV(ps:List Pc)(p:Pc×Nat):(tL ps p).length<=ps.length:=by
 unfold tL;split
 .rw[ae];show JD _ _
 simp
theorem yk{b c:Type}(f:b->List c)(k:Nat)(h:∀a,(f a).length<=k):∀l:List b,(l.flatMap f).length<=l.length*k:=by
 intro l;induction l with
 | nil=>simp
 | cons a r d=>
  rw[List.flatMap_cons,ar,aH,Nat.succ_mul];have:=h a;ext
def zQ:fc:=λds Q=>∃ps:List Pc,ds=[iL ps]/\ps.length<=1000/\Q (.ow ((kL ps).map dT))
def F0:TX:=(cM (kY 1 (gM cD))
 (cM (j8 (ug (cy (cf 0) cD)) (j9 2 (eJ (c6 2) (eJ (c6 3) ja))) (gi (dA (cA (nG false) (cA ec (cf 3) (dC (.int 0))) (dC .non))) (xN 1 (gh (hV (fO 2 zR (cy (cf 3) (cy (cf 0) cD)))) [none,none,some 2] (j9 2 (eJ (c6 0) (eJ (c6 1) ja))) jJ (lY (cy (cf 2) (cy (cf 0) (cy (cf 1) cD)))))) gG))
 (pd 1)))
theorem WH:jc 1 zQ F0 ["pieces","triples","upper","keep"]:=by
 intro ds p hl h;obtain⟨ps,rfl,hn,q⟩:=h;show F0 _ [.fz (iL ps),.un,.un,.un];unfold F0;have big:=iU;walk_at"px";show⟨by ext,?_⟩;walk_at"go";show E9 ps jg (λj h=>?_) (λi e=>∃a b:Sl,e=[.fz (iL ps),.ow ((((ps.zipIdx.take i).flatMap (tL ps))).map dT),a,b]) ⟨.un,.un,by simp⟩ ?_ ?_
 .unfold iL;walk_at"px";show h
 .rintro i x e hx ⟨a,b,rfl⟩;have hi:i<ps.length:=(aB.mp hx).1;have hz:ps.zipIdx[i]?=some (x,i):=by rw[List.getElem?_zipIdx,hx];simp
  have tk:ps.zipIdx.take (i+1)=ps.zipIdx.take i++[(x,i)]:=by rw[bz,hz];rfl
  have len:=yk (tL ps) 1000 (λa=>aJ (LV ps a) hn) (ps.zipIdx.take i);have m:(ps.zipIdx.take i).length<=1000:=by rw[aL];ext
  rw[tk,List.flatMap_append,List.flatMap_cons,List.flatMap_nil,a9];generalize (ps.zipIdx.take i).flatMap (tL ps)=acc at len ⊢;have f:jg x=.tup [dO x.n,.int x.l,.int x.r,.int x.k]:=rfl;walk_at"px";simp only[f];show⟨_,rfl,?_⟩;cases d:x.n with
  | some w=>
   simp only[dO];walk_at"px";show⟨.fz (.int i),.fz (jg x),?_⟩;unfold tL;rw[if_neg (by rw[d];show λz=>nomatch z),a9,f,d];rfl
  | none=>
   simp only[dO];walk_at"px";have g:D.tup [D.non,D.int x.l,D.int x.r,D.int x.k]=jg x:=by rw[f,d];rfl
   rw[g];have bl:=JD x ps;show nN (wa x ps) (λy=>.tup [dN y.1,.int y.2]) (λy=>dT (i,y.1,y.2)) (λj h=>?_) (by ext) (λy o s k=>?_) ?_
   .walk_at"px";show⟨x,ps,rfl,hn,h⟩
   .unfold dN;walk_at"px";show⟨by ext,k⟩
   show⟨by simp only[ae];ext,.fz (.int i),.fz (jg x),?_⟩;unfold tL;rw[if_pos (by show d),aI,aS];rfl
 rintro e ⟨a,b,rfl⟩;walk_at"go";rw[show ps.length=ps.zipIdx.length by simp,bS];show q
noncomputable def rX(c:cS)(ps:List Pc)(n:Nat):List Tr:=match c.top[n]?,c.cg[n]? with
 | some (some u),some (some v)=>if u=v then [] else(oK ps (some u) n).flatMap λa=>(oK ps (some v) n).map λb=>(a,b,(n:Int))
 | _,_=>[]
noncomputable def ot(c:cS)(ps:List Pc):List Tr:=(List.range c.top.length).flatMap (rX c ps)
theorem Cc(ps:List Pc)(n:Option Str)(c:Int):(oK ps n c).length<=ps.length:=by
 unfold oK;rw[ae];show aJ (aX _ _) ?_;simp
theorem KW(c:cS)(ps:List Pc)(n:Nat):(rX c ps n).length<=ps.length*ps.length:=by
 unfold rX;split
 .split
  .simp
  rename_i u v _ _ _;show aJ (yk _ ps.length (λa=>by rw[ae];show Cc _ _ _) _) ?_;show Nat.mul_le_mul_right _ (Cc _ _ _)
 simp
def zO:fc:=λds Q=>∃(c:cS)(ps:List Pc),ds=[c.obj,iL ps]/\nk c/\ps.length<=500/\Q (.ow ((ot c ps).map dT))
def FK:TX:=(cM (kY 2 (gM cD))
 (cM (j8 (n8 (cy (eY lW (cy (kd "top" (cf 0)) cD)) cD)) (c6 3) (cM (eE 4 (cA ec (kd "top" (cf 0)) (cf 3)))
 (cM (eE 5 (cA ec (kd "bottom" (cf 0)) (cf 3)))
 (gi (rm (dA (cA (nG true) (cf 4) (dC .non))) (rm (dA (cA (nG true) (cf 5) (dC .non))) (dA (cA vE (cf 4) (cf 5))))) (cM (eE 6 (fO 3 yr (cy (cf 1) (cy (cf 5) (cy (cf 3) cD)))))
 (j8 (hV (fO 3 yr (cy (cf 1) (cy (cf 4) (cy (cf 3) cD))))) (c6 7) (xN 2 (gh (hV (cf 6)) [none,some 7,some 3] (c6 0) jJ (lY (cy (cf 1) (cy (cf 0) (cy (cf 2) cD)))))))) gG))))
 (pd 2)))
theorem Wm:jc 2 zO FK ["channel","pieces","triples","column","upper_name","lower_name","lowers","upper"]:=by
 intro ds E hl h;obtain⟨c,ps,rfl,o,hn,q⟩:=h;show FK _ [.fz c.obj,.fz (iL ps),.un,.un,.un,.un,.un,.un];unfold FK;have big:=iU;have hw:=o.w;walk_at"px";show⟨by ext,?_⟩;walk_at"go";show wM c.top.length (λr h=>?_) (λi g=>∃a b d e f:Sl,g=[.fz c.obj,.fz (iL ps),.ow (((List.range i).flatMap (rX c ps)).map dT),a,b,d,e,f]) ⟨.un,.un,.un,.un,.un,by simp⟩ ?_ ?_
 .unfold cS.obj;walk_at"px";show⟨_,rfl,?_⟩;unfold dP;walk_at"px";rw[ae];show⟨by ext,by ext,by simpa using h⟩
 .rintro i g hi ⟨a,b,d,e,f,rfl⟩;have t:i<c.cg.length:=by rw[o.b];show hi
  have sq:ps.length*ps.length<=250000:=Nat.mul_le_mul hn hn;have len:=yk (rX c ps) 250000 (λa=>aJ (KW c ps a) sq) (List.range i);rw[bU] at len;rw[List.range_succ,List.flatMap_append,List.flatMap_cons,List.flatMap_nil,a9];generalize (List.range i).flatMap (rX c ps)=acc at len ⊢;walk_at"px";unfold cS.obj;walk_at"px";show⟨_,rfl,?_⟩;unfold dP;walk_at"px";show⟨_,nM hi,?_⟩;walk_at"go";show⟨_,rfl,?_⟩;walk_at"px";show⟨_,nM t,?_⟩;have obj:D.obj (Str.ofString "Channel") [(Str.ofString "top",D.lst (c.top.map dO)),(Str.ofString "bottom",D.lst (c.cg.map dO)),(Str.ofString "left",dS c.left),(Str.ofString "right",dS c.right),(Str.ofString "wide",dW c.wide),(Str.ofString "bends",dB c.cU),(Str.ofString "keeps",dK c.keeps)]=c.obj:=rfl;rw[obj];have n:rX c ps i=match c.top[i],c.cg[i] with | some u,some v=>(if u=v then [] else(oK ps (some u) i).flatMap λa=>(oK ps (some v) i).map λb=>(a,b,(i:Int))) | _,_=>[]:=by
   unfold rX;rw[ah hi,ah t];cases c.top[i]<;>cases c.cg[i]<;>rfl
  generalize c.top[i]=x at n ⊢;generalize c.cg[i]=y at n ⊢;generalize rX c ps i=new at n ⊢;subst n;cases x with
  | none=>
   simp only[dO];walk_at"go";show⟨_,_,_,_,_,by rw[a9]⟩
  | some u=>
   cases y with
   | none=>
    simp only[dO];walk_at"go";show⟨_,_,_,_,_,by rw[a9]⟩
   | some v=>
    simp only[dO];walk_at"go";by_cases s:u=v
    .simp only[s,bY,Bool.not_true,aj,aP,aQ];show⟨_,_,_,_,_,by rw[a9]⟩
    simp only[s,bO,Bool.not_false,aP,aQ];show⟨ps,some v,i,rfl,by ext,?_⟩;walk_at"go";have l1:=Cc ps (some u) i;have A:=Cc ps (some v) i;have p:=yk (λa=>(oK ps (some v) i).map λb=>((a,b,(i:Int)):Tr)) 500 (λa=>by rw[ae];ext);generalize oK ps (some v) i=m at A p ⊢;show um (oK ps (some u) i) dN (λr h=>?_) (λj g=>∃f:Sl,g=[.fz c.obj,.fz (iL ps),.ow ((acc++((oK ps (some u) i).take j).flatMap λa=>m.map λb=>(a,b,(i:Int))).map dT),.fz (.int i),.fz (.str u),.fz (.str v),.fz (.lst (m.map dN)),f]) ⟨_,by rw[List.take_zero,List.flatMap_nil,a9]⟩ ?_ ?_
    .walk_at"px";show⟨ps,some u,i,rfl,by ext,h⟩
    .rintro j x g hx ⟨f,rfl⟩;have z:=p ((oK ps (some u) i).take j);have B:((oK ps (some u) i).take j).length<=500:=by rw[aL];ext
     rw[bz,hx,List.flatMap_append];generalize ((oK ps (some u) i).take j).flatMap (λa=>m.map λb=>((a,b,(i:Int)):Tr))=C at z ⊢;unfold dN;walk_at"px";show nN m dN (λb=>dT (x,b,(i:Int))) (λr h=>?_) (by ext) (λb hb F k=>?_) ?_
     .walk_at"px";show h
     .unfold dN;walk_at"px";show⟨by ext,k⟩
     show⟨by simp only[ae,ar];ext,.fz (.int x),?_⟩;simp
    rintro g ⟨f,rfl⟩;show⟨_,_,_,_,_,by rw[bS]⟩
 rintro g ⟨a,b,d,e,f,rfl⟩;walk_at"go";show q
noncomputable def kT(t:Tr):List Int:=[(t.1:Int),(t.2.1:Int),t.2.2]
structure Above(c:cS)(ps:List Pc)(ts:List Tr):Prop where
 pm:ts.Perm (ot c ps++kL ps)
 Ge:ts.Pairwise λx y=>HT.cY (kT x) (kT y)=false
def zF:fc:=λds Q=>∃(c:cS)(ps:List Pc),ds=[c.obj,iL ps]/\nk c/\ps.length<=500/\∀ts,Above c ps ts->Q (.ow (ts.map dT))
def Fp:TX:=(fV (eY CA (cy (cA fw (fO 2 zO (cy (cf 0) (cy (cf 1) cD))) (fO 1 zQ (cy (cf 1) cD))) cD)))
theorem KH(c:cS)(ps:List Pc)(b:nk c)(hn:ps.length<=500):(ot c ps).length<=10000000:=by
 have sq:ps.length*ps.length<=250000:=Nat.mul_le_mul hn hn;have:=yk (rX c ps) 250000 (λa=>aJ (KW c ps a) sq) (List.range c.top.length);rw[bU] at this;have:=b.w;unfold ot;ext
theorem KU(ps:List Pc)(hn:ps.length<=500):(kL ps).length<=250000:=by
 have:=yk (tL ps) 500 (λa=>aJ (LV ps a) hn) ps.zipIdx;rw[List.length_zipIdx] at this;unfold kL;ext
theorem U3:jc 2 zF Fp ["channel","pieces"]:=by
 intro ds m hl h;obtain⟨c,ps,rfl,b,hn,q⟩:=h;show Fp _ [.fz c.obj,.fz (iL ps)];unfold Fp;have big:=iU;have l1:=KH c ps b hn;have j:=KU ps hn;walk_at"px";show⟨c,ps,rfl,b,hn,?_⟩;walk_at"px";show⟨ps,rfl,by ext,?_⟩;walk_at"px";show⟨by simp only[ar,ae];ext,?_⟩;rw[<-aI];have e:((ot c ps++kL ps).map dT)=(ot c ps++kL ps).map λa=>D.tup ((kT a).map D.int):=rfl
 rw[e];simp only[CA,KY];show⟨λt ht=>?_,λi f d=>?_⟩
 .obtain⟨a,_,rfl⟩:=aR.mp ht;simp[kT]
 obtain⟨ts,g,rfl⟩:=LB f rfl;rw[aS];show q ts ⟨g,by rw[List.pairwise_map] at d;show d⟩
noncomputable def gQ(ps:List Pc)(q:Nat):Pc:=ps[q]?.getD ⟨none,0,0,1⟩
noncomputable def jH(tr:List Int)(q:Nat):Int:=tr[q]?.getD 0
theorem B7{ps:List Pc}{q:Nat}(h:q<ps.length):gQ ps q=ps[q]:=by unfold gQ;rw[ah h];rfl
theorem Ji{tr:List Int}{q:Nat}(h:q<tr.length):jH tr q=tr[q]:=by unfold jH;rw[ah h];rfl
theorem PR{ws:List Str}{a:Nat}{c:cS}(g:fB ws a c)(hm:a<=40):nk c:=⟨aJ g.w2 hm,g.bl,aJ g.ll (by decide),aJ g.rl (by decide)⟩
theorem KG{ws:List Str}{a:Nat}{c:cS}(g:fB ws a c)(w:Str)(h:m9 c w):w∈ws:=by
 rcases h with h | h | h | h
 .exact g.pt w h
 .exact g.pb w h
 .exact g.lw w h
 show g.rw_ w h
theorem KS(c:cS)(w:Str)(k:Int):k∈pl c w↔k∈places c.top c.cg c.left c.right w:=by
 unfold pl places;simp only[av];constructor
 .rintro((h | h) | h)
  .exact .inl (.inr h)
  .exact .inl (.inl h)
  show .inr h
 rintro((h | h) | h)
 .exact .inl (.inr h)
 .exact .inl (.inl h)
 show .inr h
theorem PF{c:cS}{w:Str}{k:Int}(h:k∈pl c w):m9 c w:=by
 unfold pl at h;rcases av.mp h with h | h
 .rcases av.mp h with h | h
  .split at h
   .rename_i a;show .inr (.inr (.inl a))
   cases h
  obtain⟨n,hn,_⟩:=aR.mp h;have:=(aU.mp hn).2;simp only[Bool.or_eq_true,beq_iff_eq] at this;rcases this with h | h
  .exact .inl (aM h)
  show .inr (.inl (aM h))
 split at h
 .rename_i a;show .inr (.inr (.inr a))
 cases h
theorem PQ{ws:List Str}{d:Nat}{c:cS}(g:fB ws d c)(hm:d<=40){p:Int×Str}(i:p∈c.cU):m9 c p.2/\∃a b,tF (pl c p.2)=some (a,b)/\a<p.1/\p.1<b:=by
 obtain⟨n,hn,t,_,⟨m,M,⟨i1,o⟩,⟨f,k⟩,q,s⟩,_⟩:=g.be.at_ p i;have hw:=g.w2;have e:m∈pl c p.2:=by
  rw[KS];rcases av.mp i1 with h | h
  .exact h
  simp at h;ext
 have M1:M∈pl c p.2:=by
  rw[KS];rcases av.mp f with h | h
  .exact h
  simp at h;ext
 show⟨PF e,?_⟩;have up:=BO c p.2;generalize pl c p.2=l at e M1 up;cases l with
 | nil=>cases e
 | cons a r=>
  have l1:=zk up M M1;have j:a<=m:=by
   rcases ao.mp e with h | h
   .omega
   have:=(bN.mp up).1 m h;ext
  show⟨a,(a::r).getLast (by simp),?_,by ext,by ext⟩;simp only[tF];rw[if_neg (by ext)]
def D7(c:cS):Prop:=∀(n:Nat)(u v:Str),c.top[n]?=some (some u)->c.cg[n]?=some (some v)->False
noncomputable def tK(p:Option Str×Option Str):Option Str:=match p.1 with
 | none=>p.2
 | some _=>none
def zY:fc:=λds Q=>∃(ws:List Str)(most:Nat)(c:cS),ds=[.lst c.parts]/\ws.length<=40/\most<=40/\fB ws most c/\∀a,fB ws most a->a.cU=[]->D7 a->a.top.length=c.top.length->Q (.ow a.parts)
def FA:TX:=(cM (xT (cf 0) (xP 7 (eJ (c6 1) (eJ (c6 2) (eJ (c6 3) (eJ (c6 4) (eJ (c6 5) (eJ (c6 6) (eJ (c6 7) ja)))))))))
 (cM (eE 2 (gh (xR (cy (cf 1) (cy (cf 2) cD))) [none,none] (j9 2 (eJ (c6 0) (eJ (c6 1) ja))) jJ (uQ (dA (cA (nG true) (cf 0) (dC .non))) (dC .non) (cf 1))))
 (cM (eE 8 (eY yi (cy (gh (hV (cA fw (cA fw (cA fw (cf 1) (cf 2)) (cf 3)) (cf 4))) [none] (c6 0) (dA (cA (nG true) (cf 0) (dC .non))) (cf 0)) cD)))
 (cM (eE 9 (gh (hV (cf 8)) [none,some 1,some 2,some 3,some 4] (c6 0) (dA (cA oEq (fO 5 vt (cy (cf 1) (cy (cf 2) (cy (cf 3) (cy (cf 4) (cy (cf 0) cD)))))) (dC (.int 1)))) (cf 0)))
 (cM (eE 1 (gh (hV (cf 1)) [none,some 9] (c6 0) jJ (uQ (dA (cA (k9 false) (cf 0) (cf 1))) (dC .non) (cf 0))))
 (cM (eE 2 (gh (hV (cf 2)) [none,some 9] (c6 0) jJ (uQ (dA (cA (k9 false) (cf 0) (cf 1))) (dC .non) (cf 0))))
 (cM (eE 3 (gh (hV (cf 3)) [none,some 9] (c6 0) (dA (cA (k9 true) (cf 0) (cf 1))) (cf 0)))
 (cM (eE 4 (gh (hV (cf 4)) [none,some 9] (c6 0) (dA (cA (k9 true) (cf 0) (cf 1))) (cf 0)))
 (cM (eE 5 (gh (hV (cf 5)) [none,some 1,some 2,some 3,some 4] (c6 0) (dA (cA (jx λi j=>.bl (decide (j<i))) (fO 5 vt (cy (cf 1) (cy (cf 2) (cy (cf 3) (cy (cf 4) (cy (cA ec (cf 0) (dC (.int 0))) cD)))))) (dC (.int 1)))) (cf 0)))
 (fV (gM (cy (cf 1) (cy (cf 2) (cy (cf 3) (cy (cf 4) (cy (cf 5) (cy (gM cD) (cy (cf 7) cD))))))))))))))))))
theorem Vx:jc 1 zY FA ["_law_lists","_law_top","_law_bottom","_law_left","_law_right","_law_wide","_law_bends_here","_law_keeps_here","_law_some","_law_lone"]:=by
 intro ds Qr hl h;obtain⟨ws,most,c,rfl,nT,hm,g,q⟩:=h;show FA _ [.fz (.lst c.parts),.un,.un,.un,.un,.un,.un,.un,.un,.un];unfold FA;have big:=iU;have w2:=g.w2;have bl:=g.bl;unfold cS.parts;walk_at"px";unfold dP;walk_at"go";show nN (c.top.zip c.cg) (λp=>.tup [dO p.1,dO p.2]) (λp=>dO (tK p)) (λy h=>?_) (by simp;ext) (λp r A k=>?_) ?_
 .walk_at"px";rw[EH];show h
 .walk_at"px";unfold tK at k;cases d:p.1 with
  | none=>rw[d] at k;show k
  | some u=>rw[d] at k;show k
 rw[show(c.top.zip c.cg).map (λp=>dO (tK p))=((c.top.zip c.cg).map tK).map dO by rw[aS];rfl];have pb:gP ws ((c.top.zip c.cg).map tK):=λw hw=>by
  obtain⟨p,r,e⟩:=aR.mp hw;have:=(List.of_mem_zip r).2;unfold tK at e;cases d:p.1 with
  | none=>rw[d] at e;show g.pb w (by rw[<-e];show this)
  | some u=>rw[d] at e;cases e
 have nb:∀(n:Nat)(u v:Str),c.top[n]?=some (some u)->((c.top.zip c.cg).map tK)[n]?=some (some v)->False:=λn u v d m=>by
  rw[aG] at m;obtain⟨p,r,e⟩:=Option.map_eq_some_iff.mp m;obtain⟨p1,p2⟩:=p;obtain⟨B,Z⟩:=List.getElem?_zip_eq_some.mp r;rw[d] at B;cases B;simp[tK] at e
 have C:((c.top.zip c.cg).map tK).length=c.top.length:=by simp;ext
 generalize (c.top.zip c.cg).map tK=bot at pb nb C ⊢;walk_at"go";have ll:=g.ll;have rl:=g.rl;show qC (c.top++bot++c.left.map some++c.right.map some) dO dO (λx=>x.isSome) (λy h=>?_) (by simp;ext) (λx hx A K k1 k0=>?_) ?_
 .unfold dS;walk_at"px";show⟨by simp;ext,by simp;ext,by simp;ext,?_⟩;rw[aI,aI,aI,aS,aS] at h;show h
 .walk_at"px";cases x with
  | none=>show k0 rfl
  | some x=>show k1 rfl
 rw[KJ];have o:∀w,w∈(c.top++bot++c.left.map some++c.right.map some).filterMap id↔some w∈c.top\/some w∈bot\/w∈c.left\/w∈c.right:=by
  intro w;simp[List.mem_filterMap,or_assoc]
 have S:((c.top++bot++c.left.map some++c.right.map some).filterMap id).length<=200:=by
  show aJ (List.length_filterMap_le _ _) ?_;simp;ext
 generalize (c.top++bot++c.left.map some++c.right.map some).filterMap id=all at o S ⊢;have J:∀w,w∈all->w∈ws:=λw hw=>by
  rcases(o w).mp hw with h | h | h | h
  .exact g.pt w h
  .exact pb w h
  .exact g.lw w h
  show g.rw_ w h
 simp only[vd,yi,zK];show⟨by ext,λl nd h=>?_,λl nd h hs=>?_⟩
 .have:=zr nd λw hw=>J w (h w hw);ext
 have M6:l.length<=40:=by have:=zr nd λw hw=>J w ((h w).mp hw);ext
 walk_at"go";show qC l D.str D.str (λw=>decide (fQ c.top bot c.left c.right w=1)) (λy h=>?_) (by ext) (λw _ A K k1 k0=>?_) ?_
 .walk_at"px";show h
 .walk_at"px";show⟨c.top,bot,c.left,c.right,w,rfl,by ext,?_⟩;walk_at"px";by_cases s:fQ c.top bot c.left c.right w=1
  .rw[if_pos (by ext)];show k1 (by simpa using s)
  rw[if_neg (by ext)];show k0 (by simpa using s)
 generalize P:l.filter (λw=>decide (fQ c.top bot c.left c.right w=1))=b;have L:=LW (ws:=l) (λw z=>(h w).mpr ((o w).mpr (.inl z))) (λw z=>(h w).mpr ((o w).mpr (.inr (.inl z)))) (λw z=>(h w).mpr ((o w).mpr (.inr (.inr (.inl z))))) (λw z=>(h w).mpr ((o w).mpr (.inr (.inr (.inr z))))) b P.symm;walk_at"go";show Cd b c.top 1 9 _ _ (by ext) rfl rfl ?_;walk_at"go";show Cd b bot 2 9 _ _ (by ext) rfl rfl ?_;walk_at"go";show Cw b c.left 3 9 _ _ (by ext) rfl rfl ?_;walk_at"go";show Cw b c.right 4 9 _ _ (by ext) rfl rfl ?_;have Y:gP ws (c.top.map (jG b)):=CY g.pt;have M:gP ws (bot.map (jG b)):=CY pb;have W:(c.left.filter λx=>decide (x∉b)).Pairwise ou:=g.lo.sublist List.filter_sublist;have U:(c.right.filter λx=>decide (x∉b)).Pairwise ou:=g.ro.sublist List.filter_sublist;have X:∀w∈(c.left.filter λx=>decide (x∉b)),w∈ws:=λw h=>g.lw w (aU.mp h).1
 have Q:∀w∈(c.right.filter λx=>decide (x∉b)),w∈ws:=λw h=>g.rw_ w (aU.mp h).1
 have V:(c.left.filter λx=>decide (x∉b)).length<=8:=aJ (aX _ _) ll;have T:(c.right.filter λx=>decide (x∉b)).length<=8:=aJ (aX _ _) rl;have E:(c.top.map (jG b)).length=c.top.length:=by simp
 have xt:(bot.map (jG b)).length=c.top.length:=by simpa using C
 have O:∀(n:Nat)(u v:Str),(c.top.map (jG b))[n]?=some (some u)->(bot.map (jG b))[n]?=some (some v)->False:=λn u v d m=>by
  have un:∀(l:List (Option Str))(u:Str),(l.map (jG b))[n]?=some (some u)->∃t,l[n]?=some (some t):=λl u h=>by
   rw[aG] at h;obtain⟨x,hx,e⟩:=Option.map_eq_some_iff.mp h;cases x with
   | none=>cases e
   | some x=>show⟨x,hx⟩
  obtain⟨t,d⟩:=un _ _ d;obtain⟨N,m⟩:=un _ _ m;show nb n t N d m
 generalize c.top.map (jG b)=f at *;generalize bot.map (jG b)=j at *;generalize (c.left.filter λx=>decide (x∉b))=i at *;generalize (c.right.filter λx=>decide (x∉b))=right' at *;unfold dW;walk_at"go";have wl:=g.wl;show qC c.wide uO uO (λp=>decide (1<fQ f j i right' p.1)) (λy h=>?_) (by ext) (λp _ A K k1 k0=>?_) ?_
 .walk_at"px";show h
 .rw[show uO p=D.tup [.str p.1,.int p.2] from rfl];walk_at"px";show⟨_,rfl,f,j,i,right',p.1,rfl,by ext,?_⟩;walk_at"px";by_cases s:1<fQ f j i right' p.1
  .rw[if_pos (by ext)];show k1 (by simpa using s)
  rw[if_neg (by ext)];show k0 (by simpa using s)
 have F:(c.wide.filter λp=>decide (1<fQ f j i right' p.1)).length<=8:=aJ (aX _ _) wl;have H:((c.wide.filter λp=>decide (1<fQ f j i right' p.1)).map (·.1)).Pairwise ou:=g.wo.sublist (List.filter_sublist.map _);have I:∀p∈(c.wide.filter λp=>decide (1<fQ f j i right' p.1)),p.1∈ws/\(p.2=2\/p.2=3)/\1<fQ f j i right' p.1:=λp r=>by
  obtain⟨d,m⟩:=aU.mp r;show⟨(g.ww p d).1,(g.ww p d).2.1,by simpa using m⟩
 generalize (c.wide.filter λp=>decide (1<fQ f j i right' p.1))=R at F H I ⊢;walk_at"go";have ke:=g.ke;have w1:=g.w1;show⟨by ext,by ext,q ⟨f,j,i,right',R,[],c.keeps⟩ ⟨by dsimp only;ext,by dsimp only;ext,by dsimp only;ext,Y,M,V,X,W,T,Q,U,L,F,H,I,⟨by simp,by simp,by simp⟩,by dsimp only;rw[E];show ke⟩ rfl O E⟩
noncomputable def lx(ts:List Tr)(q:Nat):List Nat:=(ts.filter λt=>decide (t.2.1=q)).map (·.1)
theorem RK(ts:List Tr)(t:Tr)(q:Nat):lx (ts++[t]) q=if q=t.2.1 then lx ts q++[t.1] else lx ts q:=by
 unfold lx;rw[List.filter_append,aI];by_cases h:q=t.2.1
 .subst h;simp
 rw[if_neg h,List.filter_cons_of_neg (by simpa using λz=>h z.symm)];simp
theorem JC(ts:List Tr)(q:Nat):(lx ts q).length<=ts.length:=by
 unfold lx;rw[ae];show aX _ _
theorem pZ{ts:List Tr}{p q:Nat}:p∈lx ts q↔∃t∈ts,t.1=p/\t.2.1=q:=by
 unfold lx;simp only[aR,aU,bE];show⟨λd=>by obtain⟨t,⟨c,b⟩,a⟩:=d;show⟨t,c,a,b⟩,λd=>by obtain⟨t,c,b,a⟩:=d;show⟨t,⟨c,a⟩,b⟩⟩
def IL(n:Nat)(ts:List Tr):Prop:=∃S:List Nat,S≠[]/\(∀q∈S,q<n)/\∀q∈S,∃t∈ts,t.2.1=q/\t.1∈S
def qV(ts:List Tr)(a:List Nat):Prop:=∀(pre:List Nat)(q:Nat)(post:List Nat),a=pre++q::post->∀t∈ts,t.2.1=q->t.1∈pre
theorem qV.snoc{ts:List Tr}{a:List Nat}(h:qV ts a){x:Nat}(hx:∀t∈ts,t.2.1=x->t.1∈a):qV ts (a++[x]):=λpre q post e t ht c=>by
 cases d:post.reverse with
 | nil=>
  have:post=[]:=by simpa using d
  subst this;obtain⟨b,f⟩:=List.append_inj' e rfl;cases f;rw[<-b];show hx t ht c
 | cons y r=>
  have:post=r.reverse++[y]:=by rw[<-List.reverse_reverse post,d];simp
  subst this;rw[<-List.cons_append,<-bp] at e;obtain⟨b,_⟩:=List.append_inj' e rfl;show h pre q _ b t ht c
def zX:fc:=λds Q=>∃(n:Nat)(ts:List Tr)(b:Int),ds=[.int n,oG ts,.int b]/\n<=1000/\ts.length<=11000000/\DV n ts/\(IL n ts->Q (.fz .non))/\∀a:List Nat,a.Perm (List.range n)->qV ts a->Q (.ow (a.map dN))
noncomputable def uP(ts:List Tr)(n:Nat):List (List D):=(List.range n).map λq=>(lx ts q).map dN
theorem Qt(w:List Nat)(x:Nat):(w.map λ(k:Nat)=>(k:Int)).erase (x:Int)=(w.erase x).map λ(k:Nat)=>(k:Int):=by
 induction w with
 | nil=>rfl
 | cons a r b=>
  rw[az,List.erase_cons,List.erase_cons];by_cases h:a=x
  .subst h;simp
  rw[if_neg (by simpa using λz=>h (by ext)),if_neg (by simpa using h),az,b]
theorem ON(x:Nat)(l:List Nat):inD (dN x) (l.map dN)=decide (x∈l):=by
 unfold inD;rw[List.any_map];induction l with
 | nil=>rfl
 | cons a r b=>
  rw[List.any_cons,b];by_cases h:x=a
  .subst h;simp[dN,eH]
  have:¬((a:Int)=(x:Int)):=λz=>h (by ext)
  have c:¬((x:Int)=(a:Int)):=λz=>h (by ext)
  simp[dN,eH,h,this,c]
theorem Qs(l:List Nat):∀e∈l.map dN,ff 8 e:=λe he=>by
 obtain⟨k,_,rfl⟩:=aR.mp he;unfold dN;rw[El];trivial
def Fz:TX:=(cM (kY 3 (zb (n8 (cy (cf 0) cD)) [none] (c6 0) jJ (gM cD)))
 (cM (j8 (hV (cf 1)) (j9 3 (eJ (c6 4) (eJ (c6 5) (eJ (c6 6) ja)))) (BL 3 (cf 5) (cf 4)))
 (cM (kY 7 (Ee (cy (cf 0) cD)))
 (cM (kY 8 (gM cD))
 (u4 3 (cM (D9 (dA (cA (jx λi j=>.bl (decide (j<i))) (y3 7) (dC (.int 0)))) (cM (kY 9 (B2 7 (gh (hV (cf 7)) [none,some 7,some 3] (c6 0) (tx (dA (eY xQ (cy (gh (hV (cA ec (cf 2) (cf 0))) [none,some 1] (c6 0) jJ (cA (k9 false) (cf 0) (cf 1))) cD)))) (cf 0))))
 (u4 9 (cM (gi (dA (cA oEq (eY lW (cy (cf 9) cD)) (dC (.int 0)))) (fV (dC .non)) gG)
 (cM (lX 8 (cA ec (cf 9) (cA (oI (λ_ j=>0<j) λi j=>.int (i%j)) (fO 2 qB (cy (cf 2) (cy (cA fw (y3 8) (dC (.int 600))) cD))) (eY lW (cy (cf 9) cD)))))
 (Cs 7 (u5 8 (pU (dC (.int 1))))))))))
 (pd 8)))))))
theorem Vw:jc 3 zX Fz ["_law_count","_law_above","_law_seed","_law_uppers","_law_p","_law_q","_law_c","_law_waiting","_law_turns_here","_law_ready"]:=by
 intro ds Qr hl h;obtain⟨n,ts,C,rfl,hn,ht,H,M,L⟩:=h;show Fz _ [.fz (.int n),.fz (oG ts),.fz (.int C),.un,.un,.un,.un,.un,.un,.un];unfold Fz;have big:=iU;walk_at"px";show Sb (List.range n) dN (λ_=>[]) (λE h=>?_) (by simp;ext) (λd hd U k=>?_) ?_
 .walk_at"px";show⟨by ext,by ext,?_⟩;rw[Int.toNat_natCast];have Q:(List.range n).map (λ(i:Nat)=>D.int (0+(i:Int)))=(List.range n).map dN:=List.map_congr_left λi _=>by rw[Int.zero_add];rfl
  rw[Q];show h
 .walk_at"px";show⟨by ext,k⟩
 have R:(List.range n).map (λ_=>([]:List D))=uP (ts.take 0) n:=rfl;rw[R];walk_at"go";show um ts dT (λE h=>?_) (λi g=>∃a b c:Sl,g=[.fz (.int n),.fz (oG ts),.fz (.int C),.ov (.ll (uP (ts.take i) n)),a,b,c,.un,.un,.un]) ⟨_,_,_,rfl⟩ ?_ ?_
 .unfold oG;walk_at"px";show h
 .rintro i t g hi ⟨a,b,c,rfl⟩;have X:t∈ts:=aM hi;obtain⟨v1,v2⟩:=H t X;have tk:ts.take (i+1)=ts.take i++[t]:=by rw[bz,hi];rfl
  have l1:=JC (ts.take i) t.2.1;have Y:(ts.take i).length<=ts.length:=by rw[aL];ext
  unfold dT;walk_at"px";have hlen:(uP (ts.take i) n).length=n:=by unfold uP;simp
  show⟨t.2.1,(lx (ts.take i) t.2.1).map dN,by rw[hlen];show JE v2,RL (λq=>(lx (ts.take i) q).map dN) v2,by rw[ae];ext,?_⟩;have:(uP (ts.take i) n).set t.2.1 ((lx (ts.take i) t.2.1).map dN++[.int t.1])=uP (ts.take (i+1)) n:=by
   unfold uP;rw[Sa,tk];apply List.map_congr_left;intro x _;rw[RK];by_cases hx:x=t.2.1
   .rw[if_pos hx,if_pos hx,hx,aI];rfl
   rw[if_neg hx,if_neg hx]
  rw[this];show⟨_,_,_,rfl⟩
 rintro g ⟨a,b,c,rfl⟩;rw[bS];walk_at"go";show⟨by ext,by ext,?_⟩;rw[Int.toNat_natCast,show(List.range n).map (λ(i:Nat)=>D.int i)=(List.range n).map dN from rfl];walk_at"go";show⟨by ext,?_⟩;walk_at"go";show⟨λm g=>∃(w f:List Nat)(s:Sl),m=w.length/\(f++w).Perm (List.range n)/\qV ts f/\g=[.fz (.int n),.fz (oG ts),.fz (.int C),.fz (.lst ((uP ts n).map .lst)),a,b,c,.ow (w.map dN),.ow (f.map dN),s],⟨_,List.range n,[],_,rfl,by simp,λpre q post e=>by simp at e,rfl⟩,?_⟩;rintro m g ⟨w,f,s,rfl,o,F,rfl⟩;have hlen:=o.length_eq;rw[ar,bU] at hlen;walk_at"px";rw[ae];by_cases hw:0<(w.length:Int)
 .rw[if_pos (by simpa using hw)];have J:∀x∈w,x<n:=λx hx=>bH.mp (o.subset (aW _ hx))
  walk_at"px";show qC w dN dN (λq=>!(lx ts q).any λp=>decide (p∈w)) (λE h=>?_) (by ext) (λx hx U K0 k1 k0=>?_) ?_
  .walk_at"px";show h
  .have A:fN (uP ts n) (x:Int)=some ((lx ts x).map dN):=R9 (λq=>(lx ts q).map dN) (J x hx);rw[show dN x=D.int x from rfl];walk_at"px";show nN (lx ts x) dN (λp=>.bl (decide (p∈w))) (λE h=>?_) (by have:=JC ts x;ext) (λy Z K2 k2=>?_) ?_
   .walk_at"px";show⟨_,A,h⟩
   .rw[show dN y=D.int y from rfl];walk_at"px";have:=ON y w;rw[show dN y=D.int y from rfl] at this;show⟨Qs w,by rw[this];show k2⟩
   rw[show((lx ts x).map λp=>D.bl (decide (p∈w)))=((lx ts x).map λp=>decide (p∈w)).map D.bl by rw[aS];rfl];simp only[vd,xQ,Fm];rw[List.any_map,show(id∘λp=>decide (p∈w))=(λp=>decide (p∈w)) from rfl];cases hb:(lx ts x).any λp=>decide (p∈w)
   .exact k1 (by simp[hb])
   show k0 (by simp[hb])
  generalize I:w.filter (λq=>!(lx ts q).any λp=>decide (p∈w))=r;have S:∀x∈r,x∈w/\∀t∈ts,t.2.1=x->t.1∈f:=λx hx=>by
   rw[<-I] at hx;obtain⟨O,v⟩:=aU.mp hx;show⟨O,λt ht B=>?_⟩;have hm:=pZ.mpr ⟨t,ht,rfl,B⟩;have hn:t.1∉w:=λz=>by
    rw[List.any_eq_true.mpr ⟨t.1,hm,by simpa using z⟩] at v;cases v
   rcases av.mp (o.symm.subset (bH.mpr (H t ht).1)) with z | z
   .exact z
   show absurd z hn
  show⟨by simp[dN,uf],?_⟩;walk_at"go";rw[ae];by_cases h0:r=[]
  .subst h0;rw[if_pos (by simp)];show M ⟨w,λz=>?_,J,λq B=>?_⟩
   .rw[z] at hw;simp at hw
   have:q∉w.filter (λq=>!(lx ts q).any λp=>decide (p∈w)):=by rw[I];simp
   rw[aU] at this;have v:(lx ts q).any (λp=>decide (p∈w))=true:=by
    cases hb:(lx ts q).any λp=>decide (p∈w) with
    | true=>rfl
    | false=>show absurd ⟨B,by rw[hb];rfl⟩ this
   obtain⟨p,V,W⟩:=List.any_eq_true.mp v;obtain⟨t,t1,K,t3⟩:=pZ.mp V;show⟨t,t1,t3,by rw[K];simpa using W⟩
  have ZE:0<r.length:=List.length_pos_iff.mpr h0;rw[if_neg (by ext)];walk_at"go";rw[ae,ae];show⟨_,_,rfl,by ext,by ext,?_⟩;generalize tG _ _=u;have m0:=bg u (show(r.length:Int)≠0 by ext);have N:=bw u (show(0:Int)<r.length by ext);obtain⟨P,A⟩:=wB (l:=r) m0 N;have j:=S _ (List.getElem_mem P);show⟨by ext,r[(u%r.length).toNat],A,by ext,?_⟩;generalize r[(u%r.length).toNat]=x at j;obtain⟨j,T⟩:=j;walk_at"go";show⟨dN x,by rw[KL _ (by simp)];simp,w.map (λ(k:Nat)=>(k:Int)),x,by rw[aS];rfl,rfl,aR.mpr ⟨x,j,rfl⟩,?_⟩;rw[Qt,aS];have hle:=List.length_erase_of_mem j;show⟨(w.erase x).length,by ext,w.erase x,f++[x],_,rfl,?_,F.snoc T,by rw[aI];rfl⟩;rw[bp];show(List.Perm.append_left f (List.perm_cons_erase j).symm).trans o
 rw[if_neg (by simpa using hw)];have:w=[]:=bW (by ext);subst this;walk_at"go";show L f (by simpa using o) F
def uW(ps:List Pc)(tr:List Int)(o:Nat)(t:Int)(q:Nat):Prop:=
 0<=jH tr q/\((gQ ps q).n=none\/(gQ ps q).n≠(gQ ps o).n)/\max (gQ ps q).l (gQ ps o).l<=min (gQ ps q).r (gQ ps o).r/\jH tr q<t+(gQ ps o).k/\t<jH tr q+(gQ ps q).k
def zW:fc:=λds Q=>∃(ps:List Pc)(tr:List Int)(o:Nat)(t:Int),ds=[iL ps,.lst (tr.map .int),.int o,.int t]/\ps.length<=1000/\tr.length=ps.length/\o<ps.length/\
 ((∃q,q<ps.length/\uW ps tr o t q)->Q (.fz (.bl false)))/\((∀q,q<ps.length->¬uW ps tr o t q)->Q (.fz (.bl true)))
theorem IK{e:Type}(a b c d:e):fN [a,b,c,d] 0=some a:=rfl
theorem IJ{e:Type}(a b c d:e):fN [a,b,c,d] 1=some b:=rfl
theorem II{e:Type}(a b c d:e):fN [a,b,c,d] 2=some c:=rfl
theorem DZ{e:Type}(a b c d:e):fN [a,b,c,d] 3=some d:=rfl
theorem RJ(c:jA)(t u:TX):gi c t u=gi c (rS t) u:=by unfold rS;rfl
theorem NZ{c:Prop}[Decidable c]{a b:Bool}{H Z:Prop}(h:c->a=true\/b=true->H)(z:¬(c/\(a=true\/b=true))->Z):if c then(if a=true then H else if b=true then H else Z) else Z:=by
 split
 .rename_i d;split
  .exact h d (.inl (by assumption))
  split
  .exact h d (.inr (by assumption))
  show z λw=>w.2.elim (by assumption) (by assumption)
 show z λw=>absurd w.1 (by assumption)
def Fy:TX:=(cM (j8 (n8 (cy (eY lW (cy (cf 0) cD)) cD)) (c6 4) (gi (rm (dA (cA (jx λi j=>.bl (decide (j<=i))) (cA ec (cf 1) (cf 4)) (dC (.int 0)))) (xC (dA (cA (nG false) (cA ec (cA ec (cf 0) (cf 4)) (dC (.int 0))) (dC .non))) (dA (cA vE (cA ec (cA ec (cf 0) (cf 4)) (dC (.int 0))) (cA ec (cA ec (cf 0) (cf 2)) (dC (.int 0))))))) (gi (dA (cA (jx λi j=>.bl (decide (i<=j))) (eY rT (cy (cA ec (cA ec (cf 0) (cf 4)) (dC (.int 1))) (cy (cA ec (cA ec (cf 0) (cf 2)) (dC (.int 1))) cD))) (eY tH (cy (cA ec (cA ec (cf 0) (cf 4)) (dC (.int 2))) (cy (cA ec (cA ec (cf 0) (cf 2)) (dC (.int 2))) cD))))) (gi (rm (dA (cA (jx λi j=>.bl (decide (i<j))) (cA ec (cf 1) (cf 4)) (cA fw (cf 3) (cA ec (cA ec (cf 0) (cf 2)) (dC (.int 3)))))) (dA (cA (jx λi j=>.bl (decide (i<j))) (cf 3) (cA fw (cA ec (cf 1) (cf 4)) (cA ec (cA ec (cf 0) (cf 4)) (dC (.int 3))))))) (fV (dC (.bl false))) gG) gG) gG))
 (fV (dC (.bl true))))
theorem Vv:jc 4 zW Fy ["_law_pieces","_law_tracks_here","_law_one","_law_t","_law_q"]:=by
 intro ds H hl h;obtain⟨ps,tr,o,t,rfl,hn,ht,C,m,j⟩:=h;show Fy _ [.fz (iL ps),.fz (.lst (tr.map .int)),.fz (.int o),.fz (.int t),.un];unfold Fy;have big:=iU;have f:∀i,i<ps.length->fN ps (i:Int)=some (gQ ps i):=λi hi=>by rw[B7 hi];show nM hi
 have g:∀i,i<ps.length->fN tr (i:Int)=some (jH tr i):=λi hi=>by rw[Ji (by ext)];show nM (by ext)
 walk_at"px";show wM ps.length (λJ h=>?_) (λi d=>∃s:Sl,(∀q,q<i->¬uW ps tr o t q)/\d=[.fz (iL ps),.fz (.lst (tr.map .int)),.fz (.int o),.fz (.int t),s]) ⟨_,λq u=>absurd u (Nat.not_lt_zero _),rfl⟩ ?_ ?_
 .unfold iL;walk_at"px";rw[ae];show⟨by ext,by ext,by simpa using h⟩
 .rintro i d hi ⟨s,hb,rfl⟩;have y:=f i hi;have x:=f o C;have v:=g i hi;have nx:¬uW ps tr o t i->∀q,q<i+1->¬uW ps tr o t q:=λhn q u=>by
   by_cases F:q=i
   .rw[F];show hn
   show hb q (by ext)
  have go:uW ps tr o t i->H (.fz (.bl false)):=λh=>m ⟨i,hi,h⟩
  generalize D:(∀q,q<i+1->¬uW ps tr o t q)=Inv at nx ⊢;unfold uW at nx go;generalize gQ ps i=p at *;generalize gQ ps o=po at *;generalize jH tr i=I at *;clear f g hb m j hl D;unfold iL;rw[RJ];walk_at"px";simp only[y,x,v,jg,IK,IJ,II,DZ,aZ,exists_eq_left'];walk_at"px";show NZ (λE b=>?_) λhn=>⟨_,nx λh=>hn ⟨h.1,?_⟩,rfl⟩
  .have b:p.n=none\/p.n≠po.n:=by
    cases e:p.n with
    | none=>show .inl rfl
    | some w=>
     rw[e] at b;rcases b with z | z
     .cases z
     show .inr (by simpa using z)
   walk_at"go";simp only[y,x,v,jg,IK,IJ,II,DZ,aZ,exists_eq_left'];have B:(if po.l>p.l then po.l else p.l)=max p.l po.l:=by split<;>ext
   have A:(if po.r<p.r then po.r else p.r)=min p.r po.r:=by split<;>ext
   walk_at"px";rw[B,A];split
   .split
    .split
     .exact go ⟨E,b,by assumption,by assumption,by assumption⟩
     show⟨_,nx λh=>absurd h.2.2.2.2 (by assumption),rfl⟩
    show⟨_,nx λh=>absurd h.2.2.2.1 (by assumption),rfl⟩
   show⟨_,nx λh=>absurd h.2.2.1 (by assumption),rfl⟩
  rcases h.2.1 with z | z
  .exact .inl (by rw[z];rfl)
  show .inr (by simpa using z)
 rintro d ⟨s,hb,rfl⟩;walk_at"go";show j hb
def xI(ps:List Pc)(tr:List Int)(p q:Nat):Prop:=
 ((gQ ps q).n=none\/(gQ ps q).n≠(gQ ps p).n)/\max (gQ ps q).l (gQ ps p).l<=min (gQ ps q).r (gQ ps p).r/\jH tr q<jH tr p+(gQ ps p).k/\jH tr p<jH tr q+(gQ ps q).k
theorem xI.symm{ps:List Pc}{tr:List Int}{p q:Nat}(h:xI ps tr p q):xI ps tr q p:=by
 obtain⟨a,d,c,b⟩:=h;show⟨?_,by ext,b,c⟩;rcases a with a | a
 .rw[a];cases (gQ ps p).n with
  | none=>show .inl rfl
  | some w=>show .inr (by simp)
 show .inr (Ne.symm a)
structure xD(ps:List Pc)(ts:List Tr)(tr:List Int):Prop where
 len:tr.length=ps.length
 lo:∀q,q<ps.length->0<=jH tr q
 no:∀p q,p<ps.length->q<ps.length->p≠q->¬xI ps tr p q
 od:∀t∈ts,jH tr t.1+(gQ ps t.1).k<=jH tr t.2.1
 hi:∀q,q<ps.length->jH tr q<=5*ps.length
def zN:fc:=λds Q=>∃(ps:List Pc)(ts:List Tr)(a:List Nat)(b:Int),ds=[iL ps,oG ts,.lst (a.map dN),.int b]/\ps.length<=1000/\DV ps.length ts/\a.Perm (List.range ps.length)/\qV ts a/\(∀q,q<ps.length->(gQ ps q).k<=3)/\∀tr,xD ps ts tr->Q (.ow (tr.map .int))
theorem Qq(tr:List Int)(o:Nat)(t:Int)(h:o<tr.length)(q:Nat):jH (tr.set o t) q=if q=o then t else jH tr q:=by
 unfold jH;rw[List.getElem?_set];by_cases a:q=o
 .subst a;simp[h]
 rw[if_neg (Ne.symm a),if_neg a]
theorem Ot(f:Nat->Int)(n:Nat):∃B:Int,∀q,q<n->f q<=B:=by
 induction n with
 | zero=>show⟨0,λq h=>absurd h (Nat.not_lt_zero _)⟩
 | succ n a=>
  obtain⟨B,b⟩:=a;show⟨max B (f n),λq c=>?_⟩;by_cases h:q=n
  .subst h;ext
  have:=b q (by ext);ext
structure uT(ps:List Pc)(ts:List Tr)(d:List Nat)(tr:List Int):Prop where
 len:tr.length=ps.length
 lo:∀q,q<ps.length->q∈d->0<=jH tr q
 no:∀p q,p<ps.length->q<ps.length->p∈d->q∈d->p≠q->¬xI ps tr p q
 od:∀t∈ts,t.2.1∈d->t.1∈d/\jH tr t.1+(gQ ps t.1).k<=jH tr t.2.1
 hi:∀q,q<ps.length->jH tr q<=5*d.length
theorem uT.put{ps:List Pc}{ts:List Tr}{d:List Nat}{tr:List Int}(P:uT ps ts d tr){o:Nat}{t:Int}(v:o<ps.length)(hd:o∉d)(r:0<=t)(hh:∀q,q<ps.length->¬uW ps tr o t q)(ha:∀x∈ts,x.2.1=o->x.1∈d/\jH tr x.1+(gQ ps x.1).k<=t)(ht:t<=5*d.length+5):uT ps ts (d++[o]) (tr.set o t):=by
 have n:=P.len;have e:=λq=>Qq tr o t (by ext) q
 show⟨by simpa using n,λq a hm=>?_,λp q c a g i j hb=>?_,λx hx hm=>?_,λq a=>?_⟩
 .rw[e];by_cases h:q=o
  .rw[if_pos h];show r
  rw[if_neg h];rcases av.mp hm with z | z
  .exact P.lo q a z
  simp at z;show absurd z h
 .have k:∀q,q<ps.length->q∈d++[o]->q≠o->q∈d:=λq _ hm h=>by
   rcases av.mp hm with z | z
   .exact z
   simp at z;show absurd z h
  have one:∀q,q<ps.length->q∈d++[o]->q≠o->¬xI ps (tr.set o t) o q:=λq a hm h hb=>by
   obtain⟨u,s,m,l⟩:=hb;rw[e,if_neg h,e,if_pos rfl] at m;rw[e,if_pos rfl,e,if_neg h] at l;show hh q a ⟨P.lo q a (k q a hm h),u,s,m,l⟩
  by_cases b:p=o
  .subst b;show one q a i (Ne.symm j) hb
  by_cases f:q=o
  .subst f;show one p c g b hb.symm
  unfold xI at hb;rw[e,if_neg f,e,if_neg b] at hb;show P.no p q c a (k p c g b) (k q a i f) j hb
 .have key:x.1∈d/\jH tr x.1+(gQ ps x.1).k<=(if x.2.1=o then t else jH tr x.2.1):=by
   by_cases h:x.2.1=o
   .rw[if_pos h];show ha x hx h
   rw[if_neg h];show P.od x hx ?_;rcases av.mp hm with z | z
   .exact z
   simp at z;show absurd z h
  have b:x.1≠o:=λz=>hd (z▸key.1)
  show⟨List.mem_append_left _ key.1,?_⟩;rw[e,if_neg b,e];show key.2
 rw[e,ar,List.length_singleton];have:=P.hi q a;split<;>ext
def FJ:TX:=(cM (kY 4 (gh (hV (cf 0)) [none] (c6 0) jJ (pU (dC (.int 1)))))
 (cM (j8 (ug (cy (cf 2) cD)) (j9 2 (eJ (c6 5) (eJ (c6 6) ja))) (cM (eE 7 (cA ec (gM (cy (dC (.int 0)) (cy (dC (.int 0)) (cy (dC (.int 0)) (cy (dC (.int 1)) (cy (dC (.int 2)) cD)))))) (cA (oI (λ_ j=>0<j) λi j=>.int (i%j)) (fO 2 qB (cy (cf 3) (cy (cA fw (cf 5) (dC (.int 700))) cD))) (dC (.int 5)))))
 (cM (j8 (hV (cf 1)) (j9 3 (eJ (c6 8) (eJ (c6 9) (eJ (c6 10) ja)))) (gi (dA (cA oEq (cf 9) (cf 6))) (eE 7 (eY rT (cy (cf 7) (cy (cA fw (u5 4 (cf 8)) (cA ec (cA ec (cf 0) (cf 8)) (dC (.int 3)))) cD)))) gG))
 (cM (D9 (tx (dA (D6 4 (fO 4 zW (cy (cf 0) (cy (cf 4) (cy (cf 6) (cy (cf 7) cD)))))))) (eE 7 (cA fw (cf 7) (dC (.int 1)))))
 (B3 4 (cf 6) (cf 7))))))
 (pd 4)))
theorem Wl:jc 4 zN FJ ["_law_pieces","_law_above","_law_turns_here","_law_seed","_law_tracks_here","_law_k","_law_one","_law_t","_law_p","_law_q","_law_c"]:=by
 intro ds Qr hl h;obtain⟨ps,ts,n,C,rfl,hn,J,v,Q,I,q⟩:=h;show FJ _ [.fz (iL ps),.fz (oG ts),.fz (.lst (n.map dN)),.fz (.int C),.un,.un,.un,.un,.un,.un,.un];unfold FJ;have big:=iU;have T:∀i,i<ps.length->fN ps (i:Int)=some (gQ ps i):=λi hi=>by rw[B7 hi];show nM hi
 have N:=v.length_eq;rw[bU] at N;have GZ:∀o∈n,o<ps.length:=λo h=>bH.mp (v.subset h)
 have O:n.Nodup:=v.nodup_iff.mpr List.nodup_range;walk_at"px";show nN ps jg (λ_=>.int (-1)) (λL h=>?_) (by ext) (λp v K1 k=>?_) ?_
 .unfold iL;walk_at"px";show h
 .walk_at"px";show k
 rw[show ps.map (λ_=>D.int (-1))=(ps.map λ_=>(-1:Int)).map D.int by rw[aS];rfl];walk_at"go";show E9 n dN (λL h=>?_) (λi r=>∃(tr:List Int)(a b c d e f:Sl),uT ps ts (n.take i) tr/\r=[.fz (iL ps),.fz (oG ts),.fz (.lst (n.map dN)),.fz (.int C),.ow (tr.map .int),a,b,c,d,e,f]) ⟨_,_,_,_,_,_,_,⟨by simp,λq _ g=>by simp at g,λp q _ _ h=>by simp at h,λt _ h=>by simp at h,λq g=>by unfold jH;simp[g]⟩,rfl⟩ ?_ ?_
 .walk_at"px";show h
 .rintro i o r hi ⟨tr,a,b,c,d,e,f,P,rfl⟩;have t4:i<n.length:=(aB.mp hi).1;have E:=GZ o (aM hi);have tk:n.take (i+1)=n.take i++[o]:=by rw[bz,hi];rfl
  have S:o∉n.take i:=by
   have w:=(List.take_sublist (i+1) n).nodup O;rw[tk,List.nodup_append] at w;show λz=>w.2.2 o z o (by simp) rfl
  have U:∀t∈ts,t.2.1=o->t.1∈n.take i:=Q _ o (n.drop (i+1)) (by rw[List.append_cons,<-tk,bB])
  have H:(n.take i).length=i:=by rw[aL];ext
  rw[tk];rw[show dN o=D.int o from rfl];walk_at"px";show⟨by ext,_,_,rfl,by ext,by ext,?_⟩;generalize tG _ _=s;have m0:=bg s (show(5:Int)≠0 by ext);have m1:=bw s (show(0:Int)<5 by ext);obtain⟨t0,Y,X1,Z⟩:∃t0:Int,0<=t0/\t0<=2/\fN [D.int 0,D.int 0,D.int 0,D.int 1,D.int 2] (s%5)=some (.int t0):=by
   have:s%5=0\/s%5=1\/s%5=2\/s%5=3\/s%5=4:=by ext
   rcases this with z | z | z | z | z<;>rw[z]
   .exact⟨0,by ext,by ext,rfl⟩
   .exact⟨0,by ext,by ext,rfl⟩
   .exact⟨0,by ext,by ext,rfl⟩
   .exact⟨1,by ext,by ext,rfl⟩
   show⟨2,by ext,by ext,rfl⟩
  show⟨by ext,_,Z,?_⟩;have R:∀i,i<ps.length->fN tr (i:Int)=some (jH tr i):=λi hi=>by rw[Ji (by rw[P.len];show hi)];show nM (by rw[P.len];show hi)
  walk_at"go";show um ts dT (λL h=>?_) (λj r=>∃(t:Int)(d e f:Sl),0<=t/\t<=5*i+5/\(∀x∈ts.take j,x.2.1=o->jH tr x.1+(gQ ps x.1).k<=t)/\r=[.fz (iL ps),.fz (oG ts),.fz (.lst (n.map dN)),.fz (.int C),.ow (tr.map .int),.fz (.int i),.fz (.int o),.fz (.int t),d,e,f]) ⟨_,_,_,_,Y,by ext,λx hx=>by simp at hx,rfl⟩ ?_ ?_
  .unfold oG;walk_at"px";show h
  .rintro j tt r K ⟨t,d,e,f,h0,y,u,rfl⟩;have M:ts.take (j+1)=ts.take j++[tt]:=by rw[bz,K];rfl
   obtain⟨v1,v2⟩:=J tt (aM K);have w:=T _ v1;have A:=R _ v1;unfold dT iL;walk_at"px";simp only[w,A,jg,DZ,aZ,exists_eq_left'];walk_at"px";split
   .have F:=P.hi _ v1;have X:=I _ v1;rw[H] at F;show⟨_,_,_,_,by split<;>ext,by split<;>ext,λx hx g=>?_,rfl⟩;rw[M] at hx;rcases av.mp hx with hx | hx
    .have:=u x hx g;split<;>ext
    simp at hx;subst hx;split<;>ext
   rename_i W;show⟨_,_,_,_,h0,y,λx hx g=>?_,rfl⟩;rw[M] at hx;rcases av.mp hx with hx | hx
   .exact u x hx g
   simp at hx;subst hx;show absurd (by ext) W
  rintro r ⟨t,d,e,f,h0,y,u,rfl⟩;rw[bS] at u;walk_at"go";obtain⟨B,V⟩:=Ot (λq=>jH tr q+(gQ ps q).k) ps.length;show⟨λm r=>∃t:Int,0<=t/\t<=5*i+5/\(∀x∈ts,x.2.1=o->jH tr x.1+(gQ ps x.1).k<=t)/\m=(B-t).toNat/\r=[.fz (iL ps),.fz (oG ts),.fz (.lst (n.map dN)),.fz (.int C),.ow (tr.map .int),.fz (.int i),.fz (.int o),.fz (.int t),d,e,f],⟨_,_,h0,y,u,rfl,rfl⟩,?_⟩;rintro m r ⟨t,h0,y,u,rfl,rfl⟩;walk_at"px";show⟨ps,tr,o,t,rfl,hn,P.len,E,λhh=>?_,λhh=>?_⟩
  .obtain⟨q,g,h⟩:=hh;have y:=V q g;have h6:=h.2.2.2.2;have F:=P.hi q g;have X:=I q g;rw[H] at F;walk_at"px";try show⟨rfl,?_⟩
   show⟨_,by ext,_,by ext,by ext,λx hx g=>by have:=u x hx g;ext,rfl,rfl⟩
  walk_at"px";try show⟨rfl,?_⟩
  walk_at"go";show⟨o,by rw[ae,P.len];show JE E,?_⟩;rw[<-List.map_set];show⟨tr.set o t,_,_,_,_,_,_,P.put E S h0 hh (λx hx g=>⟨U x hx g,u x hx g⟩) (by rw[H];show y),rfl⟩
 rintro r ⟨tr,a,b,c,d,e,f,P,rfl⟩;rw[bS] at P;walk_at"go";show q tr ⟨P.len,λq g=>P.lo q g (v.symm.subset (bH.mpr g)),λp q w A=>P.no p q w A (v.symm.subset (bH.mpr w)) (v.symm.subset (bH.mpr A)),λt ht=>(P.od t ht (v.symm.subset (bH.mpr (J t ht).2))).2,λq g=>by have:=P.hi q g;rw[N] at this;show this⟩
theorem RH(w:Str)(k a x:Int)(r:List Int):ud w k (a::x::r)=⟨some w,a,x,k⟩::ud w k (x::r):=by
 unfold ud;simp
theorem Jh(w:Str)(k:Int):∀(bs:List Int),bs.Pairwise (·<·)->∀p∈ud w k bs,p.n=some w/\p.k=k/\p.l<p.r/\p.l∈bs/\p.r∈bs
 | [],_,p,h=>by simp[ud] at h
 | [a],_,p,h=>by simp[ud] at h
 | a::x::r,u,p,h=>by
  rw[RH] at h;rcases ao.mp h with rfl | h
  .exact⟨rfl,rfl,(bN.mp u).1 x (by simp),by simp,by simp⟩
  obtain⟨f,e,d,c,b⟩:=Jh w k (x::r) (bN.mp u).2 p h;show⟨f,e,d,aE _ c,aE _ b⟩
section
variable{ws:List Str}{most:Nat}{c:cS}{w:Str}
theorem RG(h:∃a∈pl c w,∃b∈pl c w,a<b):∃a b,tF (pl c w)=some (a,b)/\a<b/\(∀k∈pl c w,a<=k/\k<=b)/\a∈pl c w/\b∈pl c w:=by
 obtain⟨x,hx,y,e,i⟩:=h;have up:=BO c w;generalize pl c w=l at hx e up;cases l with
 | nil=>cases hx
 | cons a r=>
  have lm:=zk up;have lo:∀k∈a::r,a<=k:=λk d=>by
   rcases ao.mp d with rfl | d
   .omega
   have:=(bN.mp up).1 k d;ext
  have g:=lo x hx;have f:=lm y e;show⟨a,(a::r).getLast (by simp),?_,by ext,λk d=>⟨lo k d,lm k d⟩,by simp,List.getLast_mem _⟩;simp only[tF];rw[if_neg (by ext)]
theorem KR(k:Int)(h:k∈pl c w):-1<=k/\k<=c.top.length:=by
 unfold pl at h;rcases av.mp h with h | h
 .rcases av.mp h with h | h
  .split at h
   .simp at h;ext
   cases h
  obtain⟨n,hn,rfl⟩:=aR.mp h;have:=bH.mp (aU.mp hn).1;ext
 split at h
 .simp at h;ext
 cases h
theorem Ti(g:fB ws most c)(hm:most<=40)(cL:Bool){a b:Int}(h:tF (pl c w)=some (a,b))(f:a<b):([a]++(if cL then pf c w else [])++[b]).Pairwise (·<·):=by
 have bi:∀x∈(if cL then pf c w else []),a<x/\x<b:=λx hx=>by
  cases cL with
  | false=>simp at hx
  | true=>
   simp only[aQ] at hx;unfold pf at hx;obtain⟨p,i,rfl⟩:=aR.mp hx;obtain⟨m,n⟩:=aU.mp i;obtain⟨_,q,o,e,k,j⟩:=PQ g hm m;rw[show p.2=w by simpa using n,h] at e;cases e;show⟨k,j⟩
 have l:(if cL then pf c w else []).Pairwise (·<·):=by
  cases cL with
  | false=>simp
  | true=>
   simp only[aQ];unfold pf;rw[List.pairwise_map];show g.be.up.sublist List.filter_sublist
 rw[ba];show⟨?_,by simp,λx hx y d=>?_⟩
 .rw[ba];show⟨by simp,l,λx hx y d=>by simp at hx;subst hx;show(bi y d).1⟩
 simp at d;subst d;rcases av.mp hx with hx | hx
 .simp at hx;subst hx;show f
 show(bi x hx).2
theorem Qp(g:fB ws most c)(hm:most<=40)(cL:Bool){p:Pc}(h:p∈tE c cL w):p.n=some w/\p.k=pV c.wide w/\p.l<p.r/\-1<=p.l/\p.r<=c.top.length:=by
 unfold tE at h;split at h
 .cases h
 rename_i q e;obtain⟨a,b⟩:=q;have d:a<b/\(∀k∈pl c w,a<=k/\k<=b)/\a∈pl c w/\b∈pl c w:=by
  have:∃a∈pl c w,∃b∈pl c w,a<b:=by
   have up:=BO c w;generalize pl c w=l at e up;cases l with
   | nil=>cases e
   | cons x r=>
    simp only[tF] at e;split at e
    .cases e
    rename_i A
    show⟨x,by simp,_,List.getLast_mem (by simp),by
     have:=zk up x (by simp);ext⟩
  obtain⟨E,D,t,m,j,i,f⟩:=RG this;rw[e] at t;cases t;show⟨m,j,i,f⟩
 have u:=Ti g hm cL e d.1;obtain⟨m,j,i,f,y⟩:=Jh w _ _ u p h;have lo:∀x∈[a]++(if cL then pf c w else [])++[b],a<=x/\x<=b:=λx hx=>by
  have s:=u;rw[bp,List.singleton_append] at hx s;have o:=bN.mp s;have v:=(ba.mp o.2).2.2;rcases ao.mp hx with rfl | hx
  .exact⟨by ext,by ext⟩
  show⟨by have:=o.1 x hx;ext,?_⟩;rcases av.mp hx with hx | hx
  .have:=v x hx b (by simp);ext
  simp at hx;ext
 have C:=KR a d.2.2.1;have B:=KR b d.2.2.2;have l1:=lo _ f;have z:=lo _ y;show⟨m,j,i,by ext,by ext⟩
end
theorem JB{ps:List Pc}{n:Option Str}{k:Int}{j:Nat}(h:j∈oK ps n k):j<ps.length/\(gQ ps j).n=n/\(gQ ps j).l<=k/\k<=(gQ ps j).r:=by
 unfold oK at h;obtain⟨p,d,rfl⟩:=aR.mp h;obtain⟨g,a⟩:=aU.mp d;have c:=List.mem_zipIdx g;obtain⟨_,c,f⟩:=c;have b:p.2<ps.length:=by ext
 have e:gQ ps p.2=p.1:=by
  rw[B7 b];simpa using f.symm
 rw[e];simp only[BD,Bool.and_eq_true,bE] at a;show⟨b,a.1,a.2.1,a.2.2⟩
theorem Qo{ws:List Str}{a:Nat}{c:cS}(g:fB ws a c)(w:Str):1<=pV c.wide w:=by
 have h:=λp e=>(g.ww p e).2.1
 generalize c.wide=l at h;induction l with
 | nil=>show Int.le_refl 1
 | cons p r b=>
  unfold pV;split
  .have:=h p (by simp);ext
  show b λq d=>h q (aE _ d)
theorem Oq{ws:List Str}{a:Nat}{c:cS}(g:fB ws a c)(w:Str):pV c.wide w<=3:=by
 have h:=λp e=>(g.ww p e).2.1
 generalize c.wide=l at h;induction l with
 | nil=>show(1:Int)<=3;decide
 | cons p r b=>
  unfold pV;split
  .have:=h p (by simp);ext
  show b λq d=>h q (aE _ d)
theorem RF{ws:List Str}{a:Nat}{c:cS}(g:fB ws a c)(hm:a<=40)(cL:Bool)(l:List Str):∀p∈dh c cL l,1<=p.k/\p.k<=3:=λp b=>by
 unfold dh at b;rcases av.mp b with b | b
 .obtain⟨k,d,rfl⟩:=aR.mp b;show(g.ke.2 k d).2.2.2
 obtain⟨w,_,b⟩:=List.mem_flatMap.mp b;rw[(Qp g hm cL b).2.1];show⟨Qo g w,Oq g w⟩
noncomputable def BC(c:cS)(cL:Bool)(ps:List Pc)(ts:List Tr)(tr:List Int)(n:Int):D:=.obj "Layout" [("channel",c.obj),("bent",.bl cL),("pieces",iL ps),("above",oG ts),("tracks",.lst (tr.map .int)),("count",.int n)]
structure qp(ps:List Pc)(tr:List Int)(n:Int):Prop where
 ge:∀p∈ps.zip tr,p.2+p.1.k<=n
 at_:(ps.zip tr=[]/\n=0)\/∃p∈ps.zip tr,n=p.2+p.1.k
def yp:fc:=λds Q=>∃(ps:List Pc)(tr:List Int),ds=[iL ps,dI tr]/\ps.length<=1000/\∀n,qp ps tr n->Q (.fz (.int n))
def Fo:TX:=(fV (BR (gh (xR (cy (cf 0) (cy (cf 1) cD))) [none,none] (j9 2 (eJ (c6 0) (eJ (c6 1) ja))) jJ (cA fw (cf 1) (cA ec (cf 0) (dC (.int 3))))) (dC (.int 0))))
theorem U2:jc 2 yp Fo ["pieces","tracks"]:=by
 intro ds g hl h;obtain⟨ps,tr,rfl,b,q⟩:=h;show Fo _ [.fz (iL ps),.fz (dI tr)];unfold Fo;have big:=iU;show BR _ _ _ _;unfold BR;show nN (ps.zip tr) (λp=>.tup [jg p.1,.int p.2]) (λp=>.int (p.2+p.1.k)) (λi h=>?_) (by rw[List.length_zip];ext) (λp b j k1=>?_) ?_
 .unfold iL dI;walk_at"px";rw[EH];show h
 .rw[show jg p.1=.tup [dO p.1.n,.int p.1.l,.int p.1.r,.int p.1.k] from rfl];walk_at"px";show⟨_,rfl,k1⟩
 show⟨(ps.zip tr).map λp=>p.2+p.1.k,by rw[aS];rfl,λe=>?_,λn hn le=>?_⟩
 .have d:ps.zip tr=[]:=by simpa using e
  show q 0 ⟨λp b=>(by rw[d] at b;cases b),.inl ⟨d,rfl⟩⟩
 obtain⟨p,b,rfl⟩:=aR.mp hn;show q _ ⟨λx hx=>le _ (b9 (f:=λp:Pc×Int=>p.2+p.1.k) hx),.inr ⟨p,b,rfl⟩⟩
def zC:fc:=λds Q=>∃(c:cS)(cL:Bool)(ps:List Pc)(ts:List Tr)(tr:List Int),ds=[c.obj,.bl cL,iL ps,oG ts,.lst (tr.map .int)]/\ps.length<=1000/\∀n,qp ps tr n->Q (.fz (BC c cL ps ts tr n))
def Cv:vT:=(oX "channel" (cf 1) (oX "bent" (cf 2) (oX "pieces" (eY oY (cy (cf 3) cD)) (oX "above" (eY oY (cy (cf 4) cD)) (oX "tracks" (eY oY (cy (cf 5) cD)) (oX "count" (fO 2 yp (cy (cf 3) (cy (cf 5) cD))) yP))))))
theorem UU(ds:List D)(a:R->Prop)(b:List (Str×D)->Prop)(na:∀fs:List (Str×D),fs.map (·.1)=(["channel","bent","pieces","above","tracks","count"]:List Str)->b fs)(h:zC ds a) :
  Cv (uj ["self","channel","bent","pieces","above","tracks"] ds) [] λfs=>b fs/\a (.fz (.obj "Layout" fs)):=by
 obtain⟨c,cL,ps,ts,tr,rfl,d,q⟩:=h;show Cv [.un,.fz c.obj,.fz (.bl cL),.fz (iL ps),.fz (oG ts),.fz (.lst (tr.map .int))] [] _;unfold Cv;unfold iL oG;simp only[oX,yP,eY,cy,cD,cf,gt,oY,xZ,vd];show⟨by decide,show 1<1000 by decide,show 2<1000 by decide,show 3<1000 by decide,show 4<1000 by decide,?_⟩;simp only[fO,cy,cD,cf,gt,xZ];show⟨rfl,ps,tr,rfl,d,λn hn=>⟨show 5<1000 by decide,na _ rfl,q n hn⟩⟩
theorem Jg{ps:List Pc}{p:Pc×Nat}(h:p∈ps.zipIdx):p.2<ps.length:=(aB.mp (List.mem_zipIdx_iff_getElem?.mp h)).1
theorem Jf{ps:List Pc}{p:Pc×Nat}(h:p∈ps.zipIdx):gQ ps p.2=p.1:=by
 unfold gQ;rw[List.mem_zipIdx_iff_getElem?.mp h];rfl
theorem Je{c:cS}{ps:List Pc}{t:Tr}(h:t∈ot c ps):(t.1<ps.length/\t.2.1<ps.length)/\∃(n:Nat)(u v:Str),c.top[n]?=some (some u)/\c.cg[n]?=some (some v):=by
 unfold ot at h;obtain⟨n,_,ht⟩:=List.mem_flatMap.mp h;unfold rX at ht;split at ht
 .rename_i u v e d;split at ht
  .cases ht
  obtain⟨a,ha,ht⟩:=List.mem_flatMap.mp ht;obtain⟨b,hb,rfl⟩:=aR.mp ht;show⟨⟨(JB ha).1,(JB hb).1⟩,n,u,v,e,d⟩
 cases ht
theorem JA{ps:List Pc}{t:Tr}(h:t∈kL ps):(t.1<ps.length/\t.2.1<ps.length)/\(gQ ps t.1).n=none/\(gQ ps t.2.1).n≠none:=by
 unfold kL at h;obtain⟨p,c,ht⟩:=List.mem_flatMap.mp h;unfold tL at ht;split at ht
 .rename_i hn;obtain⟨x,hx,rfl⟩:=aR.mp ht;unfold wa u7 at hx;obtain⟨y,f,e⟩:=List.mem_filterMap.mp hx;obtain⟨z,hz,rfl⟩:=aR.mp f;obtain⟨g,_,rfl⟩:=Option.map_eq_some_iff.mp e;obtain⟨b,a⟩:=aU.mp hz;show⟨⟨Jg c,Jg b⟩,by rw[Jf c];show hn,?_⟩;dsimp only;rw[Jf b];intro d;rw[d] at a;cases a
 cases ht
theorem R6{c:cS}{ps:List Pc}{ts:List Tr}(h:Above c ps ts):DV ps.length ts:=λt ht=>by
 rcases av.mp (h.pm.mem_iff.mp ht) with ht | ht
 .exact(Je ht).1
 show(JA ht).1
theorem R5{c:cS}{ps:List Pc}{ts:List Tr}(h:Above c ps ts)(nb:D7 c):¬IL ps.length ts:=λ⟨S,f,_,a⟩=>by
 have key:∀t∈ts,(gQ ps t.1).n=none/\(gQ ps t.2.1).n≠none:=λt ht=>by
  rcases av.mp (h.pm.mem_iff.mp ht) with ht | ht
  .obtain⟨_,n,u,v,i,g⟩:=Je ht;show(nb n u v i g).elim
  show(JA ht).2
 cases S with
 | nil=>show f rfl
 | cons q S=>
  obtain⟨t,ht,_,b⟩:=a q (by simp);obtain⟨t',d,e,_⟩:=a t.1 b;have k1:=(key t ht).1;have k2:=(key t' d).2;rw[e] at k2;show k2 k1
structure Ii(c:cS)(cL:Bool)(l:List Str)(ts:List Tr)(tr:List Int)(n:Int):Prop where
 good:∃(ws:List Str)(most:Nat),ws.length<=8/\most<=16/\fB ws most c
 Xw:xH c l
 ab:Above c (dh c cL l) ts
 NB:(dh c cL l).length<=500
 An:xD (dh c cL l) ts tr
 cnt:qp (dh c cL l) tr n
def zM:fc:=λds Q=>∃(ws:List Str)(most:Nat)(c:cS)(b:Int),ds=[.lst c.parts,.int b]/\ws.length<=8/\most<=16/\fB ws most c/\∀a cL l ts tr n,Ii a cL l ts tr n->a.top.length=c.top.length->Q (.fz (BC a cL (dh a cL l) ts tr n))
def FI:TX:=(cM (eE 2 (gM (cy (gM (cy (cf 0) (cy (cA oEq (cA (oI (λ_ j=>0<j) λi j=>.int (i%j)) (cf 1) (dC (.int 2))) (dC (.int 1))) cD))) (cy (gM (cy (cf 0) (cy (cA oEq (cA (oI (λ_ j=>0<j) λi j=>.int (i%j)) (cf 1) (dC (.int 2))) (dC (.int 0))) cD))) (cy (gM (cy (fO 1 zY (cy (cf 0) cD)) (cy (cA oEq (cA (oI (λ_ j=>0<j) λi j=>.int (i%j)) (cf 1) (dC (.int 4))) (dC (.int 1))) cD))) cD)))))
 (cM (j8 (hV (cf 2)) (xP 2 (eJ (c6 3) (eJ (c6 4) ja))) (cM (eE 5 (fO 7 zI (cy (cA ec (cf 3) (dC (.int 0))) (cy (cA ec (cf 3) (dC (.int 1))) (cy (cA ec (cf 3) (dC (.int 2))) (cy (cA ec (cf 3) (dC (.int 3))) (cy (cA ec (cf 3) (dC (.int 4))) (cy (cA ec (cf 3) (dC (.int 5))) (cy (cA ec (cf 3) (dC (.int 6))) cD)))))))))
 (cM (eE 6 (fO 2 Ad (cy (cf 5) (cy (cf 4) cD))))
 (cM (eE 7 (fO 2 zF (cy (cf 5) (cy (cf 6) cD))))
 (cM (eE 8 (fO 3 zX (cy (eY lW (cy (cf 6) cD)) (cy (cf 7) (cy (cf 1) cD)))))
 (gi (dA (cA (nG true) (cf 8) (dC .non))) (fV (fO 5 zC (cy (cf 5) (cy (cf 4) (cy (cf 6) (cy (cf 7) (cy (fO 4 zN (cy (cf 6) (cy (cf 7) (cy (cf 8) (cy (cf 1) cD))))) cD))))))) gG))))))
 (fV (dC .non))))
theorem Wk:jc 2 zM FI ["_law_lists","_law_seed","_law_some","_law_row","_law_bent","_law_channel_here","_law_pieces","_law_above","_law_turns_here"]:=by
 intro ds S hl h;obtain⟨ws,most,m,j,rfl,W,hm,s,q⟩:=h;show FI _ [.fz (.lst m.parts),.fz (.int j),.un,.un,.un,.un,.un,.un,.un];unfold FI;have big:=iU;walk_at"px";show⟨by ext,by ext,ws,most,m,rfl,by ext,by ext,s,λc1 g1 V nb P=>⟨by ext,by ext,?_⟩⟩;obtain⟨L,y,K⟩:∃L:List (cS×Bool),L=[(m,decide (j%2=1)),(m,decide (j%2=0)),(c1,decide (j%4=1))]/\D.lst [D.lst [D.lst m.parts,D.bl (decide (j%2=1))],D.lst [D.lst m.parts,D.bl (decide (j%2=0))],D.lst [(R.ow c1.parts).val,D.bl (decide (j%4=1))]]=.lst (L.map λx=>.lst [.lst x.1.parts,.bl x.2]):=⟨_,rfl,rfl⟩
 rw[K];walk_at"go";show um L (λx=>.lst [.lst x.1.parts,.bl x.2]) (λY h=>?_) (λi p=>i<=2/\∃a b d e f k:Sl,p=[.fz (.lst m.parts),.fz (.int j),.fz (.lst (L.map λx=>.lst [.lst x.1.parts,.bl x.2])),a,b,d,e,f,k]) ⟨by ext,_,_,_,_,_,_,rfl⟩ ?_ ?_
 .walk_at"px";show h
 .rintro i ⟨c,cL⟩ p hi ⟨U,a,b,d,e,f,k,rfl⟩;have hg:fB ws most c/\(i=2->D7 c)/\c.top.length=m.top.length:=by
   rw[y] at hi;match i,hi,U with
   | 0,hi,_=>cases hi;show⟨s,λz=>by ext,rfl⟩
   | 1,hi,_=>cases hi;show⟨s,λz=>by ext,rfl⟩
   | 2,hi,_=>cases hi;show⟨g1,λ_=>nb,P⟩
  clear hi;obtain⟨g,O,Q⟩:=hg;have r:=PR g (by ext);have be:=g.be.len;have w2:=g.w2;have ke:=g.ke.1;generalize H:(λx:cS×Bool=>D.lst [D.lst x.1.parts,D.bl x.2])=F at *;rw[<-H];dsimp only;generalize X:m.parts=Z at *;unfold cS.parts;walk_at"px";show⟨_,rfl,_,rfl,_,rfl,_,rfl,_,rfl,_,rfl,_,rfl,_,_,_,_,_,_,_,rfl,?_⟩;show rS _ _ [_,_,_,_,_,.fz c.obj,_,_,_];walk_at"go";show⟨c,cL,ws,rfl,r,by ext,by ext,by ext,KG g,λl N=>?_⟩;have o:(dh c cL l).length<=500:=by
   have J:=zr N.nd λw hw=>KG g w ((N.mem w).mp hw)
   have I:=KI (tE c cL) (c.cU.length+1) (ED c cL) l;have A:l.length*(c.cU.length+1)<=8*17:=Nat.mul_le_mul (by ext) (by ext);unfold dh;rw[ar,show(wq c).length=c.keeps.length from ae _];ext
  have k3:∀q,q<(dh c cL l).length->(gQ (dh c cL l) q).k<=3:=λq v=>(RF g (by ext) cL l _ (by rw[B7 v];show List.getElem_mem v)).2
  have fin:∀ts tr n,Above c (dh c cL l) ts->xD (dh c cL l) ts tr->qp (dh c cL l) tr n->S (R.fz (BC c cL (dh c cL l) ts tr n)):=λts tr n ab ok t=>q c cL l ts tr n ⟨⟨ws,most,by ext,hm,g⟩,N,ab,o,ok,t⟩ Q
  generalize dh c cL l=ps at o fin k3 ⊢;have M:D.lst (ps.map jg)=iL ps:=rfl;simp only[vd];rw[M];walk_at"go";show⟨c,ps,rfl,r,o,λts ab=>?_⟩;have u:=R6 ab;have T:ts.length<=11000000:=by
   have J:=KH c ps r o;have I:=KU ps o;have A:=ab.pm.length_eq;rw[ar] at A;ext
  simp only[vd];rw[show D.lst (ts.map dT)=oG ts from rfl,show Sl.fz (iL ps)=Sl.fz (.lst (ps.map jg)) from rfl];walk_at"go";rw[ae];show⟨ps.length,ts,j,rfl,by ext,T,u,λst=>?_,λC E B=>?_⟩
  .walk_at"go";show⟨?_,_,_,_,_,_,_,rfl⟩;have:i≠2:=λz=>R5 ab (O z) st
   ext
  walk_at"go";show⟨ps,ts,C,j,rfl,by ext,u,E,B,k3,λtr ok=>?_⟩;show⟨c,cL,ps,ts,tr,rfl,by ext,λn t=>fin ts tr n ab ok t⟩
 rintro p ⟨h,_⟩;rw[y] at h;show absurd h (by simp)
end Wc
open PySem L2 PyProof.Rows Wc
local macro_rules | `(tactic| walk_at"px")=>`(tactic| (repeat(first | walk_at"b" | simp only[vS,ph,Eo,Ca,x9,pU])))
namespace Wc
open PySem L2 PyProof.Rows
structure Lay where
 c:cS
 cL:Bool
 l:List Str
 ts:List Tr
 tr:List Int
 n:Int
noncomputable def Lay.d(L:Lay):D:=BC L.c L.cL (dh L.c L.cL L.l) L.ts L.tr L.n
noncomputable abbrev AL:=Addr×Lay
noncomputable def qU(p:AL):D:=.idn p.1 p.2.d
noncomputable def mG(a:List AL):D:=.lst (a.map qU)
noncomputable def nP(p:AL):Nat:=p.2.c.top.length
noncomputable def pJ:List AL->Bool
 | []=>false
 | p::r=>r.all λq=>decide (nP q=nP p)
theorem Jz{e:List AL}{l:List Int}(nd:l.Nodup)(h:∀k,k∈l↔k∈e.map λp=>((nP p:Nat):Int)):l.length=1↔pJ e=true:=by
 cases e with
 | nil=>
  have:l=[]:=List.eq_nil_iff_forall_not_mem.mpr λk d=>by cases (h k).mp d
  rw[this];show⟨λz=>(by cases z),λz=>(by cases z)⟩
 | cons p r=>
  unfold pJ;rw[List.all_eq_true];have hd:((nP p:Nat):Int)∈l:=(h _).mpr (by simp);constructor
  .intro z q c;obtain⟨a,rfl⟩:=List.length_eq_one_iff.mp z;have f:=(h _).mpr (aR.mpr ⟨q,aE _ c,rfl⟩);rw[br] at f hd;have:nP q=nP p:=by ext
   simpa using this
  intro z;have all:∀k∈l,k=((nP p:Nat):Int):=λk d=>by
   obtain⟨q,c,rfl⟩:=aR.mp ((h k).mp d);rcases ao.mp c with rfl | c
   .rfl
   have:=z q c;have:nP q=nP p:=by simpa using this
   rw[this]
  cases l with
  | nil=>cases hd
  | cons a l=>
   cases l with
   | nil=>rfl
   | cons b l=>
    rw[bQ] at nd;show absurd (by rw[all a bM,all b (by simp)];simp) nd.1
def wd(a:List AL):Prop:=a.length<=3/\∀p∈a,nP p<=100
def pk:nj:=λds b Qx=>∃a,ds=[mG a]/\wd a/\(pJ a=true->b (.fz (.bl true)))/\(pJ a=false->Qx)
def C3(Qx:Prop):TX:=(cM (eE 1 (gh (hV (cf 0)) [none] (c6 0) jJ (eY lW (cy (kd "top" (kd "channel" (vS (cf 0)))) cD))))
 (cM (gi (dA (cA vE (eY vh (cy (cf 1) cD)) (dC (.int 1)))) (Ca Qx (dC (.str "the pile is empty, or its channels have not as many columns"))) gG)
 (fV (dC (.bl true)))))
theorem B6(L:Lay):L.d=.obj "Layout" [("channel",L.c.obj),("bent",.bl L.cL),("pieces",iL (dh L.c L.cL L.l)),("above",oG L.ts),("tracks",.lst (L.tr.map .int)),("count",.int L.n)]:=rfl
theorem WB(ds:List D)(f:R->Prop)(Qx:Prop)(hl:ds.length=1)(h:pk ds f Qx):C3 Qx { nx:=λ_=>f (.fz .non),rt:=f } (og ["layouts","widths"] ds):=by
 obtain⟨b,rfl,F,q,g⟩:=h;show C3 Qx _ [.fz (mG b),.un];unfold C3 mG;have big:=iU;have f1:=F.1;walk_at"px";show nN b qU (λp=>.int ((nP p:Nat):Int)) (λm h=>?_) (by ext) (λp i j k=>?_) ?_
 .walk_at"px";show h
 .have:=F.2 p i;unfold qU;rw[B6];walk_at"px";show⟨_,rfl,_,rfl,?_⟩;show j (D.int ((p.2.c.top.map dO).length:Nat));rw[ae];show k
 rw[show(R.ow (b.map λp=>D.int ((nP p:Nat):Int))).val=.lst ((b.map λp=>((nP p:Nat):Int)).map D.int) by rw[aS];rfl];walk_at"go";simp only[vh,vp];show⟨by rw[ae];ext,λl nd hm=>?_⟩;have o1:=Jz nd hm;walk_at"px";cases d:pJ b with
 | false=>
  rw[d] at o1;have:¬l.length=1:=λz=>aD (o1.mp z)
  have e:¬((l.length:Nat):Int)=1:=by ext
  rw[if_pos (by simpa using e)];show g d
 | true=>
  have:l.length=1:=o1.mpr d;have e:((l.length:Nat):Int)=1:=by ext
  rw[if_neg (by simp[e])];walk_at"go";show q d
noncomputable def pz(a:List AL)(i:Nat):Int:=((a.take i).map λp=>2*p.2.n+2).sum
theorem KD{a:List AL}{i:Nat}{p:AL}(h:a[i]?=some p):pz a (i+1)=pz a i+2*p.2.n+2:=by
 unfold pz;rw[bz,h,aI,List.sum_append];simp;ext
theorem Oo{a:List AL}(h:pJ a=true):a≠[]:=λz=>by rw[z] at h;cases h
theorem Om(n:Nat)(h:1<=n):HT.eR n n (some (-1))=n-1:=by
 unfold HT.eR;simp;ext
theorem Qn{a:Type}(l:List a)(h:l≠[]):kN l none (some (-1))=l.dropLast:=by
 have b:1<=l.length:=List.length_pos_iff.mpr h;unfold kN;rw[Om _ b];show(l.drop 0).take (l.length-1-0)=_;rw[List.drop_zero,Nat.sub_zero,List.dropLast_eq_take]
def wN:nj:=λds b Qx=>∃a,ds=[mG a]/\wd a/\(pJ a=true->b (.ow (((List.range a.length).map (pz a)).map .int)))/\(pJ a=false->Qx)
def CV(Qx:Prop):TX:=(cM (xW (ph 1 pk Qx (cy (cf 0) cD)))
 (cM (kY 1 (gM (cy (dC (.int 0)) cD)))
 (cM (j8 (hV (mF (cf 0) m7 (lh (pU (dC (.int 1)))))) (c6 2) (lX 1 (cA fw (cA fw (u5 1 (pU (dC (.int 1)))) (cA (oI iR λi j=>.int (i*j)) (dC (.int 2)) (kd "count" (vS (cf 2))))) (dC (.int 2)))))
 (pd 1))))
theorem Wj(ds:List D)(e:R->Prop)(Qx:Prop)(hl:ds.length=1)(h:wN ds e Qx):CV Qx { nx:=λ_=>e (.fz .non),rt:=e } (og ["layouts","rows","layout"] ds):=by
 obtain⟨b,rfl,F,q,j⟩:=h;show CV Qx _ [.fz (mG b),.un,.un];unfold CV;have big:=iU;have f1:=F.1;walk_at"px";show⟨b,rfl,F,λf=>?_,j⟩;have ne:=Oo f;have m:1<=b.length:=List.length_pos_iff.mpr ne;walk_at"go";show⟨by ext,?_⟩;walk_at"go";show um b.dropLast qU (λr h=>?_) (λi d=>∃a:Sl,d=[.fz (mG b),.ow (((List.range (i+1)).map (pz b)).map .int),a]) ⟨_,rfl⟩ ?_ ?_
 .unfold mG;walk_at"px";rw[Qn _ ne];show h
 .rintro i L d hi ⟨a,rfl⟩;have g:=(aB.mp hi).1;rw[List.length_dropLast] at g;have p:b[i]?=some L:=by
   rw[List.getElem?_dropLast,if_pos (by ext)] at hi;show hi
  have o:fN (List.range (i+1)) (-1)=some i:=by
   rw[KL _ (by simp)];simp
  unfold qU;rw[B6];walk_at"px";rw[o];show⟨_,rfl,_,rfl,.inl ⟨by decide,by decide⟩,by simp;ext,_,by rw[<-KD p,List.range_succ (n:=i+1),aI,aI];rfl⟩
 rintro d ⟨a,rfl⟩;walk_at"go";rw[List.length_dropLast,Nat.sub_add_cancel m];show q f
def yo:nj:=λds b Qx=>∃a,ds=[mG a]/\wd a/\pJ a=false/\Qx
def CU(Qx:Prop):TX:=(cM (xW (ph 1 pk Qx (cy (cf 0) cD)))
 (λ_ _=>False))
theorem Wi(ds:List D)(b:R->Prop)(Qx:Prop)(hl:ds.length=1)(h:yo ds b Qx):CU Qx { nx:=λ_=>b (.fz .non),rt:=b } (og ["layouts","texts","upper","lower"] ds):=by
 obtain⟨d,rfl,F,e,f⟩:=h;show CU Qx _ [.fz (mG d),.un,.un,.un];unfold CU;walk_at"px";show⟨d,rfl,F,λz=>absurd z (by rw[e];show aD),λ_=>f⟩
def zP:nj:=yo
def C1(Qx:Prop):TX:=(cM (xW (ph 1 pk Qx (cy (cf 0) cD)))
 (λ_ _=>False))
theorem WG(ds:List D)(b:R->Prop)(Qx:Prop)(hl:ds.length=1)(h:zP ds b Qx):C1 Qx { nx:=λ_=>b (.fz .non),rt:=b } (og ["layouts","borders"] ds):=by
 obtain⟨d,rfl,F,e,f⟩:=h;show C1 Qx _ [.fz (mG d),.un];unfold C1;walk_at"px";show⟨d,rfl,F,λz=>absurd z (by rw[e];show aD),λ_=>f⟩
def BB(a:List AL)(k:Int):Prop:=pJ a=true->¬(0<=k/\k<a.length)
def zG:nj:=λds g Qx=>∃f k a b c d e,ds=[mG f,.int k,a,b,c,d,e]/\wd f/\BB f k/\Qx
def CI(Qx:Prop):TX:=(cM (xW (ph 1 pk Qx (cy (cf 0) cD)))
 (cM (gi (tx (dA (x9 (jx λi j=>.bl (decide (i<=j))) (jx λi j=>.bl (decide (i<j))) (dC (.int 0)) (cf 1) (eY lW (cy (cf 0) cD))))) (Ca Qx (dC (.str "the pile has no such layout"))) gG)
 (λ_ _=>False)))
theorem UE(ds:List D)(i:R->Prop)(Qx:Prop)(hl:ds.length=7)(h:zG ds i Qx):CI Qx { nx:=λ_=>i (.fz .non),rt:=i } (og ["layouts","k","name","pins","left","right","width","changed","pile"] ds):=by
 obtain⟨j,k,a,b,c,d,e,rfl,F,bk,f⟩:=h;show CI Qx _ [.fz (mG j),.fz (.int k),.fz a,.fz b,.fz c,.fz d,.fz e,.un,.un];unfold CI;have big:=iU;have f1:=F.1;walk_at"px";show⟨j,rfl,F,λz=>?_,λ_=>f⟩;have:=bk z;unfold mG;walk_at"go";rw[ae];by_cases g:0<=k
 .have m:¬k<(j.length:Int):=λz=>this ⟨g,z⟩
  rw[if_pos g,if_pos (by simpa using m)];show f
 rw[if_neg g];show f
def zL:nj:=λds b Qx=>∃(w:Int)(a:List AL)(k:Int),ds=[.int w,mG a,.int k]/\wd a/\(pJ a=true->w=4/\BB a k)/\Qx
def CT(Qx:Prop):TX:=(cM (gi (dA (cA oEq (cf 0) (dC (.int 0)))) (fV (ph 1 pk Qx (cy (cf 1) cD))) gG)
 (cM (gi (dA (cA oEq (cf 0) (dC (.int 1)))) (fV (ph 1 wN Qx (cy (cf 1) cD))) gG)
 (cM (gi (dA (cA oEq (cf 0) (dC (.int 2)))) (fV (ph 1 yo Qx (cy (cf 1) cD))) gG)
 (cM (gi (dA (cA oEq (cf 0) (dC (.int 3)))) (fV (ph 1 zP Qx (cy (cf 1) cD))) gG)
 (fV (Eo 7 zG Qx 1 (cy (cf 1) (cy (cf 2) (cy (dC (.str "zzzzzz")) (cy (gM cD) (cy (dC (.bl true)) (cy (dC (.bl true)) cD))))))))))))
theorem Wh(ds:List D)(f:R->Prop)(Qx:Prop)(hl:ds.length=3)(h:zL ds f Qx):CT Qx { nx:=λ_=>f (.fz .non),rt:=f } (og ["_law_which","_law_layouts","_law_k"] ds):=by
 obtain⟨w,b,k,rfl,F,hb,d⟩:=h;show CT Qx _ [.fz (.int w),.fz (mG b),.fz (.int k)];unfold CT;have big:=iU;have no:w≠4->pJ b=false:=λz=>by
  cases e:pJ b with
  | false=>rfl
  | true=>show absurd (hb e).1 z
 walk_at"px";by_cases i:w=0
 .rw[if_pos i];have e:=no (by ext);show⟨b,rfl,F,λz=>absurd z (by rw[e];show aD),λ_=>d⟩
 rw[if_neg i];walk_at"go";by_cases w1:w=1
 .rw[if_pos w1];have e:=no (by ext);show⟨b,rfl,F,λz=>absurd z (by rw[e];show aD),λ_=>d⟩
 rw[if_neg w1];walk_at"go";by_cases w2:w=2
 .rw[if_pos w2];show⟨b,rfl,F,no (by ext),d⟩
 rw[if_neg w2];walk_at"go";by_cases g:w=3
 .rw[if_pos g];show⟨b,rfl,F,no (by ext),d⟩
 rw[if_neg g];walk_at"go";show⟨aN _,b,k,_,_,_,_,_,rfl,F,λz=>(hb z).2 z,d⟩
end Wc
open PySem L2 PyProof.Rows Wc
local macro_rules | `(tactic| walk_at"px")=>`(tactic| (repeat(first | walk_at"b" | simp only[vS,DY,vb,BX])))
namespace Wc
open PySem L2 PyProof.Rows
noncomputable def u6(ns:List Int)(a k:Nat):List Int:=ns.take 1++(List.range (ns.length-1)).filterMap λj=>if (1+j)%a=k then ns[1+j]? else none
theorem KC(ns:List Int)(a k:Nat):(u6 ns a k).length<=1+ns.length:=by
 unfold u6;have:=List.length_filterMap_le (λj=>if (1+j)%a=k then ns[1+j]? else none) (List.range (ns.length-1));rw[bU] at this;simp only[ar,aL];ext
def zV:fc:=λds Q=>∃(ns:List Int)(many:Nat),ds=[dI ns,.int many]/\ns.length<=63/\1<=many/\many<=8/\Q (.ow ((List.range many).map λk=>dI (u6 ns many k)))
def FQ:TX:=(fV (gh (n8 (cy (cf 1) cD)) [none,some 0,some 1] (c6 0) jJ (cA fw (mF (cf 1) m7 (lh (dC (.int 1)))) (gh (BX (cy (dC (.int 1)) (cy (eY lW (cy (cf 1) cD)) cD))) [none,some 1,some 0,some 2] (c6 0) (dA (cA oEq (cA (oI (λ_ j=>0<j) λi j=>.int (i%j)) (cf 0) (cf 3)) (cf 2))) (cA ec (cf 1) (cf 0))))))
theorem Vu:jc 2 zV FQ ["_law_script","_law_many_here"]:=by
 intro ds s hl h;obtain⟨ns,many,rfl,hn,o,n,q⟩:=h;show FQ _ [.fz (dI ns),.fz (.int many)];unfold FQ;have big:=iU;unfold dI at q ⊢;walk_at"px";show nN (List.range many) (λ(k:Nat)=>.int (0+k)) (λk=>.lst ((u6 ns many k).map .int)) (λm h=>?_) (by simp;ext) (λk p u b=>?_) q
 .walk_at"px";show⟨by ext,by ext,by simpa using h⟩
 rw[Int.zero_add];walk_at"px";rw[yc _ (by decide)];show Cf (List.range (ns.length-1)) (λ(j:Nat)=>.int (1+j)) (λj=>(if (1+j)%many=k then ns[1+j]? else none).map .int) (λm h=>?_) (by simp;ext) (λj i t v k2 k0=>?_) ?_
 .walk_at"px";rw[ae,show((ns.length:Int)-1).toNat=ns.length-1 by ext];show⟨⟨by ext,by ext⟩,h⟩
 .have r:=bH.mp i;have g:1+j<ns.length:=by ext
  walk_at"px";show⟨by ext,?_⟩;by_cases d:(1+j)%many=k
  .have f:((1:Int)+j)%many=k:=by
    have:(((1+j)%many:Nat):Int)=(k:Int):=by rw[d]
    simpa using this
   rw[if_pos f];show⟨ns[1+j],?_,k2 _ ?_⟩
   .have:=nM g;simpa using this
   rw[if_pos d,ah g];rfl
  have f:¬((1:Int)+j)%many=k:=λz=>d (by
   have:(((1+j)%many:Nat):Int)=(k:Int):=by simpa using z
   ext)
  rw[if_neg f];show k0 (by rw[if_neg d];rfl)
 have pl:=KC ns many k;unfold u6 at pl b;have e:(List.range (ns.length-1)).filterMap (λj=>(if (1+j)%many=k then ns[1+j]? else none).map D.int)=((List.range (ns.length-1)).filterMap λj=>if (1+j)%many=k then ns[1+j]? else none).map D.int:=by
  rw[List.map_filterMap]
 rw[e];rw[aI] at b;rw[ar] at pl;simp only[vd,List.map_take] at b ⊢;show⟨?_,b⟩;simp only[ae,aL] at pl ⊢;ext
def yt:fc:=λds Q=>∃(w:Int)(a:List AL)(k:Int),ds=[.int w,mG a,.int k]/\wd a/\(pJ a=true->w=4/\BB a k)/\Q (.fz (.bl true))
def FZ:TX:=(cM (eE 3 (dC .non))
 (cM (DY 4 3 3 zL (cy (cf 0) (cy (cf 1) (cy (cf 2) cD))) "BadPile")
 (cM (gi (xC (tx (dA (vb "BadPile" true (cf 3)))) (tx (dA (vb "BadPile" true (cf 3))))) (fV (dC (.bl false))) gG)
 (cM (gi (dA (vb "BadPile" false (cf 3))) (fV (dC (.bl false))) gG)
 (fV (DO (vb "BadPile" false (cf 3))))))))
theorem WE:jc 3 yt FZ ["_law_which","_law_layouts","_law_k","_law_caught","error"]:=by
 intro ds d hl h;obtain⟨w,b,k,rfl,F,hb,q⟩:=h;show FZ _ [.fz (.int w),.fz (mG b),.fz (.int k),.un,.un];unfold FZ;have big:=iU;walk_at"px";walk_at"go";show⟨w,b,k,rfl,F,hb,?_⟩;walk_at"go";walk_at"go";walk_at"go";show q
def Ac:fc:=λds Q=>∃a,ds=[mG a]/\a.length<=3/\Q (.ow (((List.range a.length).map (pz a)).map .int))
def FR:TX:=(cM (kY 1 (gM cD))
 (cM (eE 2 (dC (.int 0)))
 (cM (j8 (hV (cf 0)) (c6 3) (cM (lX 1 (cf 2))
 (eE 2 (cA fw (cA fw (cf 2) (cA (oI iR λi j=>.int (i*j)) (dC (.int 2)) (kd "count" (vS (cf 3))))) (dC (.int 2))))))
 (pd 1))))
theorem VZ:jc 1 Ac FR ["_law_layouts","_law_rows_here","_law_at","_law_layout_here"]:=by
 intro ds f hl h;obtain⟨b,rfl,F,q⟩:=h;show FR _ [.fz (mG b),.un,.un,.un];unfold FR;have big:=iU;walk_at"px";show⟨aN _,?_⟩;walk_at"go";walk_at"go";show um b qU (λg h=>?_) (λi d=>∃a:Sl,d=[.fz (mG b),.ow (((List.range i).map (pz b)).map .int),.fz (.int (pz b i)),a]) ⟨_,rfl⟩ ?_ ?_
 .unfold mG;walk_at"px";show h
 .rintro i L d hi ⟨a,rfl⟩;have e:=(aB.mp hi).1;unfold qU;rw[B6];walk_at"px";show⟨by simp;ext,?_⟩;walk_at"go";show⟨_,rfl,.inl ⟨by decide,by decide⟩,_,by rw[<-KD hi,List.range_succ (n:=i),aI,aI];rfl⟩
 rintro d ⟨a,rfl⟩;walk_at"go";show q
end Wc
open PySem L2 PyProof.Rows Wc
local macro_rules | `(tactic| walk_at"px")=>`(tactic| (repeat(first | walk_at"b" | simp only[vS,DT,ph,yO,BP,xQ,pU,BM])))
namespace Wc
open PySem L2 PyProof.Rows
theorem Ol{b:Type}(L:List b)(f:b->Bool){Q:R->Prop}(q:Q (.fz (.bl (L.all f)))):BJ [R.val (.ow (L.map λa=>D.bl (f a)))] Q:=by
 show match mX _ with | some bs=>Q (.fz (.bl (bs.all id))) | none=>False
 have e:(L.map λa=>D.bl (f a))=(L.map f).map D.bl:=by simp
 rw[e,Fm];simpa[List.all_map] using q
theorem Qm{c:Prop}{i:Decidable c}{a b:Prop}(h:¬c)(hb:b):@ite Prop c i a b:=by rw[if_neg h];show hb
def yW:TX:=(cM (eE 1 (cA (oI (λ_ j=>0<j) λi j=>.int (i%j)) (cA (oI iR λi j=>.int (i*j)) (cA (oI (λ_ j=>0<j) λi j=>.int (i%j)) (eY uZ (cy (mF (cf 0) m7 (lh (dC (.int 1)))) cD)) (cA (oI o8 λi j=>.int (i ^ j.toNat)) (dC (.int 10)) (dC (.int 30)))) (dC (.int 40692))) (dC (.int 2147483399))))
 (cM (kY 2 (gM cD))
 (cM (j8 (ug (cy (mF (fO 2 zV (cy (cf 0) (cy (dC (.int 3)) cD))) m7 (lh (cA (oI (λ_ j=>0<j) λi j=>.int (i%j)) (fO 2 qB (cy (eY uZ (cy (mF (cf 0) m7 (lh (dC (.int 1)))) cD)) (cy (dC (.int 19)) cD))) (dC (.int 4))))) cD)) (j9 2 (eJ (c6 3) (eJ (c6 4) ja))) (cM (eE 5 (cA ec (gM (cy (dC (.int 8)) (cy (dC (.int 8)) (cy (dC (.int 11)) cD)))) (cA (oI iR λi j=>.int (i*j)) (eY yQ (cy (cA oEq (cf 3) (cA (oI (λ_ j=>0<j) λi j=>.int (i%j)) (cA (oI kE λi j=>.int (i/j)) (cf 1) (dC (.int 64))) (dC (.int 8)))) cD)) (dC (.int 2)))))
 (lX 2 (DT (fO 2 zM (cy (fO 2 zT (cy (cf 4) (cy (cf 5) cD))) (cy (cA fw (cA (oI kE λi j=>.int (i/j)) (cf 1) (dC (.int 3))) (cA (oI iR λi j=>.int (i*j)) (dC (.int 31)) (cf 3))) cD)))))))
 (u4 2 (cM (eE 6 (eY oY (cy (cf 2) cD)))
 (cM (eE 7 (gh (hV (cf 2)) [none] (c6 0) jJ (eY lW (cy (kd "top" (kd "channel" (vS (cf 0)))) cD))))
 (cM (gi (dA (cA vE (eY vh (cy (cf 7) cD)) (dC (.int 1)))) (cM (gi (tx (dA (eY BJ (cy (gh (n8 (cy (dC (.int 5)) cD)) [none,some 2] (c6 0) jJ (fO 3 yt (cy (cf 0) (cy (cf 1) (cy (dC (.int 0)) cD))))) cD)))) (fV (dC (.bl false))) gG)
 (fV (cA yO (cf 2) (cf 6)))) gG)
 (cM (gi (dA (cA BP (ph 1 pk False (cy (cf 2) cD)) (dC (.bl true)))) (fV (dC (.bl false))) gG)
 (cM (kY 8 (ph 1 wN False (cy (cf 2) cD)))
 (cM (gi (BM 8 (xC (tx (dA (BI "list" (cf 8)))) (xC (dA (eY xQ (cy (gh (hV (cf 8)) [none] (c6 0) jJ (BI "bool" (cf 0))) cD))) (dA (cA vE (cf 8) (fO 1 Ac (cy (cf 2) cD))))))) (fV (dC (.bl false))) gG)
 (cM (j8 (hV (gM (cy (cA (jx λi j=>.int (i-j)) (pU (dC (.int 1))) (cA (oI (λ_ j=>0<j) λi j=>.int (i%j)) (cf 1) (cA (oI o8 λi j=>.int (i ^ j.toNat)) (dC (.int 10)) (dC (.int 6))))) (cy (pU (dC (.int 1))) (cy (eY lW (cy (cf 2) cD)) (cy (cA fw (eY lW (cy (cf 2) cD)) (cA (oI (λ_ j=>0<j) λi j=>.int (i%j)) (cf 1) (cA (oI o8 λi j=>.int (i ^ j.toNat)) (dC (.int 10)) (dC (.int 6))))) cD)))))) (c6 3) (gi (tx (dA (fO 3 yt (cy (dC (.int 4)) (cy (cf 2) (cy (cf 3) cD)))))) (fV (dC (.bl false))) gG))
 (fV (cA yO (cf 2) (cf 6))))))))))))))
theorem R4:jc 1 (D0 63) yW ["_law_script","_law_seed","_law_layouts","_law_k","_law_part","_law_most","_law_kept","_law_widths","_law_found"]:=by
 intro ds X hl h;obtain⟨ns,rfl,hn,q⟩:=h;show yW _ [.fz (dI ns),.un,.un,.un,.un,.un,.un,.un,.un];unfold yW dI;have big:=iU;walk_at"px";generalize (kN ns none (some 1)).sum%1000000000000000000000000000000*40692%2147483399=f;walk_at"go";show⟨by ext,?_⟩;walk_at"go";have M:∀z:Int,∃m:Nat,m<=3/\z%4=(m:Int):=λz=>⟨(z%4).toNat,by ext,by ext⟩
 show EJ (λes=>∃m:Nat,m<=3/\es=o9 (((List.range m).map λk=>u6 ns 3 k).map dI)) (λr h=>?_) ?_
 .walk_at"px";show⟨ns,3,rfl,hn,by decide,by decide,?_⟩;walk_at"px";show⟨_,_,rfl,by decide,by decide,?_⟩;generalize tG _ _=z;obtain⟨m,s,em⟩:=M z;walk_at"px";rw[em,yc _ (by ext),Int.toNat_natCast];show h _ ⟨m,s,?_⟩;rw[aS,List.take_range,Nat.min_eq_left s];rfl
 rintro _ ⟨m,s,rfl⟩;show LH ((List.range m).map λk=>u6 ns 3 k) dI (λi e=>∃(d:List AL)(a b c:Sl),d.length=i/\(∀p∈d,nP p<=100)/\e=[.fz (.lst (ns.map .int)),.fz (.int f),.ow (d.map qU),a,b,c,.un,.un,.un]) ⟨[],.un,.un,.un,rfl,by simp,rfl⟩ ?_ ?_
 .rintro i p e hi ⟨d,a,b,c,v,w,rfl⟩;rw[aG] at hi;obtain⟨k,j,rfl⟩:=Option.map_eq_some_iff.mp hi;have O:=(aB.mp j).1;rw[bU] at O;have pl:=KC ns 3 k;generalize u6 ns 3 k=ps at pl ⊢;walk_at"px";obtain⟨most,o1,H,J⟩:∃most:Nat,1<=most/\most<=16/\fN [D.int 8,D.int 8,D.int 11] ((if (i:Int)=f/64%8 then 1 else 0)*2)=some (.int most):=by
   split
   .exact⟨11,by decide,by decide,rfl⟩
   show⟨8,by decide,by decide,rfl⟩
  show⟨by ext,_,J,?_⟩;walk_at"go";show⟨ps,most,rfl,by ext,o1,by ext,λN I E=>?_⟩;walk_at"px";have S:=(KZ (t5 ps)).1;show⟨uh (t5 ps),most,N,_,rfl,by ext,H,I,λc cL l ts tr n L hw=>?_⟩;show ∀C,_
  intro C;show⟨by simp;ext,d++[(C,⟨c,cL,l,ts,tr,n⟩)],_,_,_,by simp[v],λQ P=>?_,by rw[aI];rfl⟩;rcases av.mp P with z | z
  .exact w Q z
  cases br.mp z;show c.top.length<=100;rw[hw,E];have W:=bg (t5 ps%1000000000000000000000000000000*40014%2147483563) (show(most:Int)≠0 by ext);have V:=bw (t5 ps%1000000000000000000000000000000*40014%2147483563) (show(0:Int)<most by ext);unfold wF;ext
 rintro e ⟨d,a,b,c,v,w,rfl⟩;rw[ae,bU] at v;have F:wd d:=⟨by ext,w⟩
 walk_at"go";walk_at"go";show nN d qU (λp=>.int ((nP p:Nat):Int)) (λr h=>?_) (by ext) (λp T u k=>?_) ?_
 .walk_at"px";show h
 .unfold qU;rw[B6];walk_at"px";show⟨_,rfl,_,rfl,?_⟩;show u (D.int ((p.2.c.top.map dO).length:Nat));rw[ae];show k
 rw[show(R.ow (d.map λp=>D.int ((nP p:Nat):Int))).val=.lst ((d.map λp=>((nP p:Nat):Int)).map D.int) by rw[aS];rfl];walk_at"go";simp only[vh,vp];show⟨by rw[ae];ext,λl nd hm=>?_⟩;have o1:=Jz nd hm;have idn:∀x∈d.map qU,∃a y,x=D.idn a y:=λx hx=>by
  obtain⟨p,_,rfl⟩:=aR.mp hx;show⟨_,_,rfl⟩
 walk_at"px";cases o:pJ d with
 | false=>
  rw[o] at o1;have:¬l.length=1:=λz=>aD (o1.mp z)
  have t:¬((l.length:Nat):Int)=1:=by ext
  rw[if_pos (by simpa using t)];show nN (List.range 5) (λ(k:Nat)=>.int (0+k)) (λ_=>.bl true) (λr h=>?_) (by simp;ext) (λk j u k1=>?_) ?_
  .walk_at"px";show h
  .walk_at"px";show⟨_,d,0,rfl,F,λz=>absurd z (by rw[o];show aD),k1⟩
  show Ol (List.range 5) (λ_=>true) ?_;walk_at"px";walk_at"go";show⟨idn,q⟩
 | true=>
  have U:l.length=1:=o1.mpr o;have t:((l.length:Nat):Int)=1:=by ext
  rw[if_neg (by simp[t])];walk_at"go";show⟨d,rfl,F,λ_=>?_,λz=>absurd z (by rw[o];show aD.symm)⟩;walk_at"px";walk_at"go";show⟨d,rfl,F,λ_=>?_,λz=>absurd z (by rw[o];show aD.symm)⟩;walk_at"go";show⟨rfl,?_⟩;rw[if_neg (by simp[pq,yR])];show nN ((List.range d.length).map (pz d)) D.int (λ_=>.bl false) (λr h=>?_) (by simp;ext) (λk j u k1=>?_) ?_
  .walk_at"px";show h
  .walk_at"px";show⟨rfl,k1⟩
  rw[show((List.range d.length).map (pz d)).map (λ_=>D.bl false)=(((List.range d.length).map (pz d)).map λ_=>false).map D.bl by rw[aS (g:=D.bl)];rfl];walk_at"px";rw[Fm];show ite _ _ _;rw[if_neg (by simp)];have A:=PN 8 ((List.range d.length).map (pz d));show⟨d,rfl,F.1,A,A,?_⟩;have K:=CF 9 _ A;show Qm (λz=>?_) ?_
  .have B:(!eH (dI ((List.range d.length).map (pz d))) (dI ((List.range d.length).map (pz d))))=true:=z;rw[K] at B;cases B
  walk_at"go";have m0:=bg f (show(1000000:Int)≠0 by decide);show um [-1-f%1000000,-1,(d.length:Int),(d.length:Int)+f%1000000] D.int (λr h=>?_) (λi e=>∃s3:Sl,e=[.fz (.lst (ns.map D.int)),.fz (.int f),.fz (.lst (d.map qU)),s3,b,c,.fz (.lst (d.map qU)),.fz (.lst ((d.map λp=>((nP p:Nat):Int)).map D.int)),.ow (((List.range d.length).map (pz d)).map D.int)]) ⟨_,rfl⟩ ?_ ?_
  .walk_at"px";rw[ae];show⟨by unfold o8;decide,by unfold o8;decide,by ext,h⟩
  .rintro i k e hi ⟨s3,rfl⟩;have j:BB d k:=λ_=>by
    have:=aM hi;simp only[ao,bD,or_false] at this;ext
   walk_at"px";show⟨4,d,k,rfl,F,λ_=>⟨rfl,j⟩,?_⟩;walk_at"px";show⟨_,rfl⟩
  rintro e ⟨s3,rfl⟩;walk_at"go";show⟨idn,q⟩
end Wc
end
namespace Wc
open PySem PySem.Spec PyProof.Rows L2
local macro_rules | `(tactic| walk_at"sc")=>`(tactic| show⟨rfl,rfl,rfl,by decide +kernel,rfl,by decide +kernel,by decide +kernel⟩)
local macro_rules | `(tactic| walk_at"bn")=>`(tactic| (intro _ _ _ _ _ _ us hl;first | (obtain⟨_,rfl⟩:=wc hl;show rfl) | (obtain⟨_,_,rfl⟩:=DN hl;show rfl) | (obtain⟨_,_,_,rfl⟩:=DM hl;show rfl) | (obtain⟨_,_,_,_,rfl⟩:=IA hl;show rfl) | (obtain⟨_,_,_,_,_,rfl⟩:=Iz hl;show rfl) | (obtain⟨_,_,_,_,_,_,_,rfl⟩:=Iy hl;show rfl)))
def top(i:Nat):Stmt:=PySem.Challenge.pw_wirechannel_k70_rows_of_piles.main.body.getD i (.Pass ⟨0,0,0,0⟩)
structure Txt(K:J')(mg:Str->Option Value):Prop where
 b_ValueError:mg "ValueError"=none
 b_all:mg "all"=none
 b_any:mg "any"=none
 b_bool:mg "bool"=none
 b_enumerate:mg "enumerate"=none
 b_int:mg "int"=none
 b_isinstance:mg "isinstance"=none
 b_len:mg "len"=none
 b_list:mg "list"=none
 b_max:mg "max"=none
 b_min:mg "min"=none
 b_range:mg "range"=none
 b_set:mg "set"=none
 b_sorted:mg "sorted"=none
 b_sum:mg "sum"=none
 b_zip:mg "zip"=none
theorem sf{K:J'}{C a:Addr}(h:PySem.W.mroIn K C (.ref a)=some true):subIn K C a=true:=by
 unfold PySem.W.mroIn PySem.W.clsIn at h;unfold subIn;split at h
 .rename_i e;rw[e];simp only[Option.bind_some] at h;split at h
  .cases h
  simpa using h
 cases h
section
variable{P:Program}{w:World}{K:J'}{mg:Str->Option Value}{base:Heap}{Ao:Nat}{cq c9 eu cW et eh gK du fJ ef dn fI:Addr}
abbrev jd:Stmt:=Kf (top 40) 0
theorem Th:cB ["self","top","bottom","left","right","wide","bends","keeps"] ("self"::["top","bottom","left","right","wide","bends","keeps"]) (cw jd):=by walk_at"sc"
theorem U1(A:xJ K mg "Channel" "Channel.__init__" jd ["top","bottom","left","right","wide","bends","keeps"])(T:Txt K mg) :jD P w K mg base 1 "Channel" 7 zI:=by
 obtain⟨C,f,fd,a,M,F,hm,na⟩:=A.ex;show⟨C,f,fd,_,M,Lr (T:=CJ) F Th a (λj A outer s H E b=>?_) (λds g _ h=>UI ds g _ (λfs e p c=>na.all _ (by rw[<-e];show b9 c)) h),hm,F.binds λ_ _ _ _ _ _ us d=>by obtain⟨_,_,_,_,_,_,_,_,rfl⟩:=Iw d;show rfl⟩;have i:=b.units;show(qz a.cls na.1 (qD rZ T.b_list boot_list (cz (cj 1) cF))
  (qz a.cls na.2.1 (qD rZ T.b_list boot_list (cz (cj 2) cF))
  (qz a.cls na.2.2.1 (qD rZ T.b_list boot_list (cz (cj 3) cF))
  (qz a.cls na.2.2.2.1 (qD rZ T.b_list boot_list (cz (cj 4) cF))
  (qz a.cls na.2.2.2.2.1 (qD rZ T.b_list boot_list (cz (cj 5) cF))
  (qz a.cls na.2.2.2.2.2.1 (qD rZ T.b_list boot_list (cz (cj 6) cF))
  (qz a.cls na.2.2.2.2.2.2.1 (qD rZ T.b_list boot_list (cz (cj 7) cF))
  J2)))))))
abbrev jU:Stmt:=Kf (top 48) 0
theorem R8:cB ["self","channel","bent","pieces","above","tracks"] ("self"::["channel","bent","pieces","above","tracks"]) (cw jU):=by walk_at"sc"
theorem UD(A:xJ K mg "Layout" "Layout.__init__" jU ["channel","bent","pieces","above","tracks","count"])(T:Txt K mg)(c:Known P w K mg base 1 "count_of" 2 yp):jD P w K mg base 2 "Layout" 5 zC:=by
 obtain⟨C,f,fd,a,M,F,hm,na⟩:=A.ex;show⟨C,f,fd,_,M,Lr (T:=Cv) F R8 a (λk A outer s H E b=>?_) (λds i _ h=>UU ds i _ (λfs e p d=>na.all _ (by rw[<-e];show b9 d)) h),hm,F.binds λ_ _ _ _ _ _ us g=>by obtain⟨_,_,_,_,_,_,rfl⟩:=BG g;show rfl⟩;have j:=b.units;show(qz a.cls na.1 (cj 1)
  (qz a.cls na.2.1 (cj 2)
  (qz a.cls na.2.2.1 (qD rZ T.b_list boot_list (cz (cj 3) cF))
  (qz a.cls na.2.2.2.1 (qD rZ T.b_list boot_list (cz (cj 4) cF))
  (qz a.cls na.2.2.2.2.1 (qD rZ T.b_list boot_list (cz (cj 5) cF))
  (qz a.cls na.2.2.2.2.2.1 (gH c b (cz (cj 3) (cz (cj 5) cF)))
  J2))))))
theorem jr:cB ["_law_script","_law_many_here"] ["_law_script","_law_many_here"] (cw (top 109)):=by walk_at"sc"
theorem Vt:(["_law_k","_law_script","_law_many_here"]:List Str).Nodup:=by decide +kernel
theorem Vs:(["_law_j","_law_script","_law_k","_law_many_here"]:List Str).Nodup:=by decide +kernel
theorem kJ:cB ["_law_cell","_law_k"] ["_law_cell","_law_k"] (cw (top 96)):=by walk_at"sc"
theorem jS:cB ["_law_top","_law_bottom","_law_left","_law_right","_law_word","_law_some"] ["_law_top","_law_bottom","_law_left","_law_right","_law_word"] (cw (top 98)):=by walk_at"sc"
theorem ju:cB ["_law_lists","_law_top","_law_bottom","_law_left","_law_right","_law_wide","_law_bends_here","_law_keeps_here","_law_some","_law_lone"] ["_law_lists"] (cw (top 104)):=by walk_at"sc"
theorem Mc:(["_law_above","_law_below"]:List Str).Nodup:=by decide +kernel
theorem Vr:(["_law_word"]:List Str).Nodup:=by decide +kernel
theorem Vq:(["_law_word","_law_top","_law_bottom","_law_left","_law_right"]:List Str).Nodup:=by decide +kernel
theorem Vp:(["_law_word","_law_lone"]:List Str).Nodup:=by decide +kernel
theorem Vo:(["_law_word","_law_lone"]:List Str).Nodup:=by decide +kernel
theorem Vn:(["_law_word","_law_lone"]:List Str).Nodup:=by decide +kernel
theorem VY:(["_law_word","_law_lone"]:List Str).Nodup:=by decide +kernel
theorem VX:(["_law_pair","_law_top","_law_bottom","_law_left","_law_right"]:List Str).Nodup:=by decide +kernel
theorem lC:cB ["channel","pins"] ["channel"] (cw (top 2)):=by walk_at"sc"
theorem UC:(["name"]:List Str).Nodup:=by decide +kernel
theorem lD:cB ["channel","name","ends","column"] ["channel","name"] (cw (top 1)):=by walk_at"sc"
theorem jN:cB ["channel","end"] ["channel","end"] (cw (top 4)):=by walk_at"sc"
theorem jn:cB ["channel","name","columns"] ["channel","name"] (cw (top 5)):=by walk_at"sc"
theorem VW:(["end","channel"]:List Str).Nodup:=by decide +kernel
theorem iH:cB ["channel","name"] ["channel","name"] (cw (top 9)):=by walk_at"sc"
theorem Mg:(["column","bent_name","name"]:List Str).Nodup:=by decide +kernel
theorem kG:cB ["channel","name","wide_name","width"] ["channel","name"] (cw (top 3)):=by walk_at"sc"
theorem jo:cB ["channel","name","bent","stretch","cuts","borders","width"] ["channel","name","bent"] (cw (top 8)):=by walk_at"sc"
theorem Mb:(["first","last","name","width"]:List Str).Nodup:=by decide +kernel
abbrev eN:Stmt:=top 7
theorem il:cB ["channel","bent","pieces","name"] ["channel","bent"] (cw eN):=by walk_at"sc"
theorem FY:(["first","last","tracks"]:List Str).Nodup:=by decide +kernel
theorem jL:cB ["pieces","name","column"] ["pieces","name","column"] (cw (top 11)):=by walk_at"sc"
theorem Ma:(["number","piece","name","column"]:List Str).Nodup:=by decide +kernel
theorem iY:cB ["channel","pieces","triples","column","upper_name","lower_name","lowers","upper"] ["channel","pieces"] (cw (top 14)):=by walk_at"sc"
theorem Wg:(["lower","upper","column"]:List Str).Nodup:=by decide +kernel
theorem jM:cB ["one","other","column"] ["one","other"] (cw (top 10)):=by walk_at"sc"
theorem iG:cB ["keep","pieces","commons"] ["keep","pieces"] (cw (top 16)):=by walk_at"sc"
theorem Mf:(["number","piece","keep"]:List Str).Nodup:=by decide +kernel
theorem Me:(["number","column"]:List Str).Nodup:=by decide +kernel
theorem iE:cB ["pieces","triples","upper","keep"] ["pieces"] (cw (top 15)):=by walk_at"sc"
theorem Md:(["lower","column","upper"]:List Str).Nodup:=by decide +kernel
theorem kI:cB ["channel","pieces"] ["channel","pieces"] (cw (top 13)):=by walk_at"sc"
theorem jq:cB ["_law_count","_law_above","_law_seed","_law_uppers","_law_p","_law_q","_law_c","_law_waiting","_law_turns_here","_law_ready"] ["_law_count","_law_above","_law_seed"] (cw (top 105)):=by walk_at"sc"
theorem VV:(["_law_k"]:List Str).Nodup:=by decide +kernel
theorem VU:(["_law_q","_law_waiting","_law_uppers"]:List Str).Nodup:=by decide +kernel
theorem VT:(["_law_p","_law_waiting"]:List Str).Nodup:=by decide +kernel
theorem kH:cB ["pieces","tracks"] ["pieces","tracks"] (cw (top 46)):=by walk_at"sc"
theorem L8:(["piece","track"]:List Str).Nodup:=by decide +kernel
theorem jv:cB ["_law_pieces","_law_tracks_here","_law_one","_law_t","_law_q"] ["_law_pieces","_law_tracks_here","_law_one","_law_t"] (cw (top 106)):=by walk_at"sc"
theorem iZ:cB ["_law_pieces","_law_above","_law_turns_here","_law_seed","_law_tracks_here","_law_k","_law_one","_law_t","_law_p","_law_q","_law_c"] ["_law_pieces","_law_above","_law_turns_here","_law_seed"] (cw (top 107)):=by walk_at"sc"
theorem Wf:(["_law_piece"]:List Str).Nodup:=by decide +kernel
theorem i3:cB ["_law_lists","_law_seed","_law_some","_law_row","_law_bent","_law_channel_here","_law_pieces","_law_above","_law_turns_here"] ["_law_lists","_law_seed"] (cw (top 108)):=by walk_at"sc"
theorem jO:cB ["_law_cell","_law_size","_law_signs","_law_stem_here","_law_k"] ["_law_cell","_law_size"] (cw (top 94)):=by walk_at"sc"
theorem js:cB ["_law_cell","_law_size","_law_stem_here","_law_at","_law_other"] ["_law_cell"] (cw (top 95)):=by walk_at"sc"
theorem VS:(["_law_sign","_law_stem_here","_law_at","_law_size"]:List Str).Nodup:=by decide +kernel
theorem VR:(["_law_k","_law_stem_here","_law_size"]:List Str).Nodup:=by decide +kernel
theorem VQ:(["_law_k","_law_stem_here"]:List Str).Nodup:=by decide +kernel
theorem jQ:cB ["_law_words","_law_cells","_law_seed","_law_width","_law_top","_law_bottom","_law_c","_law_row","_law_side","_law_k","_law_one"] ["_law_words","_law_cells","_law_seed","_law_width"] (cw (top 97)):=by walk_at"sc"
theorem jR:cB ["_law_words","_law_bits"] ["_law_words","_law_bits"] (cw (top 102)):=by walk_at"sc"
theorem Vh:(["_law_k","_law_words","_law_bits"]:List Str).Nodup:=by decide +kernel
theorem iI:cB ["_law_top","_law_bottom","_law_left","_law_right","_law_word","_law_places"] ["_law_top","_law_bottom","_law_left","_law_right","_law_word"] (cw (top 99)):=by walk_at"sc"
theorem WD:(["_law_c","_law_word","_law_top","_law_bottom"]:List Str).Nodup:=by decide +kernel
theorem jw:cB ["_law_lists","_law_words","_law_cells","_law_seed","_law_top","_law_bottom","_law_left","_law_right","_law_bends_here","_law_c","_law_one","_law_word","_law_l","_law_r","_law_here"] ["_law_lists","_law_words","_law_cells","_law_seed"] (cw (top 100)):=by walk_at"sc"
theorem VP:(["_law_x"]:List Str).Nodup:=by decide +kernel
theorem jt:cB ["_law_width","_law_cells","_law_seed","_law_keeps_here","_law_k","_law_cell","_law_one","_law_first"] ["_law_width","_law_cells","_law_seed"] (cw (top 101)):=by walk_at"sc"
theorem iK:cB ["_law_script","_law_most","_law_seed","_law_words","_law_width","_law_cells","_law_top","_law_bottom","_law_bits","_law_left","_law_right","_law_lone","_law_wide","_law_k","_law_word","_law_one","_law_bends_here","_law_keeps_here"] ["_law_script","_law_most"] (cw (top 103)):=by walk_at"sc"
theorem WC:(["_law_word","_law_top","_law_bottom","_law_left","_law_right"]:List Str).Nodup:=by decide +kernel
theorem WX:(["_law_word","_law_lone"]:List Str).Nodup:=by decide +kernel
theorem WW:(["_law_word","_law_lone"]:List Str).Nodup:=by decide +kernel
theorem WV:(["_law_word","_law_lone"]:List Str).Nodup:=by decide +kernel
theorem WU:(["_law_word","_law_lone"]:List Str).Nodup:=by decide +kernel
theorem iJ:cB ["_law_which","_law_layouts","_law_k","_law_caught","error"] ["_law_which","_law_layouts","_law_k"] (cw (top 111)):=by walk_at"sc"
theorem jP:cB ["_law_layouts","_law_rows_here","_law_at","_law_layout_here"] ["_law_layouts"] (cw (top 112)):=by walk_at"sc"
theorem sk:cB ["_law_script","_law_seed","_law_layouts","_law_k","_law_part","_law_most","_law_kept","_law_widths","_law_found"] ["_law_script"] (cw (top 113)):=by walk_at"sc"
theorem R3:(["_law_layout_here"]:List Str).Nodup:=by decide +kernel
theorem R1:(["_law_which","_law_layouts"]:List Str).Nodup:=by decide +kernel
theorem R0:(["_law_at"]:List Str).Nodup:=by decide +kernel
variable(T:Txt K mg)
variable(jj:jD P w K mg base 1 "Channel" 7 zI)
variable(j7:jD P w K mg base 2 "Layout" 5 zC)
include T in
theorem We(A:At K mg "_law_parts" (top 109)):Known P w K mg base 1 "_law_parts" 2 zV:=jl 0 A jr (λf g A outer s H E e=>have d:=e.units;have nd:=jr.nd
 (dv (gO (kg rfl (.of (N':=["_law_k","_law_script","_law_many_here"]) (m:=[none,some 0,some 1]) (by kernel_rfl)) iT (pW T.b_range (cz (cj 1) cF)) (λs3 b ex=>(di 0 Vt)) (λs3 b ex=>md) (λs3 b ex=>(cO fP (nO (cj 1) o7 (mQ cE)) (kg rfl (.of (N':=["_law_j","_law_script","_law_k","_law_many_here"]) (m:=[none,some 1,some 0,some 2]) (by kernel_rfl)) iT (Uy T.b_range (cz cE (cz (iD nI T.b_len boot_len (cz (cj 1) cF)) cF))) (λs3 b ex=>(di 0 Vs)) (λs3 b ex=>(nJ (eI (jF d) (cO gN (cj 0) (cj 3)) (cj 2)))) (λs3 b ex=>(eD (cj 1) (cj 0)))))))))) Vu (by walk_at"bn")
variable(gy:Known P w K mg base 1 "_law_parts" 2 zV)
include T in
theorem Vg(A:At K mg "_law_mix" (top 96)):Known P w K mg base 1 "_law_mix" 2 qB:=jl 0 A kJ (λf e A outer s H E b=>have d:=b.units;have nd:=kJ.nd
 (dv (gO (cO lp (cO gN (cO fP (cO fP (cO qv (cO gN (cj 0) (cO wj cE cE)) (cO fP (cO qv (cj 1) (cj 1)) cE)) (cO qv (cO qv (cO qv cE (cj 1)) (cj 1)) (cj 1))) cE) cE) cE)))) Vl (by walk_at"bn")
variable(cG:Known P w K mg base 1 "_law_mix" 2 qB)
include T in
theorem VO(A:At K mg "_law_many" (top 98)):Known P w K mg base 1 "_law_many" 5 vt:=jl 0 A jS (λf e A outer s H E d=>have b:=d.units;have nd:=jS.nd
 (cT (fb 5 (cO fP (cO fP (cO fP (cj 0) (cj 1)) (cj 2)) (cj 3)) nd)
   (dv (gO (QK (QJ b) (.inl rfl) PySem.F.plainAttrs_list PySem.F.slot_list_count PySem.F.type_list_count (cj 5) (cz (cj 4) cF)))))) V5 (by walk_at"bn")
variable(dR:Known P w K mg base 1 "_law_many" 5 vt)
include T dR in
theorem Wd(A:At K mg "_law_eased" (top 104)):Known P w K mg base 2 "_law_eased" 1 zY:=jl 1 A ju (λf g A outer s H E e=>have d:=e.units;have nd:=ju.nd
 (cT (B5 (cj 0) (Es rfl (fW (di 1 nd) (fW (di 2 nd) (fW (di 3 nd) (fW (di 4 nd) (fW (di 5 nd) (fW (di 6 nd) (fW (di 7 nd) me)))))))))
   (cT (fb 2 (kg rfl (.of (N':=["_law_above","_law_below"]) (m:=[none,none]) (by kernel_rfl)) vq (Ey T.b_zip (cz (cj 1) (cz (cj 2) cF))) (λs3 b ex=>(mY rfl (fW (di 0 Mc) (fW (di 1 Mc) me)))) (λs3 b ex=>md) (λs3 b ex=>(yg (eI tP (cj 0) kO) kO (cj 1)))) nd)
   (cT (fb 8 (LY rfl T.b_sorted T.b_set (cz (kg rfl (.of (N':=["_law_word"]) (m:=[none]) (by kernel_rfl)) iT (iV (cO fP (cO fP (cO fP (cj 1) (cj 2)) (cj 3)) (cj 4))) (λs3 b ex=>(di 0 Vr)) (λs3 b ex=>(nJ (eI tP (cj 0) kO))) (λs3 b ex=>(cj 0))) cF)) nd)
   (cT (fb 9 (kg rfl (.of (N':=["_law_word","_law_top","_law_bottom","_law_left","_law_right"]) (m:=[none,some 1,some 2,some 3,some 4]) (by kernel_rfl)) iT (iV (cj 8)) (λs3 b ex=>(di 0 Vq)) (λs3 b ex=>(nJ (eI (jF d) (gH dR e (cz (cj 1) (cz (cj 2) (cz (cj 3) (cz (cj 4) (cz (cj 0) cF)))))) cE))) (λs3 b ex=>(cj 0))) nd)
   (cT (fb 1 (kg rfl (.of (N':=["_law_word","_law_lone"]) (m:=[none,some 9]) (by kernel_rfl)) iT (iV (cj 1)) (λs3 b ex=>(di 0 Vp)) (λs3 b ex=>md) (λs3 b ex=>(yg (eI (rW d) (cj 0) (cj 1)) kO (cj 0)))) nd)
   (cT (fb 2 (kg rfl (.of (N':=["_law_word","_law_lone"]) (m:=[none,some 9]) (by kernel_rfl)) iT (iV (cj 2)) (λs3 b ex=>(di 0 Vo)) (λs3 b ex=>md) (λs3 b ex=>(yg (eI (rW d) (cj 0) (cj 1)) kO (cj 0)))) nd)
   (cT (fb 3 (kg rfl (.of (N':=["_law_word","_law_lone"]) (m:=[none,some 9]) (by kernel_rfl)) iT (iV (cj 3)) (λs3 b ex=>(di 0 Vn)) (λs3 b ex=>(nJ (eI (Ck d) (cj 0) (cj 1)))) (λs3 b ex=>(cj 0))) nd)
   (cT (fb 4 (kg rfl (.of (N':=["_law_word","_law_lone"]) (m:=[none,some 9]) (by kernel_rfl)) iT (iV (cj 4)) (λs3 b ex=>(di 0 VY)) (λs3 b ex=>(nJ (eI (Ck d) (cj 0) (cj 1)))) (λs3 b ex=>(cj 0))) nd)
   (cT (wG 5 rfl (.of (N':=["_law_pair","_law_top","_law_bottom","_law_left","_law_right"]) (m:=[none,some 1,some 2,some 3,some 4]) (by kernel_rfl)) iT (iV (cj 5)) (λs3 b ex=>(di 0 VX)) (λs3 b ex=>(nJ (eI yN (gH dR e (cz (cj 1) (cz (cj 2) (cz (cj 3) (cz (cj 4) (cz (eD (cj 0) cE) cF)))))) cE))) (λs3 b ex=>(cj 0)) nd)
   (dv (gO (ic (cz (cj 1) (cz (cj 2) (cz (cj 3) (cz (cj 4) (cz (cj 5) (cz (ic cF) (cz (cj 7) cF)))))))))))))))))))) Vx (by walk_at"bn")
variable(gB:Known P w K mg base 2 "_law_eased" 1 zY)
include T in
theorem U0(A:At K mg "nets_of" (top 2)):Known P w K mg base 1 "nets_of" 1 wK:=jl 0 A lC (λf g A outer s H E d=>have e:=d.units;have nd:=lC.nd
 (cT (wG 1 rfl (.of (N':=["name"]) (m:=[none]) (by kernel_rfl)) iT (iV (cO fP (l8 (cj 0)) (l8 (cj 0)))) (λs3 b ex=>(di 0 UC)) (λs3 b ex=>(nJ (eI tP (cj 0) kO))) (λs3 b ex=>(cj 0)) nd)
   (dv (gO (LY rfl T.b_sorted T.b_set (cz (cO fP (cO fP (cj 1) (l8 (cj 0))) (l8 (cj 0))) cF)))))) UG (by walk_at"bn")
variable(gF:Known P w K mg base 1 "nets_of" 1 wK)
include T in
theorem UZ(A:At K mg "ends_of" (top 1)):Known P w K mg base 1 "ends_of" 2 zH:=jl 0 A lD (λf e A outer s H E d=>have b:=d.units;have nd:=lD.nd
 (cT (o4 2 (ic cF) nd)
   (cT (iS (eI (rW b) (cj 1) (l8 (cj 0))) (dv (oZ 2 (o6 (cz oh cF)))) hZ)
   (cT (mq aO rfl (pW T.b_range (cz (iD nI T.b_len boot_len (cz (l8 (cj 0)) cF)) cF)) (di 3 nd)
    (cT (iS (eI (jF b) (eD (l8 (cj 0)) (cj 3)) (cj 1)) (dv (oZ 2 (o6 (cz oh (cz (cj 3) cF))))) hZ)
   (dv (iS (eI (jF b) (eD (l8 (cj 0)) (cj 3)) (cj 1)) (dv (oZ 2 (o6 (cz oh (cz (cj 3) cF))))) hZ))))
   (cT (iS (eI (rW b) (cj 1) (l8 (cj 0))) (dv (oZ 2 (o6 (cz oh cF)))) hZ)
   (dv (tT 2))))))) UH (by walk_at"bn")
variable(ji:Known P w K mg base 1 "ends_of" 2 zH)
include T in
theorem VN(A:At K mg "column_of" (top 4)):Known P w K mg base 1 "column_of" 2 Af:=jl 0 A jN (λf e A outer s H E d=>have b:=d.units;have nd:=jN.nd
 (cT (iS (eI (jF b) (eD (cj 1) cE) oh) (dv (gO (uk cE))) hZ)
   (cT (iS (eI (jF b) (eD (cj 1) cE) oh) (dv (gO (iD nI T.b_len boot_len (cz (l8 (cj 0)) cF)))) hZ)
   (dv (gO (eD (cj 1) cE)))))) V3 (by walk_at"bn")
variable(g4:Known P w K mg base 1 "column_of" 2 Af)
include T ji g4 in
theorem Wb(A:At K mg "stretch_of" (top 5)):Known P w K mg base 2 "stretch_of" 2 zZ:=jl 1 A jn (λf g A outer s H E b=>have e:=b.units;have nd:=jn.nd
 (cT (wG 2 rfl (.of (N':=["end","channel"]) (m:=[none,some 0]) (by kernel_rfl)) iT (iV (gH ji b (cz (cj 0) (cz (cj 1) cF)))) (λs3 d ex=>(di 0 VW)) (λs3 d ex=>md) (λs3 d ex=>(gH g4 b (cz (cj 1) (cz (cj 0) cF)))) nd)
   (cT (iS (eI xU (Fj rfl T.b_len T.b_set (cz (cj 2) cF)) cE) (dv (gO kO)) hZ)
   (dv (gO (o6 (cz (iD (BN rfl) T.b_min boot_min (cz (cj 2) cF)) (cz (iD (yY rfl) T.b_max boot_max (cz (cj 2) cF)) cF)))))))) Vz (by walk_at"bn")
variable(gv:Known P w K mg base 2 "stretch_of" 2 zZ)
include T in
theorem WA(A:At K mg "bend_columns" (top 9)):Known P w K mg base 1 "bend_columns" 2 zS:=jl 0 A iH (λf g A outer s H E e=>have d:=e.units;have nd:=iH.nd
 (dv (gO (kg rfl (.of (N':=["column","bent_name","name"]) (m:=[none,none,some 1]) (by kernel_rfl)) vq (iV (l8 (cj 0))) (λs3 b ex=>(mY rfl (fW (di 0 Mg) (fW (di 1 Mg) me)))) (λs3 b ex=>(nJ (eI (jF d) (cj 1) (cj 2)))) (λs3 b ex=>(cj 0)))))) WJ (by walk_at"bn")
variable(fF:Known P w K mg base 1 "bend_columns" 2 zS)
include T in
theorem Vf(A:At K mg "width_of" (top 3)):Known P w K mg base 1 "width_of" 2 yq:=jl 0 A kG (λf e A outer s H E d=>have b:=d.units;have nd:=kG.nd
 (cT (mq aO rfl (iV (l8 (cj 0))) (mY rfl (fW (di 2 nd) (fW (di 3 nd) me)))
    (dv (iS (eI (jF b) (cj 2) (cj 1)) (dv (gO (cj 3))) hZ)))
   (dv (gO cE)))) U4 (by walk_at"bn")
variable(iw:Known P w K mg base 1 "width_of" 2 yq)
include T gv fF iw in
theorem Wa(A:At K mg "net_pieces" (top 8)):Known P w K mg base 3 "net_pieces" 3 wJ:=jl 2 A jo (λf g A outer s H E b=>have e:=b.units;have nd:=jo.nd
 (cT (fb 3 (gH gv b (cz (cj 0) (cz (cj 1) cF))) nd)
   (cT (iS (eI DP (cj 3) kO) (dv (gO (ic cF))) hZ)
   (cT (fb 4 (yg (tN (cj 2)) (gH fF b (cz (cj 0) (cz (cj 1) cF))) (ic cF)) nd)
   (cT (fb 5 (cO fP (cO fP (ic (cz (eD (cj 3) cE) cF)) (cj 4)) (ic (cz (eD (cj 3) cE) cF))) nd)
   (cT (fb 6 (gH iw b (cz (cj 0) (cz (cj 1) cF))) nd)
   (dv (gO (kg rfl (.of (N':=["first","last","name","width"]) (m:=[none,none,some 1,some 6]) (by kernel_rfl)) vq (Ey T.b_zip (cz (cj 5) (cz (nO (cj 5) (mQ cE) o7) cF))) (λs3 d ex=>(mY rfl (fW (di 0 Mb) (fW (di 1 Mb) me)))) (λs3 d ex=>md) (λs3 d ex=>(o6 (cz (cj 2) (cz (cj 0) (cz (cj 1) (cz (cj 3) cF))))))))))))))) Vy (by walk_at"bn")
variable(eU:Known P w K mg base 3 "net_pieces" 3 wJ)
theorem UB(T:Txt K mg)(gF:Known P w K mg base 1 "nets_of" 1 wK)(eU:Known P w K mg base 3 "net_pieces" 3 wJ){f:Addr}(b:Value)(A:Around)(outer:List Env)(s:Shared)(H:Hp)(E:XK)(a:eC 3 (A.deeper (envOfC "pieces_of" (cw eN) s.heap.objs.size f b))) :
  oN (nY nX P w K mg base ["channel","bent","pieces","name"] "pieces_of" (cw eN) f b A outer s H E).tX (c7 eN) CW:=by
 have d:=a.units
 show(cT (Ew 2 rfl (.of (N':=["first","last","tracks"]) (m:=[none,none,none]) (by kernel_rfl)) US (iV (l8 (cj 0))) (λs3 c ex=>(mY rfl (fW (di 0 FY) (fW (di 1 FY) (fW (di 2 FY) me))))) (λs3 c ex=>md) (λs3 c ex=>(o6 (cz kO (cz (cj 0) (cz (cj 1) (cz (cj 2) cF)))))) il.nd)
   (cT (mq aO rfl (iV (gH gF a (cz (cj 0) cF))) (di 3 il.nd)
    (dv (Ec 2 (gH eU a (cz (cj 0) (cz (cj 3) (cz (cj 1) cF)))))))
   (dv (tT 2))))
theorem VM(A:v8 K mg "pieces_of" eN [.bool false])(T:Txt K mg)(gF:Known P w K mg base 1 "nets_of" 1 wK)(eU:Known P w K mg base 3 "net_pieces" 3 wJ):lO P w K mg base 4 "pieces_of" 2 Ad false:=by
 obtain⟨_,f,fd,_,_,F,hm,lk,hd⟩:=A.ex;show⟨f,fd,["channel","bent"],Eu F il (UB T gF eU) V0,hm,F.kp,F.pL 2 lk hd (λ_ _ _ _ _ _ us a=>by obtain⟨_,_,rfl⟩:=DN a;show⟨_,rfl,rfl⟩),F.pL 1 lk hd (λ_ _ _ _ _ _ us a=>by obtain⟨_,rfl⟩:=wc a;show⟨_,rfl,rfl⟩)⟩
variable(gW:lO P w K mg base 4 "pieces_of" 2 Ad false)
include T in
theorem VL(A:At K mg "pieces_at" (top 11)):Known P w K mg base 1 "pieces_at" 3 yr:=jl 0 A jL (λf g A outer s H E e=>have d:=e.units;have nd:=jL.nd
 (dv (gO (kg rfl (.of (N':=["number","piece","name","column"]) (m:=[none,none,some 1,some 2]) (by kernel_rfl)) vq (wH T.b_enumerate (cz (cj 0) cF)) (λs3 b ex=>(mY rfl (fW (di 0 Ma) (fW (di 1 Ma) me)))) (λs3 b ex=>(nJ (tU (eI (jF d) (eD (cj 1) cE) (cj 2)) (wI (K9 BV BV (eD (cj 1) cE) (cj 3) (eD (cj 1) cE)))).pb)) (λs3 b ex=>(cj 0)))))) V1 (by walk_at"bn")
variable(f9:Known P w K mg base 1 "pieces_at" 3 yr)
include T f9 in
theorem WT(A:At K mg "pin_triples" (top 14)):Known P w K mg base 2 "pin_triples" 2 zO:=jl 1 A iY (λf g A outer s H E b=>have e:=b.units;have nd:=iY.nd
 (cT (o4 2 (ic cF) nd)
   (cT (mq aO rfl (pW T.b_range (cz (iD nI T.b_len boot_len (cz (l8 (cj 0)) cF)) cF)) (di 3 nd)
    (cT (fb 4 (eD (l8 (cj 0)) (cj 3)) nd)
   (cT (fb 5 (eD (l8 (cj 0)) (cj 3)) nd)
   (dv (iS (tU (eI tP (cj 4) kO) (tU (eI tP (cj 5) kO) (wI (eI (yM e) (cj 4) (cj 5))))).pb (cT (fb 6 (gH f9 b (cz (cj 1) (cz (cj 5) (cz (cj 3) cF)))) nd)
   (dv (mq aO rfl (iV (gH f9 b (cz (cj 1) (cz (cj 4) (cz (cj 3) cF))))) (di 7 nd)
    (dv (Ec 2 (kg rfl (.of (N':=["lower","upper","column"]) (m:=[none,some 7,some 3]) (by kernel_rfl)) iT (iV (cj 6)) (λs3 d ex=>(di 0 Wg)) (λs3 d ex=>md) (λs3 d ex=>(o6 (cz (cj 1) (cz (cj 0) (cz (cj 2) cF))))))))))) hZ)))))
   (dv (tT 2))))) Wm (by walk_at"bn")
variable(fY:Known P w K mg base 2 "pin_triples" 2 zO)
include T in
theorem VJ(A:At K mg "common_of" (top 10)):Known P w K mg base 1 "common_of" 2 Ae:=jl 0 A jM (λf e A outer s H E b=>have d:=b.units;have nd:=jM.nd
 (cT (fb 2 (iD (yY rfl) T.b_max boot_max (cz (eD (cj 0) cE) (cz (eD (cj 1) cE) cF))) nd)
   (cT (iS (eI yN (cj 2) (iD (BN rfl) T.b_min boot_min (cz (eD (cj 0) cE) (cz (eD (cj 1) cE) cF)))) (dv (gO kO)) hZ)
   (dv (gO (cj 2)))))) V2 (by walk_at"bn")
variable(gZ:Known P w K mg base 1 "common_of" 2 Ae)
include T gZ in
theorem Wz(A:At K mg "beneath_keep" (top 16)):Known P w K mg base 2 "beneath_keep" 2 zR:=jl 1 A iG (λf g A outer s H E d=>have e:=d.units;have nd:=iG.nd
 (cT (wG 2 rfl (.of (N':=["number","piece","keep"]) (m:=[none,none,some 0]) (by kernel_rfl)) vq (wH T.b_enumerate (cz (cj 1) cF)) (λs3 b ex=>(mY rfl (fW (di 0 Mf) (fW (di 1 Mf) me)))) (λs3 b ex=>(nJ (eI tP (eD (cj 1) cE) kO))) (λs3 b ex=>(o6 (cz (cj 0) (cz (gH gZ d (cz (cj 2) (cz (cj 1) cF))) cF)))) nd)
   (dv (gO (kg rfl (.of (N':=["number","column"]) (m:=[none,none]) (by kernel_rfl)) vq (iV (cj 2)) (λs3 b ex=>(mY rfl (fW (di 0 Me) (fW (di 1 Me) me)))) (λs3 b ex=>(nJ (eI tP (cj 1) kO))) (λs3 b ex=>(o6 (cz (cj 0) (cz (cj 1) cF))))))))) WI (by walk_at"bn")
variable(fE:Known P w K mg base 2 "beneath_keep" 2 zR)
include T fE in
theorem Wy(A:At K mg "keep_triples" (top 15)):Known P w K mg base 3 "keep_triples" 1 zQ:=jl 2 A iE (λf g A outer s H E b=>have e:=b.units;have nd:=iE.nd
 (cT (o4 1 (ic cF) nd)
   (cT (mq aO rfl (wH T.b_enumerate (cz (cj 0) cF)) (mY rfl (fW (di 2 nd) (fW (di 3 nd) me)))
    (dv (iS (eI DP (eD (cj 3) cE) kO) (dv (Ec 1 (kg rfl (.of (N':=["lower","column","upper"]) (m:=[none,none,some 2]) (by kernel_rfl)) vq (iV (gH fE b (cz (cj 3) (cz (cj 0) cF)))) (λs3 d ex=>(mY rfl (fW (di 0 Md) (fW (di 1 Md) me)))) (λs3 d ex=>md) (λs3 d ex=>(o6 (cz (cj 2) (cz (cj 0) (cz (cj 1) cF)))))))) hZ)))
   (dv (tT 1))))) WH (by walk_at"bn")
variable(fD:Known P w K mg base 3 "keep_triples" 1 zQ)
include T fY fD in
theorem Ve(A:At K mg "above_of" (top 13)):Known P w K mg base 4 "above_of" 2 zF:=jl 3 A kI (λf e A outer s H E b=>have d:=b.units;have nd:=kI.nd
 (dv (gO (iD (Tf rfl) T.b_sorted boot_sorted (cz (cO fP (gH fY b (cz (cj 0) (cz (cj 1) cF))) (gH fD b (cz (cj 1) cF))) cF))))) U3 (by walk_at"bn")
variable(iz:Known P w K mg base 4 "above_of" 2 zF)
include T cG in
theorem V9(A:At K mg "_law_turns" (top 105)):Known P w K mg base 2 "_law_turns" 3 zX:=jl 1 A jq (λf g A outer s H E e=>have d:=e.units;have nd:=jq.nd
 (cT (o4 3 (Rt rfl (.of (N':=["_law_k"]) (m:=[none]) (by kernel_rfl)) iT (pW T.b_range (cz (cj 0) cF)) (λs3 b ex=>(di 0 VV)) (λs3 b ex=>md) (λs3 b ex=>(ic cF))) nd)
   (cT (mq aO rfl (iV (cj 1)) (mY rfl (fW (di 4 nd) (fW (di 5 nd) (fW (di 6 nd) me))))
    (dv (Q5 3 (cj 5) (cj 4))))
   (cT (o4 7 (Ri rfl T.b_list T.b_range (cz (cj 0) cF)) nd)
   (cT (o4 8 (ic cF) nd)
   (wA 3 (cT (Kz aO (eI yN (JL 7 T.b_len) cE) (cT (Rr 7 9 rfl (.of (N':=["_law_q","_law_waiting","_law_uppers"]) (m:=[none,some 7,some 3]) (by kernel_rfl)) iT (iV (cj 7)) (λs3 b ex=>(di 0 VU)) (λs3 b ex=>(nJ (ve (tN (iD (IY rfl) T.b_any boot_any (cz (kg rfl (.of (N':=["_law_p","_law_waiting"]) (m:=[none,some 1]) (by kernel_rfl)) iT (iV (eD (cj 2) (cj 0))) (λs3 b ex=>(di 0 VT)) (λs3 b ex=>md) (λs3 b ex=>(vf (rW d) (cj 0) (cj 1)))) cF)))))) (λs3 b ex=>(cj 0)) nd)
   (wA 9 (cT (iS (eI (jF d) (iD nI T.b_len boot_len (cz (cj 9) cF)) cE) (dv (gO kO)) hZ)
   (cT (oZ 8 (eD (cj 9) (cO gN (gH cG e (cz (cj 2) (cz (cO fP (JL 8 T.b_len) cE) cF))) (iD nI T.b_len boot_len (cz (cj 9) cF)))))
   (dv (Td 7 (zc 8 (uk cE)))))))))
   (dv (tT 8))))))))) Vw (by walk_at"bn")
variable(gw:Known P w K mg base 2 "_law_turns" 3 zX)
include T in
theorem Vd(A:At K mg "count_of" (top 46)):Known P w K mg base 1 "count_of" 2 yp:=jl 0 A kH (λf g A outer s H E d=>have e:=d.units;have nd:=kH.nd
 (dv (gO (P6 rfl (kg rfl (.of (N':=["piece","track"]) (m:=[none,none]) (by kernel_rfl)) vq (Ey T.b_zip (cz (cj 0) (cz (cj 1) cF))) (λs3 b ex=>(mY rfl (fW (di 0 L8) (fW (di 1 L8) me)))) (λs3 b ex=>md) (λs3 b ex=>(cO fP (cj 1) (eD (cj 0) cE)))) cE T.b_max)))) U2 (by walk_at"bn")
variable(iy:Known P w K mg base 1 "count_of" 2 yp)
include T in
theorem V8(A:At K mg "_law_clear" (top 106)):Known P w K mg base 1 "_law_clear" 4 zW:=jl 0 A jv (λf e A outer s H E d=>have b:=d.units;have nd:=jv.nd
 (cT (mq aO rfl (pW T.b_range (cz (iD nI T.b_len boot_len (cz (cj 0) cF)) cF)) (di 4 nd)
    (dv (iS (tU (eI N3 (eD (cj 1) (cj 4)) cE) (wI (zd (eI DP (eD (eD (cj 0) (cj 4)) cE) kO) (Cj (eI (yM b) (eD (eD (cj 0) (cj 4)) cE) (eD (eD (cj 0) (cj 2)) cE)))).pb)).pb (dv (iS (eI N4 (iD (yY rfl) T.b_max boot_max (cz (eD (eD (cj 0) (cj 4)) cE) (cz (eD (eD (cj 0) (cj 2)) cE) cF))) (iD (BN rfl) T.b_min boot_min (cz (eD (eD (cj 0) (cj 4)) cE) (cz (eD (eD (cj 0) (cj 2)) cE) cF)))) (dv (iS (tU (eI xU (eD (cj 1) (cj 4)) (cO fP (cj 3) (eD (eD (cj 0) (cj 2)) cE))) (wI (eI xU (cj 3) (cO fP (eD (cj 1) (cj 4)) (eD (eD (cj 0) (cj 4)) cE))))).pb (dv (gO rq)) hZ)) hZ)) hZ)))
   (dv (gO rq)))) Vv (by walk_at"bn")
variable(gC:Known P w K mg base 1 "_law_clear" 4 zW)
include T cG gC in
theorem WS(A:At K mg "_law_tracks" (top 107)):Known P w K mg base 2 "_law_tracks" 4 zN:=jl 1 A iZ (λf g A outer s H E b=>have e:=b.units;have nd:=iZ.nd
 (cT (Ew 4 rfl (.of (N':=["_law_piece"]) (m:=[none]) (by kernel_rfl)) iT (iV (cj 0)) (λs3 d ex=>(di 0 Wf)) (λs3 d ex=>md) (λs3 d ex=>(uk cE)) nd)
   (cT (mq aO rfl (wH T.b_enumerate (cz (cj 2) cF)) (mY rfl (fW (di 5 nd) (fW (di 6 nd) me)))
    (cT (fb 7 (eD (ic (cz cE (cz cE (cz cE (cz cE (cz cE cF)))))) (cO gN (gH cG b (cz (cj 3) (cz (cO fP (cj 5) cE) cF))) cE)) nd)
   (cT (mq aO rfl (iV (cj 1)) (mY rfl (fW (di 8 nd) (fW (di 9 nd) (fW (di 10 nd) me))))
    (dv (iS (eI (jF e) (cj 9) (cj 6)) (dv (fb 7 (iD (yY rfl) T.b_max boot_max (cz (cj 7) (cz (cO fP (zc 4 (cj 8)) (eD (eD (cj 0) (cj 8)) cE)) cF))) nd)) hZ)))
   (cT (Kz aO (ve (tN (Rb 4 (gH gC b (cz (cj 0) (cz (cj 4) (cz (cj 6) (cz (cj 7) cF)))))))) (dv (fb 7 (cO fP (cj 7) cE) nd)))
   (dv (Rv 4 (cj 6) (cj 7)))))))
   (dv (tT 4))))) Wl (by walk_at"bn")
variable(fZ:Known P w K mg base 2 "_law_tracks" 4 zN)
include T jj j7 gB gW iz gw fZ in
theorem WR(A:At K mg "_law_layout" (top 108)):Known P w K mg base 5 "_law_layout" 2 zM:=jl 4 A i3 (λf e A outer s H E b=>have d:=b.units;have nd:=i3.nd
 (cT (fb 2 (ic (cz (ic (cz (cj 0) (cz (vf (jF d) (cO gN (cj 1) cE) cE) cF))) (cz (ic (cz (cj 0) (cz (vf (jF d) (cO gN (cj 1) cE) cE) cF))) (cz (ic (cz (gH gB b (cz (cj 0) cF)) (cz (vf (jF d) (cO gN (cj 1) cE) cE) cF))) cF)))) nd)
   (cT (mq aO rfl (iV (cj 2)) (Es rfl (fW (di 3 nd) (fW (di 4 nd) me)))
    (cT (fb 5 (Kq jj b (cz (eD (cj 3) cE) (cz (eD (cj 3) cE) (cz (eD (cj 3) cE) (cz (eD (cj 3) cE) (cz (eD (cj 3) cE) (cz (eD (cj 3) cE) (cz (eD (cj 3) cE) cF)))))))) nd)
   (cT (fb 6 (gH gW.all b (cz (cj 5) (cz (cj 4) cF))) nd)
   (cT (fb 7 (gH iz b (cz (cj 5) (cz (cj 6) cF))) nd)
   (cT (fb 8 (gH gw b (cz (iD nI T.b_len boot_len (cz (cj 6) cF)) (cz (cj 7) (cz (cj 1) cF)))) nd)
   (dv (iS (eI tP (cj 8) kO) (dv (gO (Kq j7 b (cz (cj 5) (cz (cj 4) (cz (cj 6) (cz (cj 7) (cz (gH fZ b (cz (cj 6) (cz (cj 7) (cz (cj 8) (cz (cj 1) cF))))) cF)))))))) hZ)))))))
   (dv (gO kO))))) Wk (by walk_at"bn")
variable(f6:Known P w K mg base 5 "_law_layout" 2 zM)
include T in
theorem VI(A:At K mg "_law_stem" (top 94)):Known P w K mg base 1 "_law_stem" 2 Ah:=jl 0 A jO (λf e A outer s H E b=>have d:=b.units;have nd:=jO.nd
 (cT (fb 2 oh nd)
   (cT (fb 3 oh nd)
   (cT (mq aO rfl (pW T.b_range (cz (cj 1) cF)) (di 4 nd)
    (cT (fb 3 (cO fP (cj 3) (eD (cj 2) (cO gN (cj 0) cE))) nd)
   (dv (fb 0 (cO lp (cj 0) cE) nd))))
   (dv (gO (cj 3))))))) V7 (by walk_at"bn")
variable(g5:Known P w K mg base 1 "_law_stem" 2 Ah)
include T g5 in
theorem Wu(A:At K mg "_law_named" (top 95)):Known P w K mg base 2 "_law_named" 1 z9:=jl 1 A js (λf g A outer s H E e=>have d:=e.units;have nd:=js.nd
 (cT (fb 0 (cO gN (cO qv (cO fP (cO gN (cj 0) (cO wj cE cE)) cE) cE) (cO fP (cO wj cE cE) cE)) nd)
   (cT (fb 1 (cO gN (cj 0) cE) nd)
   (cT (fb 2 (gH g5 e (cz (cO lp (cj 0) cE) (cz cE cF))) nd)
   (cT (fb 3 (cO gN (cO lp (cj 0) cE) (cO fP (cj 1) cE)) nd)
   (cT (iS (eI (jF d) (cO gN (cO lp (cj 0) cE) cE) cE) (dv (gO (kg rfl (.of (N':=["_law_sign","_law_stem_here","_law_at","_law_size"]) (m:=[none,some 2,some 3,some 1]) (by kernel_rfl)) iT (iV oh) (λs3 b ex=>(di 0 VS)) (λs3 b ex=>md) (λs3 b ex=>(cO fP (cO fP (nO (cj 1) o7 (mQ (cj 2))) (cj 0)) (nO (cj 1) (mQ (cj 2)) (mQ (cj 3)))))))) hZ)
   (cT (iS (eI (jF d) (cO gN (cO lp (cj 0) cE) cE) cE) (dv (gO (kg rfl (.of (N':=["_law_k","_law_stem_here","_law_size"]) (m:=[none,some 2,some 1]) (by kernel_rfl)) iT (pW T.b_range (cz cE cF)) (λs3 b ex=>(di 0 VR)) (λs3 b ex=>md) (λs3 b ex=>(cO fP (cO fP (cO fP (nO (cj 1) o7 (mQ (cO gN (cj 2) cE))) (eD oh (cO lp (cj 0) cE))) (eD oh (cO gN (cO lp (cj 0) cE) cE))) (eD oh (cO gN (cj 0) cE))))))) hZ)
   (cT (fb 4 (cO fP (eD oh (qD IV T.b_int boot_int (cz (vf (jF d) (eD (cj 2) cE) oh) cF))) (nO (cj 2) (mQ cE) o7)) nd)
   (dv (gO (cO fP (kg rfl (.of (N':=["_law_k","_law_stem_here"]) (m:=[none,some 2]) (by kernel_rfl)) iT (pW T.b_range (cz cE cF)) (λs3 b ex=>(di 0 VQ)) (λs3 b ex=>md) (λs3 b ex=>(nO (cj 1) o7 (mQ (cO fP (cj 0) cE))))) (ic (cz (nO (cj 4) o7 (mQ cE)) (cz (nO (cj 4) o7 (mQ cE)) cF)))))))))))))) VC (by walk_at"bn")
variable(gz:Known P w K mg base 2 "_law_named" 1 z9)
include T cG in
theorem VH(A:At K mg "_law_pins" (top 97)):Known P w K mg base 2 "_law_pins" 4 Ag:=jl 1 A jQ (λf e A outer s H E b=>have d:=b.units;have nd:=jQ.nd
 (cT (o4 4 (ic cF) nd)
   (cT (o4 5 (ic cF) nd)
   (cT (mq aO rfl (pW T.b_range (cz (cj 3) cF)) (di 6 nd)
    (cT (o4 7 (ic cF) nd)
   (cT (mq aO rfl (pW T.b_range (cz cE cF)) (di 8 nd)
    (cT (fb 9 (cO fP (cO qv cE (cj 6)) (cj 8)) nd)
   (cT (fb 10 (gH cG b (cz (cj 2) (cz (cj 9) cF))) nd)
   (cT (iS (eI xU (cj 9) (iD nI T.b_len boot_len (cz (cj 1) cF))) (dv (fb 10 (gH cG b (cz (eD (cj 1) (cj 9)) (cz (cj 9) cF))) nd)) hZ)
   (dv (oZ 7 (eD (ic (cz (eD (cj 0) (cO gN (cj 10) cE)) (cz (eD (cj 0) (cO gN (cO lp (cj 10) cE) cE)) (cz (eD (cj 0) (cO gN (cO lp (cj 10) cE) cE)) (cz kO cF))))) (cO gN (cO lp (cj 10) cE) cE))))))))
   (cT (oZ 4 (zc 7 cE))
   (dv (oZ 5 (zc 7 cE)))))))
   (wA 5 (wA 4 (dv (gO (o6 (cz (cj 4) (cz (cj 5) cF))))))))))) V6 (by walk_at"bn")
variable(g7:Known P w K mg base 2 "_law_pins" 4 Ag)
include T in
theorem VG(A:At K mg "_law_open" (top 102)):Known P w K mg base 1 "_law_open" 2 yn:=jl 0 A jR (λf g A outer s H E e=>have b:=e.units;have nd:=jR.nd
 (cT (iS (eI (jF b) (cO gN (cO lp (cj 1) cE) cE) cE) (dv (gO (ic cF))) hZ)
   (dv (gO (iD (Ks rfl) T.b_sorted boot_sorted (cz (kg rfl (.of (N':=["_law_k","_law_words","_law_bits"]) (m:=[none,some 0,some 1]) (by kernel_rfl)) iT (pW T.b_range (cz cE cF)) (λs3 d ex=>(di 0 Vh)) (λs3 d ex=>(nJ (eI (jF b) (cO gN (cO lp (cj 2) (eD (ic (cz cE (cz cE (cz cE (cz cE (cz cE (cz cE (cz cE (cz cE cF))))))))) (cj 0))) cE) cE))) (λs3 d ex=>(eD (cj 1) (cj 0)))) cF)))))) V4 (by walk_at"bn")
variable(gc:Known P w K mg base 1 "_law_open" 2 yn)
include T in
theorem Wx(A:At K mg "_law_stretch" (top 99)):Known P w K mg base 1 "_law_stretch" 5 zU:=jl 0 A iI (λf g A outer s H E e=>have b:=e.units;have nd:=iI.nd
 (cT (Ew 5 rfl (.of (N':=["_law_c","_law_word","_law_top","_law_bottom"]) (m:=[none,some 4,some 0,some 1]) (by kernel_rfl)) iT (pW T.b_range (cz (iD nI T.b_len boot_len (cz (cj 0) cF)) cF)) (λs3 d ex=>(di 0 WD)) (λs3 d ex=>(nJ (eI (rW b) (cj 1) (ic (cz (eD (cj 2) (cj 0)) (cz (eD (cj 3) (cj 0)) cF)))))) (λs3 d ex=>(cj 0)) nd)
   (cT (iS (eI (rW b) (cj 4) (cj 2)) (dv (oZ 5 (uk cE))) hZ)
   (cT (iS (eI (rW b) (cj 4) (cj 3)) (dv (oZ 5 (iD nI T.b_len boot_len (cz (cj 0) cF)))) hZ)
   (wA 5 (dv (gO (o6 (cz (iD (BN rfl) T.b_min boot_min (cz (cO fP (cj 5) (ic (cz cE cF))) cF)) (cz (iD (yY rfl) T.b_max boot_max (cz (cO fP (cj 5) (ic (cz (uk cE) cF))) cF)) cF)))))))))) WL (by walk_at"bn")
variable(fG:Known P w K mg base 1 "_law_stretch" 5 zU)
include T cG fG in
theorem Wt(A:At K mg "_law_bends" (top 100)):Known P w K mg base 2 "_law_bends" 4 z8:=jl 1 A jw (λf g A outer s H E d=>have b:=d.units;have nd:=jw.nd
 (cT (B5 (cj 0) (Es rfl (fW (di 4 nd) (fW (di 5 nd) (fW (di 6 nd) (fW (di 7 nd) me))))))
   (cT (o4 8 (ic cF) nd)
   (cT (mq aO rfl (pW T.b_range (cz (iD nI T.b_len boot_len (cz (cj 4) cF)) cF)) (di 9 nd)
    (cT (fb 10 (gH cG d (cz (eD (cO fP (cj 2) (ic (cz (cj 3) cF))) (cO gN (cj 9) (cO fP (iD nI T.b_len boot_len (cz (cj 2) cF)) cE))) (cz (cO fP (cj 9) cE) cF))) nd)
   (cT (fb 11 (eD (cj 1) (cO gN (cj 10) cE)) nd)
   (cT (iS (tU (eI (jF b) (cO gN (cO lp (cj 10) cE) cE) cE) (wI (eI tP (eD (cj 4) (cj 9)) kO))).pb (dv (fb 11 (eD (cj 4) (cj 9)) nd)) hZ)
   (cT (B5 (gH fG d (cz (cj 4) (cz (cj 5) (cz (cj 6) (cz (cj 7) (cz (cj 11) cF)))))) (mY rfl (fW (di 12 nd) (fW (di 13 nd) me))))
   (cT (wG 14 rfl (.of (N':=["_law_x"]) (m:=[none]) (by kernel_rfl)) iT (iV (ic (cz (eD (cj 4) (cj 9)) (cz (eD (cj 5) (cj 9)) cF)))) (λs3 e ex=>(di 0 VP)) (λs3 e ex=>(nJ (eI tP (cj 0) kO))) (λs3 e ex=>(cj 0)) nd)
   (dv (iS (tU (eI xU (cj 12) (cj 9)) (tU (eI xU (cj 9) (cj 13)) (tU (zd (eI (jF b) (cj 14) (ic cF)) (Cj (eI (rW b) (cj 11) (cj 14)))).pb (wI (eI yN (cO gN (cO lp (cj 10) cE) cE) cE))))).pb (dv (oZ 8 (o6 (cz (cj 9) (cz (cj 11) cF))))) hZ))))))))
   (dv (tT 8)))))) VB (by walk_at"bn")
variable(gD:Known P w K mg base 2 "_law_bends" 4 z8)
include T cG in
theorem Ws(A:At K mg "_law_keeps" (top 101)):Known P w K mg base 2 "_law_keeps" 3 z7:=jl 1 A jt (λf e A outer s H E b=>have d:=b.units;have nd:=jt.nd
 (cT (o4 3 (ic cF) nd)
   (cT (mq aO rfl (wH T.b_enumerate (cz (nO (cj 1) o7 (mQ cE)) cF)) (mY rfl (fW (di 4 nd) (fW (di 5 nd) me)))
    (cT (fb 6 (gH cG b (cz (cO fP (cj 5) (cj 2)) (cz (cO fP (cj 4) cE) cF))) nd)
   (cT (fb 7 (cO gN (cj 6) (cj 0)) nd)
   (dv (iS (eI (jF d) (cO gN (cO lp (cj 6) cE) cE) cE) (dv (oZ 3 (o6 (cz (cj 7) (cz (cO fP (cj 7) (cO gN (cO lp (cj 6) cE) (cO IM (cj 0) (cj 7)))) (cz (cO fP cE (cO gN (cO lp (cj 6) cE) cE)) cF)))))) hZ)))))
   (dv (tT 3))))) VA (by walk_at"bn")
variable(gA:Known P w K mg base 2 "_law_keeps" 3 z7)
include T cG dR gz g7 gc gD gA in
theorem zev(A:At K mg "_law_channel" (top 103)):Known P w K mg base 3 "_law_channel" 2 zT:=jl 2 A iK (λf g A outer s H E d=>have e:=d.units;have nd:=iK.nd
 (cT (fb 2 (cO gN (cO qv (cO gN (iD (yZ rfl) T.b_sum boot_sum (cz (nO (cj 0) o7 (mQ cE)) cF)) (cO wj cE cE)) cE) cE) nd)
   (cT (fb 3 (gH gz d (cz (iD (yZ rfl) T.b_sum boot_sum (cz (nO (cj 0) o7 (mQ cE)) cF)) cF)) nd)
   (cT (fb 4 (cO fP cE (cO gN (cj 2) (cj 1))) nd)
   (cT (fb 5 (nO (cj 0) (mQ cE) o7) nd)
   (cT (B5 (gH g7 d (cz (cj 3) (cz (cj 5) (cz (cj 2) (cz (cj 4) cF))))) (mY rfl (fW (di 6 nd) (fW (di 7 nd) me))))
   (cT (fb 8 (gH cG d (cz (iD (yZ rfl) T.b_sum boot_sum (cz (nO (cj 0) (mQ cE) (mQ cE)) cF)) (cz (cO fP cE (cO gN (cj 2) cE)) cF))) nd)
   (cT (fb 9 (gH gc d (cz (cj 3) (cz (cj 8) cF))) nd)
   (cT (fb 10 (gH gc d (cz (cj 3) (cz (cO lp (cj 8) cE) cF))) nd)
   (cT (fb 11 (kg rfl (.of (N':=["_law_word","_law_top","_law_bottom","_law_left","_law_right"]) (m:=[none,some 6,some 7,some 9,some 10]) (by kernel_rfl)) iT (iV (cj 3)) (λs3 b ex=>(di 0 WC)) (λs3 b ex=>(nJ (eI (jF e) (gH dR d (cz (cj 1) (cz (cj 2) (cz (cj 3) (cz (cj 4) (cz (cj 0) cF)))))) cE))) (λs3 b ex=>(cj 0))) nd)
   (cT (fb 6 (kg rfl (.of (N':=["_law_word","_law_lone"]) (m:=[none,some 11]) (by kernel_rfl)) iT (iV (cj 6)) (λs3 b ex=>(di 0 WX)) (λs3 b ex=>md) (λs3 b ex=>(yg (eI (rW e) (cj 0) (cj 1)) kO (cj 0)))) nd)
   (cT (fb 7 (kg rfl (.of (N':=["_law_word","_law_lone"]) (m:=[none,some 11]) (by kernel_rfl)) iT (iV (cj 7)) (λs3 b ex=>(di 0 WW)) (λs3 b ex=>md) (λs3 b ex=>(yg (eI (rW e) (cj 0) (cj 1)) kO (cj 0)))) nd)
   (cT (fb 9 (kg rfl (.of (N':=["_law_word","_law_lone"]) (m:=[none,some 11]) (by kernel_rfl)) iT (iV (cj 9)) (λs3 b ex=>(di 0 WV)) (λs3 b ex=>(nJ (eI (Ck e) (cj 0) (cj 1)))) (λs3 b ex=>(cj 0))) nd)
   (cT (fb 10 (kg rfl (.of (N':=["_law_word","_law_lone"]) (m:=[none,some 11]) (by kernel_rfl)) iT (iV (cj 10)) (λs3 b ex=>(di 0 WU)) (λs3 b ex=>(nJ (eI (Ck e) (cj 0) (cj 1)))) (λs3 b ex=>(cj 0))) nd)
   (cT (o4 12 (ic cF) nd)
   (cT (mq aO rfl (wH T.b_enumerate (cz (iD (Ks rfl) T.b_sorted boot_sorted (cz (cj 3) cF)) cF)) (mY rfl (fW (di 13 nd) (fW (di 14 nd) me)))
    (cT (fb 15 (gH cG d (cz (cO fP (cj 2) (cj 13)) (cz cE cF))) nd)
   (dv (iS (tU (eI (jF e) (cO gN (cj 15) cE) cE) (wI (eI yN (gH dR d (cz (cj 6) (cz (cj 7) (cz (cj 9) (cz (cj 10) (cz (cj 14) cF)))))) cE))).pb (dv (oZ 12 (o6 (cz (cj 14) (cz (cO fP cE (cO gN (cO lp (cj 15) cE) cE)) cF))))) hZ))))
   (cT (fb 16 (gH gD d (cz (ic (cz (cj 6) (cz (cj 7) (cz (cj 9) (cz (cj 10) cF))))) (cz (cj 3) (cz (cj 5) (cz (cj 2) cF))))) nd)
   (cT (fb 17 (ic cF) nd)
   (cT (iS (eI (jF e) (cO gN (cO lp (cj 2) cE) cE) cE) (dv (fb 17 (gH gA d (cz (cj 4) (cz (cj 5) (cz (cj 2) cF)))) nd)) hZ)
   (wA 12 (dv (gO (ic (cz (cj 6) (cz (cj 7) (cz (cj 9) (cz (cj 10) (cz (cj 12) (cz (cj 16) (cz (cj 17) cF)))))))))))))))))))))))))))))) WK (by walk_at"bn")
variable(fH:Known P w K mg base 3 "_law_channel" 2 zT)
variable(gr:c8 P w K mg base cq 3 "_law_asked" 3 zL)
variable(cK:fi K mg "BadPile" cq [.type "ValueError",.type "Exception",.type "BaseException",.type "object"] "ValueError.__new__")(eB:fi K mg "WireError" c9 [.type "ValueError",.type "Exception",.type "BaseException",.type "object"] "ValueError.__new__")(dH:PySem.W.nsIn K mainGlobals "BadPile"=some (some (.ref cq)))(cN:subIn K cq c9=true)(EK:uY K cq)(fm:mg "BadPile"=some (.ref cq))(fv:mg "BadBend"=some (.ref eu))(dQ:mg "BadDrawing"=some (.ref cW))(fq:mg "BadKeep"=some (.ref et))(fk:mg "BadText"=some (.ref eh))(i7:mg "Lone"=some (.ref gK))(eP:mg "NoLayout"=some (.ref du))(gU:mg "NoNet"=some (.ref fJ))(fj:mg "NoOrder"=some (.ref ef))(eO:mg "PinTaken"=some (.ref dn))(gT:mg "Taken"=some (.ref fI))(I1:PySem.W.kitOne K (.ref cq) (.ref cq)=some true)(I2:PySem.W.kitOne K (.ref cq) (.type "ValueError")=some true)(I3:PySem.W.kitAny K (.ref cq) [.ref eu,.ref cW,.ref et,.ref eh,.ref gK,.ref du]=some false)(I4:PySem.W.kitAny K (.ref cq) [.ref fJ,.ref ef,.ref dn,.ref fI]=some false)
include T gr cK eB dH cN EK fm fv dQ fq fk i7 eP gU fj eO gT I1 I2 I3 I4 in
theorem Ww(A:At K mg "_law_refused" (top 111)):Known P w K mg base 4 "_law_refused" 3 yt:=jl 3 A iJ (λf i A outer s H E d=>have g:=d.units;have nd:=iJ.nd
 (cT (fb 3 kO nd)
   (cT (P5 4 3 gr d cK eB rfl dH cN rfl nd (cz (cj 0) (cz (cj 1) (cz (cj 2) cF))))
   (cT (iS (zd (ve (tN (P9 (b:=true) (cj 3) EK dH T.b_isinstance fm I1))) (Cj (ve (tN (P8 (b:=true) (cj 3) EK dH T.b_isinstance T.b_ValueError (by decide +kernel) I2))))).pb (dv (gO rq)) hZ)
   (cT (iS (tN (KO (cs:=[("BadBend",eu,_),("BadDrawing",cW,_),("BadKeep",et,_),("BadText",eh,_),("Lone",gK,_),("NoLayout",du,_)]) (b:=false) (cj 3) EK dH T.b_isinstance (bL.mpr ⟨⟨fv,rfl,show(("BadBend":Str)==("__debug__":Str))=false by decide⟩,(bL.mpr ⟨⟨dQ,rfl,show(("BadDrawing":Str)==("__debug__":Str))=false by decide⟩,(bL.mpr ⟨⟨fq,rfl,show(("BadKeep":Str)==("__debug__":Str))=false by decide⟩,(bL.mpr ⟨⟨fk,rfl,show(("BadText":Str)==("__debug__":Str))=false by decide⟩,(bL.mpr ⟨⟨i7,rfl,show(("Lone":Str)==("__debug__":Str))=false by decide⟩,(bL.mpr ⟨⟨eP,rfl,show(("NoLayout":Str)==("__debug__":Str))=false by decide⟩,(λ_ h=>nomatch h)⟩)⟩)⟩)⟩)⟩)⟩) I3 (show 6<=sizeLine by decide +kernel) (by intro es h;obtain⟨l,e⟩:=h;subst e;rcases l with _ | _ | _ | _ | _ | _ | _ | _<;>rfl))) (dv (gO rq)) hZ)
   (dv (gO (OX (KO (cs:=[("NoNet",fJ,_),("NoOrder",ef,_),("PinTaken",dn,_),("Taken",fI,_)]) (b:=false) (cj 3) EK dH T.b_isinstance (bL.mpr ⟨⟨gU,rfl,show(("NoNet":Str)==("__debug__":Str))=false by decide⟩,(bL.mpr ⟨⟨fj,rfl,show(("NoOrder":Str)==("__debug__":Str))=false by decide⟩,(bL.mpr ⟨⟨eO,rfl,show(("PinTaken":Str)==("__debug__":Str))=false by decide⟩,(bL.mpr ⟨⟨gT,rfl,show(("Taken":Str)==("__debug__":Str))=false by decide⟩,(λ_ h=>nomatch h)⟩)⟩)⟩)⟩) I4 (show 4<=sizeLine by decide +kernel) (by intro es h;obtain⟨l,e⟩:=h;subst e;rcases l with _ | _ | _ | _ | _ | _<;>rfl)))))))))) WE (by walk_at"bn")
variable(eQ:Known P w K mg base 4 "_law_refused" 3 yt)
include T in
theorem VF(A:At K mg "_law_rows" (top 112)):Known P w K mg base 1 "_law_rows" 1 Ac:=jl 0 A jP (λf e A outer s H E b=>have d:=b.units;have nd:=jP.nd
 (cT (o4 1 (ic cF) nd)
   (cT (fb 2 cE nd)
   (cT (mq aO rfl (iV (cj 0)) (di 3 nd)
    (cT (oZ 1 (cj 2))
   (dv (fb 2 (cO fP (cO fP (cj 2) (cO qv cE (l8 (BQ (cj 3))))) cE) nd))))
   (dv (tT 1)))))) VZ (by walk_at"bn")
variable(g6:Known P w K mg base 1 "_law_rows" 1 Ac)
abbrev fA:Stmt:=top 85
theorem iF:cB ["layouts","widths"] ["layouts"] (cw fA):=by walk_at"sc"
theorem WQ:(["layout"]:List Str).Nodup:=by decide +kernel
theorem WY(A:At K mg "checked_pile" fA)(T:Txt K mg)(cK:fi K mg "BadPile" cq [.type "ValueError",.type "Exception",.type "BaseException",.type "object"] "ValueError.__new__"):c8 P w K mg base cq 1 "checked_pile" 1 pk:=zu (T:=C3) 0 A iF (λQx f e A outer s H E c=>have b:=c.units
 (r8 (Jn (wG 1 rfl (.of (N':=["layout"]) (m:=[none]) (by kernel_rfl)) iT (iV (cj 0)) (λs3 a ex=>(di 0 WQ)) (λs3 a ex=>md) (λs3 a ex=>(iD nI T.b_len boot_len (cz (l8 (l8 (BQ (cj 0)))) cF))) iF.nd))
   (r8 (xY (eI (yM b) (Fj rfl T.b_len T.b_set (cz (cj 1) cF)) cE) (vk (KQ cK PySem.F.excBase_ValueError rfl J5 oh)) (tR hZ))
   (vk (Jn (gO rq)))))) WB λ_ _ _ _ _ _ us d=>by obtain⟨_,rfl⟩:=wc d;show rfl
abbrev gk:Stmt:=top 86
theorem g9:cB ["layouts","rows","layout"] ["layouts"] (cw gk):=by walk_at"sc"
theorem WO(A:At K mg "first_rows" gk)(T:Txt K mg)(c:c8 P w K mg base cq 1 "checked_pile" 1 pk)(cK:fi K mg "BadPile" cq [.type "ValueError",.type "Exception",.type "BaseException",.type "object"] "ValueError.__new__"):c8 P w K mg base cq 2 "first_rows" 1 wN:=zu (T:=CV) 1 A g9 (λQx f e A outer s H E a=>have d:=a.units
 (r8 (Cz (vo c a rfl ui (tS (cz (cj 0) cF))))
   (tR (cT (o4 1 (ic (cz cE cF)) g9.nd)
   (cT (mq PassesOwn.leaving rfl (iV (nO (cj 0) o7 (mQ (uk cE)))) (di 2 g9.nd)
    (dv (oZ 1 (cO fP (cO fP (zc 1 (uk cE)) (cO qv cE (l8 (BQ (cj 2))))) cE))))
   (dv (tT 1))))))) Wj λ_ _ _ _ _ _ us b=>by obtain⟨_,rfl⟩:=wc b;show rfl
abbrev gm:Stmt:=top 87
theorem UY:cB ["layouts","texts","upper","lower"] ["layouts"] (cw gm):=by walk_at"sc"
theorem WN(A:At K mg "drawn_pile" gm)(T:Txt K mg)(c:c8 P w K mg base cq 1 "checked_pile" 1 pk)(cK:fi K mg "BadPile" cq [.type "ValueError",.type "Exception",.type "BaseException",.type "object"] "ValueError.__new__"):c8 P w K mg base cq 2 "drawn_pile" 1 yo:=zu (T:=CU) 1 A UY (λQx f e A outer s H E a=>have d:=a.units
 (r8 (Cz (vo c a rfl ui (tS (cz (cj 0) cF))))
   (tR Fg))) Wi λ_ _ _ _ _ _ us b=>by obtain⟨_,rfl⟩:=wc b;show rfl
abbrev fX:Stmt:=top 90
theorem Vc:cB ["layouts","borders"] ["layouts"] (cw fX):=by walk_at"sc"
theorem Wv(A:At K mg "pile_groups" fX)(T:Txt K mg)(c:c8 P w K mg base cq 1 "checked_pile" 1 pk)(cK:fi K mg "BadPile" cq [.type "ValueError",.type "Exception",.type "BaseException",.type "object"] "ValueError.__new__"):c8 P w K mg base cq 2 "pile_groups" 1 zP:=zu (T:=C1) 1 A Vc (λQx f e A outer s H E a=>have d:=a.units
 (r8 (Cz (vo c a rfl ui (tS (cz (cj 0) cF))))
   (tR Fg))) WG λ_ _ _ _ _ _ us b=>by obtain⟨_,rfl⟩:=wc b;show rfl
abbrev jT:Stmt:=top 92
theorem R7:cB ["layouts","k","name","pins","left","right","width","changed","pile"] ["layouts","k","name","pins","left","right","width"] (cw jT):=by walk_at"sc"
theorem UX(A:v8 K mg "pushed" jT [.bool false,.bool false,.int 1 Ao])(T:Txt K mg)(c:c8 P w K mg base cq 1 "checked_pile" 1 pk)(cK:fi K mg "BadPile" cq [.type "ValueError",.type "Exception",.type "BaseException",.type "object"] "ValueError.__new__"):j6 P w K mg base cq 2 "pushed" 7 zG 1:=Tu (T:=CI) 1 A R7 (λQx f e A outer s H E a=>have d:=a.units
 (r8 (Cz (vo c a rfl ui (tS (cz (cj 0) cF))))
   (r8 (xY (ve (K9 BV IQ cE (cj 1) (iD nI T.b_len boot_len (cz (cj 0) cF)))) (vk (KQ cK PySem.F.excBase_ValueError rfl J5 oh)) (tR hZ))
   (tR Fg)))) UE λ_ _ _ _ _ _ _ us b=>by obtain⟨_,_,_,_,_,_,rfl⟩:=BG b;show⟨_,rfl,rfl⟩
abbrev gn:Stmt:=top 110
theorem UW:cB ["_law_which","_law_layouts","_law_k"] ["_law_which","_law_layouts","_law_k"] (cw gn):=by walk_at"sc"
theorem Wq(A:At K mg "_law_asked" gn)(T:Txt K mg)(i:c8 P w K mg base cq 1 "checked_pile" 1 pk)(h:c8 P w K mg base cq 2 "first_rows" 1 wN)(d:c8 P w K mg base cq 2 "drawn_pile" 1 yo)(g:c8 P w K mg base cq 2 "pile_groups" 1 zP)(c:j6 P w K mg base cq 2 "pushed" 7 zG 1)(cK:fi K mg "BadPile" cq [.type "ValueError",.type "Exception",.type "BaseException",.type "object"] "ValueError.__new__"):c8 P w K mg base cq 3 "_law_asked" 3 zL:=zu (T:=CT) 2 A UW (λQx f j A outer s H E a=>have b:=a.units
 (r8 (xY (eI (jF b) (cj 0) cE) (vk (zi (vo i a rfl ui (tS (cz (cj 1) cF))))) (tR hZ))
   (r8 (xY (eI (jF b) (cj 0) cE) (vk (zi (vo h a rfl ui (tS (cz (cj 1) cF))))) (tR hZ))
   (r8 (xY (eI (jF b) (cj 0) cE) (vk (zi (vo d a rfl ui (tS (cz (cj 1) cF))))) (tR hZ))
   (r8 (xY (eI (jF b) (cj 0) cE) (vk (zi (vo g a rfl ui (tS (cz (cj 1) cF))))) (tR hZ))
   (vk (zi (Tt c a rfl ui (tS (cz (cj 1) (cz (cj 2) (cz oh (cz (ic cF) (cz rq (cz rq cF))))))))))))))) Wh λ_ _ _ _ _ _ us e=>by obtain⟨_,_,_,rfl⟩:=DM e;show rfl
include T gy cG f6 fH eQ g6 in
theorem Oj(g:c8 P w K mg base cq 1 "checked_pile" 1 pk)(e:c8 P w K mg base cq 2 "first_rows" 1 wN)(cK:fi K mg "BadPile" cq [.type "ValueError",.type "Exception",.type "BaseException",.type "object"] "ValueError.__new__")(eB:fi K mg "WireError" c9 [.type "ValueError",.type "Exception",.type "BaseException",.type "object"] "ValueError.__new__")(dH:PySem.W.nsIn K mainGlobals "BadPile"=some (some (.ref cq)))(cN:subIn K cq c9=true)(EK:uY K cq)(fm:mg "BadPile"=some (.ref cq))(fv:mg "BadBend"=some (.ref eu))(dQ:mg "BadDrawing"=some (.ref cW))(fq:mg "BadKeep"=some (.ref et))(fk:mg "BadText"=some (.ref eh))(i7:mg "Lone"=some (.ref gK))(eP:mg "NoLayout"=some (.ref du))(gU:mg "NoNet"=some (.ref fJ))(fj:mg "NoOrder"=some (.ref ef))(eO:mg "PinTaken"=some (.ref dn))(gT:mg "Taken"=some (.ref fI))(I1:PySem.W.kitOne K (.ref cq) (.ref cq)=some true)(I2:PySem.W.kitOne K (.ref cq) (.type "ValueError")=some true)(I3:PySem.W.kitAny K (.ref cq) [.ref eu,.ref cW,.ref et,.ref eh,.ref gK,.ref du]=some false)(I4:PySem.W.kitAny K (.ref cq) [.ref fJ,.ref ef,.ref dn,.ref fI]=some false){f:Addr}(d:Value)(A:Around)(outer:List Env)(s:Shared)(H:Hp)(E:XK)(a:eC 5 (A.deeper (envOfC "law" (cw (top 113)) s.heap.objs.size f d))) :
  oN (nY nX P w K mg base ["_law_script","_law_seed","_law_layouts","_law_k","_law_part","_law_most","_law_kept","_law_widths","_law_found"] "law" (cw (top 113)) f d A outer s H E).tX (c7 (top 113)) yW:=
 have c:=a.units;have nd:=sk.nd
 (cT (fb 1 (cO gN (cO qv (cO gN (iD (yZ rfl) T.b_sum boot_sum (cz (nO (cj 0) o7 (mQ cE)) cF)) (cO wj cE cE)) cE) cE) nd)
   (cT (o4 2 (ic cF) nd)
   (cT (mq aO rfl (wH T.b_enumerate (cz (nO (gH gy a (cz (cj 0) (cz cE cF))) o7 (mQ (cO gN (gH cG a (cz (iD (yZ rfl) T.b_sum boot_sum (cz (nO (cj 0) o7 (mQ cE)) cF)) (cz cE cF))) cE))) cF)) (mY rfl (fW (di 3 nd) (fW (di 4 nd) me)))
    (cT (fb 5 (eD (ic (cz cE (cz cE (cz cE cF)))) (cO qv (qD IV T.b_int boot_int (cz (vf (jF c) (cj 3) (cO gN (cO lp (cj 1) cE) cE)) cF)) cE)) nd)
   (dv (oZ 2 (Pq (gH f6 a (cz (gH fH a (cz (cj 4) (cz (cj 5) cF))) (cz (cO fP (cO lp (cj 1) cE) (cO qv cE (cj 3))) cF))))))))
   (wA 2 (cT (fb 6 (qD rZ T.b_list boot_list (cz (cj 2) cF)) nd)
   (cT (wG 7 rfl (.of (N':=["_law_layout_here"]) (m:=[none]) (by kernel_rfl)) iT (iV (cj 2)) (λs3 b ex=>(di 0 R3)) (λs3 b ex=>md) (λs3 b ex=>(iD nI T.b_len boot_len (cz (l8 (l8 (BQ (cj 0)))) cF))) nd)
   (cT (iS (eI (yM c) (Fj rfl T.b_len T.b_set (cz (cj 7) cF)) cE) (cT (iS (ve (tN (iD (Oy rfl) T.b_all boot_all (cz (kg rfl (.of (N':=["_law_which","_law_layouts"]) (m:=[none,some 2]) (by kernel_rfl)) iT (pW T.b_range (cz cE cF)) (λs3 b ex=>(di 0 R1)) (λs3 b ex=>md) (λs3 b ex=>(gH eQ a (cz (cj 0) (cz (cj 1) (cz cE cF)))))) cF)))) (dv (gO rq)) hZ)
   (dv (gO (vf (IS c) (cj 2) (cj 6))))) hZ)
   (cT (iS (eI Pp (K5 g a (cz (cj 2) cF)) rq) (dv (gO rq)) hZ)
   (cT (o4 8 (K5 e a (cz (cj 2) cF)) nd)
   (cT (iS (Ra 8 (zd (ve (tN (Jq (cj 8) T.b_isinstance T.b_list boot_list))) (zd (tN (iD (IY rfl) T.b_any boot_any (cz (kg rfl (.of (N':=["_law_at"]) (m:=[none]) (by kernel_rfl)) iT (iV (cj 8)) (λs3 b ex=>(di 0 R0)) (λs3 b ex=>md) (λs3 b ex=>(Jq (cj 0) T.b_isinstance T.b_bool boot_bool))) cF))) (Cj (eI (yM c) (cj 8) (gH g6 a (cz (cj 2) cF)))))).pb) (dv (gO rq)) hZ)
   (cT (mq aO rfl (iV (ic (cz (cO IM (uk cE) (cO gN (cj 1) (cO wj cE cE))) (cz (uk cE) (cz (iD nI T.b_len boot_len (cz (cj 2) cF)) (cz (cO fP (iD nI T.b_len boot_len (cz (cj 2) cF)) (cO gN (cj 1) (cO wj cE cE))) cF)))))) (di 3 nd)
    (dv (iS (ve (tN (gH eQ a (cz cE (cz (cj 2) (cz (cj 3) cF)))))) (dv (gO rq)) hZ)))
   (dv (gO (vf (IS c) (cj 2) (cj 6)))))))))))))))
theorem xf{fa:Addr}(T:Txt K mg)(kD:xJ K mg "Channel" "Channel.__init__" jd ["top","bottom","left","right","wide","bends","keeps"])(lV:xJ K mg "Layout" "Layout.__init__" jU ["channel","bent","pieces","above","tracks","count"])(AA:At K mg "_law_parts" (top 109)/\At K mg "_law_mix" (top 96)/\At K mg "_law_many" (top 98)/\At K mg "_law_eased" (top 104)/\At K mg "nets_of" (top 2)/\At K mg "ends_of" (top 1)/\At K mg "column_of" (top 4)/\At K mg "stretch_of" (top 5)/\At K mg "bend_columns" (top 9)/\At K mg "width_of" (top 3)/\At K mg "net_pieces" (top 8)/\At K mg "pieces_at" (top 11)/\At K mg "pin_triples" (top 14)/\At K mg "common_of" (top 10)/\At K mg "beneath_keep" (top 16)/\At K mg "keep_triples" (top 15)/\At K mg "above_of" (top 13)/\At K mg "_law_turns" (top 105)/\At K mg "count_of" (top 46)/\At K mg "_law_clear" (top 106)/\At K mg "_law_tracks" (top 107)/\At K mg "_law_layout" (top 108)/\At K mg "_law_stem" (top 94)/\At K mg "_law_named" (top 95)/\At K mg "_law_pins" (top 97)/\At K mg "_law_open" (top 102)/\At K mg "_law_stretch" (top 99)/\At K mg "_law_bends" (top 100)/\At K mg "_law_keeps" (top 101)/\At K mg "_law_channel" (top 103)/\At K mg "_law_refused" (top 111)/\At K mg "_law_rows" (top 112)/\At K mg "law" (top 113)/\True)(i9:v8 K mg "pieces_of" eN [.bool false])(gL:At K mg "checked_pile" fA)(iA:At K mg "first_rows" gk)(iB:At K mg "drawn_pile" gm)(hU:At K mg "pile_groups" fX)(i8:v8 K mg "pushed" jT [.bool false,.bool false,.int 1 Ao])(iC:At K mg "_law_asked" gn)(cK:fi K mg "BadPile" cq [.type "ValueError",.type "Exception",.type "BaseException",.type "object"] "ValueError.__new__")(eB:fi K mg "WireError" c9 [.type "ValueError",.type "Exception",.type "BaseException",.type "object"] "ValueError.__new__")(dH:PySem.W.nsIn K mainGlobals "BadPile"=some (some (.ref cq)))(cN:subIn K cq c9=true)(EK:uY K cq)(fm:mg "BadPile"=some (.ref cq))(fv:mg "BadBend"=some (.ref eu))(dQ:mg "BadDrawing"=some (.ref cW))(fq:mg "BadKeep"=some (.ref et))(fk:mg "BadText"=some (.ref eh))(i7:mg "Lone"=some (.ref gK))(eP:mg "NoLayout"=some (.ref du))(gU:mg "NoNet"=some (.ref fJ))(fj:mg "NoOrder"=some (.ref ef))(eO:mg "PinTaken"=some (.ref dn))(gT:mg "Taken"=some (.ref fI))(I1:PySem.W.kitOne K (.ref cq) (.ref cq)=some true)(I2:PySem.W.kitOne K (.ref cq) (.type "ValueError")=some true)(I3:PySem.W.kitAny K (.ref cq) [.ref eu,.ref cW,.ref et,.ref eh,.ref gK,.ref du]=some false)(I4:PySem.W.kitAny K (.ref cq) [.ref fJ,.ref ef,.ref dn,.ref fI]=some false)(sN:mg "law"=some (.ref fa)):∃fd:FuncData,(∀(s:Shared)(u:Value),BindsTo s fd ⟨[u],[]⟩ [("_law_script",u)])/\∀base:Heap,iu P w K mg base nX 6 fa fd ["_law_script"] (xG K 1 (D0 63)):=by
 obtain⟨L,h,n,F,g,e,t,B,U,m,z,x,O,v,V,X,i,y,j,D,N,M,r,J,p,o,S,C,I,Q,R,q,BA,_⟩:=AA;show Py (T:=λ_=>yW) BA sN sk (by walk_at"bn") (λbase f cV A outer s H E hr=>?_) (λ_=>R4);have jj:jD P w K mg base 1 "Channel" 7 zI:=U1 kD T;have gy:Known P w K mg base 1 "_law_parts" 2 zV:=We T L;have cG:Known P w K mg base 1 "_law_mix" 2 qB:=Vg T h;have dR:Known P w K mg base 1 "_law_many" 5 vt:=VO T n;have gB:Known P w K mg base 2 "_law_eased" 1 zY:=Wd T dR F;have gF:Known P w K mg base 1 "nets_of" 1 wK:=U0 T g;have ji:Known P w K mg base 1 "ends_of" 2 zH:=UZ T e;have g4:Known P w K mg base 1 "column_of" 2 Af:=VN T t;have gv:Known P w K mg base 2 "stretch_of" 2 zZ:=Wb T ji g4 B;have fF:Known P w K mg base 1 "bend_columns" 2 zS:=WA T U;have iw:Known P w K mg base 1 "width_of" 2 yq:=Vf T m;have eU:Known P w K mg base 3 "net_pieces" 3 wJ:=Wa T gv fF iw z;have gW:lO P w K mg base 4 "pieces_of" 2 Ad false:=VM i9 T gF eU;have f9:Known P w K mg base 1 "pieces_at" 3 yr:=VL T x;have fY:Known P w K mg base 2 "pin_triples" 2 zO:=WT T f9 O;have gZ:Known P w K mg base 1 "common_of" 2 Ae:=VJ T v;have fE:Known P w K mg base 2 "beneath_keep" 2 zR:=Wz T gZ V;have fD:Known P w K mg base 3 "keep_triples" 1 zQ:=Wy T fE X;have iz:Known P w K mg base 4 "above_of" 2 zF:=Ve T fY fD i;have gw:Known P w K mg base 2 "_law_turns" 3 zX:=V9 T cG y;have iy:Known P w K mg base 1 "count_of" 2 yp:=Vd T j;have j7:jD P w K mg base 2 "Layout" 5 zC:=UD lV T iy;have gC:Known P w K mg base 1 "_law_clear" 4 zW:=V8 T D;have fZ:Known P w K mg base 2 "_law_tracks" 4 zN:=WS T cG gC N;have f6:Known P w K mg base 5 "_law_layout" 2 zM:=WR T jj j7 gB gW iz gw fZ M;have g5:Known P w K mg base 1 "_law_stem" 2 Ah:=VI T r;have gz:Known P w K mg base 2 "_law_named" 1 z9:=Wu T g5 J;have g7:Known P w K mg base 2 "_law_pins" 4 Ag:=VH T cG p;have gc:Known P w K mg base 1 "_law_open" 2 yn:=VG T o;have fG:Known P w K mg base 1 "_law_stretch" 5 zU:=Wx T S;have gD:Known P w K mg base 2 "_law_bends" 4 z8:=Wt T cG fG C;have gA:Known P w K mg base 2 "_law_keeps" 3 z7:=Ws T cG I;have fH:Known P w K mg base 3 "_law_channel" 2 zT:=zev T cG dR gz g7 gc gD gA Q;have g6:Known P w K mg base 1 "_law_rows" 1 Ac:=VF T q;have b:c8 P w K mg base cq 1 "checked_pile" 1 pk:=WY gL T  cK;have d:c8 P w K mg base cq 2 "first_rows" 1 wN:=WO iA T b cK;have Z:c8 P w K mg base cq 2 "drawn_pile" 1 yo:=WN iB T b cK;have hJ:c8 P w K mg base cq 2 "pile_groups" 1 zP:=Wv hU T b cK;have Y:j6 P w K mg base cq 2 "pushed" 7 zG 1:=UX i8 T b cK;have gr:c8 P w K mg base cq 3 "_law_asked" 3 zL:=Wq iC T b d Z hJ Y cK;have eQ:Known P w K mg base 4 "_law_refused" 3 yt:=Ww T gr cK eB dH cN EK fm fv dQ fq fk i7 eP gU fj eO gT I1 I2 I3 I4 R;show Oj T gy cG f6 fH eQ g6 b d cK eB dH cN EK fm fv dQ fq fk i7 eP gU fj eO gT I1 I2 I3 I4 cV A outer s H E hr
end
end Wc
open PySem PySem.W PyProof.Rows
theorem PySem.W.Fast.te536990901073236629:True:=trivial
noncomputable def PySem.W.Fast.tw15507573767771696295:PySem.Program:=PySem.Challenge.pw_wirechannel_k70_rows_of_piles
theorem PySem.W.Fast.te15507573767771696295:PySem.Challenge.pw_wirechannel_k70_rows_of_piles=PySem.W.Fast.tw15507573767771696295:=rfl
noncomputable def PySem.W.Fast.tw14207031431537102420:List PySem.Stmt:=(PySem.Challenge.pw_wirechannel_k70_rows_of_piles.main.body.drop 0).take 16
theorem PySem.W.Fast.te14207031431537102420:(PySem.Challenge.pw_wirechannel_k70_rows_of_piles.main.body.drop 0).take 16=PySem.W.Fast.tw14207031431537102420:=rfl
noncomputable def PySem.W.Fast.tw15982414063644681946:List PySem.Stmt:=(PySem.Challenge.pw_wirechannel_k70_rows_of_piles.main.body.drop 16).take 3
theorem PySem.W.Fast.te15982414063644681946:(PySem.Challenge.pw_wirechannel_k70_rows_of_piles.main.body.drop 16).take 3=PySem.W.Fast.tw15982414063644681946:=rfl
noncomputable def PySem.W.Fast.tw13247429219724289268:List PySem.Stmt:=(PySem.Challenge.pw_wirechannel_k70_rows_of_piles.main.body.drop 19).take 1
theorem PySem.W.Fast.te13247429219724289268:(PySem.Challenge.pw_wirechannel_k70_rows_of_piles.main.body.drop 19).take 1=PySem.W.Fast.tw13247429219724289268:=rfl
noncomputable def PySem.W.Fast.tw15821801960961952369:List PySem.Stmt:=(PySem.Challenge.pw_wirechannel_k70_rows_of_piles.main.body.drop 20).take 1
theorem PySem.W.Fast.te15821801960961952369:(PySem.Challenge.pw_wirechannel_k70_rows_of_piles.main.body.drop 20).take 1=PySem.W.Fast.tw15821801960961952369:=rfl
noncomputable def PySem.W.Fast.tw2962893434310957593:List PySem.Stmt:=(PySem.Challenge.pw_wirechannel_k70_rows_of_piles.main.body.drop 21).take 1
theorem PySem.W.Fast.te2962893434310957593:(PySem.Challenge.pw_wirechannel_k70_rows_of_piles.main.body.drop 21).take 1=PySem.W.Fast.tw2962893434310957593:=rfl
noncomputable def PySem.W.Fast.tw5723153616247857358:List PySem.Stmt:=(PySem.Challenge.pw_wirechannel_k70_rows_of_piles.main.body.drop 22).take 1
theorem PySem.W.Fast.te5723153616247857358:(PySem.Challenge.pw_wirechannel_k70_rows_of_piles.main.body.drop 22).take 1=PySem.W.Fast.tw5723153616247857358:=rfl
noncomputable def PySem.W.Fast.tw14307283915899640160:List PySem.Stmt:=(PySem.Challenge.pw_wirechannel_k70_rows_of_piles.main.body.drop 23).take 1
theorem PySem.W.Fast.te14307283915899640160:(PySem.Challenge.pw_wirechannel_k70_rows_of_piles.main.body.drop 23).take 1=PySem.W.Fast.tw14307283915899640160:=rfl
noncomputable def PySem.W.Fast.tw720472819294595350:List PySem.Stmt:=(PySem.Challenge.pw_wirechannel_k70_rows_of_piles.main.body.drop 24).take 1
theorem PySem.W.Fast.te720472819294595350:(PySem.Challenge.pw_wirechannel_k70_rows_of_piles.main.body.drop 24).take 1=PySem.W.Fast.tw720472819294595350:=rfl
noncomputable def PySem.W.Fast.tw3657584682003389241:List PySem.Stmt:=(PySem.Challenge.pw_wirechannel_k70_rows_of_piles.main.body.drop 25).take 1
theorem PySem.W.Fast.te3657584682003389241:(PySem.Challenge.pw_wirechannel_k70_rows_of_piles.main.body.drop 25).take 1=PySem.W.Fast.tw3657584682003389241:=rfl
noncomputable def PySem.W.Fast.tw5590034544813599469:List PySem.Stmt:=(PySem.Challenge.pw_wirechannel_k70_rows_of_piles.main.body.drop 26).take 1
theorem PySem.W.Fast.te5590034544813599469:(PySem.Challenge.pw_wirechannel_k70_rows_of_piles.main.body.drop 26).take 1=PySem.W.Fast.tw5590034544813599469:=rfl
noncomputable def PySem.W.Fast.tw15010530462958626099:List PySem.Stmt:=(PySem.Challenge.pw_wirechannel_k70_rows_of_piles.main.body.drop 27).take 1
theorem PySem.W.Fast.te15010530462958626099:(PySem.Challenge.pw_wirechannel_k70_rows_of_piles.main.body.drop 27).take 1=PySem.W.Fast.tw15010530462958626099:=rfl
noncomputable def PySem.W.Fast.tw11147548953041636553:List PySem.Stmt:=(PySem.Challenge.pw_wirechannel_k70_rows_of_piles.main.body.drop 28).take 1
theorem PySem.W.Fast.te11147548953041636553:(PySem.Challenge.pw_wirechannel_k70_rows_of_piles.main.body.drop 28).take 1=PySem.W.Fast.tw11147548953041636553:=rfl
noncomputable def PySem.W.Fast.tw1811041911660768144:List PySem.Stmt:=(PySem.Challenge.pw_wirechannel_k70_rows_of_piles.main.body.drop 29).take 8
theorem PySem.W.Fast.te1811041911660768144:(PySem.Challenge.pw_wirechannel_k70_rows_of_piles.main.body.drop 29).take 8=PySem.W.Fast.tw1811041911660768144:=rfl
noncomputable def PySem.W.Fast.tw8862691381849181125:List PySem.Stmt:=(PySem.Challenge.pw_wirechannel_k70_rows_of_piles.main.body.drop 37).take 7
theorem PySem.W.Fast.te8862691381849181125:(PySem.Challenge.pw_wirechannel_k70_rows_of_piles.main.body.drop 37).take 7=PySem.W.Fast.tw8862691381849181125:=rfl
noncomputable def PySem.W.Fast.tw3466178406074543261:List PySem.Stmt:=(PySem.Challenge.pw_wirechannel_k70_rows_of_piles.main.body.drop 44).take 7
theorem PySem.W.Fast.te3466178406074543261:(PySem.Challenge.pw_wirechannel_k70_rows_of_piles.main.body.drop 44).take 7=PySem.W.Fast.tw3466178406074543261:=rfl
noncomputable def PySem.W.Fast.tw5995080167932728003:List PySem.Stmt:=(PySem.Challenge.pw_wirechannel_k70_rows_of_piles.main.body.drop 51).take 13
theorem PySem.W.Fast.te5995080167932728003:(PySem.Challenge.pw_wirechannel_k70_rows_of_piles.main.body.drop 51).take 13=PySem.W.Fast.tw5995080167932728003:=rfl
noncomputable def PySem.W.Fast.tw6119167117370690280:List PySem.Stmt:=(PySem.Challenge.pw_wirechannel_k70_rows_of_piles.main.body.drop 64).take 15
theorem PySem.W.Fast.te6119167117370690280:(PySem.Challenge.pw_wirechannel_k70_rows_of_piles.main.body.drop 64).take 15=PySem.W.Fast.tw6119167117370690280:=rfl
noncomputable def PySem.W.Fast.tw9714523435623959971:List PySem.Stmt:=(PySem.Challenge.pw_wirechannel_k70_rows_of_piles.main.body.drop 79).take 17
theorem PySem.W.Fast.te9714523435623959971:(PySem.Challenge.pw_wirechannel_k70_rows_of_piles.main.body.drop 79).take 17=PySem.W.Fast.tw9714523435623959971:=rfl
noncomputable def PySem.W.Fast.tw15939071375414883800:List PySem.Stmt:=(PySem.Challenge.pw_wirechannel_k70_rows_of_piles.main.body.drop 96).take 13
theorem PySem.W.Fast.te15939071375414883800:(PySem.Challenge.pw_wirechannel_k70_rows_of_piles.main.body.drop 96).take 13=PySem.W.Fast.tw15939071375414883800:=rfl
noncomputable def PySem.W.Fast.tw2961591708377176721:List PySem.Stmt:=(PySem.Challenge.pw_wirechannel_k70_rows_of_piles.main.body.drop 109).take 5
theorem PySem.W.Fast.te2961591708377176721:(PySem.Challenge.pw_wirechannel_k70_rows_of_piles.main.body.drop 109).take 5=PySem.W.Fast.tw2961591708377176721:=rfl
namespace PySem.W.Fast
def tw7931182933042953214:=Nat
def tw11249096212962058089:=Nat
def tw11831457860251663334:=Nat
def tw16901621344523657749:=Nat
def tw2491278688569936140:=Nat
def tw6374097533880942423:=Nat
def tw12594921829090889090:=Nat
def tw490200779962887230:=Nat
def tw14593383628091269747:=Nat
def tw10828511875242391113:=Nat
def tw4617790249902376952:=Nat
def tw397388138690611455:=Nat
def tw16930936514110060255:=Nat
def tw16352195424015587631:=Nat
def tw2349250642215285316:=Nat
def tw13622492113001919850:=Nat
def tw2858562227788085477:=Nat
def tw6234203341918589006:=Nat
def tw17632249617185334953:=Nat
def tw908363819132068345:=Nat
def tw8618272609339722553:=Nat
def tw12556322688927566291:=Nat
def tw13312656869245033575:=Nat
def tw9155868820819038506:=Nat
def tw4174563092216958969:=Nat
def tw18293205680864855878:=Nat
def tw12647946165813275136:=Nat
def tw382384595702389327:=Nat
def tw3513496388273623769:=Nat
def tw5304403051065703070:=Nat
def tw2739605325096367153:=Nat
def tw9091518691753724759:=Nat
def tw3587065796719841723:=Nat
def tw896368480352436617:=Nat
def tw11007804924421705215:=Nat
def tw10059340392748440188:=Nat
def tw6771547003847917065:=Nat
def tw13129374114067566840:=Nat
def tw15593337920534077600:=Nat
def tw8954048890123083903:=Nat
def tw776896266198120245:=Nat
def tw11643175752262585401:=Nat
def tw5924034403093204402:=Nat
def tw4695252103454562981:=Nat
def tw12882012250266928950:=Nat
def tw4655041999177723175:=Nat
def tw13688834784818391152:=Nat
def tw2230990255113543164:=Nat
def tw2940649598393526556:=Nat
def tw13118398860389947984:=Nat
def tw17476145315690355785:=Nat
def tw13005754873189955356:=Nat
def tw2067508014906421574:=Nat
def tw2202497931122279786:=Nat
def tw12999084668222780341:=Nat
def tw2209387287830118241:=Nat
def tw6893689380113567964:=Nat
def tw10956001091635435116:=Nat
def tw1443007667209797880:=Nat
def tw12268399028543759426:=Nat
def tw8785187573882706340:=Nat
def tw1334302205552822855:=Nat
def tw10718400435570704622:=Nat
def tw13903825011017791442:=Nat
def tw12660217712414187810:=Nat
def tw11912732377357160699:=Nat
def tw9768678260678130852:=Nat
def tw13499730671890803976:=Nat
def tw16632587708994521842:=Nat
def tw4788819605518303818:=Nat
def tw837680506051575449:=Nat
def tw14292630552276746494:=Nat
def tw17207201951884762531:=Nat
def tw7296890714956297247:=Nat
def tw10068355817505972432:=Nat
def tw12696204845320356145:=Nat
def tw17496279087054603897:=Nat
def tw3671054239219709397:=Nat
def tw6826808888006542774:=Nat
def tw16634688750009488990:=Nat
def tw2300099852958701057:=Nat
def tw1689100759533305928:=Nat
def tw8075960601808997226:=Nat
def tw10590273084409311871:=Nat
def tw8642986838550390949:=Nat
def tw13776277578127691234:=Nat
def tw10500814723947356901:=Nat
def tw8913203195678056699:=Nat
def tw8500475777261381768:=Nat
def tw5767799219829917621:=Nat
def tw8427245694169903493:=Nat
def tw2954870544712336404:=Nat
def tw13002497428612759813:=Nat
def tw700375321203942154:=Nat
def tw5434319410246421094:=Nat
def tw8406674094062693866:=Nat
def tw12932282535588263883:=Nat
def tw15703626311578684552:=Nat
def tw3965675797719228510:=Nat
def tw16926301061246346401:=Nat
def tw4050405865127868496:=Nat
def tw7292576362392962134:=Nat
def tw9402791034302160567:=Nat
def tw6609401174599871794:=Nat
def tw1471460995889287904:=Nat
def tw18442003478584252352:=Nat
def tw8984303490285241267:=Nat
def tw9250066230758846933:=Nat
def tw8921765349285888138:=Nat
def tw8088008476361928588:=Nat
def tw10814236426122238424:=Nat
def tw10667080984796187965:=Nat
def tw17296883721002040069:=Nat
def tw7060789385009462980:=Nat
def tw11217108362256170313:=Nat
def tw10430956220368813587:=Nat
def tw10056587261572958696:=Nat
def tw4001181346724539018:=Nat
def tw12996874445856973854:=Nat
def tw18090013773807418060:=Nat
def tw9933153180146564119:=Nat
def tw3465620370813469481:=Nat
def tw15971607227720340636:=Nat
def tw4955874425054068765:=Nat
def tw6673617055770737431:=Nat
def tw17249783081869959756:=Nat
def tw5661363163783250957:=Nat
def tw9844418729407390614:=Nat
def tw6000186159002924187:=Nat
def tw4090277339285840953:=Nat
def tw6327770653892462340:=Nat
def tw10869274572062014097:=Nat
def tw9950350042236103681:=Nat
def tw3752265050532355659:=Nat
def tw6017152018602558993:=Nat
def tw5472092595875029260:=Nat
def tw11117059148915060310:=Nat
def tw111434874558271581:=Nat
def tw1117828896132339529:=Nat
def tw15440720299169001182:=Nat
def tw4525210073953102785:=Nat
def tw10148266443499742737:=Nat
def tw17420043970821914099:=Nat
def tw639276398085981694:=Nat
def tw2686279730901919915:=Nat
def tw3939876168589224123:=Nat
def tw5355487457171313773:=Nat
def tw18366440254674338422:=Nat
def tw9610277467340838165:=Nat
def tw1951416531778726408:=Nat
def tw6546904337181889480:=Nat
def tw8650167208001942931:=Nat
def tw7652817353969192604:=Nat
def tw379994886540441329:=Nat
def tw15581826100890730151:=Nat
def tw4106609573589072346:=Nat
def tw6475580302245833083:=Nat
def tw17726440009654894590:=Nat
def tw7106452696440853095:=Nat
def tw14792552537701790076:=Nat
def tw10075048443737876085:=Nat
def tw16877562036572918704:=Nat
def tw8200094445719955823:=Nat
def tw13244473498732157433:=Nat
def tw6868554574964803400:=Nat
def tw3994459837249627650:=Nat
def tw13489463161698860646:=Nat
def tw10876133578384018382:=Nat
def tw17038235600325919057:=Nat
def tw3346893047479222116:=Nat
def tw8423719673266959685:=Nat
def tw3437280168272429708:=Nat
def tw5937957474722993229:=Nat
def tw10563785832112728451:=Nat
def tw14433170569590712488:=Nat
def tw5501941420456343342:=Nat
def tw11528139669053753484:=Nat
def tw3177337700229552969:=Nat
def tw12505657234489137655:=Nat
def tw10363862973304527093:=Nat
def tw11645338686026919773:=Nat
def tw16489480430163522821:=Nat
def tw2993301672664433674:=Nat
def tw15650889140512608529:=Nat
def tw2299325955917220030:=Nat
def tw2562526864794061977:=Nat
def tw17619935351665188882:=Nat
def tw12639910142485331247:=Nat
def tw8642146212552163705:=Nat
def tw15640767711899077819:=Nat
def tw118807568506820777:=Nat
def tw5614606224132709381:=Nat
def tw13134984646151317099:=Nat
def tw13970727125555807828:=Nat
def tw10453260303794430797:=Nat
def tw7626683238614744921:=Nat
def tw13541455757393693768:=Nat
def tw1384533502596393601:=Nat
def tw2375653587774023332:=Nat
def tw2049274288394793009:=Nat
def tw17122690520258779443:=Nat
def tw5293239307261762202:=Nat
def tw9040902854285337107:=Nat
def tw8938380796260438999:=Nat
def tw1490885245989086110:=Nat
def tw15727238226227941000:=Nat
def tw8955082907074217600:=Nat
def tw10622224234175739828:=Nat
def tw7175407677434438876:=Nat
def tw10503245318426136029:=Nat
def tw186651039812931527:=Nat
def tw7253920189793093344:=Nat
def tw5516278970527889904:=Nat
def tw10082996212731532224:=Nat
def tw17363964300848714810:=Nat
def tw1031519055084432100:=Nat
def tw12705130443243279160:=Nat
def tw4035636799285978143:=Nat
def tw9087702094125605561:=Nat
def tw10026455916089108775:=Nat
def tw15597151994111511474:=Nat
def tw4716376377931579245:=Nat
def tw11830266285050777521:=Nat
def tw4495751075183948730:=Nat
def tw4752784367239147105:=Nat
def tw1744661302052894589:=Nat
def tw6613239083672453429:=Nat
def tw17634772782289652608:=Nat
def tw9545785280798317101:=Nat
def tw3043844591179702332:=Nat
def tw11204241610316735904:=Nat
def tw9937348743177722848:=Nat
def tw17470752548354579190:=Nat
def tw4568735081783805162:=Nat
def tw7029864943913311249:=Nat
def tw17732220149191916901:=Nat
def tw16797117534233215982:=Nat
def tw7489699963912815281:=Nat
def tw13292629029670358584:=Nat
def tw14613418220150273726:=Nat
def tw17167543898297392970:=Nat
def tw13792919363846078947:=Nat
def tw14519313915187480440:=Nat
def tw14839539195667459271:=Nat
def tw14082913359804425565:=Nat
def tw6069107206052648580:=Nat
def tw14282683526565385015:=Nat
def tw17053842220735940304:=Nat
def tw16849102634348406937:=Nat
def tw1078746961149292116:=Nat
def tw280470848519575955:=Nat
def tw5042144223564208324:=Nat
def tw11873256535023371534:=Nat
def tw13283755912793655921:=Nat
def tw14107409787161106147:=Nat
def tw15996013117362049972:=Nat
def tw13666493930888423415:=Nat
def tw11016564794894004976:=Nat
def tw1789492974075016707:=Nat
def tw2812831372860397699:=Nat
def tw6479367552440438370:=Nat
def tw2582889564839280042:=Nat
def tw12464936311988232486:=Nat
def tw4260187119994762240:=Nat
def tw13407205356093483907:=Nat
def tw1985867664201351903:=Nat
def tw8585744028710720669:=Nat
def tw9195259148885767229:=Nat
def tw9816161568141082156:=Nat
def tw10603103474262640419:=Nat
def tw5425573807451774659:=Nat
def tw4809398538983890007:=Nat
def tw1752360848659077160:=Nat
def tw18367688680693799075:=Nat
def tw15305961447186999740:=Nat
def tw17369523043958521848:=Nat
def tw16788565234430520185:=Nat
def tw4432903847262638928:=Nat
def tw17637553712480861394:=Nat
def tw16087666336264631272:=Nat
def tw6529170740376750618:=Nat
def tw9445323195871325860:=Nat
def tw13911392986229442968:=Nat
def tw15568928986692728880:=Nat
def tw10579176149558071213:=Nat
def tw16011815447911239462:=Nat
def tw18336622007850976921:=Nat
def tw8262180281470137726:=Nat
def tw15726731042561030985:=Nat
def tw17321120956393395826:=Nat
def tw7585155234990001958:=Nat
def tw7949525383850740295:=Nat
def tw16096260050556837650:=Nat
def tw17405730778395646697:=Nat
def tw3039036076075468846:=Nat
def tw14988832948041482837:=Nat
def tw8902526617977156634:=Nat
def tw1528597708072864267:=Nat
def tw9692989166337678441:=Nat
def tw6259527733957322263:=Nat
def tw16118737516646187880:=Nat
def tw14595404762821853797:=Nat
def tw9858435834945078607:=Nat
def tw17267698552853878123:=Nat
def tw13149107594370050083:=Nat
def tw16146522765881589442:=Nat
def tw4217271749606336685:=Nat
def tw339285919139957775:=Nat
def tw3797087091128273575:=Nat
def tw17791598766447550034:=Nat
def tw9548585100150015803:=Nat
def tw10590638201743273542:=Nat
def tw2081310800805231009:=Nat
def tw13601214284473251049:=Nat
def tw15397007417377833060:=Nat
def tw258473342340567168:=Nat
def tw1917659409897796495:=Nat
def tw17977554514083984118:=Nat
def tw593784191306820360:=Nat
def tw18289942592142119533:=Nat
def tw10823738636619453867:=Nat
def tw7328066538749635459:=Nat
def tw13518457130110289527:=Nat
def tw8960091313504531488:=Nat
def tw9532705520082427909:=Nat
def tw5539410373896439751:=Nat
def tw12596166335858139072:=Nat
def tw8869506631478820109:=Nat
def tw15838607129277748206:=Nat
def tw12489372527472961158:=Nat
def tw6962365053115042313:=Nat
def tw12661520150317750682:=Nat
def tw18297359189976761270:=Nat
def tw5564052799883720804:=Nat
def tw11984667810077421763:=Nat
def tw2378680091790642294:=Nat
def tw2899149150401236448:=Nat
def tw1744048837296821352:=Nat
def tw11650075721136788981:=Nat
def tw9130232866914280307:=Nat
def tw7249735519235276451:=Nat
def tw1622701973099784535:=Nat
def tw17742341514912024894:=Nat
def tw8766285770666422277:=Nat
def tw4913790667639932753:=Nat
def tw12049079751096896770:=Nat
def tw14191661749579917653:=Nat
def tw1976500768734968576:=Nat
def tw10353632669906831612:=Nat
def tw4036144259238127896:=Nat
def tw14109401300257501966:=Nat
def tw9227923490554320020:=Nat
def tw2825781906961288875:=Nat
def tw1297621705641860595:=Nat
def tw4038869303213891757:=Nat
def tw9788721177098214349:=Nat
def tw14928598166892818781:=Nat
def tw6318799033846603362:=Nat
def tw12470407707169322788:=Nat
def tw4741234051355969751:=Nat
def tw4532995586561730918:=Nat
def tw329621008323456630:=Nat
def tw2008150778343890243:=Nat
def tw3107440140447601331:=Nat
def tw5059136250216459181:=Nat
def tw13756211715525077382:=Nat
def tw13625763349270032416:=Nat
def tw16018842531126795846:=Nat
def tw13916071971677373856:=Nat
def tw3278175335271352913:=Nat
def tw4849761600961925944:=Nat
def tw16775479077807403980:=Nat
def tw8151538875556675296:=Nat
def tw6469021953903258072:=Nat
def tw17816217070897595089:=Nat
def tw12076416074635678709:=Nat
def tw17785506048550620295:=Nat
def tw13807818045705000875:=Nat
def tw6082845628498000319:=Nat
def tw616333396125541473:=Nat
def tw15748092207423114973:=Nat
def tw6235661829995082263:=Nat
def tw17042546661570257648:=Nat
def tw10556652376901204948:=Nat
def tw9406256149797655393:=Nat
def tw7103436114946145060:=Nat
def tw14406131283073849711:=Nat
def tw13970562760539597538:=Nat
def tw16791016280864881866:=Nat
def tw15179437294700380962:=Nat
def tw7392800421142928439:=Nat
def tw13497127769741483531:=Nat
def tw4667056008580769095:=Nat
def tw13148488319147161954:=Nat
def tw5864752514272389888:=Nat
def tw17199296342741524887:=Nat
def tw7179047376378770189:=Nat
def tw7018851837609866420:=Nat
def tw8793258237005486240:=Nat
def tw14085264800960509378:=Nat
def tw13434474980096955860:=Nat
def tw4908586238680628062:=Nat
def tw16615870533451286805:=Nat
def tw15973824872544876216:=Nat
def tw3639582146148029697:=Nat
def tw16892559044611641623:=Nat
def tw10565124802782698117:=Nat
def tw3972781074374393818:=Nat
def tw448194618283485863:=Nat
def tw6185059173245903984:=Nat
def tw10440808240707866187:=Nat
def tw5483972699217298070:=Nat
def tw5634028177342386326:=Nat
def tw17866321262931346659:=Nat
def tw446001230995504119:=Nat
def tw7229865263383813484:=Nat
def tw10287350837300619385:=Nat
def tw11757420749371228852:=Nat
def tw14153541175846432660:=Nat
def tw2820887240117623411:=Nat
def tw3863698919095672920:=Nat
def tw8254980319464916278:=Nat
def tw5198944810750855877:=Nat
def tw5712479986239160574:=Nat
def tw1152472899298150414:=Nat
def tw2429489567039625857:=Nat
def tw1010885012043173405:=Nat
def tw5005161074610265031:=Nat
def tw5763442362351059897:=Nat
def tw2434060928114504514:=Nat
def tw5759678291480082770:=Nat
def tw13006893957532778014:=Nat
def tw16296474835362662919:=Nat
def tw16191360716836816178:=Nat
def tw8376171591682123672:=Nat
def tw2003077766037013908:=Nat
def tw10428253806519299217:=Nat
def tw15888832955426806105:=Nat
def tw6856362491843555298:=Nat
def tw17975146625339071788:=Nat
def tw5290184450666073787:=Nat
def tw11217564912262441293:=Nat
def tw15092461747126310479:=Nat
def tw5918723821573552690:=Nat
def tw12426805797689991591:=Nat
def tw5349680992137677157:=Nat
def tw10023409782372851522:=Nat
def tw15228618845830657592:=Nat
def tw13644456452743477370:=Nat
def tw10642980840208038698:=Nat
end PySem.W.Fast
noncomputable def PySem.W.Fast.tw8300876902909711856:PySem.Program:={ PySem.Challenge.pw_wirechannel_k70_rows_of_piles with main:={ PySem.Challenge.pw_wirechannel_k70_rows_of_piles.main with body:=[1,2,3,4,5,8,9,10,11,13,14,15,16,18,19,20,21,22,23,24,25,26,27,28,29,31,32,33,34,35,36,37,38,40,42,43,44,46,48,49,50,51,54,55,56,57,58,59,60,61,62,63,64,65,66,67,68,70,71,72,73,74,75,77,78,79,80,81,83,84,85,86,87,88,89,90,91,94,95,96,97,98,99,100,101,102,103,104,105,106,107,108,109,110,111,112,113].map λi=>PySem.Challenge.pw_wirechannel_k70_rows_of_piles.main.body.getD i (.Pass ⟨0,0,0,0⟩) } }
theorem PySem.W.Fast.te8300876902909711856:({ PySem.Challenge.pw_wirechannel_k70_rows_of_piles with main:={ PySem.Challenge.pw_wirechannel_k70_rows_of_piles.main with body:=[1,2,3,4,5,8,9,10,11,13,14,15,16,18,19,20,21,22,23,24,25,26,27,28,29,31,32,33,34,35,36,37,38,40,42,43,44,46,48,49,50,51,54,55,56,57,58,59,60,61,62,63,64,65,66,67,68,70,71,72,73,74,75,77,78,79,80,81,83,84,85,86,87,88,89,90,91,94,95,96,97,98,99,100,101,102,103,104,105,106,107,108,109,110,111,112,113].map λi=>PySem.Challenge.pw_wirechannel_k70_rows_of_piles.main.body.getD i (.Pass ⟨0,0,0,0⟩) } }:PySem.Program)=PySem.W.Fast.tw8300876902909711856:=rfl
local macro_rules | `(tactic| walk_at"A")=>`(tactic| ((try dsimp only[L2.jE]);refine' L2.mV KX G ?a ?l ?c ?k;(case a=>k_is);(case l=>k_is);(case c=>k_is);(case k=>k_is)))
theorem PySem.Challenge.cw_wirechannel_k70_rows_of_piles_holds : PySem.Challenge.rw_wirechannel_k70_rows_of_piles.Holds := by
 w_on;o_law;k_head;(case hw=>w_witness2)
 k_fill
 show L2.qF (l:=PySem.Challenge.rw_wirechannel_k70_rows_of_piles) (n:=63) (k:=6) (x:="_law_script") rfl (by decide) rfl ⟨rfl,by decide,by decide⟩ (λw h Y=>PySem.W.kIn_of Y) ?F
 case F=>
  intro w mg fa h KX G sN;have kD:L2.xJ (L2.jE KX) mg "Channel" "Channel.__init__" Wc.jd ["top","bottom","left","right","wide","bends","keeps"]:=by
   dsimp only[L2.jE];refine' L2.tj KX G ?aC ?a1 ?i1 ?l1 ?c1 ?k1 ?pg ?hd ?po ?sa ?mk ?kc ⟨?n0,?n1,?n2,?n3,?n4,?n5,?n6,trivial⟩
   (case aC=>k_is)
   (case a1=>k_is)
   (case i1=>k_is)
   (case l1=>k_is)
   (case c1=>k_is)
   (case k1=>k_is)
   (case pg=>k_is)
   (case hd=>k_is)
   (case po=>k_is)
   (case sa=>k_is)
   (case mk=>k_is)
   (case kc=>k_is)
   (case n0=>unfold L2.dg;k_is)
   (case n1=>unfold L2.dg;k_is)
   (case n2=>unfold L2.dg;k_is)
   (case n3=>unfold L2.dg;k_is)
   (case n4=>unfold L2.dg;k_is)
   (case n5=>unfold L2.dg;k_is)
   (case n6=>unfold L2.dg;k_is)
  have lV:L2.xJ (L2.jE KX) mg "Layout" "Layout.__init__" Wc.jU ["channel","bent","pieces","above","tracks","count"]:=by
   dsimp only[L2.jE];refine' L2.tj KX G ?aC ?a1 ?i1 ?l1 ?c1 ?k1 ?pg ?hd ?po ?sa ?mk ?kc ⟨?n0,?n1,?n2,?n3,?n4,?n5,trivial⟩
   (case aC=>k_is)
   (case a1=>k_is)
   (case i1=>k_is)
   (case l1=>k_is)
   (case c1=>k_is)
   (case k1=>k_is)
   (case pg=>k_is)
   (case hd=>k_is)
   (case po=>k_is)
   (case sa=>k_is)
   (case mk=>k_is)
   (case kc=>k_is)
   (case n0=>unfold L2.dg;k_is)
   (case n1=>unfold L2.dg;k_is)
   (case n2=>unfold L2.dg;k_is)
   (case n3=>unfold L2.dg;k_is)
   (case n4=>unfold L2.dg;k_is)
   (case n5=>unfold L2.dg;k_is)
  have i9:L2.v8 (L2.jE KX) mg "pieces_of" Wc.eN [.bool false]:=by
   dsimp only[L2.jE];refine' L2.tf KX G ?a ?l ?c ?k ?t
   (case a=>k_is);(case l=>k_is);(case c=>k_is);(case k=>k_is);(case t=>k_is)
  have gL:L2.At (L2.jE KX) mg "checked_pile" Wc.fA:=by
   dsimp only[L2.jE];refine' L2.mV KX G ?a ?l ?c ?k
   (case a=>k_is);(case l=>k_is);(case c=>k_is);(case k=>k_is)
  have iA:L2.At (L2.jE KX) mg "first_rows" Wc.gk:=by
   dsimp only[L2.jE];refine' L2.mV KX G ?a ?l ?c ?k
   (case a=>k_is);(case l=>k_is);(case c=>k_is);(case k=>k_is)
  have iB:L2.At (L2.jE KX) mg "drawn_pile" Wc.gm:=by
   dsimp only[L2.jE];refine' L2.mV KX G ?a ?l ?c ?k
   (case a=>k_is);(case l=>k_is);(case c=>k_is);(case k=>k_is)
  have hU:L2.At (L2.jE KX) mg "pile_groups" Wc.fX:=by
   dsimp only[L2.jE];refine' L2.mV KX G ?a ?l ?c ?k
   (case a=>k_is);(case l=>k_is);(case c=>k_is);(case k=>k_is)
  have i8:∃Ao:Nat,L2.v8 (L2.jE KX) mg "pushed" Wc.jT [.bool false,.bool false,.int 1 Ao]:=by
   dsimp only[L2.jE];show⟨_,L2.tf KX G (by k_is) (by k_is) (by k_is) (by k_is) (by k_is)⟩
  obtain⟨Ao,i8⟩:=i8;have iC:L2.At (L2.jE KX) mg "_law_asked" Wc.gn:=by
   dsimp only[L2.jE];refine' L2.mV KX G ?a ?l ?c ?k
   (case a=>k_is);(case l=>k_is);(case c=>k_is);(case k=>k_is)
  have T:Wc.Txt (L2.jE KX) mg:=by
   dsimp only[L2.jE];refine' ⟨aV KX G ?b_ValueError,aV KX G ?b_all,aV KX G ?b_any,aV KX G ?b_bool,aV KX G ?b_enumerate,aV KX G ?b_int,aV KX G ?b_isinstance,aV KX G ?b_len,aV KX G ?b_list,aV KX G ?b_max,aV KX G ?b_min,aV KX G ?b_range,aV KX G ?b_set,aV KX G ?b_sorted,aV KX G ?b_sum,aV KX G ?b_zip⟩
   (case b_ValueError=>k_is)
   (case b_all=>k_is)
   (case b_any=>k_is)
   (case b_bool=>k_is)
   (case b_enumerate=>k_is)
   (case b_int=>k_is)
   (case b_isinstance=>k_is)
   (case b_len=>k_is)
   (case b_list=>k_is)
   (case b_max=>k_is)
   (case b_min=>k_is)
   (case b_range=>k_is)
   (case b_set=>k_is)
   (case b_sorted=>k_is)
   (case b_sum=>k_is)
   (case b_zip=>k_is)
  have Bt:∃cq:Addr,mg "BadPile"=some (.ref cq)/\∃c9:Addr,mg "WireError"=some (.ref c9)/\∃eu:Addr,mg "BadBend"=some (.ref eu)/\∃cW:Addr,mg "BadDrawing"=some (.ref cW)/\∃et:Addr,mg "BadKeep"=some (.ref et)/\∃eh:Addr,mg "BadText"=some (.ref eh)/\∃gK:Addr,mg "Lone"=some (.ref gK)/\∃du:Addr,mg "NoLayout"=some (.ref du)/\∃fJ:Addr,mg "NoNet"=some (.ref fJ)/\∃ef:Addr,mg "NoOrder"=some (.ref ef)/\∃dn:Addr,mg "PinTaken"=some (.ref dn)/\∃fI:Addr,mg "Taken"=some (.ref fI)/\(L2.fi (L2.jE KX) mg "BadPile" cq [.type "ValueError",.type "Exception",.type "BaseException",.type "object"] "ValueError.__new__")/\(L2.fi (L2.jE KX) mg "WireError" c9 [.type "ValueError",.type "Exception",.type "BaseException",.type "object"] "ValueError.__new__")/\(PySem.W.nsIn (L2.jE KX) mainGlobals "BadPile"=some (some (.ref cq)))/\(L2.subIn (L2.jE KX) cq c9=true)/\(L2.uY (L2.jE KX) cq)/\(PySem.W.kitOne (L2.jE KX) (.ref cq) (.ref cq)=some true)/\(PySem.W.kitOne (L2.jE KX) (.ref cq) (.type "ValueError")=some true)/\(PySem.W.kitAny (L2.jE KX) (.ref cq) [.ref eu,.ref cW,.ref et,.ref eh,.ref gK,.ref du]=some false)/\(PySem.W.kitAny (L2.jE KX) (.ref cq) [.ref fJ,.ref ef,.ref dn,.ref fI]=some false):=by
   dsimp only[L2.jE];show⟨_,bF KX G (by k_is),_,bF KX G (by k_is),_,bF KX G (by k_is),_,bF KX G (by k_is),_,bF KX G (by k_is),_,bF KX G (by k_is),_,bF KX G (by k_is),_,bF KX G (by k_is),_,bF KX G (by k_is),_,bF KX G (by k_is),_,bF KX G (by k_is),_,bF KX G (by k_is),⟨bF KX G (by k_is),by k_exc⟩,⟨bF KX G (by k_is),by k_exc⟩,by k_is,Wc.sf (by k_is),⟨by k_is,by k_is,by k_is,by k_is,by k_is,by k_is,by k_is,by k_is⟩,by kit_is,by kit_is,by kit_is,by kit_is⟩
  obtain⟨cq,fm,c9,vX,eu,fv,cW,dQ,et,fq,eh,fk,gK,i7,du,eP,fJ,gU,ef,fj,dn,eO,fI,gT,cK,eB,dH,cN,EK,I1,I2,I3,I4⟩:=Bt;show Wc.xf T kD lV ⟨by walk_at"A",by walk_at"A",by walk_at"A",by walk_at"A",by walk_at"A",by walk_at"A",by walk_at"A",by walk_at"A",by walk_at"A",by walk_at"A",by walk_at"A",by walk_at"A",by walk_at"A",by walk_at"A",by walk_at"A",by walk_at"A",by walk_at"A",by walk_at"A",by walk_at"A",by walk_at"A",by walk_at"A",by walk_at"A",by walk_at"A",by walk_at"A",by walk_at"A",by walk_at"A",by walk_at"A",by walk_at"A",by walk_at"A",by walk_at"A",by walk_at"A",by walk_at"A",by walk_at"A",trivial⟩ i9 gL iA iB hU i8 iC cK eB dH cN EK fm fv dQ fq fk i7 eP gU fj eO gT I1 I2 I3 I4 sN
#print axioms PySem.Challenge.cw_wirechannel_k70_rows_of_piles_holds
