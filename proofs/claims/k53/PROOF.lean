import PyProof.Rows.All
import Wide.All
import OpenK.AllK
import Wide.FinOn
import Lean
import PyProof.EqAt
import PyProof.EqKinds
import PyProof.TupleCall
import PyProof.NeKinds
import PyProof.SliceStr2
import PyProof.ConsumeWalk
import KE.KDictSum
import PyProof.DictWalks
import PyProof.AttrMissSeq
import KE.KDictOf
import PyProof.WalksS
import PyProof.Walks
import PyProof.DictList
import PyProof.MeetsDict
import PyProof.FactsAll.dict_3
import PyProof.MinMaxWalk
import PyProof.WalkInts
import PyProof.Rows.CallKwBuiltin
import PyProof.MaxThree
import PyProof.Rows.SortRunsK
import PyProof.Rows.SortShellK
import KE.KSortTup
import PyProof.DictRoadsH
import PyProof.DictIter
import KE.KDictList
import PyProof.ZipIter
import PyProof.TupleIter
import PyProof.WalksMore
import PyProof.SumWalkG
import PyProof.DictValues
import PyProof.FactsAll.dict_4
import PySem.SetOps
import OpenK.KMore
import PyProof.ListRange
import PyProof.DictItems
import PyProof.CallStr
import KE.KIntText
import PyProof.StrCalls2
import PyProof.Rows.StrItems
import PyProof.FactsAll.NoneType
import KE.KTryOn
import PyProof.Draws
import PyProof.EnumMake
import PyProof.Rows.Range3
import KE.KRevIter
import PyProof.ListStr
import PyProof.NsDelKeeps
import PyProof.RulesAs
import KE.KIsAll
import PyProof.ExcArgsOwn
import KE.KFind
import PySem.Challenge.RW_wirechannel_k53_groups_told
abbrev Z9:=PySem.W.Frag
set_option hygiene false
set_option compiler.extract_closed false
local macro_rules
|`(tactic|walk_at "1a")=>`(tactic|(exact af ⟨⟨_,rfl⟩,.inr ⟨rfl,⟨nn,by dsimp only;omega,by dsimp only;omega⟩,by dsimp only;omega⟩⟩))
|`(tactic|walk_at "1b")=>`(tactic|(exact af ⟨⟨_,rfl⟩,rfl,⟨nn,by dsimp only;omega,by dsimp only;omega⟩,by dsimp only;omega⟩))
|`(tactic|walk_at "1c")=>`(tactic|(refine ah (jo (show t<a.size by omega) ?_)))
|`(tactic|walk_at "1d")=>`(tactic|(simp only[Rep] at rx;subst rx))
|`(tactic|walk_at "1e")=>`(tactic|(intro Z8 s σ H xs us Q I r h))
|`(tactic|walk_at "1f")=>`(tactic|(obtain⟨x,H1,I1,r1,q1⟩:=gD))
|`(tactic|walk_at "1g")=>`(tactic|(rw[if_pos (by simpa using e5)]))
|`(tactic|walk_at "1h")=>`(tactic|(rw[if_neg (by simpa using e5)]))
noncomputable section
local macro_rules | `(tactic| omega) => `(tactic| lia)
set_option Elab.async false
set_option linter.all false
set_option maxRecDepth 100000
def aa:=@PySem.wpAny_bind
def ae:=@List.length_map
def af:=@PyProof.Rows.wpS_pure
def ag:=@Array.length_toList
def ah:=@PyProof.Rows.wpS_bind
def ai:=@List.getElem?_eq_getElem
def aj:=@PySem.Heap.get?_push_of_some
def ao:=@PySem.wpAny_pure
def aq:=@Bool.false_eq_true
def ar:=@List.mem_cons
def au:=@List.length_append
def av:=@List.mem_append
def aw:=@Array.getElem_toList
def ax:=@List.size_toArray
def ay:=@List.map_cons
def az:=@PySem.Heap.get?_push_size
def aA:=@Nat.le_refl
def aB:=@List.getElem?_eq_some_iff
def aD:=@List.mem_cons_of_mem
def aE:=@PySem.Heap.lt_size
def aF:=@Array.toList_push
def aG:=@List.length_cons
def aH:=@List.getElem?_map
def aI:=@List.map_append
def aJ:=@Nat.ne_of_lt
def aK:=@Nat.le_trans
def aL:=@List.map_map
def aM:=@List.append_assoc
def aN:=@List.length_take
def aO:=@List.mem_map
def aP:=@if_false
def aQ:=@Array.getElem_mem
def aR:=@if_true
def aS:=@decide_eq_true_eq
def aT:=@PySem.PassesOwn.never
def aU:=@List.mem_of_getElem?
def aV:=@Nat.lt_of_lt_of_le
def aW:=@Option.some.injEq
def aX:=@decide_eq_false
def aY:=@List.mem_filter
def aZ:=@Bool.false_ne_true
def a9:=@Nat.zero_le
def ba:=@List.append_nil
def bg:=@List.mem_append_right
def bh:=@decide_eq_false_iff_not
def bj:=@List.mem_cons_self
def br:=@List.pairwise_cons
def bw:=@Int.emod_lt_of_pos
def bx:=@Int.emod_nonneg
def bz:=@List.length_filter_le
def bA:=@PySem.Heap.get?_update_other
def bB:=@List.flatMap_cons
def bC:=@PySem.W.mg_none_of
def bD:=@List.mem_map_of_mem
def bE:=@Option.some.inj
def bF:=@List.pairwise_append
def bG:=@PyProof.Rows.wpS_forRange
def bH:=@List.mem_singleton
def bI:=@List.take_of_length_le
def bJ:=@PySem.Around.under_plainId
def bK:=@List.not_mem_nil
def bL:=@List.take_add_one
def bM:=@Array.toList_append
def bN:=@PySem.wpAny_holding
def bO:=@List.nodup_cons
def bP:=@Bool.not_eq_true'
def bQ:=@List.take_append_drop
def bR:=@List.eq_nil_of_length_eq_zero
def bS:=@List.drop_eq_getElem_cons
def bT:=@List.take_length
def bU:=@List.mem_range
def bV:=@Array.mem_toList_iff
def bW:=@List.map_nil
def bX:=@List.pairwise_map
def bY:=@Nat.le_succ
def bZ:=@List.getElem_of_mem
def b8:=@PySem.codeAny_builtin
def b9:=@PySem.wpAny_loadPart'
def cf:=@List.length_drop
def cg:=@decide_eq_true
def cj:=@List.getElem?_cons_succ
def cq:=@List.getElem_mem
def cv:=@Nat.lt_succ_of_lt
def cw:=@List.of_mem_zip
def cx:=@Bool.and_eq_true
def cy:=@decide_true
def cz:=@List.flatMap_append
def cA:=@PySem.wpAny_newObj_type
def cB:=@PySem.F.plainAttrs_list
def cC:=@List.getElem?_of_mem
def cD:=@List.length_nil
def cE:=@decide_false
def cF:=@Array.getElem?_eq_getElem
def cG:=@PyProof.Rows.wpS_mono
def cH:=@beq_eq_false_iff_ne
def cI:=@PySem.mem_of_lookup
def cJ:=@PyProof.Rows.wpS_modify
def cK:=@PySem.wpAny_truthy_bool
def cL:=@Array.getElem?_toList
def cM:=@List.Perm.append_left
def cN:=@List.perm_append_comm
def cO:=@Nat.lt_irrefl
def cP:=@PySem.plainId_quiet
def cQ:=@List.count_eq_zero
def cR:=@Nat.max_eq_right
def cS:=@List.mem_of_mem_take
def cT:=@PyProof.Rows.callWith_type1
def cU:=@List.drop_length_add_append
def cV:=@PySem.Heap.size_push
def cW:=@List.length_range
def cX:=@Option.map_eq_some_iff
def cY:=@Int.le_of_lt
def cZ:=@Int.le_refl
def c6:=@PySem.Heap.get?_update_self
def c7:=@PySem.wpAny_Call_Name_kw
def c8:=@List.lookup_cons
def c9:=@List.cons_append
def de:=@List.countP_cons
def df:=@PySem.F.plain_max_loop
def dg:=@List.flatMap_nil
def dh:=@List.mem_flatMap
def di:=@List.length_filterMap_le
def dn:=@List.mem_append_left
def dr:=@Array.toArray_toList
def du:=@PySem.boot_len
def dv:=@Array.toList_extract
def dA:=@List.drop_append_of_le_length
def dD:=@List.eraseIdx_cons_succ
def dF:=@List.getElem?_cons_zero
def dH:=@PySem.wpAny_setState_of
def dQ:=@PySem.wpAny_mono
def dR:=@PyProof.Rows.F.plain_set_update_loop
def dU:=@List.filter_sublist
def dX:=@List.filter_eq_nil_iff
def dY:=@PySem.wpAny_call_entry
def dZ:=@beq_self_eq_true
def ec:=@List.mem_filterMap
def ef:=@beq_iff_eq
def eh:=@List.getElem?_zip_eq_some
def et:=@List.pairwise_iff_getElem
def eu:=@PySem.wpAny_passesOwn
def ez:=@Option.map_some
def eA:=@PyProof.Rows.boot_list
def eB:=@PySem.wpAny_pyIter_list
def eC:=@or_false
def eD:=@bne_self_eq_false
def eE:=@List.mem_of_mem_drop
def eF:=@Bool.not_true
def eG:=@congrArg
def eH:=@PySem.wpAny_askSetting
def eI:=@List.getElem?_set_self
def eJ:=@List.zip_cons_cons
def eK:=@List.drop_of_length_le
def eN:=@PySem.W.kia_one
def eO:=@Nat.min_eq_left
def eP:=@List.Perm.of_eq
def eQ:=@List.getElem?_eq_none
def eR:=@List.mem_iff_getElem?
def eS:=@List.singleton_append
def eT:=@Int.toNat_natCast
def eU:=@List.ext_getElem?
def eV:=@List.getElem_take
def eW:=@List.getElem?_set_ne
def eX:=@Array.toList_reverse
def eY:=@PySem.F.slot_list_lt
def eZ:=@PySem.wpAny_eqBool_int
def e7:=@Nat.ne_of_gt
def e8:=@Nat.lt_succ_self
def fb:=@PySem.codeAny_mono
def fc:=@Nat.zero_add
def ff:=@List.map_fst_zip
def fg:=@List.map_snd_zip
def fh:=@List.getElem_append_right
def fi:=@PySem.Value.isStrOf_shape
def fj:=@List.any_cons
def fk:=@PySem.F.slot_list_append
def fm:=@PySem.F.type_list_append
def fu:=@Bool.eq_iff_iff
def fv:=@PySem.wpAny_ite_split
def fw:=@PySem.wpAny_updateSeq
def fA:=@List.nil_append
def fB:=@PyProof.Rows.wpS_get
def fD:=@List.length_zip
def fE:=@List.range_succ
def fF:=@PySem.wpAny_rule
def fG:=@Nat.add_sub_cancel
def fH:=@PySem.wpAny_callSpecial?_slot
def fI:=@PyProof.Rows.boot_sorted
def fJ:=@List.flatMap_eq_nil_iff
def fK:=@List.take_sublist
def fL:=@List.nodup_append
def fM:=@PySem.fits_of_scanBound
def fN:=@PySem.wpAny_seqItems
def fO:=@PySem.wpAny_tryCatch
def fP:=@List.getElem_drop
def fQ:=@List.flatten_cons
def fR:=@PySem.Heap.get?_push_ne
def fS:=@PySem.wpAny_eqBool_str
def fT:=@PySem.call_meets
def fU:=@List.ext_getElem
def fV:=@PySem.F.entry_max_loop
def fW:=@Nat.min_eq_right
def fX:=@List.getLast_mem
def fY:=@PySem.wpAny_standAt
namespace L2
open PySem PySem.Spec PyProof.Rows
noncomputable abbrev Key:=Sum Int Str
noncomputable def JZ:Key->Value->Bool
 | .inl k,v=>Value.isInt k v
 | .inr x,v=>Value.isStrOf x v
noncomputable def O3(w:World):Key->Int
 | .inl k=>hashInt k
 | .inr x=>hashStr w x
theorem vX:∀{k:Key} {v:Value},JZ k v=true->(∃i t,k=Sum.inl i/\v=Value.int i t)\/(∃x t,k=Sum.inr x/\v=Value.str x t)
 | .inl i,v,h=>by
  obtain⟨t,e⟩:=Value.isInt_shape (k:=i) (v:=v) h;exact .inl ⟨i,t,rfl,e⟩
 | .inr x,v,h=>by
  obtain⟨t,e⟩:=fi (x:=x) (v:=v) h;exact .inr ⟨x,t,rfl,e⟩
theorem Q4(a b:Int):decide ((Sum.inl a:Key)=Sum.inl b)=(a==b):=by
 by_cases e:a=b
 ·subst e;simp
 ·have h:¬(Sum.inl a:Key)=Sum.inl b:=fun q=>e (Sum.inl.inj q)
  rw[aX h];exact(cH.mpr e).symm
theorem Q3(a b:Str):decide ((Sum.inr a:Key)=Sum.inr b)=decide (a=b):=by
 by_cases e:a=b
 ·subst e;simp
 ·have h:¬(Sum.inr a:Key)=Sum.inr b:=fun q=>e (Sum.inr.inj q)
  rw[aX h,aX e]
theorem Q2(a:Int)(b:Str):decide ((Sum.inl a:Key)=Sum.inr b)=false:=aX (fun q=>nomatch q)
theorem Q0(a:Str)(b:Int):decide ((Sum.inr a:Key)=Sum.inl b)=false:=aX (fun q=>nomatch q)
noncomputable def Ln(prog:Program)(w:World):PySem.KeyKind prog w Key where
 is:=JZ
 hash:=O3 w
 inj:=fun v a b ha hb=>by
  rcases vX ha with⟨i,t,rfl,rfl⟩ | ⟨x,t,rfl,rfl⟩
  ·rcases vX hb with⟨j,u,rfl,e⟩ | ⟨y,u,rfl,e⟩
   ·injection e with e1 _;rw[e1]
   ·exact nomatch e
  ·rcases vX hb with⟨j,u,rfl,e⟩ | ⟨y,u,rfl,e⟩
   ·exact nomatch e
   ·injection e with e1 _;rw[e1]
 byValue:=fun k v h=>by
  rcases vX h with⟨i,t,rfl,rfl⟩ | ⟨x,t,rfl,rfl⟩<;>rfl
 pyHash:=fun hv h=>by
  rcases vX hv with⟨i,t,rfl,rfl⟩ | ⟨x,t,rfl,rfl⟩
  ·exact wpAny_pyHash_int h
  ·exact wpAny_pyHash_str h
 eqBool:=fun hu hv h=>by
  rcases vX hu with⟨i,t,rfl,rfl⟩ | ⟨x,t,rfl,rfl⟩
  ·rcases vX hv with⟨j,u,rfl,rfl⟩ | ⟨y,u,rfl,rfl⟩
   ·rw[Q4] at h;exact eZ h
   ·rw[Q2] at h;exact SeqAt.EqAt.int_str i t y u _ _ _ _ h
  ·rcases vX hv with⟨j,u,rfl,rfl⟩ | ⟨y,u,rfl,rfl⟩
   ·rw[Q0] at h;exact SeqAt.EqAt.str_int x t j u _ _ _ _ h
   ·rw[Q3] at h;exact fS h
 «strs»:=fun k x t v h=>by
  rcases vX h with⟨i,u,rfl,e⟩ | ⟨y,u,rfl,e⟩
  ·exact nomatch e
  ·injection e with e1 _
   subst e1;cases v<;>rfl
inductive V where
 | non | bl (b:Bool) | int (i:Int) | str (x:Str) | EH (b:Array UInt8) | EF (b:UInt64) | ref (a:Addr) | ty (n:String)
 deriving DecidableEq
def RelV:V->Value->Prop
 | .non,u=>u=Value.none
 | .bl b,u=>u=Value.bool b
 | .int i,u=>∃t,u=Value.int i t
 | .str x,u=>∃t,u=Value.str x t
 | .EH b,u=>∃t,u=Value.bytes b t
 | .EF b,u=>∃t,u=Value.float b t
 | .ref a,u=>u=Value.ref a
 | .ty n,u=>u=Value.type n
abbrev Vals:List V->List Value->Prop:=Paired RelV
theorem Vals.length{xs:List V}{us:List Value}(r:Vals xs us):xs.length=us.length:=Paired.length r
theorem Vals.get:∀{xs:List V} {us:List Value} {i:Nat} {x:V},Vals xs us->xs[i]?=some x->∃u,us[i]?=some u/\RelV x u
 | _,_,_,_,.nil,e=>by simp at e
 | _,_,0,_,.cons r _,e=>by simp at e;subst e;exact⟨_,rfl,r⟩
 | _,_,i+1,x,.cons _ t,e=>by
  obtain⟨u,h1,h2⟩:=Vals.get (i:=i) (x:=x) t (by simpa using e);exact⟨u,by simpa using h1,h2⟩
theorem Vals.set{x:V}{u:Value}(r:RelV x u):∀{xs:List V} {us:List Value} (i:Nat),Vals xs us->Vals (xs.set i x) (us.set i u)
 | _,_,_,.nil=>.nil
 | _,_,0,.cons _ t=>.cons r t
 | _,_,i+1,.cons q t=>.cons q (Vals.set r i t)
theorem Vals.append:∀{xs ys:List V} {us ws:List Value},Vals xs us->Vals ys ws->Vals (xs++ys) (us++ws)
 | _,_,_,_,.nil,s=>s
 | _,_,_,_,.cons r t,s=>.cons r (Vals.append t s)
theorem Vals.take:∀{xs:List V} {us:List Value} (n:Nat),Vals xs us->Vals (xs.take n) (us.take n)
 | _,_,0,_=>.nil
 | _,_,_+1,.nil=>.nil
 | _,_,n+1,.cons r t=>.cons r (Vals.take n t)
theorem Vals.drop:∀{xs:List V} {us:List Value} (n:Nat),Vals xs us->Vals (xs.drop n) (us.drop n)
 | _,_,0,r=>r
 | _,_,_+1,.nil=>.nil
 | _,_,n+1,.cons _ t=>Vals.drop n t
def rP:Option V->Option Value->Prop
 | some v,some u=>RelV v u
 | none,none=>True
 | _,_=>False
def KV{κ:Type}:List (κ×V)->List (κ×Value)->Prop:=Paired fun(p:κ×V) (q:κ×Value)=>p.1=q.1/\RelV p.2 q.2
noncomputable def kV:Key->V
 | .inl i=>.int i
 | .inr x=>.str x
inductive HO where
 /-- a list -/
 | lst (xs:List V)
 /-- a tuple (never changes) -/
 | tup (xs:List V)
 /-- a dict BB keys are ints and texts;one BB keys are tuples of ints and texts (t8 empty one is both) -/
 | dK (g5:List (Key×V)) (ep:Nat) | dT (g5:List (List Key×V)) (bs:List Addr×Nat)
 /-- a set of ints: its members,its size -/
 | set (S:Int->Bool) (n:Nat)
 /-- an instance of t8 class at C,its dict at dx,its attributes -/
 | ins (C dx:Addr) (fs:List (Str×V))
 /-- t8 dict of t8 instance at x -/
 | own (x:Addr)
 /-- t8 dict of an exception -/
 | xd (fs:List (Str×V))
 /-- a bound method,f of x -/
 | met (f x:Addr)
 /-- a range object lo,lo+1,.. below hi -/
 | yq (lo hi:Int)
 /-- a BF Xn is known to t8 object (t8 uB;a dict while a loop walks it): read,never written while it is so -/
 | oY (o:Obj) (u:HO)
 /-- a code BV table -/
 | yj (ps:Array Value)
 /-- any other BF,by Hu is true of its one object (a def of ND own: Y8 a S n:=HO.ext fun h=>..) -/
 | ext (φ:Heap->Prop)
noncomputable abbrev Hp:=Addr->Option HO
noncomputable def upd(H:Hp)(a:Addr)(o:HO):Hp:=fun b=>if b=a then some o else H b
theorem lA{H:Hp}{a:Addr}{o:HO}:upd H a o a=some o:=by unfold upd;rw[if_pos rfl]
theorem iy{H:Hp}{a b:Addr}{o:HO}(h:b≠a):upd H a o b=H b:=by unfold upd;rw[if_neg h]
theorem Po{H:Hp}{a b:Addr}{o u:HO}(h:H a=some o)(h':H b=some u)(d:o≠u):a≠b:=by
 intro e;subst e;rw[h] at h';exact d (bE h')
theorem nQ{H:Hp}{a b:Addr}{o:HO}(h:H a=some o)(h':H b=none):a≠b:=by
 intro e;subst e;rw[h] at h';cases h'
section
variable (P:Program) (w:World)
def iS(H:Hp)(h:Heap)(a:Addr):HO->Prop
 | .lst xs=>xs.length<=sizeLine/\∃(its:List Value) (n:Nat),Vals xs its/\h.get? a=some { cls:=.type "list",data:=.seq its.toArray n }
 | .tup xs=>xs.length<=sizeLine/\∃its:List Value,Vals xs its/\IsTup h a its.toArray
 | .dK g5 ep=>g5.length<=sizeLine/\(a==sysModules)=false/\∃vs,KV g5 vs/\h.DictAt (Ln P w) a vs ep
 | .dT g5 bs=>g5.length<=sizeLine/\(a==sysModules)=false/\∃xs:List (List Key×Addr×Value),xs.map (fun x=>x.2.1)=bs.1/\
   Paired (fun(p:List Key×V) (q:List Key×Addr×Value)=>p.1=q.1/\H q.2.1=some (.tup (p.1.map kV))/\RelV p.2 q.2.2) g5 xs/\
   ∃o es ep,h.get? a=some o/\o.ExactDict/\o.data=.dict es ep/\es.toList=xs.map (entryOfKey (tupleKind (Ln P w)))/\(xs.map (·.1)).Nodup/\ep=bs.2
 | .set S n=>h.SetOf (intKind P w) a S n
 | .ins C dx fs=>H dx=some (.own a)/\fs.length<=1000/\dx≠a/\h.get? a=some (PySem.W.instObj C dx)/\
   ∃mA,h.Ns1 dx mA/\(∀f,rP (fs.lookup f) (mA f))/\PySem.Within mA (fs.map (·.1))
 | .own _=>∃o,h.get? a=some o
 | .xd fs=>∃mA,h.Ns1 a mA/\∀f,rP (fs.lookup f) (mA f)
 | .yq lo hi=>∃t u v,h.get? a=some { cls:=.type "range",data:=.fields #[.int lo t,.int hi u,.int 1 v] }
 | .oY o u=>h.get? a=some o/\iS H h a u
 | .yj ps=>h.get? a=some { cls:=.none,data:=.fields ps }
 | .met f x=>h.get? a=some (PySem.W.methodObj (.ref f) (.ref x))
 | .ext φ=>φ h/\(∃o,h.get? a=some o)/\∀h1 h2:Heap,φ h1->(∀o,h1.get? a=some o->h2.get? a=some o)->φ h2
def nM(H:Hp)(h:Heap):Prop:=∀a o,H a=some o->iS P w H h a o
end
section
variable {P:Program} {w:World} {H H':Hp} {h h':Heap} {a:Addr} {o:HO}
theorem iS.lt(x:iS P w H h a o):a<h.objs.size:=by
 cases o with
 | lst xs=>obtain⟨_,_,_,_,e⟩:=x;exact aE e
 | tup xs=>obtain⟨_,_,_,p⟩:=x;exact p.lt
 | dK g5 ep=>obtain⟨_,_,_,_,o,_,e,_⟩:=x;exact aE e
 | dT g5 bs=>obtain⟨_,_,_,_,_,o,_,_,e,_⟩:=x;exact aE e
 | set S n=>obtain⟨o,_,_,_,e,_⟩:=x;exact aE e
 | ins C dx fs=>obtain⟨_,_,_,e,_⟩:=x;exact aE e
 | own y=>obtain⟨_,e⟩:=x;exact aE e
 | xd fs=>obtain⟨_,⟨_,_,_,e,_⟩,_⟩:=x;exact aE e
 | yq lo hi=>obtain⟨_,_,_,e⟩:=x;exact aE e
 | oY ob u=>obtain⟨e,_⟩:=x;exact aE e
 | yj ps=>exact aE (show h.get? a=some _ from x)
 | met f y=>exact aE (show h.get? a=some _ from x)
 | ext φ=>obtain⟨_,⟨_,e⟩,_⟩:=x;exact aE e
theorem Paired.B0{α β:Type}{F G:α->β->Prop}:∀{B2:List α} {B1:List β},Paired F B2 B1->(∀a b,F a b->G a b)->Paired G B2 B1
 | _,_,.nil,_=>.nil
 | _,_,.cons r t,f=>.cons (f _ _ r) (Paired.B0 t f)
theorem iS.rE(x:iS P w H h a o)(k:∀b u,(b=a\/H b=some (.own a))->h.get? b=some u->h'.get? b=some u)
  (ho:∀b,H b=some (.own a)->H' b=some (.own a)) (ht:∀b xs,H b=some (.tup xs)->H' b=some (.tup xs)):iS P w H' h' a o:=by
 induction o with
 | lst xs=>obtain⟨z,its,n,r,e⟩:=x;exact⟨z,its,n,r,k _ _ (.inl rfl) e⟩
 | tup xs=>obtain⟨z,its,r,ob,e,c⟩:=x;exact⟨z,its,r,ob,k _ _ (.inl rfl) e,c⟩
 | dK g5 ep=>obtain⟨z,y,vs,r,ob,es,e,c⟩:=x;exact⟨z,y,vs,r,ob,es,k _ _ (.inl rfl) e,c⟩
 | dT g5 bs=>
  obtain⟨z,y,xs,bq,r,ob,es,ep,e,c⟩:=x;exact⟨z,y,xs,bq,Paired.B0 r fun p q z=>⟨z.1,ht _ _ z.2.1,z.2.2⟩,ob,es,ep,k _ _ (.inl rfl) e,c⟩
 | set S n=>obtain⟨ob,es,ep,t,e,c⟩:=x;exact⟨ob,es,ep,t,k _ _ (.inl rfl) e,c⟩
 | ins C dx fs=>
  obtain⟨d,z,ne,e,mA,⟨od,es,ep,e2,c⟩,r⟩:=x;exact⟨ho _ d,z,ne,k _ _ (.inl rfl) e,mA,⟨od,es,ep,k _ _ (.inr d) e2,c⟩,r⟩
 | own y=>obtain⟨ob,e⟩:=x;exact⟨ob,k _ _ (.inl rfl) e⟩
 | xd fs=>obtain⟨mA,⟨od,es,ep,e,c⟩,r⟩:=x;exact⟨mA,⟨od,es,ep,k _ _ (.inl rfl) e,c⟩,r⟩
 | yq lo hi=>obtain⟨t,u,v,e⟩:=x;exact⟨t,u,v,k _ _ (.inl rfl) e⟩
 | oY ob u ih=>obtain⟨e,q⟩:=x;exact⟨k _ _ (.inl rfl) e,ih q⟩
 | yj ps=>
  have e:h.get? a=some { cls:=.none,data:=.fields ps }:=x;show h'.get? a=some { cls:=.none,data:=.fields ps };exact k a _ (.inl rfl) e
 | met f y=>
  have e:h.get? a=some (PySem.W.methodObj (.ref f) (.ref y)):=x;show h'.get? a=some (PySem.W.methodObj (.ref f) (.ref y));exact k a _ (.inl rfl) e
 | ext φ=>obtain⟨p,⟨o,e⟩,st⟩:=x;exact⟨st _ _ p fun o q=>k _ _ (.inl rfl) q,⟨o,k _ _ (.inl rfl) e⟩,st⟩
theorem nM.lt(x:nM P w H h)(e:H a=some o):a<h.objs.size:=(x a o e).lt
theorem nM.fresh(x:nM P w H h)(e:h.objs.size<=a):H a=none:=by
 cases q:H a with
 | none=>rfl
 | some u=>exact absurd (aV (x.lt q) e) (cO _)
theorem nM.kept(x:nM P w H h)(k:∀b u,h.get? b=some u->h'.get? b=some u):nM P w H h':=fun a o e=>
 (x a o e).rE (fun b u _ q=>k b u q) (fun _ q=>q) fun _ _ q=>q
theorem nM.laid(x:nM P w H h)(k:∀b u,h.get? b=some u->h'.get? b=some u)(hp:h.objs.size<=a)(new:iS P w (upd H a o) h' a o):nM P w (upd H a o) h':=fun b u e=>by
 have hn:=x.fresh hp;by_cases hb:b=a
 ·subst hb;rw[lA] at e;cases e;exact new
 ·rw[iy hb] at e;exact(x b u e).rE (fun c v _ q=>k c v q) (fun c q=>by rw[iy (nQ q hn)];exact q) fun c xs q=>by rw[iy (nQ q hn)];exact q
end
def Rd(H:Hp)(a:Addr)(u:HO):Prop:=H a=some u\/∃o,H a=some (.oY o u)
theorem Rd.ok{P:Program}{w:World}{H:Hp}{h:Heap}{a:Addr}{u:HO}(r:Rd H a u)(x:nM P w H h):iS P w H h a u:=by
 rcases r with r | ⟨o,r⟩
 ·exact x a u r
 ·obtain⟨_,q⟩:=x a _ r;exact q
def EM:Option HO->Prop
 | some (.lst _)=>True
 | some (.dK _ _)=>True
 | some (.dT _ _)=>True
 | some (.set _ _)=>True
 | some (.ins _ _ _)=>True
 | some (.ext _)=>True
 | _=>False
section
variable {P:Program} {w:World} {H:Hp} {h h':Heap} {x e:Addr} {o':HO}
theorem nM.write(ok:nM P w H h)(mu:EM (H x))(he:e=x\/H e=some (.own x))(k:∀b u,b≠e->h.get? b=some u->h'.get? b=some u)(Ak:∃u,h'.get? e=some u)
  (new:iS P w (upd H x o') h' x o'):nM P w (upd H x o') h':=fun b u q=>by
 have BW:∀c y,H c=some (.own y)->c≠x:=fun c y r z=>by subst z;rw[r] at mu;exact mu
 have HK:∀c xs,H c=some (.tup xs)->c≠x:=fun c xs r z=>by subst z;rw[r] at mu;exact mu
 by_cases hb:b=x
 ·subst hb;rw[lA] at q;cases q;exact new
 ·rw[iy hb] at q;by_cases xF:b=e
  ·have q':H b=some (.own x):=by
    rcases he with z | z
    ·exact absurd (xF.trans z) hb
    ·rw[xF];exact z
   rw[q] at q';cases q';obtain⟨v,hv⟩:=Ak;exact⟨v,by rw[xF];exact hv⟩
  ·refine(ok b u q).rE (fun c v hc r=>k c v ?_ r) (fun c r=>by rw[iy (BW c b r)];exact r) fun c xs r=>by rw[iy (HK c xs r)];exact r
   rcases hc with rfl | hc
   ·exact xF
   ·rintro rfl;rcases he with z | z
    ·exact BW c b hc z
    ·rw[hc] at z;cases z;exact hb rfl
end
structure Un (fs ex:List Addr) (H H':Hp) (h h':Heap):Prop where
 keep:∀b o,h.get? b=some o->H b=none->b∉fs->b∉ex->h'.get? b=some o
 slot:∀b o,h.get? b=some o->H b=none->b∈fs->b∉ex->∃sl,h'.get? b=some { o with slots:=sl }
 free:∀b o,h.get? b=some o->H b=none->b∉ex->H' b=none
 there:∀b o,h.get? b=some o->b∉ex->∃o',h'.get? b=some o'
 qm:∀b xs,H b=some (.tup xs)->H' b=some (.tup xs)
 pH:∀b o u,H b=some (.oY o u)->H' b=some (.oY o u)
 qp:∀b ps,H b=some (.yj ps)->∃more,H' b=some (.yj (ps++more))
section
variable {fs EE ex ZL:List Addr} {H H1 H2:Hp} {h h1 h2 h':Heap} {a x e:Addr} {o:HO}
theorem Un.any(u:Un fs ex H H1 h h1){b:Addr}{ob:Obj}(q:h.get? b=some ob)(n:H b=none)(hx:b∉ex):∃sl,h1.get? b=some { ob with slots:=sl }:=by
 by_cases hb:b∈fs
 ·exact u.slot b ob q n hb hx
 ·exact⟨ob.slots,u.keep b ob q n hb hx⟩
theorem Un.kept(k:∀b u,h.get? b=some u->h'.get? b=some u):Un fs ex H H h h':=
 ⟨fun b ob q _ _ _=>k b ob q,fun b ob q _ _ _=>⟨ob.slots,k b ob q⟩,fun _ _ _ n _=>n,fun b ob q _=>⟨ob,k b ob q⟩,fun _ _ q=>q,fun _ _ _ q=>q,fun _ ps q=>⟨#[],by rw[q];simp⟩⟩
theorem Un.refl:Un fs ex H H h h:=Un.kept fun _ _ q=>q
theorem Un.laid(k:∀b u,h.get? b=some u->h'.get? b=some u)(hp:h.objs.size<=a)(hn:H a=none):Un fs ex H (upd H a o) h h' where
 keep:=fun b u q _ _ _=>k b u q
 slot:=fun b u q _ _ _=>⟨u.slots,k b u q⟩
 free:=fun b u q n _=>by rw[iy (aJ (aV (aE q) hp))];exact n
 there:=fun b u q _=>⟨u,k b u q⟩
 qm:=fun b xs q=>by rw[iy (nQ q hn)];exact q
 pH:=fun b u xs q=>by rw[iy (nQ q hn)];exact q
 qp:=fun b ps q=>⟨#[],by rw[iy (nQ q hn),q];simp⟩
theorem Un.write(mu:EM (H x))(he:e=x\/H e=some (.own x))(k:∀b u,b≠e->h.get? b=some u->h'.get? b=some u)(Ak:∃u,h'.get? e=some u):Un fs ex H (upd H x o) h h':=by
 have hx:∀b,H b=none->b≠x:=fun b n z=>by subst z;rw[n] at mu;exact mu
 have hb:∀b,H b=none->b≠e:=fun b n z=>by
  subst z;rcases he with r | r
  ·exact hx b n r
  ·rw[n] at r;cases r
 have hm:∀b u,H b=some u->¬EM (some u)->b≠x:=fun b u q nm z=>by subst z;rw[q] at mu;exact nm mu
 refine⟨fun b u q n _ _=>k b u (hb b n) q,fun b u q n _ _=>⟨u.slots,k b u (hb b n) q⟩,fun b u q n _=>by rw[iy (hx b n)];exact n,fun b u q _=>?_,
  fun b xs q=>by rw[iy (hm b _ q fun z=>z)];exact q,fun b u xs q=>by rw[iy (hm b _ q fun z=>z)];exact q,fun b ps q=>⟨#[],by rw[iy (hm b _ q fun z=>z),q];simp⟩⟩
 by_cases xF:b=e
 ·subst xF;exact Ak
 ·exact⟨u,k b u xF q⟩
end
noncomputable def vo(h:Heap)(H:Hp):List Addr:=(List.range h.objs.size).filter fun a=>(H a).isSome
noncomputable def vI(h:Heap)(H:Hp):Heap:=PySem.W.hideAll h (vo h H)
theorem UG(h:Heap)(H:Hp):(vI h H).objs.size=h.objs.size:=PySem.W.hideAll_size _ _
theorem S8{h:Heap}{H:Hp}{b:Addr}{o:Obj}(e:h.get? b=some o)(n:H b=none):(vI h H).get? b=some o:=
 PySem.W.hideAll_get _ e fun hm=>by
  have q:(H b).isSome=true:=(aY.mp hm).2;rw[n] at q;simp at q
theorem Ru{h:Heap}{H:Hp}{b:Addr}{o:Obj}(e:(vI h H).get? b=some o):h.get? b=some o/\H b=none:=by
 have e':h.get? b=some o:=PySem.W.of_hideAll (vo h H) e;refine⟨e',?_⟩;cases q:H b with
 | none=>rfl
 | some x=>
  have hm:b∈vo h H:=aY.mpr ⟨bU.mpr (aE e'),by simp[q]⟩;have z:(vI h H).get? b=none:=PySem.W.hideAll_none (vo h H) hm;rw[z] at e;cases e
noncomputable def Rt(g h:Heap)(L:Addr):List (Addr×Obj):=(List.range h.objs.size).filterMap fun a=>if a=L\/(g.get? a).isSome=true then none else(h.get? a).map fun o=>(a,o)
noncomputable def oB(g h:Heap)(L d:Addr):List (Addr×Obj):=(Rt g h L).filter fun p=>decide (p.1≠d)
structure Mod (K:Z9) (mg:Str->Option Value) (base:Heap):Prop where
 zZ:K.In base
 glob:base.Ns mainGlobals mg
 blt:∃mb,base.Ns builtinsNs mb/\∀x:Str,x≠"__name__"->mb x=bootBuiltins x
 nolimit:base.NoLimit
structure Cx where
 prog:Program
 w:World
 K:Z9
 mg:Str->Option Value
 base:Heap
 A:Around
 N:List Str
 ju:Shared
 u6:Hp
 env:Env
 outer:List Env
 stack:List Env
 ex:List Addr
 fn:Str->Bool
 calm:Bool
 pn:List (Addr×Obj)
 xe:Value->Shared->Prop
noncomputable def uU(l:List Env):List Addr:=l.filterMap (·.frame)
noncomputable abbrev Cx.fs(X:Cx):List Addr:=uU X.outer
def qK(sc:Scope)(x:Str):Prop:=sc.names.lookup x=some .local\/sc.names.lookup x=some .cell\/sc.names.lookup x=some .free
def Loc(sc:Scope)(x:Str):Prop:=sc.names.lookup x=some .local\/sc.names.lookup x=some .cell
def Look(env:Env)(h:Heap)(m:Str->Option Value)(x:Str)(u:Value):Prop:=
 (env.kindOf x=some .local/\m x=some u)\/((env.kindOf x=some .cell\/env.kindOf x=some .free)/\∃c,env.cells.lookup x=some c/\h.IsCell c (some u))
structure Cx.Ok (X:Cx):Prop where
 mod:Mod X.K X.mg X.base
 kind:X.env.scope.kind=.function
 glob:X.env.globals=mainGlobals
 blt:X.env.builtins=builtinsNs
 above:X.ju.heap.objs.size<=X.env.locals
 inj:∀x y c,X.env.cells.lookup x=some c->X.env.cells.lookup y=some c->x=y
 has:∀x,(X.env.kindOf x=some .cell\/X.env.kindOf x=some .free)->∃c,X.env.cells.lookup x=some c
 cab:∀x c,X.fn x=true->X.env.cells.lookup x=some c->X.ju.heap.objs.size<=c
 hd:X.calm=true->X.A.handled=none
 frames:X.A.frames=some X.stack
 Ej:X.stack=X.outer\/(X.stack=X.env::X.outer/\X.env.frame=some X.env.locals)
 exf:∀b∈X.ex,b≠X.env.locals/\∀x c,X.env.cells.lookup x=some c->c≠b
 bs:∀b o,X.base.get? b=some o->X.ju.heap.get? b=some o/\X.u6 b=none
 xI:X.base.objs.size<=X.ju.heap.objs.size
 uF:∀b o,X.base.get? b=some o->b∉X.ex
 uW:∀b∈X.ex,b∉X.fs
 nC:X.ju.heap.FunFrames X.base X.outer
 yT:∀b∈X.fs,X.u6 b=none
structure Inv (X:Cx) (Z8:List (Addr×Obj)) (σ:List (Option V)) (H:Hp) (s:Shared):Prop where
 ok:X.Ok
 os:s.os=X.ju.os
 bare:AllBare s.gens
 base:Un X.fs X.ex X.u6 H X.ju.heap s.heap
 loc:∃m,s.heap.Ns X.env.locals m/\∀(i:Nat) (x:Str) (v:V),X.N[i]?=some x->σ[i]?=some (some v)->qK X.env.scope x->∃u,RelV v u/\Look X.env s.heap m x u
 cell:∀x c,X.env.cells.lookup x=some c->∃v,s.heap.IsCell c v
 free:H X.env.locals=none
 lg:∀x c,X.env.cells.lookup x=some c->H c=none
 pin:∀p∈X.pn++Z8,s.heap.get? p.1=some p.2/\H p.1=none/\p.1≠X.env.locals/\p.1∉X.fs/\∀v,p.2.data≠.cell v
 hV:nM X.prog X.w H s.heap
 len:σ.length=X.N.length
section
variable {X:Cx} {Z8:List (Addr×Obj)} {σ:List (Option V)} {H H':Hp} {s:Shared} {h':Heap}
theorem Cx.Ok.HM(ok:X.Ok){b:Addr}{o:Obj}(e:X.base.get? b=some o):b∉X.fs:=fun hb=>by
 have:=(ok.nC.mem hb).1;rw[e] at this;cases this
theorem Inv.bs(I:Inv X Z8 σ H s):∀b o,X.base.get? b=some o->s.heap.get? b=some o/\H b=none:=fun b o e=>
 ⟨I.base.keep b o (I.ok.bs b o e).1 (I.ok.bs b o e).2 (I.ok.HM e) (I.ok.uF b o e),I.base.free b o (I.ok.bs b o e).1 (I.ok.bs b o e).2 (I.ok.uF b o e)⟩
theorem Inv.bk(I:Inv X Z8 σ H s):∀b o,X.base.get? b=some o->s.heap.get? b=some o:=fun b o e=>(I.bs b o e).1
theorem Inv.mod(I:Inv X Z8 σ H s):Mod X.K X.mg X.base:=I.ok.mod
theorem Inv.pZ(I:Inv X Z8 σ H s):X.K.In s.heap:=I.ok.mod.zZ.keeps I.bk
theorem Inv.lt(I:Inv X Z8 σ H s):X.env.locals<s.heap.objs.size:=let⟨_,hn,_⟩:=I.loc;hn.lt
theorem Inv.sz(I:Inv X Z8 σ H s):X.ju.heap.objs.size<=s.heap.objs.size:=aK I.ok.above (Nat.le_of_lt I.lt)
theorem Inv.HL(I:Inv X Z8 σ H s){a:Addr}(h:s.heap.objs.size<=a):a∉X.fs:=fun hb=>by
 obtain⟨_,o,ho,_⟩:=I.ok.nC.mem hb;exact absurd (aV (aE ho) (aK I.sz h)) (cO _)
theorem Inv.yW(I:Inv X Z8 σ H s):∀x c,X.env.cells.lookup x=some c->c≠X.env.locals:=fun x c e z=>by
 obtain⟨v,o,ho,hd⟩:=I.cell x c e;obtain⟨m,⟨o',es,ep,uM,wF,_⟩,_⟩:=I.loc;rw[z,uM] at ho;cases ho;rw[wF] at hd;cases hd
theorem Inv.nC(I:Inv X Z8 σ H s):s.heap.FunFrames X.base X.outer:=by
 have all:∀(l:List Env),(∀b∈uU l,b∈X.fs)->X.ju.heap.FunFrames X.base l->s.heap.FunFrames X.base l:=by
  intro l;induction l with
  | nil=>intro _ _;trivial
  | cons env r ih=>
   intro hs hl;obtain⟨hk,⟨L,o,hf,hn,ho,hd⟩,hr⟩:=hl;have hL:L∈X.fs:=hs L (by unfold uU;rw[List.filterMap_cons,hf];exact bj);obtain⟨sl,e⟩:=I.base.slot L o ho (I.ok.yT L hL) hL fun z=>I.ok.uW L z hL
   exact⟨hk,⟨L,_,hf,hn,e,hd⟩,ih (fun b hb=>hs b (by unfold uU;rw[List.filterMap_cons,hf];exact aD _ hb)) hr⟩
 exact all X.outer (fun _ hb=>hb) I.ok.nC
theorem Inv.stack(I:Inv X Z8 σ H s):s.heap.FunFrames X.base X.stack:=by
 rcases I.ok.Ej with e | ⟨e,hf⟩
 ·rw[e];exact I.nC
 ·rw[e];obtain⟨m,hn,_⟩:=I.loc;refine .cons (by rw[I.ok.kind];decide) hf hn ?_ I.nC;exact Heap.get?_none_of_le (aK I.ok.xI I.ok.above)
theorem Inv.rD(I:Inv X Z8 σ H s):∀b∈uU X.stack,b∈X.env.locals::X.fs:=fun b hb=>by
 rcases I.ok.Ej with e | ⟨e,hf⟩
 ·rw[e] at hb;exact aD _ hb
 ·rw[e] at hb;unfold uU at hb;rw[List.filterMap_cons,hf] at hb;exact hb
theorem Inv.sA(I:Inv X Z8 σ H s):∀b∈uU X.stack,H b=none:=fun b hb=>by
 rcases ar.mp (I.rD b hb) with e | hb
 ·rw[e];exact I.free
 ·obtain⟨_,o,ho,_⟩:=I.ok.nC.mem hb;exact I.base.free b o ho (I.ok.yT b hb) fun z=>I.ok.uW b z hb
theorem Inv.step{g':Array GenState}{t':Nat}{d':Drawn}{ch:List Addr}(I:Inv X Z8 σ H s)
  (ue:∀b∈ch,(b∈X.ex\/X.ju.heap.objs.size<=b)/\b≠X.env.locals/\(∀x c,X.env.cells.lookup x=some c->c≠b)/\∀p∈X.pn++Z8,p.1≠b)
  (keep:∀b o,b≠X.env.locals->b∉X.fs->b∉ch->s.heap.get? b=some o->H b=none->h'.get? b=some o)
  (slot:∀b o,b≠X.env.locals->b∈X.fs->b∉ch->s.heap.get? b=some o->H b=none->∃sl,h'.get? b=some { o with slots:=sl }) (free:∀b o,b∉ch->s.heap.get? b=some o->H b=none->H' b=none)
  (there:∀b o,b∉ch->s.heap.get? b=some o->∃o',h'.get? b=some o')
  (qm:∀b xs,H b=some (.tup xs)->H' b=some (.tup xs)) (pH:∀b o u,H b=some (.oY o u)->H' b=some (.oY o u)) (qp:∀b ps,H b=some (.yj ps)->∃more,H' b=some (.yj (ps++more)))
  (ns:∀m,s.heap.Ns X.env.locals m->h'.Ns X.env.locals m) (hV:nM X.prog X.w H' h') (hg:AllBare g') :
  Inv X Z8 σ H' { s with heap:=h',gens:=g',drawn:=d',toks:=t' }:=by
 have NH:∀b o,X.ju.heap.get? b=some o->b≠X.env.locals:=fun b o e=>aJ (aV (aE e) I.ok.above)
 have Et:∀b o,X.ju.heap.get? b=some o->b∉X.ex->b∉ch:=fun b o e hx hb=>by
  rcases(ue b hb).1 with z | z
  ·exact hx z
  ·exact absurd (aV (aE e) z) (cO _)
 have cellK:∀x c,X.env.cells.lookup x=some c->∀v,s.heap.IsCell c v->h'.IsCell c v:=fun x c e v ⟨o,ho,hd⟩=>by
  have BY:c∉ch:=fun z=>(ue c z).2.2.1 x c e rfl
  by_cases hc:c∈X.fs
  ·obtain⟨sl,q⟩:=slot c o (I.yW x c e) hc BY ho (I.lg x c e);exact⟨_,q,hd⟩
  ·exact⟨o,keep c o (I.yW x c e) hc BY ho (I.lg x c e),hd⟩
 refine⟨I.ok,I.os,hg,⟨fun b o e n hb hx=>?_,fun b o e n hb hx=>?_,fun b o e n hx=>?_,fun b o e hx=>?_,fun b xs e=>qm b xs (I.base.qm b xs e),fun b o xs e=>pH b o xs (I.base.pH b o xs e),fun b ps e=>?_⟩,?_,fun x c e=>?_,?_,fun x c e=>?_,fun p hp=>?_,hV,I.len⟩
 ·exact keep b o (NH b o e) hb (Et b o e hx) (I.base.keep b o e n hb hx) (I.base.free b o e n hx)
 ·obtain⟨sl,e1⟩:=I.base.slot b o e n hb hx;obtain⟨Xv,e2⟩:=slot b _ (NH b o e) hb (Et b o e hx) e1 (I.base.free b o e n hx);exact⟨Xv,e2⟩
 ·obtain⟨o',e1⟩:=I.base.there b o e hx;exact free b o' (Et b o e hx) e1 (I.base.free b o e n hx)
 ·obtain⟨o',e1⟩:=I.base.there b o e hx;exact there b o' (Et b o e hx) e1
 ·obtain⟨m1,e1⟩:=I.base.qp b ps e;obtain⟨m2,e2⟩:=qp b _ e1;exact⟨m1++m2,by rw[e2,Array.append_assoc]⟩
 ·obtain⟨m,hn,hl⟩:=I.loc;refine⟨m,ns m hn,fun i x v e1 e2 e3=>?_⟩;obtain⟨u,r,l⟩:=hl i x v e1 e2 e3;refine⟨u,r,?_⟩;rcases l with l | ⟨k,c,e,z⟩
  ·exact .inl l
  ·exact .inr ⟨k,c,e,cellK x c e _ z⟩
 ·obtain⟨v,z⟩:=I.cell x c e;exact⟨v,cellK x c e v z⟩
 ·obtain⟨m,⟨o,_,_,ho,_⟩,_⟩:=I.loc;exact free _ o (fun z=>(ue _ z).2.1 rfl) ho I.free
 ·obtain⟨v,o,ho,hd⟩:=I.cell x c e;exact free c o (fun z=>(ue c z).2.2.1 x c e rfl) ho (I.lg x c e)
 ·obtain⟨e,n,ne,nf,d⟩:=I.pin p hp;have BY:p.1∉ch:=fun z=>(ue p.1 z).2.2.2 p hp rfl
  exact⟨keep p.1 p.2 ne nf BY e n,free p.1 p.2 BY e n,ne,nf,d⟩
theorem Inv.un{t':Nat}(I:Inv X Z8 σ H s)(u:Un X.fs [] H H' s.heap h')(hV:nM X.prog X.w H' h'):Inv X Z8 σ H' { s with heap:=h',toks:=t' }:=by
 obtain⟨m,⟨o,es,ep,ho,r⟩,_⟩:=id I.loc;obtain⟨sl,hL⟩:=u.any ho I.free (by simp)
 exact I.step (g':=s.gens) (d':=s.drawn) (ch:=[]) (fun _ z=>nomatch z) (fun b o _ hb _ e n=>u.keep b o e n hb (by simp)) (fun b o _ hb _ e n=>u.slot b o e n hb (by simp)) (fun b o _ e n=>u.free b o e n (by simp)) (fun b o _ e=>u.there b o e (by simp)) u.qm u.pH u.qp (fun m' hm=>by
  obtain⟨o',lD,wI,uM,r'⟩:=hm;rw[ho] at uM;cases uM;exact⟨_,lD,wI,hL,r'⟩) hV I.bare
theorem Inv.call{g':Array GenState}{t':Nat}{d':Drawn}{ch:List Addr}(I:Inv X Z8 σ H s)(u:Un (uU X.stack) ch H H' s.heap h')(hV:nM X.prog X.w H' h')(hg:AllBare g')
  (ue:∀b∈ch,(b∈X.ex\/X.ju.heap.objs.size<=b)/\b≠X.env.locals/\(∀x c,X.env.cells.lookup x=some c->c≠b)/\∀p∈X.pn++Z8,p.1≠b) :
  Inv X Z8 σ H' { s with heap:=h',gens:=g',drawn:=d',toks:=t' }:=by
 obtain⟨m,⟨o,es,ep,ho,r⟩,_⟩:=id I.loc;obtain⟨sl,hL⟩:=u.any ho I.free fun z=>(ue _ z).2.1 rfl
 exact I.step (ch:=ch) ue (fun b o hL hb hc e n=>u.keep b o e n (fun z=>(ar.mp (I.rD b z)).elim hL hb) hc) (fun b o _ _ hc e n=>u.any e n hc) (fun b o hc e n=>u.free b o e n hc) (fun b o hc e=>u.there b o e hc) u.qm u.pH u.qp (fun m' hm=>by
  obtain⟨o',lD,wI,uM,r'⟩:=hm;rw[ho] at uM;cases uM;exact⟨_,lD,wI,hL,r'⟩) hV hg
theorem Inv.turned{t':Nat}{it:Addr}(I:Inv X Z8 σ H s)(k:∀b o,b≠it->s.heap.get? b=some o->h'.get? b=some o)(hn:H it=none)(hL:it≠X.env.locals)
  (h1:it∈X.ex\/X.ju.heap.objs.size<=it) (h2:∀x c,X.env.cells.lookup x=some c->c≠it) (h3:∀p∈X.pn++Z8,p.1≠it):Inv X Z8 σ H { s with heap:=h',toks:=t' }:=by
 have xu:∀b u,H b=some u->b≠it:=fun b u e z=>by rw[z,hn] at e;cases e
 refine I.step (g':=s.gens) (d':=s.drawn) (ch:=[it]) (fun b hb=>?_) (fun b o _ _ hc e _=>k b o (fun z=>hc (by simp[z])) e) (fun b o _ _ hc e _=>⟨o.slots,k b o (fun z=>hc (by simp[z])) e⟩) (fun _ _ _ _ n=>n)
  (fun b o hc e=>⟨o,k b o (fun z=>hc (by simp[z])) e⟩) (fun _ _ e=>e) (fun _ _ _ e=>e) (fun b ps e=>⟨#[],by rw[e];simp⟩) (fun m hm=>?_) (fun b u e=>?_) I.bare
 ·have e:b=it:=by simpa using hb
  subst e;exact⟨h1,hL,h2,h3⟩
 ·obtain⟨o,es,ep,ho,r⟩:=hm;exact⟨o,es,ep,k _ o (Ne.symm hL) ho,r⟩
 ·refine(I.hV b u e).rE (fun c v hc q=>k c v ?_ q) (fun _ q=>q) fun _ _ q=>q
  rcases hc with z | z
  ·rw[z];exact xu b u e
  ·exact xu c _ z
theorem Inv.tok(I:Inv X Z8 σ H s)(t:Nat):Inv X Z8 σ H { s with toks:=t }:=I.un (h':=s.heap) (t':=t) Un.refl I.hV
theorem Inv.kept{t':Nat}(I:Inv X Z8 σ H s)(k:∀b u,s.heap.get? b=some u->h'.get? b=some u):Inv X Z8 σ H { s with heap:=h',toks:=t' }:=I.un (Un.kept k) (I.hV.kept k)
theorem Inv.laid{a:Addr}{o:HO}{t':Nat}(I:Inv X Z8 σ H s)(k:∀b u,s.heap.get? b=some u->h'.get? b=some u)(hp:s.heap.objs.size<=a)(new:iS X.prog X.w (upd H a o) h' a o) :
  Inv X Z8 σ (upd H a o) { s with heap:=h',toks:=t' }:=I.un (Un.laid k hp (I.hV.fresh hp)) (I.hV.laid k hp new)
theorem Inv.write{x e:Addr}{o:HO}{t':Nat}(I:Inv X Z8 σ H s)(mu:EM (H x))(he:e=x\/H e=some (.own x))(k:∀b u,b≠e->s.heap.get? b=some u->h'.get? b=some u)(Ak:∃u,h'.get? e=some u)
  (new:iS X.prog X.w (upd H x o) h' x o):Inv X Z8 σ (upd H x o) { s with heap:=h',toks:=t' }:=I.un (Un.write mu he k Ak) (I.hV.write mu he k Ak new)
theorem Inv.sC{xr:List (Addr×Obj)}(I:Inv X Z8 σ H s)(h:∀p∈xr,s.heap.get? p.1=some p.2/\H p.1=none/\p.1≠X.env.locals/\p.1∉X.fs/\∀v,p.2.data≠.cell v):Inv X xr σ H s:=
 ⟨I.ok,I.os,I.bare,I.base,I.loc,I.cell,I.free,I.lg,fun p hp=>(av.mp hp).elim (fun z=>I.pin p (dn _ z)) (h p),I.hV,I.len⟩
theorem Mm{N:List Str}(hN:N.Nodup){i j:Nat}{x:Str}(a:N[i]?=some x)(b:N[j]?=some x):i=j:=by
 obtain⟨h1,e1⟩:=aB.mp a;obtain⟨h2,e2⟩:=aB.mp b;exact(List.getElem_inj hN).mp (e1.trans e2.symm)
theorem Mp{M:Model}{A:Around}{E:Value->Shared->Prop}{i:Nat}{x:Str}{v:V}{u:Value}{Q:Unit->Shared->Prop}(I:Inv X Z8 σ H s)(hN:X.N.Nodup)(hi:X.N[i]?=some x)(hx:Loc X.env.scope x)(r:RelV v u)
  (h:∀s',Inv X Z8 (σ.set i (some v)) H s'->(∃a,Heap.SameBut a s.heap s'.heap/\(a=X.env.locals\/X.env.cells.lookup x=some a))->Q () s') (hf:X.fn x=true\/X.env.scope.names.lookup x=some .local:=by first | exact .inl rfl | exact .inr rfl | assumption):wpAny M A (storeName X.env x u) Q E s:=by
 obtain⟨m,hn,hl⟩:=id I.loc;have IS:(X.env.scope.kind==.class||(X.env.scope.kind==.module&&X.env.locals != X.env.globals))=false:=by rw[I.ok.kind];rfl
 have Co:i<σ.length:=by rw[I.len];exact(aB.mp hi).1
 have yW:=I.yW;have tracked:∀{a:Addr} {h':Heap},(∃o,s.heap.get? a=some o/\H a=none)->Heap.SameBut a s.heap h'->nM X.prog X.w H h':=fun{a h'} ha hs b ob e=>by
  obtain⟨_,_,i6⟩:=ha;refine(I.hV b ob e).rE (fun c w' hc q=>(hs.2 c ?_).trans q) (fun _ q=>q) fun _ _ q=>q
  rintro rfl;rcases hc with rfl | hc
  ·rw[i6] at e;cases e
  ·rw[i6] at hc;cases hc
 rcases hx with hk | hk
 ·refine wpAny_storeName_local hk hn (fun h' Yl hs=>?_) IS;obtain⟨oL,_,_,xy,_⟩:=id hn;refine h _ ⟨I.ok,I.os,I.bare,⟨fun b o e n hb hx=>?_,fun b o e n hb hx=>?_,I.base.free,fun b o e hx=>?_,I.base.qm,I.base.pH,I.base.qp⟩,⟨_,Yl,fun j y v' e1 e2 e3=>?_⟩,fun y c e=>?_,I.free,I.lg,fun p hp=>?_,tracked ⟨oL,xy,I.free⟩ hs,by simpa using I.len⟩ ⟨_,hs,.inl rfl⟩
  ·exact(hs.2 b (aJ (aV (aE e) I.ok.above))).trans (I.base.keep b o e n hb hx)
  ·obtain⟨sl,e1⟩:=I.base.slot b o e n hb hx;exact⟨sl,(hs.2 b (aJ (aV (aE e) I.ok.above))).trans e1⟩
  ·obtain⟨o',e1⟩:=I.base.there b o e hx;exact⟨o',(hs.2 b (aJ (aV (aE e) I.ok.above))).trans e1⟩
  ·by_cases hj:j=i
   ·subst hj;rw[hi] at e1;cases e1;rw[eI Co] at e2;cases e2;exact⟨u,r,.inl ⟨hk,by simp⟩⟩
   ·rw[eW (Ne.symm hj)] at e2;obtain⟨u',r',q⟩:=hl j y v' e1 e2 e3;refine⟨u',r',?_⟩;rcases q with⟨k,e⟩ | ⟨k,c,e,z⟩
    ·refine .inl ⟨k,?_⟩;have:y≠x:=fun e=>hj (Mm hN e1 (e▸hi))
     simp[this,e]
    ·exact .inr ⟨k,c,e,z.sameBut hs (yW y c e)⟩
  ·obtain⟨w',z⟩:=I.cell y c e;exact⟨w',z.sameBut hs (yW y c e)⟩
  ·obtain⟨e,n,ne,nf,d⟩:=I.pin p hp;exact⟨(hs.2 p.1 ne).trans e,n,ne,nf,d⟩
 ·have IM:X.fn x=true:=by
   rcases hf with z | z
   ·exact z
   ·rw[z] at hk;cases hk
  obtain⟨c,hc⟩:=I.ok.has x (.inl hk);obtain⟨w',z⟩:=I.cell x c hc;refine wpAny_storeName_cell I.ok.kind hk hc z (fun h' uQ hs=>?_);obtain⟨oc,Ad,IB⟩:=id z;refine h { s with heap:=h' } ⟨I.ok,I.os,I.bare,⟨fun b o e n hb hx=>?_,fun b o e n hb hx=>?_,I.base.free,fun b o e hx=>?_,I.base.qm,I.base.pH,I.base.qp⟩,⟨m,hn.sameBut hs (Ne.symm (yW x c hc)),fun j y v' e1 e2 e3=>?_⟩,fun y c' e=>?_,I.free,I.lg,fun p hp=>?_,tracked ⟨oc,Ad,I.lg x c hc⟩ hs,by simpa using I.len⟩ ⟨c,hs,.inr hc⟩
  ·exact(hs.2 b (aJ (aV (aE e) (I.ok.cab x c IM hc)))).trans (I.base.keep b o e n hb hx)
  ·obtain⟨sl,e1⟩:=I.base.slot b o e n hb hx;exact⟨sl,(hs.2 b (aJ (aV (aE e) (I.ok.cab x c IM hc)))).trans e1⟩
  ·obtain⟨o',e1⟩:=I.base.there b o e hx;exact⟨o',(hs.2 b (aJ (aV (aE e) (I.ok.cab x c IM hc)))).trans e1⟩
  ·by_cases hj:j=i
   ·subst hj;rw[hi] at e1;cases e1;rw[eI Co] at e2;cases e2;exact⟨u,r,.inr ⟨.inl hk,c,hc,uQ⟩⟩
   ·rw[eW (Ne.symm hj)] at e2;obtain⟨u',r',q⟩:=hl j y v' e1 e2 e3;refine⟨u',r',?_⟩;rcases q with q | ⟨k,c',e,z'⟩
    ·exact .inl q
    ·refine .inr ⟨k,c',e,z'.sameBut hs ?_⟩;rintro rfl;exact hj (Mm hN e1 (I.ok.inj _ _ _ e hc▸hi))
  ·by_cases N8:c'=c
   ·subst N8;exact⟨_,uQ⟩
   ·obtain⟨w2,z2⟩:=I.cell y c' e;exact⟨w2,z2.sameBut hs N8⟩
  ·obtain⟨e,n,ne,nf,d⟩:=I.pin p hp;refine⟨(hs.2 p.1 ?_).trans e,n,ne,nf,d⟩;intro q;rw[q,Ad] at e;have q':oc=p.2:=bE e;exact d w' (by rw[<-q'];exact IB)
theorem Ml{M:Model}{A:Around}{E:Value->Shared->Prop}{i:Nat}{x:Str}{v:V}{u:Value}{Q:Unit->Shared->Prop}(I:Inv X Z8 σ H s)(hN:X.N.Nodup)(hi:X.N[i]?=some x)(hx:Loc X.env.scope x)(r:RelV v u)
  (h:∀s',Inv X Z8 (σ.set i (some v)) H s'->Q () s') (hf:X.fn x=true\/X.env.scope.names.lookup x=some .local:=by first | exact .inl rfl | exact .inr rfl | assumption):wpAny M A (storeName X.env x u) Q E s:=
 Mp I hN hi hx r (fun s' I' _=>h s' I') hf
theorem Inv.CI{s':Shared}{ch:List Addr}(I:Inv X Z8 σ H s)(ho:s'.os=s.os)(u:Un (uU X.stack) ch H H' s.heap s'.heap)(hV:nM X.prog X.w H' s'.heap)(hg:AllBare s'.gens)
  (ue:∀b∈ch,(b∈X.ex\/X.ju.heap.objs.size<=b)/\b≠X.env.locals/\(∀x c,X.env.cells.lookup x=some c->c≠b)/\∀p∈X.pn++Z8,p.1≠b):Inv X Z8 σ H' s':=by
 obtain⟨h',g',d',t',o'⟩:=s';have e:o'=s.os:=ho;subst e;exact I.call (g':=g') (t':=t') (d':=d') u hV hg ue
end
noncomputable abbrev XK:=Value->Option Addr->Hp->Prop
noncomputable abbrev St:=List (Option V)
noncomputable abbrev VK:=V->Hp->Prop
noncomputable abbrev TE:=St->Hp->VK->Prop
noncomputable abbrev TT:=St->Hp->(Bool->Hp->Prop)->Prop
noncomputable abbrev TA:=St->Hp->(List V->Hp->Prop)->Prop
structure Ends where
 nx:St->Hp->Prop
 rt:VK
 bk:St->Hp->Prop:=fun _ _=>False
 ct:St->Hp->Prop:=fun _ _=>False
noncomputable abbrev TS:=Ends->St->Hp->Prop
def EP(X:Cx)(Z8:List (Addr×Obj))(σ:St)(Q:VK)(u:Value)(s':Shared):Prop:=∃v H',Inv X Z8 σ H' s'/\RelV v u/\Q v H'
def TP(X:Cx)(Z8:List (Addr×Obj))(σ:St)(Q:Bool->Hp->Prop)(b:Bool)(s':Shared):Prop:=∃H',Inv X Z8 σ H' s'/\Q b H'
def AP(X:Cx)(Z8:List (Addr×Obj))(σ:St)(Q:List V->Hp->Prop)(us:List Value)(s':Shared):Prop:=∃vs H',Inv X Z8 σ H' s'/\Vals vs us/\Q vs H'
def SP(X:Cx)(Z8:List (Addr×Obj))(D:Ends)(f:Flow)(s':Shared):Prop:=
 match f with
 | .next=>∃gK H',Inv X Z8 gK H' s'/\D.nx gK H'
 | .brk=>∃gK H',Inv X Z8 gK H' s'/\D.bk gK H'
 | .cont=>∃gK H',Inv X Z8 gK H' s'/\D.ct gK H'
 | .ret u=>∃v gK H',Inv X Z8 gK H' s'/\RelV v u/\D.rt v H'
def PE(X:Cx)(e:Expr)(t:TE):Prop:=
 ∀(Z8:List (Addr×Obj)) (s:Shared) (σ:St) (H:Hp) (Q:VK),Inv X Z8 σ H s->t σ H Q->wpAny (model X.prog X.w) X.A (eval e X.env) (EP X Z8 σ Q) X.xe s
def PT(X:Cx)(e:Expr)(t:TT):Prop:=
 ∀(Z8:List (Addr×Obj)) (s:Shared) (σ:St) (H:Hp) (Q:Bool->Hp->Prop),Inv X Z8 σ H s->t σ H Q->wpAny (model X.prog X.w) X.A (isTrue e X.env (eval e X.env)) (TP X Z8 σ Q) X.xe s
def PW(X:Cx)(e:Expr)(t:TT):Prop:=
 ∀(whole:Sem Value) (Z8:List (Addr×Obj)) (s:Shared) (σ:St) (H:Hp) (Q:Bool->Hp->Prop),Inv X Z8 σ H s->t σ H Q->wpAny (model X.prog X.w) X.A (isTrue e X.env whole) (TP X Z8 σ Q) X.xe s
theorem PW.pt{X:Cx}{e:Expr}{t:TT}(h:PW X e t):PT X e t:=h _
def PA(X:Cx)(es:List Expr)(t:TA):Prop:=
 ∀(pos:Pos) (Z8:List (Addr×Obj)) (s:Shared) (σ:St) (H:Hp) (Q:List V->Hp->Prop),Inv X Z8 σ H s->t σ H Q->wpAny (model X.prog X.w) X.A (spliced (backTo pos (starEach es X.env))) (AP X Z8 σ Q) X.xe s
def PS(X:Cx)(st:Stmt)(t:TS):Prop:=
 ∀(Z8:List (Addr×Obj)) (s:Shared) (σ:St) (H:Hp) (D:Ends),Inv X Z8 σ H s->t D σ H->wpAny (model X.prog X.w) X.A (exec st X.env) (SP X Z8 D) X.xe s
def rR(X:Cx)(st:List Stmt)(t:TS):Prop:=
 ∀(Z8:List (Addr×Obj)) (s:Shared) (σ:St) (H:Hp) (D:Ends),Inv X Z8 σ H s->t D σ H->wpAny (model X.prog X.w) X.A (execs st X.env) (SP X Z8 D) X.xe s
theorem hE{α:Type}{t:Sem α}{Q Q':α->Shared->Prop}{M:Model}{A:Around}{E:Value->Shared->Prop}{s:Shared}(h:wpAny M A t Q E s)(hQ:∀a s,Q a s->Q' a s):wpAny M A t Q' E s:=dQ h hQ fun _ _ x=>x
section
variable {X:Cx}
theorem bin{a b:Expr}{ta tb:TE}(ha:PE X a ta)(hb:PE X b tb){Z8:List (Addr×Obj)}{s:Shared}{σ:St}{H:Hp}{R:V->V->Hp->Prop}(I:Inv X Z8 σ H s)(h:ta σ H fun x H1=>tb σ H1 fun y H2=>R x y H2)
  {α:Type} {Q:α->Shared->Prop} {f:Value->Value->Sem α}
  (hf:∀v u s2 x y H2,Inv X Z8 σ H2 s2->RelV x v->RelV y u->R x y H2->wpAny (model X.prog X.w) X.A (f v u) Q X.xe s2) :
  wpAny (model X.prog X.w) X.A (eval a X.env) (fun v gM=>wpAny (model X.prog X.w) X.A (eval b X.env) (fun u oU=>wpAny (model X.prog X.w) X.A (f v u) Q X.xe oU) X.xe gM) X.xe s:=by
 refine hE (ha Z8 s σ H _ I h) fun v s1 gD=>?_
 walk_at "1f";refine hE (hb Z8 s1 σ H1 _ I1 q1) fun u s2 gD=>?_
 obtain⟨y,H2,I2,r2,q2⟩:=gD;exact hf v u s2 x y H2 I2 r1 r2 q2
def Jy(i:Nat):TE:=fun σ H Q=>∃v,σ[i]?=some (some v)/\Q v H
def tC(v:V):TE:=fun _ H Q=>Q v H
theorem sg{i:Nat}{x:Str}{pos:Pos}(hN:X.N[i]?=some x)(hv:qK X.env.scope x)(hd:(x==("__debug__":Str))=false:=by decide)(kP:(x==("__classdict__":Str))=false:=by decide):PE X (.Name x pos) (Jy i):=by
 intro Z8 s σ H Q I h;obtain⟨v,e,h⟩:=h;obtain⟨m,hn,hl⟩:=I.loc;obtain⟨u,r,l⟩:=hl i x v hN e hv;have fin:EP X Z8 σ Q u s:=⟨v,H,I,r,h⟩
 rcases l with⟨hk,hm⟩ | ⟨hk,c,hc,xE⟩
 ·exact wpAny_Name (wpAny_loadName_local I.ok.kind hk hn hm fin) hd
 ·rcases hk with hk | hk
  ·exact wpAny_Name (wpAny_loadName_cell I.ok.kind hk hc xE fin) hd
  ·exact wpAny_Name (wpAny_loadName_free I.ok.kind hk hc xE fin kP) hd
theorem QZ{i j pos}:PE X (.Constant (.int i) j pos) (tC (.int i)):=fun _ _ _ H _ I h=>wpAny_Constant_int ⟨.int i,H,I.tok _,⟨_,rfl⟩,h⟩
theorem Pn{b j pos}:PE X (.Constant (.bool b) j pos) (tC (.bl b)):=fun _ _ _ H _ I h=>Constant_bool ⟨.bl b,H,I,rfl,h⟩
theorem QY{j pos}:PE X (.Constant .none j pos) (tC .non):=fun _ _ _ H _ I h=>Constant_none ⟨.non,H,I,rfl,h⟩
theorem QX{x j pos}:PE X (.Constant (.str x) j pos) (tC (.str x)):=fun _ _ _ H _ I h=>Calls.Constant_str ⟨.str x,H,I.tok _,⟨_,rfl⟩,h⟩
def Gl(X:Cx)(x:Str):Prop:=X.env.kindOf x=some .globalImplicit
theorem Lm{E:Value->Shared->Prop}{Z8:List (Addr×Obj)}{s:Shared}{σ:St}{H:Hp}{x:Str}{u:Value}{pos:Pos}{Q:Value->Shared->Prop}(I:Inv X Z8 σ H s)(hg:Gl X x)(hm:X.mg x=some u)(h:Q u s)
  (hd:(x==("__debug__":Str))=false:=by decide):wpAny (model X.prog X.w) X.A (eval (.Name x pos) X.env) Q E s:=
 Calls.Name_function_global I.ok.kind hg (Calls.loadGlobal_global (by rw[I.ok.glob];exact I.mod.glob.keeps I.bk) hm h) hd
theorem vP{E:Value->Shared->Prop}{Z8:List (Addr×Obj)}{s:Shared}{σ:St}{H:Hp}{x:Str}{u:Value}{pos:Pos}{Q:Value->Shared->Prop}(I:Inv X Z8 σ H s)(hg:Gl X x)(hm:X.mg x=none)(hv:bootBuiltins x=some u)(h:Q u s)
  (hn:x≠"__name__":=by decide) (hd:(x==("__debug__":Str))=false:=by decide):wpAny (model X.prog X.w) X.A (eval (.Name x pos) X.env) Q E s:=by
 obtain⟨mb,h1,h2⟩:=I.mod.blt;exact Calls.Name_function_global I.ok.kind hg (Calls.loadGlobal_builtin (by rw[I.ok.glob];exact I.mod.glob.keeps I.bk) hm (by rw[I.ok.blt];exact h1.keeps I.bk) ((h2 x hn).trans hv) h) hd
theorem RR{x:Str}{v:V}{u:Value}{pos:Pos}(hg:Gl X x)(hm:X.mg x=none)(hv:bootBuiltins x=some u)(r:RelV v u)(hn:x≠"__name__":=by decide)(hd:(x==("__debug__":Str))=false:=by decide):PE X (.Name x pos) (tC v):=
 fun _ _ _ H _ I h=>vP I hg hm hv ⟨v,H,I,r,h⟩ hn hd
variable {a b:Expr} {ta tb:TE} {pos:Pos}
def PC(X:Cx)(op:CmpOp)(a b:Expr)(t:TE):Prop:=
 ∀(Z8:List (Addr×Obj)) (s:Shared) (σ:St) (H:Hp) (Q:VK),Inv X Z8 σ H s->t σ H Q->
  wpAny (model X.prog X.w) X.A (eval a X.env) (fun v gM=>wpAny (model X.prog X.w) X.A (eval b X.env) (fun u oU=>wpAny (model X.prog X.w) X.A (compareOp op v u) (EP X Z8 σ Q) X.xe oU) X.xe gM) X.xe s
theorem S7(b:Expr){op:CmpOp}(h:op≠.In)(h2:op≠.NotIn):behindInMarks op b=false:=by
 have e1:(op==CmpOp.In)=false:=by cases op<;>first | rfl | exact absurd rfl h
 have e2:(op==CmpOp.NotIn)=false:=by cases op<;>first | rfl | exact absurd rfl h2
 cases b<;>simp[behindInMarks,e1,e2]
def tB(t:TE):TT:=fun σ H Q=>t σ H fun x H1=>∃c,x=.bl c/\Q c H1
theorem Zh{op:CmpOp}{t:TE}(h:PC X op a b t)(h1:behindInMarks op b=false:=by first | exact S7 _ (by decide) (by decide) | rfl):PT X (.Compare a [op] [b] pos) (tB t):=by
 intro Z8 s σ H Q I hw;refine wpAny_isTrue_Compare1 (hE (h Z8 s σ H _ I hw) fun v s1 h1=>hE h1 fun u s2 h2=>hE h2 fun c s3 gD=>?_) h1;walk_at "1f";obtain⟨d,rfl,q⟩:=q1;cases r1;exact cK ⟨H1,I1,q⟩
theorem QW{e:Expr}{t:TE}(h:PE X e t)(he:∀whole,isTrue e X.env whole=(do let v <-whole;standAt e.pos;holding [v] (truthy v)):=by intro _;rfl):PT X e (tB t):=by
 intro Z8 s σ H Q I hw;refine isTrue_plain (hE (h Z8 s σ H _ I hw) fun v s1 gD=>?_) (he _);walk_at "1f";obtain⟨d,rfl,q⟩:=q1;cases r1;exact cK ⟨H1,I1,q⟩
variable {tA Eh:TT} {oB:List Expr}
def O1(t u:TT):TT:=fun σ H Q=>t σ H fun c H1=>if c=true then u σ H1 Q else Q false H1
def Xr(t u:TT):TT:=fun σ H Q=>t σ H fun c H1=>if c=true then Q true H1 else u σ H1 Q
def O0(t:TT):TT:=fun σ H Q=>t σ H fun c H1=>Q (!c) H1
theorem RQ(ha:PT X a tA):PW X (.BoolOp .And [a] pos) tA:=by
 intro wh Z8 s σ H Q I h;refine isTrue_and (hE (ha Z8 s σ H Q I h) fun c s1 e=>?_);cases c with
 | true=>exact isTrue_and_nil e
 | false=>exact e
theorem Rr(ha:PT X a tA):PW X (.BoolOp .Or [a] pos) tA:=by
 intro wh Z8 s σ H Q I h;refine isTrue_or (hE (ha Z8 s σ H Q I h) fun c s1 e=>?_);cases c with
 | false=>exact isTrue_or_nil e
 | true=>exact e
theorem Rq(ha:PT X a tA)(hb:PW X (.BoolOp .And (b::oB) pos) Eh):PW X (.BoolOp .And (a::b::oB) pos) (O1 tA Eh):=by
 intro wh Z8 s σ H Q I h;refine isTrue_and (hE (ha Z8 s σ H _ I h) fun c s1 gD=>?_);obtain⟨H1,I1,q1⟩:=gD;cases c with
 | true=>exact hb wh Z8 s1 σ H1 Q I1 q1
 | false=>exact⟨H1,I1,q1⟩
theorem Pm(ha:PT X a tA)(hb:PW X (.BoolOp .Or (b::oB) pos) Eh):PW X (.BoolOp .Or (a::b::oB) pos) (Xr tA Eh):=by
 intro wh Z8 s σ H Q I h;refine isTrue_or (hE (ha Z8 s σ H _ I h) fun c s1 gD=>?_);obtain⟨H1,I1,q1⟩:=gD;cases c with
 | true=>exact⟨H1,I1,q1⟩
 | false=>exact hb wh Z8 s1 σ H1 Q I1 q1
theorem Rp(ha:PT X a tA):PT X (.UnaryOp .Not a pos) (O0 tA):=by
 intro Z8 s σ H Q I h;exact isTrue_not (ha Z8 s σ H (fun c H1=>Q (!c) H1) I h)
def Xt(t:TT)(ta tb:TE):TE:=fun σ H Q=>t σ H fun c H1=>if c=true then ta σ H1 Q else tb σ H1 Q
theorem S6{c:Expr}(hc:PT X c tA)(ha:PE X a ta)(hb:PE X b tb):PE X (.IfExp c a b pos) (Xt tA ta tb):=by
 intro Z8 s σ H Q I h;refine wpAny_IfExp (hE (hc Z8 s σ H _ I h) fun d s1 gD=>?_);obtain⟨H1,I1,q1⟩:=gD;cases d with
 | true=>exact ha Z8 s1 σ H1 Q I1 q1
 | false=>exact hb Z8 s1 σ H1 Q I1 q1
end
def iI(K:Z9)(H:Hp)(a:Addr)(xs:List V):Prop:=
 Rd H a (.lst xs)\/
  ∃(o:Obj) (its:Array Value) (n:Nat),K.lookup a=some o/\o.cls=.type "list"/\o.dict=none/\o.data=.seq its n/\its.size<=sizeLine/\Vals xs its.toList
def jE(K:Z9)(H:Hp)(a:Addr)(xs:List V):Prop:=
 Rd H a (.tup xs)\/
  ∃(o:Obj) (its:Array Value) (n:Nat),K.lookup a=some o/\o.cls=.type "tuple"/\o.data=.seq its n/\its.size<=sizeLine/\Vals xs its.toList
noncomputable def OZ:Value->Option V
 | .none=>some .non
 | .bool b=>some (.bl b)
 | .int i _=>some (.int i)
 | .str x _=>some (.str x)
 | .bytes b _=>some (.EH b)
 | .float b _=>some (.EF b)
 | .ref a=>some (.ref a)
 | .type n=>some (.ty n)
 | _=>none
theorem RelV.abs{x:V}{u:Value}(r:RelV x u):OZ u=some x:=by
 cases x with
 | non=>cases r;rfl
 | bl _=>cases r;rfl
 | int _=>obtain⟨t,rfl⟩:=r;rfl
 | str _=>obtain⟨t,rfl⟩:=r;rfl
 | EH _=>obtain⟨t,rfl⟩:=r;rfl
 | EF _=>obtain⟨t,rfl⟩:=r;rfl
 | ref _=>cases r;rfl
 | ty _=>cases r;rfl
theorem RelV.inj{x y:V}{u:Value}(r:RelV x u)(q:RelV y u):x=y:=bE (r.abs.symm.trans q.abs)
theorem Vals.inj:∀{xs ys:List V} {us:List Value},Vals xs us->Vals ys us->xs=ys
 | _,_,_,.nil,.nil=>rfl
 | _,_,_,.cons r t,.cons r' t'=>by rw[r.inj r',Vals.inj t t']
section
variable {X:Cx} {Z8:List (Addr×Obj)} {σ:St} {H:Hp} {s:Shared} {a:Addr} {xs ys:List V}
theorem iI.of{K:Z9}(h:H a=some (.lst xs)):iI K H a xs:=.inl (.inl h)
theorem jE.of{K:Z9}(h:H a=some (.tup xs)):jE K H a xs:=.inl (.inl h)
theorem Inv.list(I:Inv X Z8 σ H s)(h:iI X.K H a xs):∃its:List Value,Vals xs its/\PlainL s.heap a its.toArray/\xs.length<=sizeLine:=by
 rcases h with h | ⟨o,its,n,hk,hc,hd,hs,hz,r⟩
 ·obtain⟨z,its,n,r,e⟩:=h.ok I.hV;exact⟨its,r,⟨_,n,e,rfl,rfl,rfl⟩,z⟩
 ·refine⟨its.toList,r,⟨o,n,I.pZ a o hk,hc,hd,by simpa using hs⟩,?_⟩;have e:=r.length;simp only[ag] at e;omega
theorem Inv.tuple(I:Inv X Z8 σ H s)(h:jE X.K H a xs):∃its:List Value,Vals xs its/\IsTup s.heap a its.toArray/\xs.length<=sizeLine:=by
 rcases h with h | ⟨o,its,n,hk,hc,hs,hz,r⟩
 ·obtain⟨z,its,r,p⟩:=h.ok I.hV;exact⟨its,r,p,z⟩
 ·refine⟨its.toList,r,⟨o,I.pZ a o hk,hc,n,by simpa using hs⟩,?_⟩;have e:=r.length;simp only[ag] at e;omega
theorem Inv.k9(I:Inv X Z8 σ H s)(h:iI X.K H a xs)(h':iI X.K H a ys):xs=ys:=by
 obtain⟨its,r,⟨o,n,e,_,_,d⟩,_⟩:=I.list h;obtain⟨its',r',⟨o',n',e',_,_,d'⟩,_⟩:=I.list h';rw[e] at e';cases e';rw[d] at d';injection d' with d1 _
 have:its=its':=by simpa using eG Array.toList d1
 subst this;exact r.inj r'
theorem Inv.pk(I:Inv X Z8 σ H s)(h:jE X.K H a xs)(h':jE X.K H a ys):xs=ys:=by
 obtain⟨its,r,⟨o,e,_,n,d⟩,_⟩:=I.tuple h;obtain⟨its',r',⟨o',e',_,n',d'⟩,_⟩:=I.tuple h';rw[e] at e';cases e';rw[d] at d';injection d' with d1 _
 have:its=its':=by simpa using eG Array.toList d1
 subst this;exact r.inj r'
end
noncomputable abbrev Cx.oT(X:Cx)(E:Value->Shared->Prop):Cx:={ X with xe:=E }
noncomputable abbrev Cx.vv(X:Cx):Cx:=X.oT fun _ _=>False
theorem Cx.Ok.oT{X:Cx}(ok:X.Ok)(E:Value->Shared->Prop):(X.oT E).Ok:=
 ⟨ok.mod,ok.kind,ok.glob,ok.blt,ok.above,ok.inj,ok.has,ok.cab,ok.hd,ok.frames,ok.Ej,ok.exf,ok.bs,ok.xI,ok.uF,ok.uW,ok.nC,ok.yT⟩
theorem Cx.Ok.k5{X:Cx}{E:Value->Shared->Prop}(ok:(X.oT E).Ok):X.Ok:=
 ⟨ok.mod,ok.kind,ok.glob,ok.blt,ok.above,ok.inj,ok.has,ok.cab,ok.hd,ok.frames,ok.Ej,ok.exf,ok.bs,ok.xI,ok.uF,ok.uW,ok.nC,ok.yT⟩
section
variable {X:Cx} {Z8:List (Addr×Obj)} {σ:St} {H:Hp} {s:Shared} {E:Value->Shared->Prop}
theorem Inv.oT(I:Inv X Z8 σ H s)(E:Value->Shared->Prop):Inv (X.oT E) Z8 σ H s:=⟨I.ok.oT E,I.os,I.bare,I.base,I.loc,I.cell,I.free,I.lg,I.pin,I.hV,I.len⟩
theorem Inv.k5(I:Inv (X.oT E) Z8 σ H s):Inv X Z8 σ H s:=⟨I.ok.k5,I.os,I.bare,I.base,I.loc,I.cell,I.free,I.lg,I.pin,I.hV,I.len⟩
theorem SP.k5{D:Ends}{f:Flow}{s':Shared}(h:SP (X.oT E) Z8 D f s'):SP X Z8 D f s':=by
 cases f with
 | next=>obtain⟨gK,H',I,q⟩:=h;exact⟨gK,H',I.k5,q⟩
 | brk=>obtain⟨gK,H',I,q⟩:=h;exact⟨gK,H',I.k5,q⟩
 | cont=>obtain⟨gK,H',I,q⟩:=h;exact⟨gK,H',I.k5,q⟩
 | ret u=>obtain⟨v,gK,H',I,r,q⟩:=h;exact⟨v,gK,H',I.k5,r,q⟩
theorem rR.vv{st:List Stmt}{t:TS}(h:rR X.vv st t):rR X st t:=fun Z8 s σ H D I hw=>
 dQ (h Z8 s σ H D (I.oT _) hw) (fun _ _ q=>q.k5) fun _ _ z=>False.elim z
end
section
variable {X:Cx} {st:Stmt} {oB:List Stmt} {t u:TS} {e:Expr} {te:TE} {pos:Pos}
def Pl:TS:=fun D σ H=>D.nx σ H
def OY(t u:TS):TS:=fun D σ H=>t { D with nx:=u D } σ H
theorem Ll:rR X [] Pl:=fun _ _ σ H _ I h=>wpAny_execs_nil ⟨σ,H,I,h⟩
theorem Mj(h1:PS X st t)(h2:rR X oB u):rR X (st::oB) (OY t u):=by
 intro Z8 s σ H D I h;refine wpAny_execs_cons (hE (h1 Z8 s σ H { D with nx:=u D } I h) fun f s1 q=>?_);cases f with
 | next=>
  obtain⟨gK,H',I',q⟩:=q;exact h2 Z8 s1 gK H' D I' q
 | ret v=>exact q
 | brk=>exact q
 | cont=>exact q
theorem Lk(h1:PS X st t):rR X [st] t:=by
 intro Z8 s σ H D I h;refine wpAny_execs_cons (hE (h1 Z8 s σ H D I h) fun f s1 q=>?_);cases f with
 | next=>exact wpAny_execs_nil q
 | ret v=>exact q
 | brk=>exact q
 | cont=>exact q
theorem Inv.quiet{Z8:List (Addr×Obj)}{σ:St}{H:Hp}{s:Shared}(I:Inv X Z8 σ H s):interactive X.env=false:=by simp[interactive,I.ok.kind]
def Pk(te:TE):TS:=fun D σ H=>te σ H fun _ H1=>D.nx σ H1
theorem zF(he:PE X e te)(hs:swapsWith e none pos.line X.env=pure false:=by rfl):PS X (.Expr e pos) (Pk te):=by
 intro Z8 s σ H D I h;exact wpAny_Expr_any (hE (he Z8 s σ H _ I h) fun v s1 gD=>by obtain⟨x,H1,I1,r1,q1⟩:=gD;exact⟨σ,H1,I1,q1⟩) I.quiet hs
def OX(te:TE):TS:=fun D σ H=>te σ H D.rt
theorem Kw(he:PE X e te):PS X (.Return (some e) pos) (OX te):=by
 intro Z8 s σ H D I h;exact wpAny_Return_some (hE (he Z8 s σ H _ I h) fun v s1 gD=>by obtain⟨x,H1,I1,r1,q1⟩:=gD;exact⟨x,σ,H1,I1,r1,q1⟩)
def OW(c:TT)(t u:TS):TS:=fun D σ H=>c σ H fun b H1=>if b=true then t D σ H1 else u D σ H1
theorem Pj{c:Expr}{a b:List Stmt}{tc:TT}(hc:PT X c tc)(ha:rR X a t)(hb:rR X b u):PS X (.If c a b pos) (OW tc t u):=by
 intro Z8 s σ H D I h;refine wpAny_If (hE (hc Z8 s σ H _ I h) fun d s1 gD=>?_);obtain⟨H1,I1,q1⟩:=gD;cases d with
 | true=>exact ha Z8 s1 σ H1 D I1 q1
 | false=>exact hb Z8 s1 σ H1 D I1 q1
end
noncomputable abbrev TG:=V->St->Hp->(St->Hp->Prop)->Prop
noncomputable abbrev wR:=List V->St->Hp->(St->Hp->Prop)->Prop
def PG(X:Cx)(target:Expr)(t:TG):Prop:=
 ∀(Z8:List (Addr×Obj)) (s:Shared) (σ:St) (H:Hp) (v:V) (u:Value) (Q:St->Hp->Prop),Inv X Z8 σ H s->RelV v u->t v σ H Q->
  wpAny (model X.prog X.w) X.A (assign target X.env u) (fun _ s'=>∃gK H',Inv X Z8 gK H' s'/\Q gK H') X.xe s
def Au(X:Cx)(ts:List Expr)(t:wR):Prop:=
 ∀(Z8:List (Addr×Obj)) (s:Shared) (σ:St) (H:Hp) (vs:List V) (us:List Value) (Q:St->Hp->Prop),Inv X Z8 σ H s->Vals vs us->t vs σ H Q->
  wpAny (model X.prog X.w) X.A (assignInOrder ((assignEach ts X.env).map (·.2)) us) (fun _ s'=>∃gK H',Inv X Z8 gK H' s'/\Q gK H') X.xe s
noncomputable abbrev EZ:=V->V->V->Hp->(Hp->Prop)->Prop
def Jx(X:Cx)(t:EZ):Prop:=
 ∀(Z8:List (Addr×Obj)) (s:Shared) (σ:St) (H:Hp) (o i v:V) (ov iv u:Value) (Q:Hp->Prop),Inv X Z8 σ H s->RelV o ov->RelV i iv->RelV v u->t o i v H Q->
  wpAny (model X.prog X.w) X.A (setItem ov iv u) (fun _ s'=>∃H',Inv X Z8 σ H' s'/\Q H') X.xe s
section
variable {X:Cx} {pos:Pos}
def Fh(i:Nat):TG:=fun v σ H Q=>Q (σ.set i (some v)) H
theorem Lj{i:Nat}{x:Str}(hN:X.N.Nodup)(hi:X.N[i]?=some x)(hx:Loc X.env.scope x)(hf:X.fn x=true\/X.env.scope.names.lookup x=some .local:=by first | exact .inl rfl | exact .inr rfl | assumption):PG X (.Name x pos) (Fh i):=by
 intro Z8 s σ H v u Q I r h;exact wpAny_assign_Name (Ml I hN hi hx r (fun s' I'=>⟨_,H,I',h⟩) hf)
noncomputable def OU:wR:=fun vs σ H Q=>vs=[]/\Q σ H
noncomputable def Ph(t:TG)(u:wR):wR:=fun vs σ H Q=>∃v r,vs=v::r/\t v σ H fun gK H'=>u r gK H' Q
theorem RP:Au X [] OU:=by
 intro Z8 s σ H vs us Q I r h;obtain⟨e,h⟩:=h;subst e;cases r;exact assignInOrder_nil ⟨σ,H,I,h⟩
theorem S5{e:Expr}{es:List Expr}{t:TG}{u:wR}(h1:PG X e t)(h2:Au X es u)
  (hs:(assignEach (e::es) X.env).map (·.2)=assign e X.env::(assignEach es X.env).map (·.2):=by rfl):Au X (e::es) (Ph t u):=by
 intro Z8 s σ H vs us Q I r h;obtain⟨v,vr,e1,h⟩:=h;subst e1;cases r with
 | cons r rr=>
  rw[hs];refine assignInOrder_cons (hE (h1 Z8 s σ H _ _ _ I r h) fun _ s1 gD=>?_);obtain⟨y9,H1,I1,q1⟩:=gD;exact h2 Z8 s1 y9 H1 _ _ Q I1 rr q1
def OT(K:Z9)(n:Nat)(t:wR):TG:=fun v σ H Q=>∃a xs,v=.ref a/\jE K H a xs/\xs.length=n/\t xs σ H Q
theorem Ro{es:List Expr}{k:Nat}{t:wR}{n:Nat}(hc:X.calm=true)(h:Au X es t)
  (hn:(assignEach es X.env).length=n:=by rfl) (jW:(assignEach es X.env).findIdx? (·.1)=none:=by rfl):PG X (.Tuple es k pos) (OT X.K n t):=by
 intro Z8 s σ H v u Q I r hw;obtain⟨a,xs,e1,hq,hl,hw⟩:=hw;subst e1;cases r;obtain⟨its,rv,ht,hz⟩:=I.tuple hq;refine assign_Tuple_tuple (I.ok.hd hc) ht (by simp[hn,<-hl,rv.length]) jW fun h' hx=>?_
 have I1:Inv X Z8 σ H { s with heap:=h' }:=I.kept (t':=s.toks) fun b o e=>hx b o (aJ (aE e)) e
 exact h Z8 _ σ H xs _ Q I1 (by simpa using rv) hw
def OS(to ti:TE)(t:EZ):TG:=fun v σ H Q=>to σ H fun o H1=>ti σ H1 fun i H2=>t o i v H2 fun H3=>Q σ H3
theorem Rn{o i:Expr}{to ti:TE}{t:EZ}(ho:PE X o to)(hi:PE X i ti)(hs:Jx X t)
  (ha:∀v,assign (.Subscript o i pos) X.env v=(do
   let ov <-holding [v] (eval o X.env)
   let iv <-holding [v,ov] (eval i X.env)
   standAt pos
   holding [v,ov,iv] (setItem ov iv v)
   release [v,ov,iv] []):=by intro _;rfl):PG X (.Subscript o i pos) (OS to ti t):=by
 intro Z8 s σ H v u Q I r h;rw[ha];refine aa (bN (hE (ho Z8 s σ H _ I h) fun ov s1 gD=>?_));walk_at "1f";refine aa (bN (hE (hi Z8 s1 σ H1 _ I1 q1) fun iv s2 gD=>?_));obtain⟨y,H2,I2,r2,q2⟩:=gD;refine aa (fY (aa (bN (hE (hs Z8 s2 σ H2 x y v ov iv u _ I2 r1 r2 r q2) fun _ s3 gD=>?_))));obtain⟨H3,I3,q3⟩:=gD;exact wpAny_release ⟨σ,H3,I3,q3⟩
def EY(te:TE)(g:TG):TS:=fun D σ H=>te σ H fun x H1=>g x σ H1 D.nx
theorem Kv{tg e:Expr}{te:TE}{g:TG}(he:PE X e te)(hg:PG X tg g)(hs:swapsWithSole [tg] e pos.line X.env=pure false:=by rfl)(hw:swappedStores [tg] e X.env=pure none:=by rfl)
  (h1:(assignEach [tg] X.env).map (·.2)=[assign tg X.env]:=by rfl):PS X (.Assign [tg] e pos) (EY te g):=by
 intro Z8 s σ H D I h;refine wpAny_Assign_stores (hE (he Z8 s σ H _ I h) fun v s1 gD=>?_) hs hw;walk_at "1f";rw[h1];exact hE (hg Z8 s1 σ H1 x v _ I1 r1 q1) fun _ s2 q=>q
theorem Ku{i:Nat}{x:Str}{e:Expr}{te:TE}{pos':Pos}(hN:X.N.Nodup)(hi:X.N[i]?=some x)(hx:Loc X.env.scope x)(he:PE X e te)(hs:swapsWith e (some (.Name x pos')) pos.line X.env=pure false:=by rfl)(hf:X.fn x=true\/X.env.scope.names.lookup x=some .local:=by first | exact .inl rfl | exact .inr rfl | assumption) :
  PS X (.Assign [.Name x pos'] e pos) (EY te (Fh i)):=by
 intro Z8 s σ H D I h;refine wpAny_Assign_Name (hE (he Z8 s σ H _ I h) fun v s1 gD=>?_) hs;obtain⟨y,H1,I1,r1,q1⟩:=gD;exact Ml I1 hN hi hx r1 (fun s2 I2=>⟨_,H1,I2,q1⟩) hf
end
section
variable {X:Cx} {pos:Pos}
def Rm(c:TT)(tb:TS):TS:=fun D σ H=>∃W:Nat->St->Hp->Prop,(∃m,W m σ H)/\∀m σ H,W m σ H->
 c σ H fun b H1=>if b=true then ∃N:St->Hp->Prop,(∀gK H',N gK H'->∃m',m'<m/\W m' gK H')/\tb { D with nx:=N,ct:=N,bk:=D.nx } σ H1 else D.nx σ H1
theorem S4{c:Expr}{body:List Stmt}{tc:TT}{tb:TS}(hp:PassesOwn (model X.prog X.w) X.A X.env X.xe)(hc:PT X c tc)(hb:rR X body tb):PS X (.While c body [] pos) (Rm tc tb):=by
 intro Z8 s σ H D I h;obtain⟨W,⟨m0,w0⟩,turn⟩:=h;refine wpAny_While (codeAny_whileLoop (fun n s'=>∃gK H',Inv X Z8 gK H' s'/\W n gK H') ?_ m0 ⟨σ,H,I,w0⟩);rintro n s1 ⟨y9,H1,I1,w1⟩;refine eu hp (hE (hc Z8 s1 y9 H1 _ I1 (turn n y9 H1 w1)) fun b s2 gD=>?_);obtain⟨H2,I2,q2⟩:=gD;cases b with
 | true=>
  obtain⟨N,hN,q2⟩:=q2;rw[if_pos rfl];refine eu hp (hE (hb Z8 s2 y9 H2 _ I2 q2) fun f s3 q3=>?_);cases f with
  | next=>
   obtain⟨pw,H3,I3,n3⟩:=q3;obtain⟨m',hm,w3⟩:=hN pw H3 n3;exact⟨m',hm,pw,H3,I3,w3⟩
  | cont=>
   obtain⟨pw,H3,I3,n3⟩:=q3;obtain⟨m',hm,w3⟩:=hN pw H3 n3;exact⟨m',hm,pw,H3,I3,w3⟩
  | brk=>exact q3
  | ret v=>exact q3
 | false=>
  rw[if_neg aZ];exact wpAny_execs_nil ⟨y9,H2,I2,q2⟩
end
structure It where
 go:Nat->Hp->Prop
 Ed:Nat->Hp->V->Hp->Prop
 stop:Nat->Hp->Prop
def nF(X:Cx)(Z8:List (Addr×Obj))(H:Hp)(b:Addr):Prop:=
 H b=none/\b≠X.env.locals/\b∉X.fs/\(b∈X.ex\/X.ju.heap.objs.size<=b)/\(∀x c,X.env.cells.lookup x=some c->c≠b)/\∀p∈X.pn++Z8,p.1≠b
theorem Inv.qH{X:Cx}{Z8:List (Addr×Obj)}{σ:St}{H H':Hp}{s:Shared}{b:Addr}(I:Inv X Z8 σ H s)(hb:s.heap.objs.size<=b)(hn:H' b=none):nF X Z8 H' b:=by
 refine⟨hn,e7 (aV I.lt hb),I.HL hb,.inr (aK I.sz hb),fun x c e z=>?_,fun p hp z=>?_⟩
 ·obtain⟨v,q⟩:=I.cell x c e;exact absurd (aV q.lt (by rw[z];exact hb)) (cO _)
 ·exact absurd (aV (aE (I.pin p hp).1) (by rw[z];exact hb)) (cO _)
structure Turn (P:Program) (w:World) (K:Z9) (tg:Expr) (J:It) (fp:List Addr) (it:Addr) (tn:Nat->Heap->Prop):Prop where
 mem:it∈fp
 obj:∀i h,tn i h->∀b∈fp,∃o,h.get? b=some o/\∀v,o.data≠.cell v
 keep:∀i h h',tn i h->(∀b∈fp,∀o,h.get? b=some o->h'.get? b=some o)->tn i h'
 item:∀(X:Cx),X.prog=P->X.w=w->X.K=K->X.calm=true->∀(i:Nat) (Z8:List (Addr×Obj)) (s:Shared) (σ:St) (H:Hp) (E:Value->Shared->Prop),Inv X Z8 σ H s->(∀b∈fp,nF X Z8 H b)->tn i s.heap->J.go i H->
  wpAny (model P w) X.A (pyNext (.ref it)) (fun r s1=>∃u,r=some u/\
   wpAny (model P w) X.A (letOwnedTupleGo tg (.ref it) u) (fun _ s2=>∃x H',Inv X Z8 σ H' s2/\RelV x u/\J.Ed i H x H'/\tn (i+1) s2.heap/\∀b∈fp,H' b=none) E s1) E s
 done:∀(X:Cx),X.prog=P->X.w=w->X.K=K->X.calm=true->∀(i:Nat) (Z8:List (Addr×Obj)) (s:Shared) (σ:St) (H:Hp) (E:Value->Shared->Prop),Inv X Z8 σ H s->(∀b∈fp,nF X Z8 H b)->tn i s.heap->J.stop i H->
  wpAny (model P w) X.A (pyNext (.ref it)) (fun r s1=>r=none/\Inv X Z8 σ H s1) E s
 self:∀(A:Around) (i:Nat) (s:Shared) (Q:Value->Shared->Prop) (E:Value->Shared->Prop),tn i s.heap->Q (.ref it) s->wpAny (model P w) A (pyIter (.ref it)) Q E s
noncomputable abbrev TI:=St->Hp->(It->Hp->Prop)->Prop
def EL(X:Cx)(Z8:List (Addr×Obj))(σ:St)(tg:Expr)(R:It->Hp->Prop)(HZ:Value)(s2:Shared):Prop:=
 ∃(it:Addr) (fp:List Addr) (tn:Nat->Heap->Prop) (J:It) (H':Hp),HZ=.ref it/\Inv X Z8 σ H' s2/\Turn X.prog X.w X.K tg J fp it tn/\tn 0 s2.heap/\(∀b∈fp,nF X Z8 H' b)/\R J H'
def PI(X:Cx)(tg iter:Expr)(wi:TI):Prop:=
 ∀(Z8:List (Addr×Obj)) (s:Shared) (σ:St) (H:Hp) (R:It->Hp->Prop),Inv X Z8 σ H s->wi σ H R->
  wpAny (model X.prog X.w) X.A (eval iter X.env) (fun v s1=>wpAny (model X.prog X.w) X.A (pyIter v) (EL X Z8 σ tg R) X.xe s1) X.xe s
theorem Dc{M:Model}{A:Around}{E:Value->Shared->Prop}{s:Shared}{tg:Expr}{it:Addr}{u:Value}{o:Obj}{n:String}{vs:Array Value}{Q:Unit->Shared->Prop}(ho:s.heap.get? it=some o)(hc:o.cls=.type n)(hd:o.data=.fields vs)
  (hn:["enumerate","zip","dict_itemiterator","dict_reverseitemiterator","odict_iterator","itertools.zip_longest","itertools.pairwise"].contains n=false) (hQ:Q () s):wpAny M A (letOwnedTupleGo tg (.ref it) u) Q E s:=by
 unfold letOwnedTupleGo;cases tg<;>first
  | exact ao hQ
  | (cases u<;>first
    | exact ao hQ
    | (refine aa (wpAny_load ho ?_)
       rw[hc,hd];show wpAny M A (if (["enumerate","zip","dict_itemiterator","dict_reverseitemiterator","odict_iterator","itertools.zip_longest","itertools.pairwise"].contains n&&vs[0]?==some (rawInt _))=true then _ else _) Q E s;rw[if_neg (by intro h;rw[hn,Bool.false_and] at h;cases h)];exact ao hQ))
noncomputable def ES(K:Z9)(a:Addr):It:=
 ⟨fun i H=>∃xs x,iI K H a xs/\xs[i]?=some x,fun i H x H'=>H'=H/\∀xs,iI K H a xs->xs[i]?=some x,fun i H=>∃xs,iI K H a xs/\xs.length<=i⟩
noncomputable def Jn(K:Z9)(a:Addr):It:=
 ⟨fun i H=>∃xs x,jE K H a xs/\xs[i]?=some x,fun i H x H'=>H'=H/\∀xs,jE K H a xs->xs[i]?=some x,fun i H=>∃xs,jE K H a xs/\xs.length<=i⟩
noncomputable def ER(lo:Int)(n:Nat):It:=⟨fun i _=>i<n,fun i H x H'=>H'=H/\x=.int (lo+i),fun i _=>n<=i⟩
theorem Mo{P:Program}{w:World}{K:Z9}{tg:Expr}(a it:Addr):Turn P w K tg (ES K a) [it] it (fun i h=>h.IsListIter it a i) where
 mem:=by simp
 obj:=fun i h st b hb=>by
  have e:b=it:=by simpa using hb
  subst e;obtain⟨o,e,c,d⟩:=st;exact⟨o,e,fun v z=>by rw[d] at z;cases z⟩
 keep:=fun i h h' st k=>st.at fun o e=>k it (by simp) o e
 item:=by
  intro X hP hw hK hc i Z8 s σ H E I hf st hg;subst hP hw hK;obtain⟨xs,x,hq,hx⟩:=hg;obtain⟨its,rv,p,hz⟩:=I.list hq;obtain⟨u,hu,ru⟩:=rv.get hx;obtain⟨f0,f1,f2,f3,f4,f5⟩:=hf it (by simp);refine wpAny_pyNext_list_item st p.isList (x:=u) (by simpa using hu) fun h' gm sb=>?_
  have I1:Inv X Z8 σ H { s with heap:=h' }:=I.turned (t':=s.toks) (fun b o hb e=>(sb.2 b hb).trans e) f0 f1 f3 f4 f5;obtain⟨o,e,c,d⟩:=id gm;exact⟨u,rfl,Dc (s:={ s with heap:=h' }) e c d (by decide) ⟨x,H,I1,ru,⟨rfl,fun ys hy=>by rw[I.k9 hy hq];exact hx⟩,gm,fun b hb=>(hf b hb).1⟩⟩
 done:=by
  intro X hP hw hK hc i Z8 s σ H E I hf st hg;subst hP hw hK;obtain⟨xs,hq,hx⟩:=hg;obtain⟨its,rv,p,hz⟩:=I.list hq;obtain⟨f0,f1,f2,f3,f4,f5⟩:=hf it (by simp);have hl:=rv.length;exact wpAny_pyNext_list_end (I.ok.hd hc) st p.isList (by simp;omega) fun h' eb=>⟨rfl,I.turned (t':=s.toks) (fun b o hb e=>eb b o hb e) f0 f1 f3 f4 f5⟩
 self:=fun _ _ _ _ _ st h=>wpAny_pyIter_listiter st h
theorem US{P:Program}{w:World}{K:Z9}{tg:Expr}(a it:Addr):Turn P w K tg (Jn K a) [it] it (fun i h=>h.IsTupleIter it a i) where
 mem:=by simp
 obj:=fun i h st b hb=>by
  have e:b=it:=by simpa using hb
  subst e;obtain⟨o,e,c,d⟩:=st;exact⟨o,e,fun v z=>by rw[d] at z;cases z⟩
 keep:=fun i h h' st k=>st.at fun o e=>k it (by simp) o e
 item:=by
  intro X hP hw hK hc i Z8 s σ H E I hf st hg;subst hP hw hK;obtain⟨xs,x,hq,hx⟩:=hg;obtain⟨its,rv,p,hz⟩:=I.tuple hq;obtain⟨u,hu,ru⟩:=rv.get hx;obtain⟨f0,f1,f2,f3,f4,f5⟩:=hf it (by simp);refine wpAny_pyNext_tuple_item st (show s.heap.IsTuple a its.toArray from p) (x:=u) (by simpa using hu) fun h' gm sb=>?_
  have I1:Inv X Z8 σ H { s with heap:=h' }:=I.turned (t':=s.toks) (fun b o hb e=>(sb.2 b hb).trans e) f0 f1 f3 f4 f5;obtain⟨o,e,c,d⟩:=id gm;exact⟨u,rfl,Dc (s:={ s with heap:=h' }) e c d (by decide) ⟨x,H,I1,ru,⟨rfl,fun ys hy=>by rw[I.pk hy hq];exact hx⟩,gm,fun b hb=>(hf b hb).1⟩⟩
 done:=by
  intro X hP hw hK hc i Z8 s σ H E I hf st hg;subst hP hw hK;obtain⟨xs,hq,hx⟩:=hg;obtain⟨its,rv,p,hz⟩:=I.tuple hq;obtain⟨f0,f1,f2,f3,f4,f5⟩:=hf it (by simp);have hl:=rv.length;exact wpAny_pyNext_tuple_end (I.ok.hd hc) st (show s.heap.IsTuple a its.toArray from p) (by simp;omega) fun h' eb=>⟨rfl,I.turned (t':=s.toks) (fun b o hb e=>eb b o hb e) f0 f1 f3 f4 f5⟩
 self:=fun _ _ _ _ _ st h=>wpAny_pyIter_tupleiter st h
theorem UR{P:Program}{w:World}{K:Z9}{tg:Expr}(it:Addr)(lo:Int)(n:Nat):Turn P w K tg (ER lo n) [it] it (fun i h=>IsRangeIter h it (lo+(i:Nat)*1) ((n:Int)-(i:Nat)) 1) where
 mem:=by simp
 obj:=fun i h st b hb=>by
  have e:b=it:=by simpa using hb
  subst e
  exact⟨_,st,fun v z=>by
   have z':Data.fields _=Data.cell v:=z;cases z'⟩
 keep:=fun i h h' st k=>k it (by simp) _ st
 item:=by
  intro X hP hw hK hc i Z8 s σ H E I hf st hg;subst hP hw hK;obtain⟨f0,f1,f2,f3,f4,f5⟩:=hf it (by simp);have W:=Walks.range (prog:=X.prog) (w:=X.w) (I.ok.hd hc) it lo 1 n;refine W.item i s _ _ hg st fun v h' tk hv gm kk=>?_
  obtain⟨t,rfl⟩:=hv;have I1:Inv X Z8 σ H { s with heap:=h',toks:=tk }:=I.turned (fun b o hb e=>kk b o (by simpa using hb) e) f0 f1 f3 f4 f5;refine⟨_,rfl,Dc (s:={ s with heap:=h',toks:=tk }) (n:="range_iterator") gm rfl rfl (by decide) ⟨.int (lo+i),H,I1,⟨t,?_⟩,⟨rfl,rfl⟩,gm,fun b hb=>(hf b hb).1⟩⟩;rw[Int.mul_one]
 done:=by
  intro X hP hw hK hc i Z8 s σ H E I hf st hg;subst hP hw hK;obtain⟨f0,f1,f2,f3,f4,f5⟩:=hf it (by simp);exact wpAny_pyNext_range_end (I.ok.hd hc) st (by have:n<=i:=hg;omega) fun h' eb=>⟨rfl,I.turned (t':=s.toks) (fun b o hb e=>eb b o hb e) f0 f1 f3 f4 f5⟩
 self:=fun _ _ _ _ _ st h=>wpAny_pyIter_rangeiter st h
section
variable {X:Cx} {tg:Expr}
def Pg(K:Z9)(tl:TE):TI:=fun σ H R=>tl σ H fun x H1=>∃a,x=.ref a/\(∃xs,iI K H1 a xs)/\R (ES K a) H1
theorem RO{l:Expr}{tl:TE}(hl:PE X l tl):PI X tg l (Pg X.K tl):=by
 intro Z8 s σ H R I h;refine hE (hl Z8 s σ H _ I h) fun v s1 gD=>?_
 walk_at "1f";obtain⟨a,e,⟨xs,hq⟩,q⟩:=q1;subst e;cases r1;obtain⟨its,rv,p,hz⟩:=I1.list hq;refine eB p.isList ?_;refine⟨s1.heap.objs.size,[s1.heap.objs.size],_,_,H1,rfl,I1.kept (t':=s1.toks) fun b o e=>aj _ e,Mo a _,⟨_,az _ rfl,rfl,rfl⟩,fun b hb=>?_,q⟩;have e:b=s1.heap.objs.size:=by simpa using hb
 subst e;exact I1.qH (aA _) (I1.hV.fresh (aA _))
theorem S1{Z8:List (Addr×Obj)}{σ:St}{H:Hp}{s:Shared}{R:It->Hp->Prop}{E:Value->Shared->Prop}{lo hi:Int}{t u v:Tok}{tk:Nat}(I:Inv X Z8 σ H s)(h1:-(2 ^ 62)<=lo)(h2:lo<2 ^ 62)(h3:-(2 ^ 62)<=hi)(h4:hi<2 ^ 62)
  (q:R (ER lo (hi-lo).toNat) H):wpAny (model X.prog X.w) X.A (pyIter (.ref s.heap.objs.size)) (EL X Z8 σ tg R) E { s with heap:=s.heap.push { cls:=.type "range",data:=.fields #[.int lo t,.int hi u,.int 1 v] },toks:=tk }:=by
 refine wpAny_pyIter_range (IsRange.new ..) (small_one h1 h2 h3 h4) ?_;have I1:Inv X Z8 σ H { s with heap:=s.heap.push { cls:=.type "range",data:=.fields #[.int lo t,.int hi u,.int 1 v] },toks:=tk }:=I.kept fun b o e=>aj _ e
 refine⟨(s.heap.push { cls:=.type "range",data:=.fields #[.int lo t,.int hi u,.int 1 v] }).objs.size,[(s.heap.push { cls:=.type "range",data:=.fields #[.int lo t,.int hi u,.int 1 v] }).objs.size],_,_,H,rfl,
  I1.kept (t':=tk) fun b o e=>aj _ e,UR _ lo (hi-lo).toNat,?_,fun b hb=>?_,q⟩
 ·have e1:lo+((0:Nat):Int)*1=lo:=by simp
  have e2:(((hi-lo).toNat:Nat):Int)-((0:Nat):Int)=Builtin.Range.rangeSize lo hi 1:=by rw[rangeSize_one];split<;>omega
  show IsRangeIter _ _ (lo+((0:Nat):Int)*1) ((((hi-lo).toNat:Nat):Int)-((0:Nat):Int)) 1;rw[e1,e2];exact az _ rfl
 ·have e:b=(s.heap.push { cls:=.type "range",data:=.fields #[.int lo t,.int hi u,.int 1 v] }).objs.size:=by simpa using hb
  subst e;exact I1.qH (aA _) (I1.hV.fresh (aA _))
def Pf(ta:TA):TI:=fun σ H R=>ta σ H fun vs H1=>∃j:Int,vs=[.int j]/\-(2 ^ 62)<=j/\j<2 ^ 62/\R (ER 0 j.toNat) H1
theorem UE{a:Expr}{ta:TA}{p pos:Pos}(hg:Gl X "range")(hm:X.mg "range"=none)(ha:PA X [a] ta)(hs:starEach [a] X.env=[(false,eval a X.env)]:=by rfl):PI X tg (.Call (.Name "range" p) [a] [] pos) (Pf ta):=by
 intro Z8 s σ H R I h;refine Call_ (vP I hg hm boot_range (cT (hE (ha pos Z8 s σ H _ I h) fun us s1 gD=>?_) hs rfl));obtain⟨vs,H1,I1,r1,q1⟩:=gD;obtain⟨j,e,q1,q2,q⟩:=q1;subst e;cases r1 with
 | cons r rr=>
  cases rr;obtain⟨t,rfl⟩:=r;exact call_range_1 (S1 I1 (by omega) (by omega) q1 q2 (by simpa using q))
def OR(wi:TI)(g:TG)(tb:TS):TS:=fun D σ H=>wi σ H fun J H1=>∃W:Nat->Nat->St->Hp->Prop,(∃m,W 0 m σ H1)/\∀i m σ H,W i m σ H->
 (J.stop i H/\D.nx σ H)\/(J.go i H/\∃N:St->Hp->Prop,(∀gK H',N gK H'->∃m',m'<m/\W (i+1) m' gK H')/\∀x H',J.Ed i H x H'->g x σ H' fun oJ H2=>tb { D with nx:=N,ct:=N,bk:=D.nx } oJ H2)
noncomputable def AQ(fp:List Addr)(h:Heap):List (Addr×Obj):=fp.filterMap fun b=>(h.get? b).map fun o=>(b,o)
theorem D6{fp:List Addr}{h:Heap}{b:Addr}{o:Obj}(hb:b∈fp)(e:h.get? b=some o):(b,o)∈AQ fp h:=ec.mpr ⟨b,hb,by rw[e];rfl⟩
theorem UD{fp:List Addr}{h:Heap}{p:Addr×Obj}(hp:p∈AQ fp h):p.1∈fp/\h.get? p.1=some p.2:=by
 obtain⟨b,hb,e⟩:=ec.mp hp;cases q:h.get? b with
 | none=>rw[q] at e;cases e
 | some o=>
  rw[q] at e;have e':(b,o)=p:=bE e;subst e';exact⟨hb,q⟩
theorem Inv.pinned{Z8:List (Addr×Obj)}{σ:St}{H:Hp}{s:Shared}{fp:List Addr}(I:Inv X Z8 σ H s)(hf:∀b∈fp,nF X Z8 H b)(ho:∀b∈fp,∃o,s.heap.get? b=some o/\∀v,o.data≠.cell v):Inv X (Z8++AQ fp s.heap) σ H s:=
 I.sC fun p hp=>(av.mp hp).elim (fun z=>I.pin p (bg _ z)) fun z=>by
  obtain⟨hb,e⟩:=UD z;obtain⟨f0,f1,f2,_⟩:=hf p.1 hb;obtain⟨o,e',d⟩:=ho p.1 hb;rw[e] at e';cases e';exact⟨e,f0,f1,f2,d⟩
theorem Inv.md{Z8 pl:List (Addr×Obj)}{σ:St}{H:Hp}{s:Shared}(I:Inv X (Z8++pl) σ H s):Inv X Z8 σ H s:=I.sC fun p hp=>I.pin p (bg _ (dn _ hp))
theorem Kt{iter:Expr}{body:List Stmt}{wi:TI}{g:TG}{tb:TS}{pos:Pos}(hp:PassesOwn (model X.prog X.w) X.A X.env X.xe)(hc:X.calm=true)(hi:PI X tg iter wi)(hg:PG X tg g)(hb:rR X body tb)
  (hs:∀x,foldedSetIterable iter X.env x=pure x:=by intro _;rfl):PS X (.For tg iter body [] pos) (OR wi g tb):=by
 intro Z8 s σ H D I h;refine wpAny_For (hE (hi Z8 s σ H _ I h) fun v s1 h1=>hE h1 fun HZ s2 h2=>?_) hs;obtain⟨it,fp,tn,J,H2,e,I2,T,gC,f2,W,⟨m0,w0⟩,turn⟩:=h2;subst e
 -- Hu stays true of t8 yD objects through t8 loop
 have yk:∀{H':Hp},(∀b∈fp,H' b=none)->∀b∈fp,nF X Z8 H' b:=fun hn b hb=>⟨hn b hb,(f2 b hb).2⟩
 refine codeAny_forLoop_any (fun n s'=>∃i gK H',Inv X Z8 gK H' s'/\tn i s'.heap/\(∀b∈fp,H' b=none)/\W i n gK H') ?_ m0 ⟨0,σ,H2,I2,gC,fun b hb=>(f2 b hb).1,w0⟩;rintro n s3 ⟨i,pw,H3,I3,BK,Ol,w3⟩;rcases turn i n pw H3 w3 with⟨stop,qn⟩ | ⟨go,N,hN,step⟩
 ·refine eu hp (hE (T.done X rfl rfl rfl hc i Z8 s3 pw H3 X.xe I3 (yk Ol) BK stop) fun r s4 gD=>?_);obtain⟨hr,I4⟩:=gD;subst hr;exact wpAny_execs_nil ⟨pw,H3,I4,qn⟩
 ·refine eu hp (hE (T.item X rfl rfl rfl hc i Z8 s3 pw H3 X.xe I3 (yk Ol) BK go) fun r s4 gD=>?_);obtain⟨u,hr,h4⟩:=gD;subst hr;refine eu hp (hE h4 fun _ s5 gD=>?_);obtain⟨x,H5,I5,r5,y5,Hy,YY⟩:=gD;have Za:=I5.pinned (yk YY) (T.obj _ _ Hy);refine eu hp (hE (hg _ s5 pw H5 x u _ Za r5 (step x H5 y5)) fun _ s6 gD=>?_);obtain⟨OE,H6,I6,q6⟩:=gD;refine eu hp (hE (hb _ s6 OE H6 _ I6 q6) fun f s7 q7=>?_);have again:∀{qX:St} {H7:Hp},Inv X (Z8++AQ fp s5.heap) qX H7 s7->N qX H7->∃m,m<n/\∃i gK H',Inv X Z8 gK H' s7/\tn i s7.heap/\(∀b∈fp,H' b=none)/\W i m gK H':=fun{qX H7} I7 n7=>by
   obtain⟨m',hm,w7⟩:=hN qX H7 n7;refine⟨m',hm,i+1,qX,H7,I7.md,T.keep _ _ _ Hy fun b hb o e=>(I7.pin (b,o) (bg _ (bg _ (D6 hb e)))).1,fun b hb=>?_,w7⟩;obtain⟨o,e,d⟩:=T.obj _ _ Hy b hb;exact(I7.pin (b,o) (bg _ (bg _ (D6 hb e)))).2.1
  cases f with
  | next=>obtain⟨qX,H7,I7,n7⟩:=q7;exact again I7 n7
  | cont=>obtain⟨qX,H7,I7,n7⟩:=q7;exact again I7 n7
  | brk=>obtain⟨qX,H7,I7,q7⟩:=q7;exact⟨qX,H7,I7.md,q7⟩
  | ret v=>obtain⟨x7,qX,H7,I7,r7,q7⟩:=q7;exact⟨x7,qX,H7,I7.md,r7,q7⟩
end
noncomputable abbrev R2:=V->V->Hp->VK->Prop
def lq(X:Cx)(f:Value->Value->Sem Value)(r:R2):Prop:=
 ∀(Z8:List (Addr×Obj)) (s:Shared) (σ:St) (H:Hp) (x y:V) (v u:Value) (Q:VK),Inv X Z8 σ H s->RelV x v->RelV y u->r x y H Q->
  wpAny (model X.prog X.w) X.A (f v u) (EP X Z8 σ Q) X.xe s
def Jk(X:Cx)(f:Value->Sem Value)(r:V->Hp->VK->Prop):Prop:=
 ∀(Z8:List (Addr×Obj)) (s:Shared) (σ:St) (H:Hp) (x:V) (v:Value) (Q:VK),Inv X Z8 σ H s->RelV x v->r x H Q->
  wpAny (model X.prog X.w) X.A (f v) (EP X Z8 σ Q) X.xe s
def hJ(X:Cx)(f:Value)(r:List V->Hp->VK->Prop):Prop:=
 ∀(Z8:List (Addr×Obj)) (s:Shared) (σ:St) (H:Hp) (xs:List V) (us:List Value) (Q:VK),Inv X Z8 σ H s->Vals xs us->r xs H Q->
  wpAny (model X.prog X.w) X.A (call f us) (EP X Z8 σ Q) X.xe s
def BI(r:R2)(ta tb:TE):TE:=fun σ H Q=>ta σ H fun x H1=>tb σ H1 fun y H2=>r x y H2 Q
def Xp(r:V->Hp->VK->Prop)(ta:TE):TE:=fun σ H Q=>ta σ H fun x H1=>r x H1 Q
def rI(C:Int->Int->Prop)(g:Int->Int->V):R2:=fun x y H Q=>∃i j,x=.int i/\y=.int j/\C i j/\Q (g i j) H
def tH(g:Int->Int->V):R2:=fun x y H Q=>∃i j,x=.int i/\y=.int j/\Q (g i j) H
def rU(g:Int->V):V->Hp->VK->Prop:=fun x H Q=>∃i,x=.int i/\Q (g i) H
section
variable {X:Cx} {a b c:Expr} {ta tb tc:TE} {pos:Pos}
theorem EX(ha:PE X a ta)(hb:PE X b tb){Z8:List (Addr×Obj)}{s:Shared}{σ:St}{H:Hp}{R:V->V->Hp->Prop}(I:Inv X Z8 σ H s)
  (h:ta σ H fun x H1=>tb σ H1 fun y H2=>R x y H2) {Q:Value->Shared->Prop} {f:Value->Value->Sem Value}
  (hf:∀v u s2 x y H2,Inv X Z8 σ H2 s2->RelV x v->RelV y u->R x y H2->wpAny (model X.prog X.w) X.A (f v u) Q X.xe s2) :
  wpAny (model X.prog X.w) X.A (eval a X.env) (fun v gM=>wpAny (model X.prog X.w) X.A (eval b X.env) (fun u oU=>wpAny (model X.prog X.w) X.A (f v u) Q X.xe oU) X.xe gM) X.xe s:=by
 refine hE (ha Z8 s σ H _ I h) fun v s1 gD=>?_
 walk_at "1f";refine hE (hb Z8 s1 σ H1 _ I1 q1) fun u s2 gD=>?_
 obtain⟨y,H2,I2,r2,q2⟩:=gD;exact hf v u s2 x y H2 I2 r1 r2 q2
theorem Pe{op:Operator}{r:R2}(ho:lq X (binaryOp op) r)(ha:PE X a ta)(hb:PE X b tb):PE X (.BinOp a op b pos) (BI r ta tb):=by
 intro Z8 s σ H Q I h;exact wpAny_BinOp (EX ha hb I h fun v u s2 x y H2 I2 rx ry q=>ho Z8 s2 σ H2 x y v u Q I2 rx ry q)
theorem Pd{op:UnaryOp}{r:V->Hp->VK->Prop}(ho:Jk X (unaryOp op) r)(ha:PE X a ta):PE X (.UnaryOp op a pos) (Xp r ta):=by
 intro Z8 s σ H Q I h;exact UnaryOp_ (hE (ha Z8 s σ H _ I h) fun v s1 gD=>by obtain⟨x,H1,I1,r1,q1⟩:=gD;exact ho Z8 s1 σ H1 x v Q I1 r1 q1)
theorem Eo{f:Value->Value->Sem Value}{C:Int->Int->Prop}{g:Int->Int->Int}
  (rule:∀(i j:Int) (t u:Tok) (s:Shared) (Q:Value->Shared->Prop) (E:Value->Shared->Prop),C i j->Q (.int (g i j) s.toks) { s with toks:=s.toks+1 }->wpAny (model X.prog X.w) X.A (f (.int i t) (.int j u)) Q E s) :
  lq X f (rI C fun i j=>.int (g i j)):=by
 intro Z8 s σ H x y v u Q I rx ry h;obtain⟨i,j,rfl,rfl,hc,q⟩:=h;obtain⟨t,rfl⟩:=rx;obtain⟨t',rfl⟩:=ry;exact rule i j t t' s _ _ hc ⟨.int (g i j),H,I.tok _,⟨_,rfl⟩,q⟩
theorem Jw{f:Value->Value->Sem Value}{g:Int->Int->Int}
  (rule:∀(i j:Int) (t u:Tok) (s:Shared) (Q:Value->Shared->Prop) (E:Value->Shared->Prop),Q (.int (g i j) s.toks) { s with toks:=s.toks+1 }->wpAny (model X.prog X.w) X.A (f (.int i t) (.int j u)) Q E s) :
  lq X f (tH fun i j=>.int (g i j)):=by
 intro Z8 s σ H x y v u Q I rx ry h;obtain⟨i,j,rfl,rfl,q⟩:=h;obtain⟨t,rfl⟩:=rx;obtain⟨t',rfl⟩:=ry;exact rule i j t t' s _ _ ⟨.int (g i j),H,I.tok _,⟨_,rfl⟩,q⟩
theorem CY{f:Value->Value->Sem Value}{g:Int->Int->Bool}
  (rule:∀(i j:Int) (t u:Tok) (s:Shared) (Q:Value->Shared->Prop) (E:Value->Shared->Prop),Q (.bool (g i j)) s->wpAny (model X.prog X.w) X.A (f (.int i t) (.int j u)) Q E s) :
  lq X f (tH fun i j=>.bl (g i j)):=by
 intro Z8 s σ H x y v u Q I rx ry h;obtain⟨i,j,rfl,rfl,q⟩:=h;obtain⟨t,rfl⟩:=rx;obtain⟨t',rfl⟩:=ry;exact rule i j t t' s _ _ ⟨.bl (g i j),H,I,rfl,q⟩
def nG(i j:Int):Prop:=0<j/\j<1073741824
def ur(i j:Int):Prop:=0<=j/\j<=1000000/\i.natAbs<2 ^ 64
def mP(i j:Int):Prop:=(-(2 ^ 64)<i/\i<2 ^ 64)\/(-(2 ^ 64)<j/\j<2 ^ 64)
theorem mP.ok{i j:Int}(h:mP i j):IntMulOk i j:=by
 rcases h with⟨h1,h2⟩ | ⟨h1,h2⟩
 ·exact .of_left (intBits_le_64 h1 h2)
 ·exact .of_right (intBits_le_64 h1 h2)
theorem yu:lq X (binaryOp .Add) (tH fun i j=>.int (i+j)):=Jw fun _ _ _ _ _ _ _ q=>add_int q
theorem Rj:lq X (binaryOp .Sub) (tH fun i j=>.int (i-j)):=Jw fun _ _ _ _ _ _ _ q=>sub_int q
theorem Ri:lq X (binaryOp .Mult) (rI mP fun i j=>.int (i*j)):=Eo fun _ _ _ _ _ _ _ hc q=>mul_int q hc.ok
theorem RN:lq X (binaryOp .FloorDiv) (rI nG fun i j=>.int (i/j)):=Eo fun i j _ _ _ _ _ hc q=>by
 have h1:(0:Int)<j:=hc.1;have h2:j<1073741824:=hc.2;exact floordiv_int (by omega) (by rw[Int.fdiv_eq_ediv_of_nonneg i (by omega)];exact q) (.inl (PyProof.noPylong_small (by omega)))
theorem Rh:lq X (binaryOp .Mod) (rI (fun _ j=>0<j) fun i j=>.int (i%j)):=Eo fun i j _ _ _ _ _ hc q=>by
 have h1:(0:Int)<j:=hc;exact mod_int' (by omega) (by rw[Int.fmod_eq_emod_of_nonneg i (by omega)];exact q)
theorem Rg:lq X (binaryOp .Pow) (rI ur fun i j=>.int (i ^ j.toNat)):=Eo fun _ _ _ _ _ _ _ hc q=>pow_int_small hc.1 hc.2.1 hc.2.2 q
theorem Xk{f:Value->Sem Value}{g:Int->Int}
  (rule:∀(i:Int) (t:Tok) (s:Shared) (Q:Value->Shared->Prop) (E:Value->Shared->Prop),Q (.int (g i) s.toks) { s with toks:=s.toks+1 }->wpAny (model X.prog X.w) X.A (f (.int i t)) Q E s) :
  Jk X f (rU fun i=>.int (g i)):=by
 intro Z8 s σ H x v Q I rx h;obtain⟨i,rfl,q⟩:=h;obtain⟨t,rfl⟩:=rx;exact rule i t s _ _ ⟨.int (g i),H,I.tok _,⟨_,rfl⟩,q⟩
theorem Qe:Jk X (unaryOp .USub) (rU fun i=>.int (-i)):=Xk fun _ _ _ _ _ q=>neg_int q
end
section
variable {X:Cx} {a b c:Expr} {ta tb tc:TE} {pos:Pos}
theorem FC{Z8:List (Addr×Obj)}{σ:St}{H:Hp}{s:Shared}{Q:VK}{k k':Bool}(I:Inv X Z8 σ H s)(q:Q (.bl k) H)(e:k=k'):EP X Z8 σ Q (.bool k') s:=by
 subst e;exact⟨.bl k,H,I,rfl,q⟩
theorem Pb:lq X (compareOp .Lt) (tH fun i j=>.bl (decide (i<j))):=CY fun _ _ _ _ _ _ _ q=>lt_int q
theorem Fg:lq X (compareOp .LtE) (tH fun i j=>.bl (decide (i<=j))):=CY fun _ _ _ _ _ _ _ q=>le_int q
theorem Pa:lq X (compareOp .Gt) (tH fun i j=>.bl (decide (j<i))):=CY fun _ _ _ _ _ _ _ q=>gt_int q
theorem O9:lq X (compareOp .GtE) (tH fun i j=>.bl (decide (j<=i))):=CY fun _ _ _ _ _ _ _ q=>ge_int q
theorem tI:lq X (compareOp .In) (fun x y H Q=>∃i j,x=.str i/\y=.str j/\Q (.bl (!(Builtin.Str.occurrences j i 0 j.length 1).isEmpty)) H):=by
 intro Z8 s σ H x y v u Q I rx ry h;obtain⟨i,j,rfl,rfl,q⟩:=h;obtain⟨t,rfl⟩:=rx;obtain⟨t',rfl⟩:=ry;exact in_str (FC I q rfl)
theorem Qd:lq X (compareOp .Is) (fun x y H Q=>y=.non/\Q (.bl (decide (x=.non))) H):=by
 intro Z8 s σ H x y v u Q I rx ry h;obtain⟨rfl,q⟩:=h;cases ry;refine is_none_gen (FC I q ?_);cases x<;>first
  | (cases rx;rfl)
  | (obtain⟨t,rfl⟩:=rx;rfl)
theorem RM:lq X (compareOp .IsNot) (fun x y H Q=>y=.non/\Q (.bl (!decide (x=.non))) H):=by
 intro Z8 s σ H x y v u Q I rx ry h;obtain⟨rfl,q⟩:=h;cases ry;refine isnot_none_gen (FC I q ?_);cases x<;>first
  | (cases rx;rfl)
  | (obtain⟨t,rfl⟩:=rx;rfl)
theorem lq.or{f:Value->Value->Sem Value}{r r':R2}(h:lq X f r)(h':lq X f r'):lq X f (fun x y H Q=>r x y H Q\/r' x y H Q):=by
 intro Z8 s σ H x y v u Q I rx ry q;rcases q with q | q
 ·exact h Z8 s σ H x y v u Q I rx ry q
 ·exact h' Z8 s σ H x y v u Q I rx ry q
theorem Ks(b:Expr){op:CmpOp}(h:op≠.In:=by decide)(h2:op≠.NotIn:=by decide):behindInMarks op b=false:=by
 have e1:(op==CmpOp.In)=false:=by cases op<;>first | rfl | exact absurd rfl h
 have e2:(op==CmpOp.NotIn)=false:=by cases op<;>first | rfl | exact absurd rfl h2
 cases b<;>simp[behindInMarks,e1,e2]
theorem RL{op:CmpOp}{r:R2}(ho:lq X (compareOp op) r)(ha:PE X a ta)(hb:PE X b tb)(hm:behindInMarks op b=false):PE X (.Compare a [op] [b] pos) (BI r ta tb):=by
 intro Z8 s σ H Q I h;exact wpAny_Compare1 (EX ha hb I h fun v u s2 x y H2 I2 rx ry q=>ho Z8 s2 σ H2 x y v u Q I2 rx ry q) hm
def Ff(t:TE):TT:=fun σ H Q=>t σ H fun x H'=>∃k,x=.bl k/\Q k H'
theorem RK{op:CmpOp}{r:R2}(ho:lq X (compareOp op) r)(ha:PE X a ta)(hb:PE X b tb)(hm:behindInMarks op b=false):PT X (.Compare a [op] [b] pos) (Ff (BI r ta tb)):=by
 intro Z8 s σ H Q I h;refine wpAny_isTrue_Compare1 (hE (ha Z8 s σ H _ I h) fun v s1 gD=>?_) hm;walk_at "1f";refine hE (hb Z8 s1 σ H1 _ I1 q1) fun u s2 gD=>?_
 obtain⟨y,H2,I2,r2,q2⟩:=gD;refine hE (ho Z8 s2 σ H2 x y v u _ I2 r1 r2 q2) fun c s3 gD=>?_
 obtain⟨z,H3,I3,r3,k,e,q3⟩:=gD;subst e;cases r3;exact cK ⟨H3,I3,q3⟩
def Kr(r r':R2)(ta tb tc:TE):TE:=fun σ H Q=>ta σ H fun x H1=>tb σ H1 fun y H2=>r x y H2 fun z H3=>∃k,z=.bl k/\
 (if k=true then tc σ H3 fun w' H4=>r' y w' H4 Q else Q (.bl false) H3)
theorem S0{op yv:CmpOp}{r r':R2}(ho:lq X (compareOp op) r)(uM:lq X (compareOp yv) r')(ha:PE X a ta)(hb:PE X b tb)(hc:PE X c tc)
  (hm:lastMarks [op,yv] [b,c]=false:=by with_unfolding_all rfl):PT X (.Compare a [op,yv] [b,c] pos) (Ff (Kr r r' ta tb tc)):=by
 intro Z8 s σ H Q I h;refine isTrue_chain (hE (ha Z8 s σ H _ I h) fun v s1 gD=>?_) hm;walk_at "1f";refine test_link (hE (hb Z8 s1 σ H1 _ I1 q1) fun u s2 gD=>?_);obtain⟨y,H2,I2,r2,q2⟩:=gD;refine hE (ho Z8 s2 σ H2 x y v u _ I2 r1 r2 q2) fun d s3 gD=>?_
 obtain⟨z,H3,I3,r3,k,e,q3⟩:=gD;subst e;cases r3;refine cK ?_;cases k with
 | false=>
  obtain⟨k',e',q'⟩:=q3;cases e';exact ite_ff ⟨H3,I3,q'⟩
 | true=>
  refine ite_tt (test_last (hE (hc Z8 s3 σ H3 _ I3 q3) fun w' s4 gD=>?_));obtain⟨z',H4,I4,r4,q4⟩:=gD;refine hE (uM Z8 s4 σ H4 y z' u w' _ I4 r2 r4 q4) fun d' s5 gD=>?_
  obtain⟨z2,H5,I5,r5,k2,e2,q5⟩:=gD;subst e2;cases r5;exact cK ⟨H5,I5,q5⟩
theorem zz:(sizeLine:Nat)<2 ^ 63:=by rw[sizeLine_eq];decide
theorem rF:lq X (binaryOp .Add) (fun x y H Q=>∃i j,x=.str i/\y=.str j/\i.length+j.length<=sizeLine/\Q (.str (i++j)) H):=by
 intro Z8 s σ H x y v u Q I rx ry h;obtain⟨i,j,rfl,rfl,hz,q⟩:=h;obtain⟨t,rfl⟩:=rx;obtain⟨t',rfl⟩:=ry;exact add_str (fun t' tk=>⟨.str (i++j),H,I.tok _,⟨_,rfl⟩,q⟩) hz
theorem oE{x:V}{us:List Value}(r:Vals [x] us):∃u,us=[u]/\RelV x u:=by
 cases r with
 | cons r1 r2=>cases r2;exact⟨_,rfl,r1⟩
theorem AK{x y:V}{us:List Value}(r:Vals [x,y] us):∃u w',us=[u,w']/\RelV x u/\RelV y w':=by
 cases r with
 | cons r1 r2=>
  cases r2 with
  | cons r3 r4=>cases r4;exact⟨_,_,rfl,r1,r3⟩
theorem UC(hc:X.calm=true):hJ X (.builtin "max") (fun xs H Q=>∃i j,xs=[.int i,.int j]/\Q (.int (if j>i then j else i)) H):=by
 walk_at "1e";obtain⟨i,j,rfl,q⟩:=h;obtain⟨u,w',rfl,⟨t,rfl⟩,⟨t',rfl⟩⟩:=AK r;refine max_two_ints (I.ok.hd hc) fun h' tk k=>⟨_,H,I.kept k,?_,q⟩
 by_cases hj:j>i
 ·rw[if_pos hj,if_pos hj];exact⟨_,rfl⟩
 ·rw[if_neg hj,if_neg hj];exact⟨_,rfl⟩
theorem UB(hc:X.calm=true):hJ X (.builtin "min") (fun xs H Q=>∃i j,xs=[.int i,.int j]/\Q (.int (if j<i then j else i)) H):=by
 walk_at "1e";obtain⟨i,j,rfl,q⟩:=h;obtain⟨u,w',rfl,⟨t,rfl⟩,⟨t',rfl⟩⟩:=AK r;refine min_two_ints (I.ok.hd hc) fun h' tk k=>⟨_,H,I.kept k,?_,q⟩
 by_cases hj:j<i
 ·rw[if_pos hj,if_pos hj];exact⟨_,rfl⟩
 ·rw[if_neg hj,if_neg hj];exact⟨_,rfl⟩
theorem UA:hJ X (.type "int") (fun xs H Q=>(∃i,xs=[.int i]/\Q (.int i) H)\/∃k,xs=[.bl k]/\Q (.int (if k then 1 else 0)) H):=by
 walk_at "1e";rcases h with⟨i,rfl,q⟩ | ⟨k,rfl,q⟩
 ·obtain⟨u,rfl,t,rfl⟩:=oE r;exact call_int_int ⟨.int i,H,I,⟨_,rfl⟩,q⟩
 ·obtain⟨u,rfl,r1⟩:=oE r;cases r1;exact call_int_bool ⟨.int (if k then 1 else 0),H,I.tok _,⟨_,rfl⟩,q⟩
end
structure tM (h:Heap) (x dx C:Addr) (mA:Str->Option Value):Prop where
 obj:h.get? x=some (PySem.W.instObj C dx)
 ns:h.Ns1 dx mA
 ne:dx≠x
theorem Uz{h:Heap}{dx:Addr}{mA:Str->Option Value}(n:h.Ns1 dx mA):∃od,h.get? dx=some od/\∀name,PySem.W.lookIn name od=some (mA name):=by
 obtain⟨o,es,ep,ho,hd,hk,_,hm⟩:=n;refine⟨o,ho,fun name=>?_⟩;have e:=hm name;unfold nsFind findBy at e;rw[<-Array.find?_toList] at e;unfold PySem.W.lookIn;rw[hd];dsimp only;split
 ·rename_i y q;rw[q] at e;exact eG some e
 ·rename_i q;rw[q] at e;have a:es.toList.any (·.refKey)=false:=by
   rw[List.any_eq_false];intro y hy;obtain⟨z,t,wB⟩:=hk y (bV.mp hy);simp[DictEntry.refKey,wB]
  have a':¬es.toList.any (·.refKey)=true:=by rw[a];exact aZ
  rw[if_neg a'];exact eG some e
theorem tM.look{h:Heap}{x dx C:Addr}{mA:Str->Option Value}(I:tM h x dx C mA):∃od,PySem.W.InstAt h x (PySem.W.instObj C dx) C (some od)/\∀name,PySem.W.lookIn name od=some (mA name):=
 let⟨od,ho,hl⟩:=Uz I.ns
 ⟨od,⟨I.obj,rfl,rfl,ho⟩,hl⟩
section
variable {prog:Program} {w:World} {A:Around} {E:Value->Shared->Prop} {s:Shared} {K:Z9} {x dx C f:Addr} {mA:Str->Option Value} {name:Str} {v:Value}
theorem RJ{expr:Bool}{Q:Value->Shared->Prop}(X:K.In s.heap)(I:tM s.heap x dx C mA)(hg:PySem.W.plainGet K C name=true)(hh:PySem.W.hasDictIn K C=true)
  (ha:PySem.W.findIn K (.ref C) name=some none) (hv:mA name=some v) (tJ:PySem.W.handedIn v=true) (h:Q v { s with toks:=s.toks+1 }) :
  wpAny (model prog w) A (getAttr (.ref x) name expr) Q E s:=by
 obtain⟨od,J,hl⟩:=I.look;exact PySem.W.get_value X J (PySem.W.plainGet_of hg).1 (PySem.W.findObj_own hh ha rfl (by rw[hl,hv])) tJ h
theorem RH{ns:List Str}{Q:Unit->Shared->Prop}(X:K.In s.heap)(I:tM s.heap x dx C mA)
  (hs:PySem.W.findIn K (.ref C) "__setattr__"=some (some (.builtin "object.__setattr__"))) (hp:PySem.W.plainOver K C=true) (ht:PySem.W.takerIn K C name=some none) (hh:PySem.W.hasDictIn K C=true)
  (hw:PySem.Within mA ns) (ic:ns.length<=sizeLine)
  (h:∀h',tM h' x dx C (fun y=>if y=name then some v else mA y)->Heap.SameBut dx s.heap h'->Q () { s with heap:=h',toks:=s.toks+2 }) :
  wpAny (model prog w) A (setAttr (.ref x) name v) Q E s:=by
 obtain⟨od,J,hl⟩:=I.look;refine PySem.W.set_plain X J hs (PySem.W.osa_open (s:={ s with toks:=s.toks+1 }) (r:=none) X J hp ht fun b=>?_);obtain⟨cd,hc,wF⟩:=PySem.W.any_some hh;have hx:s.heap.get? x=some ⟨.ref C,some dx,.plain,#[]⟩:=I.obj;refine aa (ao (aa (aa (wpAny_loadPart hx (aa (PySem.W.Looks.here (s:={ s with toks:=s.toks+1 }) (PySem.W.looks_clsIn X hc) ?_))))));rw[wF];refine ao (a:=some dx) (aa (ao (aa ?_)));refine wpAny_nsSet1 (s:={ s with toks:=s.toks+1 }) I.ns fun h' Cg uc=>?_
 obtain⟨oD,ZM,ZN,Yj,YA,YB⟩:=Cg.count (PySem.Within.cons name v hw);refine aa (wpAny_lookBehind Yj (by rw[YA];exact pastItsLine_dict (aK YB (by rw[aG];omega))) ?_);exact ao (h _ ⟨(uc.2 _ (Ne.symm I.ne)).trans I.obj,Cg,I.ne⟩ uc)
theorem SY{R:Result->Shared->Prop}{vs:List Value}{kw:List (Str×Value)}(X:K.In s.heap)(hm:PySem.W.makesIn K C=true)
  (hi:PySem.W.findIn K (.ref C) "__init__"=some (some (.ref f))) (hf:PySem.W.typeIn K (.ref f)=some (.type "function"))
  (h:codeAny (model prog w) (A.under (.builtin "type.__call__" ⟨.ref C::vs,kw⟩)) (.call (.ref f) ⟨.ref (s.heap.objs.size+1)::vs,kw⟩) (PySem.W.InitBack (s.heap.objs.size+1) R)
   { s with heap:=(s.heap.push PySem.W.emptyDict).push (PySem.W.instObj C s.heap.objs.size) }) :
  codeAny (model prog w) A (.call (.ref C) ⟨vs,kw⟩) R s:=by
 obtain⟨hh,g,d,t,os⟩:=s;exact PySem.W.make_core (PySem.W.makes_of X hm) (PySem.W.looks_findIn X hi) (fun self=>PySem.W.bind_fn X self hf) (.inl rfl) h
end
noncomputable def o8(f:Str)(v:V):List (Str×V)->List (Str×V)
 | []=>[(f,v)]
 | (g,x)::r=>if g=f then(g,v)::r else(g,x)::o8 f v r
theorem Nc(f g:Str)(v:V):∀fs:List (Str×V),(o8 f v fs).lookup g=if g=f then some v else fs.lookup g
 | []=>by
  show List.lookup g [(f,v)]=_;by_cases h:g=f
  ·have hb:(g==f)=true:=ef.mpr h;simp only[List.lookup,hb,if_pos h]
  ·have hb:(g==f)=false:=cH.mpr h;simp only[List.lookup,hb,if_neg h]
 | (k,x)::r=>by
  have ih:=Nc f g v r;rw[show o8 f v ((k,x)::r)=(if k=f then(k,v)::r else(k,x)::o8 f v r) from rfl];by_cases hk:k=f
  ·rw[if_pos hk];by_cases h:g=k
   ·have hb:(g==k)=true:=ef.mpr h;simp only[List.lookup,hb,if_pos (h.trans hk)]
   ·have hb:(g==k)=false:=cH.mpr h;simp only[List.lookup,hb,if_neg (fun e:g=f=>h (e.trans hk.symm))]
  ·rw[if_neg hk];by_cases h:g=k
   ·have hb:(g==k)=true:=ef.mpr h;simp only[List.lookup,hb,if_neg (fun e:g=f=>hk (h.symm.trans e))]
   ·have hb:(g==k)=false:=cH.mpr h;simp only[List.lookup,hb];exact ih
theorem Gm(f:Str)(v:V):∀fs:List (Str×V),f∈(o8 f v fs).map (·.1)/\∀g,g∈fs.map (·.1)->g∈(o8 f v fs).map (·.1)
 | []=>⟨by simp[o8],fun g h=>by simp at h⟩
 | (k,x)::r=>by
  obtain⟨i1,i2⟩:=Gm f v r;rw[show o8 f v ((k,x)::r)=(if k=f then(k,v)::r else(k,x)::o8 f v r) from rfl];by_cases hk:k=f
  ·rw[if_pos hk];subst hk;exact⟨by simp,fun g h=>by simpa using h⟩
  ·rw[if_neg hk];refine⟨?_,fun g h=>?_⟩
   ·rw[ay];exact aD _ i1
   ·rw[ay] at h ⊢;rcases ar.mp h with e | e
    ·exact ar.mpr (.inl e)
    ·exact aD _ (i2 g e)
theorem Nb(f:Str)(v:V):∀fs:List (Str×V),(o8 f v fs).length<=fs.length+1
 | []=>by simp[o8]
 | (k,x)::r=>by
  have ih:=Nb f v r;rw[show o8 f v ((k,x)::r)=(if k=f then(k,v)::r else(k,x)::o8 f v r) from rfl];by_cases hk:k=f
  ·rw[if_pos hk,aG,aG];omega
  ·rw[if_neg hk,aG,aG];omega
theorem rP.some_of{v:V}{o:Option Value}(r:rP (some v) o):∃u,o=some u/\RelV v u:=by
 cases o with
 | none=>exact(show False from r).elim
 | some u=>exact⟨u,rfl,r⟩
theorem Uy{v:V}{u:Value}(r:RelV v u):PySem.W.handedIn u=true:=by
 cases v with
 | non=>cases (show u=Value.none from r);rfl
 | bl b=>cases (show u=Value.bool b from r);rfl
 | int i=>obtain⟨t,e⟩:=(show ∃t,u=Value.int i t from r);cases e;rfl
 | str x=>obtain⟨t,e⟩:=(show ∃t,u=Value.str x t from r);cases e;rfl
 | EH b=>obtain⟨t,e⟩:=(show ∃t,u=Value.bytes b t from r);cases e;rfl
 | EF b=>obtain⟨t,e⟩:=(show ∃t,u=Value.float b t from r);cases e;rfl
 | ref a=>cases (show u=Value.ref a from r);rfl
 | ty n=>cases (show u=Value.type n from r);rfl
section
variable {P:Program} {w:World} {H H':Hp} {h h':Heap} {a C dx:Addr} {fs EE:List (Str×V)}
theorem Li(hV:nM P w H h)(e:H a=some (.ins C dx fs)):∃mA,tM h a dx C mA/\(∀f,rP (fs.lookup f) (mA f))/\PySem.Within mA (fs.map (·.1))/\fs.length<=1000/\H dx=some (.own a):=by
 obtain⟨d,z,ne,ob,mA,n,r,q⟩:=(show iS P w H h a (.ins C dx fs) from hV a _ e)
 exact⟨mA,⟨ob,n,ne⟩,r,q,z,d⟩
end
structure xP (K:Z9) (C:Addr):Prop where
 pg:PySem.W.plainGet K C Str.empty=true
 hd:PySem.W.hasDictIn K C=true
 po:PySem.W.plainOver K C=true
 sa:PySem.W.findIn K (.ref C) "__setattr__"=some (some (.builtin "object.__setattr__"))
theorem xP.get{K:Z9}{C:Addr}(c:xP K C)(f:Str):PySem.W.plainGet K C f=true:=c.pg
def gP(K:Z9)(C:Addr)(f:Str):Prop:=PySem.W.findIn K (.ref C) f=some none
theorem gP.BH{K:Z9}{C:Addr}{f:Str}(n:gP K C f):PySem.W.takerIn K C f=some none:=by
 unfold PySem.W.takerIn;rw[show PySem.W.findIn K (.ref C) f=some none from n];rfl
section
variable {X:Cx} {Z8:List (Addr×Obj)} {σ:St} {H:Hp} {s:Shared} {a C dx:Addr} {fs:List (Str×V)} {f:Str} {v:V} {A:Around} {E:Value->Shared->Prop}
theorem UQ{b:Bool}{Q:Value->Shared->Prop}(I:Inv X Z8 σ H s)(e:H a=some (.ins C dx fs))(c:xP X.K C)(n:gP X.K C f)(l:fs.lookup f=some v)
  (h:∀u s',Inv X Z8 σ H s'->RelV v u->Q u s'):wpAny (model X.prog X.w) A (getAttr (.ref a) f b) Q E s:=by
 obtain⟨mA,O,r,_,_,_⟩:=Li I.hV e;obtain⟨u,hu,ru⟩:=rP.some_of (v:=v) (o:=mA f) (by rw[<-l];exact r f);exact RJ I.pZ O (c.get f) c.hd n hu (Uy ru) (h u _ (I.tok _) ru)
theorem UP{y:V}{u:Value}{Q:Unit->Shared->Prop}(I:Inv X Z8 σ H s)(e:H a=some (.ins C dx fs))(c:xP X.K C)(n:gP X.K C f)(hl:fs.length<1000)(ry:RelV y u)
  (h:∀s',Inv X Z8 σ (upd H a (.ins C dx (o8 f y fs))) s'->Q () s'):wpAny (model X.prog X.w) A (setAttr (.ref a) f u) Q E s:=by
 obtain⟨mA,O,r,wi,_,ho⟩:=Li I.hV e;have hz:(fs.map (·.1)).length<=sizeLine:=by rw[ae,sizeLine_eq];omega
 refine RH I.pZ O c.sa c.po n.BH c.hd wi hz fun h' O' sb=>h _ ?_
 have hd:∃o,h'.get? dx=some o:=let⟨o,_,_,e',_⟩:=O'.ns;⟨o,e'⟩
 refine I.write (x:=a) (e:=dx) (by rw[e];exact True.intro) (.inr ho) (fun b q hb z=>(sb.2 b hb).trans z) hd ?_;refine⟨by rw[iy O.ne];exact ho,?_,O.ne,O'.obj,_,O'.ns,fun g=>?_,fun g hg=>?_⟩
 ·have:=Nb f y fs;omega
 ·show rP ((o8 f y fs).lookup g) (if g=f then some u else mA g);rw[Nc];by_cases q:g=f
  ·rw[if_pos q,if_pos q];exact ry
  ·rw[if_neg q,if_neg q];exact r g
 ·by_cases q:g=f
  ·rw[q];exact(Gm f y fs).1
  ·refine(Gm f y fs).2 g (wi g fun z=>hg ?_);show(if g=f then some u else mA g)=none;rw[if_neg q];exact z
theorem Inv.made(I:Inv X Z8 σ H s):Inv X Z8 σ (upd (upd H s.heap.objs.size (.own (s.heap.objs.size+1))) (s.heap.objs.size+1) (.ins C s.heap.objs.size []))
  { s with heap:=(s.heap.push PySem.W.emptyDict).push (PySem.W.instObj C s.heap.objs.size) }:=by
 have e1:(s.heap.push PySem.W.emptyDict).get? s.heap.objs.size=some PySem.W.emptyDict:=az s.heap rfl;have e2:((s.heap.push PySem.W.emptyDict).push (PySem.W.instObj C s.heap.objs.size)).get? (s.heap.objs.size+1)=some (PySem.W.instObj C s.heap.objs.size):=by
  have:=az (s.heap.push PySem.W.emptyDict) (o:=PySem.W.instObj C s.heap.objs.size) rfl;rwa [cV] at this
 have e3:(s.heap.push PySem.W.emptyDict).Ns s.heap.objs.size (fun _=>none):=⟨PySem.W.emptyDict,#[],_,e1,rfl,(fun e he=>absurd he (by simp)),fun _=>rfl⟩
 have I1:=I.laid (a:=s.heap.objs.size) (o:=.own (s.heap.objs.size+1)) (h':=s.heap.push PySem.W.emptyDict) (t':=s.toks) (fun b u q=>aj _ q) (aA _) ⟨_,e1⟩;refine I1.laid (a:=s.heap.objs.size+1) (o:=.ins C s.heap.objs.size []) (t':=s.toks) (fun b u q=>aj _ q) (Nat.le_of_eq (cV _ _)) ?_;have ne:s.heap.objs.size≠s.heap.objs.size+1:=aJ (e8 _);refine⟨by rw[iy ne,lA],a9 _,ne,e2,fun _=>none,(Heap.Ns1.of_empty e3).at fun o q=>aj _ q,fun _=>True.intro,fun y hy=>absurd rfl hy⟩
theorem RG{prog:Program}{w:World}{env:Env}{e:Expr}{f:Str}{pos:Pos}{s:Shared}{Q:Value->Shared->Prop}(hb:attributeBase e f env (eval e env)=eval e env)
  (h:wpAny (model prog w) A (eval e env) (fun o gM=>wpAny (model prog w) A (getAttr o f true) Q E gM) E s):wpAny (model prog w) A (eval (.Attribute e f pos) env) Q E s:=
 Attribute_any_ h (by rw[arm_eval_Attribute,hb])
end
def OQ(K:Z9)(ta:TE)(f:Str):TE:=fun σ H Q=>ta σ H fun x H1=>∃a C dx fs v,x=.ref a/\H1 a=some (.ins C dx fs)/\xP K C/\gP K C f/\fs.lookup f=some v/\Q v H1
def OP(K:Z9)(ta tv:TE)(f:Str):TS:=fun D σ H=>tv σ H fun y H1=>ta σ H1 fun x H2=>∃a C dx fs,x=.ref a/\H2 a=some (.ins C dx fs)/\xP K C/\gP K C f/\fs.length<1000/\
 D.nx σ (upd H2 a (.ins C dx (o8 f y fs)))
section
variable {X:Cx} {o e value:Expr} {f:Str} {pos pos' vZ:Pos} {ta tv:TE}
theorem Qc(he:PE X e ta)(hb:attributeBase e f X.env (eval e X.env)=eval e X.env):PE X (.Attribute e f pos) (OQ X.K ta f):=by
 intro Z8 s σ H Q I h;refine RG hb (hE (he Z8 s σ H _ I h) fun u s1 gD=>?_);obtain⟨x,H1,I1,rx,a,C,dx,fs,v,ex,ea,c,n,l,q⟩:=gD;subst ex;obtain rfl:u=Value.ref a:=rx;exact UQ I1 ea c n l fun u' s2 I2 ru=>⟨v,H1,I2,ru,q⟩
theorem Qb(ha:PE X o ta)(hv:PE X value tv)(hs:swapsWith value (some (.Attribute o f pos')) pos.line X.env=pure false):PS X (.Assign [.Attribute o f pos'] value pos) (OP X.K ta tv f):=by
 intro Z8 s σ H D I h;refine plainObj_wpAny_Assign_Attribute (hE (hv Z8 s σ H _ I h) fun u s1 gD=>?_) hs;obtain⟨y,H1,I1,ry,q⟩:=gD;refine hE (ha Z8 s1 σ H1 _ I1 q) fun ov s2 gD=>?_
 obtain⟨x,H2,I2,rx,a,C,dx,fs,ex,ea,c,n,l,q2⟩:=gD;subst ex;obtain rfl:ov=Value.ref a:=rx;exact UP I2 ea c n l ry fun s3 I3=>⟨σ,_,I3,q2⟩
end
structure iL (k:Nat) (A:Around):Prop where
 hd:A.handled=none
 dp:A.depth+3*k+5<recursionLimit
 un:A.units+16*k+200<cLine
theorem iL.mono{j k:Nat}{A:Around}(r:iL k A)(h:j<=k):iL j A:=⟨r.hd,by have:=r.dp;omega,by have:=r.un;omega⟩
theorem iL.deeper{k:Nat}{A:Around}(r:iL (k+1) A)(env:Env):iL k (A.deeper env):=
 ⟨r.hd,by have:=r.dp;show A.depth+1+3*k+5<_;omega,by have:=r.un;show A.units+3+16*k+200<_;omega⟩
theorem UO{A:Around}{C:Addr}{us:List Value}{kw:List (Str×Value)}:(A.under (.builtin "type.__call__" ⟨.ref C::us,kw⟩)).depth=A.depth+1:=by
 first | rfl | simp[Around.under,Code.weight,Code.isCreation,Code.isGuard,Code.isCaller,Code.frames,Code.isFrame,guardIds]
theorem UN{A:Around}{C:Addr}{us:List Value}{kw:List (Str×Value)}:(A.under (.builtin "type.__call__" ⟨.ref C::us,kw⟩)).units=A.units+1:=by
 first | rfl | simp[Around.under,Code.cUnits,Code.frames,Code.isFrame]
theorem iL.make{k:Nat}{A:Around}(r:iL (k+1) A)(C:Addr)(us:List Value)(kw:List (Str×Value)):iL k (A.under (.builtin "type.__call__" ⟨.ref C::us,kw⟩)):=
 ⟨r.hd,by have:=r.dp;rw[UO];omega,by have:=r.un;rw[UN];omega⟩
theorem iL.depth{k:Nat}{A:Around}(r:iL k A):A.depth<recursionLimit:=by have:=r.dp;omega
theorem iL.units{k:Nat}{A:Around}(r:iL k A):A.units+64<cLine:=by have:=r.un;omega
noncomputable def Jv:TA:=fun _ H Q=>Q [] H
noncomputable def JM(ta:TE)(tr:TA):TA:=fun σ H Q=>ta σ H fun x H1=>tr σ H1 fun xs H2=>Q (x::xs) H2
section
variable {X:Cx} {e:Expr} {es:List Expr} {te:TE} {t:TA} {pos:Pos}
theorem tY:PA X [] Jv:=fun _ _ _ _ H Q I h=>Calls.spliced_nil ⟨[],H,I,.nil,h⟩
theorem tq(ha:PE X e te)(hr:PA X es t)(hs:starEach (e::es) X.env=(false,eval e X.env)::starEach es X.env:=by rfl):PA X (e::es) (JM te t):=by
 intro pos Z8 s σ H Q I h;rw[hs];show wpAny _ _ (spliced ((false,eval e X.env)::backTo pos (starEach es X.env))) _ _ s;refine Calls.spliced_cons (hE (ha Z8 s σ H _ I h) fun u s1 gD=>?_);walk_at "1f";exact hE (hr pos Z8 s1 σ H1 _ I1 q1) fun us s2 gD=>by obtain⟨xs,H2,I2,r2,q2⟩:=gD;exact⟨x::xs,H2,I2,.cons r1 r2,q2⟩
def OO(t:TA):TE:=fun σ H Q=>t σ H fun xs H1=>xs.length<=sizeLine/\∀p,H1 p=none->Q (.ref p) (upd H1 p (.tup xs))
def ON(t:TA):TE:=fun σ H Q=>t σ H fun xs H1=>xs.length<=sizeLine/\∀p,H1 p=none->Q (.ref p) (upd H1 p (.lst xs))
theorem Qa{x1}(h:PA X es t):PE X (.Tuple es x1 pos) (OO t):=by
 intro Z8 s σ H Q I hq;refine wpAny_Tuple_spliced (hE (h pos Z8 s σ H _ I hq) fun us s1 ⟨xs,H1,I1,r,z,q⟩=>⟨by rw[<-r.length];exact z,?_⟩);have hf:H1 s1.heap.objs.size=none:=I1.hV.fresh (aA _);refine⟨.ref s1.heap.objs.size,upd H1 s1.heap.objs.size (.tup xs),I1.laid (t':=s1.toks) (fun b u e=>aj _ e) (aA _) ?_,rfl,q _ hf⟩;exact⟨z,us,r,⟨_,az _ rfl,rfl,_,rfl⟩⟩
theorem P9(h:PA X es t):PE X (.List es pos) (ON t):=by
 intro Z8 s σ H Q I hq;refine wpAny_List_spliced (hE (h pos Z8 s σ H _ I hq) fun us s1 ⟨xs,H1,I1,r,z,q⟩=>⟨by rw[<-r.length];exact z,?_⟩);have hf:H1 s1.heap.objs.size=none:=I1.hV.fresh (aA _);refine⟨.ref s1.heap.objs.size,upd H1 s1.heap.objs.size (.lst xs),I1.laid (t':=s1.toks) (fun b u e=>aj _ e) (aA _) ?_,rfl,q _ hf⟩;exact⟨z,us,0,r,az _ rfl⟩
end
noncomputable abbrev Sp:=List V->Hp->VK->XK->Prop
noncomputable abbrev vC:=List Env->Hp->Shared->XK->Value->Shared->Prop
structure rS (P:Program) (w:World) (K:Z9) (mg:Str->Option Value) (base:Heap) (A:Around) (outer:List Env) (s:Shared) (H:Hp):Prop where
 frames:A.frames=some outer
 mod:Mod K mg base
 bs:∀b o,base.get? b=some o->s.heap.get? b=some o/\H b=none
 xI:base.objs.size<=s.heap.objs.size
 nC:s.heap.FunFrames base outer
 yT:∀b∈uU outer,H b=none
 hV:nM P w H s.heap
 bare:AllBare s.gens
def CE(outer:List Env)(P:Program)(w:World)(H:Hp)(s:Shared)(Q:VK)(u:Value)(s':Shared):Prop:=
 ∃v H',s'.os=s.os/\AllBare s'.gens/\Un (uU outer) [] H H' s.heap s'.heap/\nM P w H' s'.heap/\RelV v u/\Q v H'
def CR(CX:vC)(outer:List Env)(P:Program)(w:World)(H:Hp)(s:Shared)(Q:VK)(E:XK)(r:Result)(s':Shared):Prop:=
 match r with
 | .ok (.ret u)=>CE outer P w H s Q u s'
 | .ok _=>False
 | .error e=>CX outer H s E e s'
structure lH (P:Program) (w:World) (K:Z9) (mg:Str->Option Value) (base:Heap) (CX:vC) (k:Nat) (f:Addr) (fd:FuncData) (ps:List Str) (sp:Sp):Prop where
 len:∀vs H Q E,sp vs H Q E->vs.length=ps.length
 run:∀(A:Around) (outer:List Env) (s:Shared) (H:Hp) (args:Args) (us:List Value) (vs:List V) (Q:VK) (E:XK),iL k A->rS P w K mg base A outer s H->BindsTo s fd args (ps.zip us)->Vals vs us->sp vs H Q E->
  codeAny (model P w) A (.call (.ref f) args) (CR CX outer P w H s Q E) s
theorem rS.make{P:Program}{w:World}{K:Z9}{mg:Str->Option Value}{base:Heap}{A:Around}{outer:List Env}{s:Shared}{H:Hp}(e:rS P w K mg base A outer s H)(C:Addr)(us:List Value)(kw:List (Str×Value)) :
  rS P w K mg base (A.under (.builtin "type.__call__" ⟨.ref C::us,kw⟩)) outer s H:=⟨by first | exact e.frames | (simpa[Around.under,Code.envs,Code.isFrame,pushEnvs] using e.frames),e.mod,e.bs,e.xI,e.nC,e.yT,e.hV,e.bare⟩
section
variable {X:Cx} {Z8:List (Addr×Obj)} {σ:St} {H:Hp} {s s':Shared}
theorem Inv.CD(I:Inv X Z8 σ H s):rS X.prog X.w X.K X.mg X.base X.A X.stack s H:=
 ⟨I.ok.frames,I.ok.mod,I.bs,aK I.ok.xI I.sz,I.stack,I.sA,I.hV,I.bare⟩
theorem Inv.after{Q:VK}{u:Value}(I:Inv X Z8 σ H s)(h:CE X.stack X.prog X.w H s Q u s'):EP X Z8 σ Q u s':=by
 obtain⟨v,H',os,bare,un,hV,r,q⟩:=h;obtain⟨hh,g,d,t,HJ⟩:=s';obtain rfl:HJ=s.os:=os;exact⟨v,H',I.call (h':=hh) (g':=g) (d':=d) (t':=t) (ch:=[]) un hV bare (fun b z=>absurd z (by simp)),r,q⟩
end
def O8(sp:Sp)(rN:List V)(E:XK)(t:TA):TE:=fun σ H Q=>t σ H fun vs H1=>sp (vs++rN) H1 Q E
def O7(C:Addr)(sp:Sp)(rN:List V)(E:XK)(t:TA):TE:=fun σ H Q=>t σ H fun vs H1=>∀x dx,H1 x=none->H1 dx=none->dx≠x->
 sp (.ref x::(vs++rN)) (upd (upd H1 dx (.own x)) x (.ins C dx [])) (fun v H2=>v=.non/\Q (.ref x) H2) E
def Binds(K:Z9)(fd:FuncData)(ps:List Str)(ds:List Value):Prop:=
 ∀(s:Shared) (us:List Value),K.In s.heap->(us++ds).length=ps.length->BindsTo s fd ⟨us,[]⟩ (ps.zip (us++ds))
theorem Binds.all{K:Z9}{fd:FuncData}{ps:List Str}(h:∀us:List Value,us.length=ps.length->bindArgs fd ⟨us,[]⟩=pure (ps.zip us)):Binds K fd ps []:=fun s us _ hl=>by
 rw[ba] at hl ⊢;exact .of_eq (h us hl)
def AO(CX:vC)(X:Cx)(E:XK):Prop:=∀(Z8:List (Addr×Obj)) (σ:St) (H:Hp) (s:Shared) (e:Value) (s':Shared),Inv X Z8 σ H s->CX X.stack H s E e s'->X.xe e s'
section
variable {X:Cx} {CX:vC} {k:Nat} {f C:Addr} {fd:FuncData} {ps:List Str} {sp:Sp} {rN:List V} {ds:List Value} {E:XK} {x m:Str} {p pos apos:Pos} {e o:Expr} {es:List Expr} {ta:TE} {t:TA}
theorem P8{Z8:List (Addr×Obj)}{σ:St}{H:Hp}{s:Shared}{Q:VK}{us:List Value}{vs:List V}(F:lH X.prog X.w X.K X.mg X.base CX k f fd ps sp)(hr:iL k X.A)(hb:Binds X.K fd ps ds)(hd:Vals rN ds)(hx:AO CX X E)
  (I:Inv X Z8 σ H s) (r:Vals vs us) (h:sp (vs++rN) H Q E):wpAny (model X.prog X.w) X.A (call (.ref f) us) (EP X Z8 σ Q) X.xe s:=by
 have r2:Vals (vs++rN) (us++ds):=r.append hd;have hl:(us++ds).length=ps.length:=by rw[<-r2.length];exact F.len _ _ _ _ h
 refine wpAny_call (fb (F.run X.A X.stack s H ⟨us,[]⟩ (us++ds) (vs++rN) Q E hr I.CD (hb s us I.pZ hl) r2 h) fun r s' hq=>?_);cases r with
 | error e=>exact hx Z8 σ H s e s' I hq
 | ok fl=>
  cases fl with
  | ret u=>exact I.after hq
  | next=>exact False.elim hq
  | brk=>exact False.elim hq
  | cont=>exact False.elim hq
theorem RF(F:lH X.prog X.w X.K X.mg X.base CX k f fd ps sp)(hr:iL k X.A)(hg:Gl X x)(hm:X.mg x=some (.ref f))(hk:PySem.W.keepIn X.K (.ref f)=true)(hb:Binds X.K fd ps ds)(hd:Vals rN ds)(hx:AO CX X E)
  (ha:PA X (e::es) t) (qE:(x==("__debug__":Str))=false:=by decide) (he:starEach (e::es) X.env=(false,eval e X.env)::starEach es X.env:=by rfl) (kS:(backTo pos (starEach es X.env)).any (·.1)=false:=by rfl) :
  PE X (.Call (.Name x p) (e::es) [] pos) (O8 sp rN E t):=by
 intro Z8 s σ H Q I h;refine c7 (Lm I hg hm ?_ qE);refine PySem.W.callWith_K (h₀:=X.base) I.ok.mod.zZ hk (hE (ha pos Z8 s σ H _ I h) fun us s1 gD=>?_) he kS;obtain⟨vs,H1,I1,r,q⟩:=gD;refine⟨I1.pZ,?_⟩;exact P8 F hr hb hd hx I1 r q
structure Mk (K:Z9) (C f:Addr):Prop where
 makes:PySem.W.makesIn K C=true
 init:PySem.W.findIn K (.ref C) "__init__"=some (some (.ref f))
 fn:PySem.W.isFn K (.ref f)=true
 kp:PySem.W.keepIn K (.ref C)=true
theorem SX{Z8:List (Addr×Obj)}{σ:St}{H:Hp}{s:Shared}{Q:VK}{us:List Value}{vs:List V}(M:Mk X.K C f)(F:lH X.prog X.w X.K X.mg X.base CX k f fd ps sp)(hr:iL (k+1) X.A)(hb:Binds X.K fd ps ds)(hd:Vals rN ds)
  (hx:AO CX X E) (I:Inv X Z8 σ H s) (r:Vals vs us)
  (h:∀x dx,H x=none->H dx=none->dx≠x->sp (.ref x::(vs++rN)) (upd (upd H dx (.own x)) x (.ins C dx [])) (fun v H2=>v=.non/\Q (.ref x) H2) E) :
  wpAny (model X.prog X.w) X.A (call (.ref C) us) (EP X Z8 σ Q) X.xe s:=by
 have hq:=h (s.heap.objs.size+1) s.heap.objs.size (I.hV.fresh (bY _)) (I.hV.fresh (aA _)) (aJ (e8 _));have I2:=Inv.made (C:=C) I;have r2:Vals (V.ref (s.heap.objs.size+1)::(vs++rN)) (Value.ref (s.heap.objs.size+1)::(us++ds)):=.cons rfl (r.append hd);have hl:(Value.ref (s.heap.objs.size+1)::us++ds).length=ps.length:=by
  have e:=r2.length;rw[F.len _ _ _ _ hq] at e;exact e.symm
 refine wpAny_call (SY (f:=f) I.pZ M.makes M.init (ef.mp M.fn) (fb (F.run _ X.stack _ _ ⟨Value.ref (s.heap.objs.size+1)::us,[]⟩ (Value.ref (s.heap.objs.size+1)::(us++ds)) _ _ E (hr.make C us [])
  (I2.CD.make C us []) (hb _ (Value.ref (s.heap.objs.size+1)::us) I2.pZ hl) r2 hq) fun r s' sL=>?_))
 cases r with
 | error e=>exact hx Z8 σ _ _ e s' I2 sL
 | ok fl=>
  cases fl with
  | ret u=>
   obtain⟨v,H',I3,rv,ev,q3⟩:=I2.after sL;subst ev;exact⟨rv,⟨V.ref (s.heap.objs.size+1),H',I3,rfl,q3⟩⟩
  | next=>exact False.elim sL
  | brk=>exact False.elim sL
  | cont=>exact False.elim sL
theorem RE(M:Mk X.K C f)(F:lH X.prog X.w X.K X.mg X.base CX k f fd ps sp)(hr:iL (k+1) X.A)(hg:Gl X x)(hm:X.mg x=some (.ref C))(hb:Binds X.K fd ps ds)(hd:Vals rN ds)(hx:AO CX X E)
  (ha:PA X (e::es) t) (qE:(x==("__debug__":Str))=false:=by decide) (he:starEach (e::es) X.env=(false,eval e X.env)::starEach es X.env:=by rfl) (kS:(backTo pos (starEach es X.env)).any (·.1)=false:=by rfl) :
  PE X (.Call (.Name x p) (e::es) [] pos) (O7 C sp rN E t):=by
 intro Z8 s σ H Q I h;refine c7 (Lm I hg hm ?_ qE);refine PySem.W.callWith_K (h₀:=X.base) I.ok.mod.zZ M.kp (hE (ha pos Z8 s σ H _ I h) fun us s1 gD=>?_) he kS;obtain⟨vs,H1,I1,r,q⟩:=gD;refine⟨I1.pZ,?_⟩;exact SX M F hr hb hd hx I1 r q
end
def PK(X:Cx)(B6:List Keyword)(t:TA):Prop:=
 ∀(pos:Pos) (Z8:List (Addr×Obj)) (s:Shared) (σ:St) (H:Hp) (Q:List V->Hp->Prop),Inv X Z8 σ H s->t σ H Q->wpAny (model X.prog X.w) X.A (evalAll ((backToKw pos (keywordEach B6 X.env)).map (·.2))) (AP X Z8 σ Q) X.xe s
section
variable {X:Cx} {CX:vC} {k:Nat} {f C:Addr} {fd:FuncData} {ps ks:List Str} {sp:Sp} {E:XK} {x m:Str} {p pos apos HX:Pos} {e o:Expr} {es:List Expr} {B6:List Keyword} {te ta:TE} {t tk:TA} {nm:Option Str}
theorem P7:PK X [] Jv:=fun _ _ _ _ H Q I h=>wpAny_evalAll_nil ⟨[],H,I,.nil,h⟩
theorem RD(ha:PE X e te)(hr:PK X B6 t):PK X (⟨nm,e,HX⟩::B6) (JM te t):=by
 intro pos Z8 s σ H Q I h;show wpAny _ _ (evalAll ((do let v <-eval e X.env;standAt pos;pure v)::(backToKw pos (keywordEach B6 X.env)).map (·.2))) _ _ s;refine wpAny_evalAll_cons (aa (hE (ha Z8 s σ H _ I h) fun u s1 gD=>?_));walk_at "1f";refine aa (fY (ao ?_));exact hE (hr pos Z8 s1 σ H1 _ I1 q1) fun us s2 gD=>by obtain⟨xs,H2,I2,r2,q2⟩:=gD;exact⟨x::xs,H2,I2,.cons r1 r2,q2⟩
variable {g:List Value->List Value->List Value} {gV:List V->List V->List V}
end
structure gn (N P:List Str) (sc:Scope):Prop where
 kind:sc.kind=.function
 co:sc.isCoroutine=false
 gen:sc.isGenerator=false
 nd:N.Nodup
 pre:N.take P.length=P
 par:∀x∈P,sc.names.lookup x=some .local\/sc.names.lookup x=some .cell
 yx:∀y∈sc.names,y.2≠.free
theorem Mn{kindOf:Str->Option NameKind}{x:Str}:∀{binds:List (Str×Value)} {m:Str->Option Value},(∀v,(x,v)∉binds)->bindL kindOf binds m x=m x
 | [],_,_=>rfl
 | (n,v)::r,m,h=>by
  unfold bindL;rw[Mn fun w hw=>h w (aD _ hw)];split
  ·have:x≠n:=by rintro rfl;exact h v bj
   simp[this]
  ·rfl
theorem MG{kindOf:Str->Option NameKind}{x:Str}:∀{binds:List (Str×Value)} {m:Str->Option Value},(∀v,(x,v)∉binds)->bindC kindOf binds m x=m x
 | [],_,_=>rfl
 | (n,v)::r,m,h=>by
  unfold bindC;rw[MG fun w hw=>h w (aD _ hw)];split
  ·rfl
  ·have:x≠n:=by rintro rfl;exact h v bj
   simp[this]
theorem MF{kindOf:Str->Option NameKind}{x:Str}{v:Value}:∀{P:List Str} {vs:List Value} {i:Nat} {m:Str->Option Value},P.Nodup->P[i]?=some x->vs[i]?=some v->kindOf x=some .local->
  bindL kindOf (P.zip vs) m x=some v
 | [],_,_,_,_,h,_,_=>by simp at h
 | _::_,[],_,_,_,_,h,_=>by simp at h
 | p::P,w::vs,0,m,nd,h1,h2,hk=>by
  simp at h1 h2;subst h1;subst h2;show bindL kindOf ((p,w)::P.zip vs) m p=_;unfold bindL;rw[Mn fun v hv=>(bO.mp nd).1 (cw hv).1,if_pos hk];simp
 | p::P,w::vs,i+1,m,nd,h1,h2,hk=>by
  show bindL kindOf ((p,w)::P.zip vs) m x=_;unfold bindL;exact MF (i:=i) (bO.mp nd).2 (by simpa using h1) (by simpa using h2) hk
theorem ME{kindOf:Str->Option NameKind}{x:Str}{v:Value}:∀{P:List Str} {vs:List Value} {i:Nat} {m:Str->Option Value},P.Nodup->P[i]?=some x->vs[i]?=some v->kindOf x≠some .local->
  bindC kindOf (P.zip vs) m x=some v
 | [],_,_,_,_,h,_,_=>by simp at h
 | _::_,[],_,_,_,_,h,_=>by simp at h
 | p::P,w::vs,0,m,nd,h1,h2,hk=>by
  simp at h1 h2;subst h1;subst h2;show bindC kindOf ((p,w)::P.zip vs) m p=_;unfold bindC;rw[MG fun v hv=>(bO.mp nd).1 (cw hv).1,if_neg hk];simp
 | p::P,w::vs,i+1,m,nd,h1,h2,hk=>by
  show bindC kindOf ((p,w)::P.zip vs) m x=_;unfold bindC;exact ME (i:=i) (bO.mp nd).2 (by simpa using h1) (by simpa using h2) hk
noncomputable def oO(N:List Str)(vs:List V):St:=vs.map some++List.replicate (N.length-vs.length) none
noncomputable def tS(CX:vC)(P:Program)(w:World)(K:Z9)(mg:Str->Option Value)(base:Heap)(N:List Str)(qual:Str)(scope:Scope)(f:Addr)(cd:Value)(A:Around)(outer:List Env)(s:Shared)(H:Hp)(E:XK):Cx where
 prog:=P
 w:=w
 K:=K
 mg:=mg
 base:=base
 A:=A.deeper (envOfC qual scope s.heap.objs.size f cd)
 N:=N
 ju:=s
 u6:=H
 env:=envOfC qual scope s.heap.objs.size f cd
 outer:=outer
 stack:=envOfC qual scope s.heap.objs.size f cd::outer
 ex:=[]
 calm:=true
 fn:=fun _=>true
 pn:=[]
 xe:=fun e s'=>wpAny (model P w) (A.deeper (envOfC qual scope s.heap.objs.size f cd)) (leaving (envOfC qual scope s.heap.objs.size f cd) e) (fun _ HA=>CX outer H s E e HA) (fun e' HA=>CX outer H s E e' HA) s'
theorem Mi{sc:Scope}{n:Nat}{x:Str}(h:sc.names.lookup x=some .cell):∃c,(cellsFrom n sc.names []).lookup x=some c:=by
 have q:=PySem.W.cellsFrom_some sc.names n [] (.inl h);exact Option.isSome_iff_exists.mp q
theorem Ux{CX:vC}{P:Program}{w:World}{K:Z9}{mg:Str->Option Value}{base:Heap}{N ps:List Str}{qual:Str}{scope:Scope}{f:Addr}{cd:Value}{A:Around}{outer:List Env}{s s1:Shared}{H:Hp}{E:XK}{us:List Value}{vs:List V}
  (S:gn N ps scope) (hd:A.handled=none) (e0:rS P w K mg base A outer s H) (hl:vs.length=ps.length) (r:Vals vs us)
  (x:InCallC s s.heap.objs.size (bindL (envOfC qual scope s.heap.objs.size f cd).kindOf (ps.zip us) fun _=>none) (cellsFrom (s.heap.objs.size+1) scope.names []) (bindC (envOfC qual scope s.heap.objs.size f cd).kindOf (ps.zip us) fun _=>none) s1) :
  Inv (tS CX P w K mg base N qual scope f cd A outer s H E) [] (oO N vs) H s1:=by
 have kS:ps.length<=N.length:=by have:=eG List.length S.pre;rw[aN] at this;omega
 obtain⟨h1,tk,rfl,hk⟩:=x.done;have BX:∀b:Addr,b∉(tS CX P w K mg base N qual scope f cd A outer s H E).ex:=fun b z=>absurd (show b∈([]:List Addr) from z) (by simp)
 refine⟨⟨e0.mod,S.kind,rfl,rfl,aA _,fun y z c h1 h2=>?_,fun y hy=>?_,fun y c _ h=>?_,fun _=>hd,Around.frames_deeper e0.frames,.inr ⟨rfl,rfl⟩,fun b z=>absurd z (BX b),e0.bs,e0.xI,fun b _ _=>BX b,fun b z=>absurd z (BX b),e0.nC,e0.yT⟩,
  rfl,e0.bare,Un.kept hk,⟨_,x.toInCall.ns,fun i y v h1 h2 h3=>?_⟩,fun y c h=>⟨_,x.cell y c h⟩,e0.hV.fresh (aA _),fun y c h=>?_,fun p hp=>absurd (show p∈([]:List (Addr×Obj)) from hp) (by simp),e0.hV.kept hk,?_⟩
 ·exact name_of_addr x.apart (cI h1) (cI h2)
 ·have hy:scope.names.lookup y=some .cell\/scope.names.lookup y=some .free:=hy;rcases hy with hy | hy
  ·exact Mi hy
  ·exact absurd rfl (S.yx _ (cI hy))
 ·exact Nat.le_of_lt (x.above y c (cI h))
 ·have hi:i<vs.length:=by
   unfold oO at h2;by_cases hi:i<vs.length
   ·exact hi
   ·rw[List.getElem?_append_right (by simpa using hi)] at h2;rw[List.getElem?_replicate] at h2;split at h2<;>cases h2
  have ha:vs[i]?=some v:=by
   unfold oO at h2;rw[List.getElem?_append_left (by simpa using hi),aH] at h2;cases e:vs[i]? with
   | none=>rw[e] at h2;cases h2
   | some a=>rw[e] at h2;cases h2;rfl
  obtain⟨u,hu,rv⟩:=r.get ha;have hp:ps[i]?=some y:=by
   rw[<-S.pre,List.getElem?_take_of_lt (by omega)];exact h1
  have NI:ps.Nodup:=by rw[<-S.pre];exact S.nd.sublist (fK _ _)
  refine⟨u,rv,?_⟩;rcases S.par y (aU hp) with k | k
  ·exact .inl ⟨k,MF NI hp hu k⟩
  ·obtain⟨c,e⟩:=Mi (n:=s.heap.objs.size+1) k;refine .inr ⟨.inl k,c,e,?_⟩;have q:=x.cell y c e;rw[ME NI hp hu (by show scope.names.lookup y≠_;rw[k];decide)] at q;exact q
 ·exact e0.hV.fresh (Nat.le_of_lt (x.above y c (cI h)))
 ·unfold oO;show _=N.length;rw[au,ae,List.length_replicate];omega
theorem O6{CX:vC}{P:Program}{w:World}{K:Z9}{mg:Str->Option Value}{base:Heap}{k:Nat}{f:Addr}{name qual:Str}{params:Arguments}{body:List Stmt}{scope:Scope}{dV kV doc pm gN ct oc:Value}{an od:Option Addr}
  {rq:Array (Option Value)} {N ps:List Str} {sp:Sp} (lk:K.lookup f=some ⟨oc,od,.func (PySem.W.fnOf name qual params body scope dV kV doc pm an gN ct),rq⟩) (kP:PySem.W.codeIn K gN qual=true) (S:gn N ps scope)
  (len:∀vs H Q E,sp vs H Q E->vs.length=ps.length)
  (uR:∀(A:Around) (outer:List Env) (s:Shared) (H:Hp) (vs:List V) (Q:VK) (E:XK),iL k (A.deeper (envOfC qual scope s.heap.objs.size f gN))->sp vs H Q E->
   ∃t,rR (tS CX P w K mg base N qual scope f gN A outer s H E) body t/\t { nx:=fun _ H'=>Q .non H',rt:=Q } (oO N vs) H) :
  lH P w K mg base CX (k+1) f (PySem.W.fnOf name qual params body scope dV kV doc pm an gN ct) ps sp:=by
 refine⟨len,fun A outer s H args us vs Q E hr e0 hb r z9=>?_⟩;have hl:=len _ _ _ _ z9;have KX:K.In s.heap:=e0.mod.zZ.keeps fun b o e=>(e0.bs b o e).1
 have lim:s.heap.NoLimit:=e0.mod.nolimit.keeps fun b o e=>(e0.bs b o e).1
 have sO:∀y∈ps.zip us,scope.names.lookup y.1=some .local\/(scope.names.lookup y.1=some .cell/\((cellsFrom (s.heap.objs.size+1) scope.names []).lookup y.1).isSome=true):=fun⟨n,v⟩ hy=>by
  rcases S.par n (cw hy).1 with q | q
  ·exact .inl q
  ·exact .inr ⟨q,PySem.W.cellsFrom_some _ _ _ (.inl q)⟩
 refine codeAny_call_function hr.depth (KX _ _ lk) rfl S.co S.gen rfl (PySem.W.codeRec_of KX kP) (hb _ _ _ _ ?_);refine wpAny_newFunctionEnv_cells S.kind sO fun env he s1 x=>?_
 subst he;refine⟨lim.keeps x.toInCall.keep,codeAny_func ?_⟩;obtain⟨t,ht,hq⟩:=uR A outer s H vs Q E (hr.deeper _) z9;have I:Inv (tS CX P w K mg base N qual scope f gN A outer s H E) [] (oO N vs) H s1:=Ux S hr.hd e0 hl r x;refine dQ (ht [] s1 (oO N vs) H _ I hq) (fun fl s' hs=>?_) fun e s' hs=>hs
 have fin:∀{gK:St} {H':Hp} {v:V} {u:Value},Inv (tS CX P w K mg base N qual scope f gN A outer s H E) [] gK H' s'->RelV v u->Q v H'->CE outer P w H s Q u s':=
  fun{gK H' v u} J rv q=>⟨v,H',J.os,J.bare,J.base,J.hV,rv,q⟩
 cases fl with
 | ret u=>
  obtain⟨v,gK,H',J,rv,q⟩:=hs;exact fin J rv q
 | next=>
  obtain⟨gK,H',J,q⟩:=hs;exact fin (v:=V.non) (u:=Value.none) J rfl q
 | brk=>
  obtain⟨_,_,_,q⟩:=hs;exact False.elim q
 | cont=>
  obtain⟨_,_,_,q⟩:=hs;exact False.elim q
section
variable {X:Cx} {x:Str} {p pos:Pos} {e:Expr} {es:List Expr} {t:TA} {id T:String} {r:List V->Hp->VK->Prop}
def Eg(r:List V->Hp->VK->Prop)(t:TA):TE:=fun σ H Q=>t σ H fun vs H1=>r vs H1 Q
theorem A8(hc:hJ X (.builtin id) r)(hg:Gl X x)(hm:X.mg x=none)(hv:bootBuiltins x=some (.builtin id))(ha:PA X (e::es) t)(hn:x≠"__name__":=by decide)(qE:(x==("__debug__":Str))=false:=by decide)
  (he:starEach (e::es) X.env=(false,eval e X.env)::starEach es X.env:=by rfl) (kS:(backTo pos (starEach es X.env)).any (·.1)=false:=by rfl):PE X (.Call (.Name x p) (e::es) [] pos) (Eg r t):=by
 intro Z8 s σ H Q I h;refine c7 (vP I hg hm hv ?_ hn qE);exact PyProof.Rows.callWith_builtin1 (hE (ha pos Z8 s σ H _ I h) fun us s1 gD=>by obtain⟨vs,H1,I1,r1,q1⟩:=gD;exact hc Z8 s1 σ H1 vs us Q I1 r1 q1) he kS
theorem D9(hc:hJ X (.type T) r)(hg:Gl X x)(hm:X.mg x=none)(hv:bootBuiltins x=some (.type T))(ha:PA X (e::es) t)(hn:x≠"__name__":=by decide)(qE:(x==("__debug__":Str))=false:=by decide)
  (he:starEach (e::es) X.env=(false,eval e X.env)::starEach es X.env:=by rfl) (kS:(backTo pos (starEach es X.env)).any (·.1)=false:=by rfl):PE X (.Call (.Name x p) (e::es) [] pos) (Eg r t):=by
 intro Z8 s σ H Q I h;refine c7 (vP I hg hm hv ?_ hn qE);exact cT (hE (ha pos Z8 s σ H _ I h) fun us s1 gD=>by obtain⟨vs,H1,I1,r1,q1⟩:=gD;exact hc Z8 s1 σ H1 vs us Q I1 r1 q1) he kS
end
end L2
namespace HT
open PySem PyProof.Rows
noncomputable def lexLt:List Int->List Int->Bool
 | [],[]=>false
 | [],_::_=>true
 | _::_,[]=>false
 | x::xs,y::ys=>if x=y then lexLt xs ys else decide (x<y)
theorem rH(x y:Int)(xs ys:List Int):lexLt (x::xs) (y::ys)=if x=y then lexLt xs ys else decide (x<y):=rfl
theorem nW(A:Around)(s:Shared)(a:Int)(t:Tok)(c:Int)(u:Tok)(prog:Program)(w:World)(E:Value->Shared->Prop)(Q:Value->Shared->Prop)(h:Q (.bool (decide (a<c))) s) :
  wpAny (model prog w) A (richCompare .Lt (.int a t) (.int c u)) Q E s:=
 (PyProof.Rows.lt_int h:wpAny (model prog w) A (compareOp .Lt (.int a t) (.int c u)) Q E s)
section
variable {prog:Program} {w:World} {A:Around} {E:Value->Shared->Prop} {s:Shared}
noncomputable def iD(n d:Nat):Option Int->Nat
 | none=>d
 | some v=>if v<0 then(v+(n:Int)).toNat else min v.toNat n
theorem mV(n d:Nat)(hd:d<=n)(o:Option Int):iD n d o<=n:=by
 cases o with
 | none=>exact hd
 | some v=>
  show(if v<0 then(v+(n:Int)).toNat else min v.toNat n)<=n;by_cases hv:v<0
  ·rw[if_pos hv];omega
  ·rw[if_neg hv];exact Nat.min_le_right _ _
theorem pK(v:Int)(n d:Nat):(if v<0 then max (v+(n:Int)) 0 else min v (n:Int))=((iD n d (some v):Nat):Int):=by
 show(if v<0 then max (v+(n:Int)) 0 else min v (n:Int))=(((if v<0 then(v+(n:Int)).toNat else min v.toNat n):Nat):Int)
 by_cases hv:v<0
 ·simp only[if_pos hv];omega
 ·simp only[if_neg hv];omega
theorem UM(lo hi:Option Int)(n:Nat):Builtin.Slice.sliceAdjust lo hi 1 (n:Int)=(((iD n 0 lo:Nat):Int),((iD n n hi:Nat):Int)):=by
 have h1:¬((1:Int)<0):=by omega
 unfold Builtin.Slice.sliceAdjust;simp only[h1,aP];refine Prod.ext ?_ ?_
 ·cases lo with
  | none=>rfl
  | some v=>exact pK v n 0
 ·cases hi with
  | none=>rfl
  | some v=>exact pK v n n
theorem UL(i j:Nat):Builtin.Slice.slicePlaces (i:Int) (j:Int) 1=j-i:=by
 unfold Builtin.Slice.slicePlaces;have h1:(1:Int)>0:=by omega
 simp only[h1,aR,Int.ediv_one];split<;>omega
theorem M7{v:Value}{o:Option Int}{Q:Option Int->Shared->Prop}(p:IsPart v o)(h:Q o s):wpAny (model prog w) A (Builtin.Slice.slicePartIndex v) Q E s:=by
 cases p with
 | none=>exact slicePart_none h
 | int i t=>exact slicePart_int h
theorem WN{sl:Addr}{vl vu:Value}{lo hi:Option Int}{n:Nat}{Q:Int×Int×Nat->Shared->Prop}(hs:s.heap.IsSliceOf sl vl vu .none)(pl:IsPart vl lo)(pu:IsPart vu hi)
  (h:Q (((iD n 0 lo:Nat):Int),1,iD n n hi-iD n 0 lo) s):wpAny (model prog w) A (Builtin.Slice.sliceApplied (.ref sl) (pure (n:Int))) Q E s:=by
 obtain⟨os,Cf,EB,Al⟩:=id hs;unfold Builtin.Slice.sliceApplied Builtin.Slice.sliceFields;refine aa (aa (wpAny_field Cf Al (x:=vl) rfl (aa (wpAny_field Cf Al (x:=vu) rfl (aa (wpAny_field Cf Al (x:=.none) rfl (ao ?_)))))));refine aa (slicePart_none ?_);show wpAny _ _ (if ((1:Int)==0)=true then _ else _) _ _ s;rw[if_neg (by decide)];refine aa (M7 pl (aa (M7 pu (aa (ao ?_)))));show wpAny _ _ (match Builtin.Slice.sliceAdjust lo hi 1 (n:Int) with | (lo,hi)=>pure (lo,(1:Int),Builtin.Slice.slicePlaces lo hi 1)) _ _ s;rw[UM lo hi n];show wpAny _ _ (pure (((iD n 0 lo:Nat):Int),(1:Int),Builtin.Slice.slicePlaces ((iD n 0 lo:Nat):Int) ((iD n n hi:Nat):Int) 1)) _ _ s;rw[UL];exact ao h
theorem SW(xs:Array Value)(i k:Nat):((List.range k).filterMap fun(m:Nat)=>xs[((i:Int)+(m:Int)*1).toNat]?).toArray=((xs.toList.drop i).take k).toArray:=by
 have e:(fun(m:Nat)=>xs[((i:Int)+(m:Int)*1).toNat]?)=fun m=>xs[i+m]?:=by
  funext m
  have:((i:Int)+(m:Int)*1).toNat=i+m:=by omega
  rw[this]
 rw[e];have:=pick_run xs i k;rw[List.filterMap_map] at this;have e2:((fun x=>xs[x]?)∘fun x=>i+x)=fun m=>xs[i+m]?:=rfl
 rw[e2] at this;rw[this]
theorem mK{t sl:Addr}{items:Array Value}{vl vu:Value}{lo hi:Option Int}{Q:Value->Shared->Prop}(ht:IsTup s.heap t items)(hs:s.heap.IsSliceOf sl vl vu .none)(pl:IsPart vl lo)(pu:IsPart vu hi)
  (hw:¬(iD items.size 0 lo=0/\iD items.size items.size hi=items.size))
  (h:Q (.ref s.heap.objs.size) { s with heap:=s.heap.push { cls:=.type "tuple",data:=.seq ((items.toList.drop (iD items.size 0 lo)).take (iD items.size items.size hi-iD items.size 0 lo)).toArray } })
  (ic:items.size<=sizeLine):wpAny (model prog w) A (getItem (.ref t) (.ref sl)) Q E s:=by
 have sJ:sizeOk (.seq ((items.toList.drop (iD items.size 0 lo)).take (iD items.size items.size hi-iD items.size 0 lo)).toArray):=by
  show((items.toList.drop (iD items.size 0 lo)).take (iD items.size items.size hi-iD items.size 0 lo)).toArray.size<=sizeLine;rw[ax,aN,cf,ag];omega
 have hj:iD items.size items.size hi<=items.size:=mV _ _ (aA _) hi;obtain⟨os,Cf,EB,Al⟩:=id hs;have YF:s.TypeIs (.ref sl) "slice":=⟨os,Cf,EB⟩
 unfold getItem;try with_reducible refine bN ?_
 first | refine aa (ao ?_) | skip
 refine aa (wpAny_sequenceKey ht.typeIs (by decide) ?_);refine aa (fH (name:=Str.ofString "__getitem__") ht.typeIs PyProof.Rows.slot_tuple_getitem
  (dY PyProof.Rows.slot_tuple_getitem ht.typeIs entry_tuple_getitem ?_ (args_tuple_getitem _ _)))
 show wpAny _ _ (Builtin.Tuple.tupleItemsOf (.ref t) >>= _) _ _ s;refine aa (tupleItemsOf_ ht ?_);refine aa (wpAny_typeOf YF ?_);rw[if_pos (by decide)];refine aa (WN hs pl pu ?_);have uN:¬((((iD items.size 0 lo:Nat):Int)==0&&(1:Int)==1&&(iD items.size items.size hi-iD items.size 0 lo)==items.size)=true):=by
  intro q;rw[cx,cx] at q;have q1:((iD items.size 0 lo:Nat):Int)=0:=eq_of_beq q.1.1;have q2:iD items.size items.size hi-iD items.size 0 lo=items.size:=eq_of_beq q.2;exact hw ⟨by omega,by omega⟩
 show wpAny _ _ (if (((iD items.size 0 lo:Nat):Int)==0&&(1:Int)==1&&(iD items.size items.size hi-iD items.size 0 lo)==items.size)=true then _ else _) _ _ s;rw[if_neg uN,SW];first
  | exact aa (m:=Builtin.Tuple.tupleExact _) (cA (ao ⟨_,rfl,ao h⟩) sJ)
  | exact aa (m:=Builtin.Tuple.tupleExact _) (cA (aa (ao (ao ⟨_,rfl,ao h⟩))) sJ)
  | exact aa (aa (m:=Builtin.Tuple.tupleExact _) (cA (ao (ao ⟨_,rfl,ao h⟩)) sJ))
  | exact aa (aa (m:=Builtin.Tuple.tupleExact _) (cA (ao ⟨_,rfl,ao h⟩) sJ))
end
end HT
namespace L2
open PySem PySem.Spec PyProof.Rows
noncomputable abbrev TO:=St->Hp->(Option Int->Hp->Prop)->Prop
def PO(X:Cx)(e:Option Expr)(t:TO):Prop:=
 ∀(Z8:List (Addr×Obj)) (s:Shared) (σ:St) (H:Hp) (Q:Option Int->Hp->Prop),Inv X Z8 σ H s->t σ H Q->
  wpAny (model X.prog X.w) X.A (evalPart e X.env) (fun u s'=>∃o H',Inv X Z8 σ H' s'/\IsPart u o/\Q o H') X.xe s
noncomputable def RC:TO:=fun _ H Q=>Q none H
noncomputable def PN(t:TE):TO:=fun σ H Q=>t σ H fun x H1=>∃i,x=.int i/\Q (some i) H1
theorem zM{ns:List Int}:∀{us:List Value},Vals (ns.map V.int) us->IntsAre us ns:=by
 induction ns with
 | nil=>intro us r;rw[bW] at r;cases r;exact .nil
 | cons n ns ih=>
  intro us r;rw[ay] at r;cases r with
  | cons r1 r2=>
   obtain⟨t,e⟩:=r1;subst e;exact .cons n t (ih r2)
section
variable {X:Cx} {e:Expr} {te:TE} {lo hi:Option Expr} {tl th:TO} {pos p2:Pos}
theorem RB:PO X none RC:=by
 intro Z8 s σ H Q I h;rw[evalPart_none];exact ao ⟨none,H,I,.none,h⟩
theorem RA(h:PE X e te):PO X (some e) (PN te):=by
 intro Z8 s σ H Q I hw;rw[evalPart_some];refine hE (h Z8 s σ H _ I hw) fun u s1 gD=>?_
 walk_at "1f";obtain⟨i,rfl,q⟩:=q1;obtain⟨t,rfl⟩:=r1;exact⟨some i,H1,I1,.int i t,q⟩
def xK(X:Cx)(r:V->Option Int->Option Int->Hp->VK->Prop):Prop:=
 ∀(Z8:List (Addr×Obj)) (s:Shared) (σ:St) (H:Hp) (x:V) (v vl vu:Value) (lo hi:Option Int) (sl:Addr) (Q:VK),Inv X Z8 σ H s->RelV x v->s.heap.IsSliceOf sl vl vu .none->IsPart vl lo->IsPart vu hi->r x lo hi H Q->
  ∃T id,typeLookup (.type T) "__getitem__"=pure (some (.builtin id))/\s.TypeIs v T/\wpAny (model X.prog X.w) X.A (getItem v (.ref sl)) (EP X Z8 σ Q) X.xe s
theorem xK.or{r r':V->Option Int->Option Int->Hp->VK->Prop}(h:xK X r)(h':xK X r'):xK X (fun x lo hi H Q=>r x lo hi H Q\/r' x lo hi H Q):=by
 intro Z8 s σ H x v vl vu lo hi sl Q I rx hs pl pu q;rcases q with q | q
 ·exact h Z8 s σ H x v vl vu lo hi sl Q I rx hs pl pu q
 ·exact h' Z8 s σ H x v vl vu lo hi sl Q I rx hs pl pu q
def Xq(r:V->Option Int->Option Int->Hp->VK->Prop)(te:TE)(tl th:TO):TE:=fun σ H Q=>te σ H fun x H1=>tl σ H1 fun l H2=>th σ H2 fun u H3=>r x l u H3 Q
theorem SV{r:V->Option Int->Option Int->Hp->VK->Prop}(hr:xK X r)(he:PE X e te)(hl:PO X lo tl)(hu:PO X hi th):PE X (.Subscript e (.Slice lo hi none p2) pos) (Xq r te tl th):=by
 intro Z8 s σ H Q I h;refine Subscript_ (hE (he Z8 s σ H _ I h) fun v s1 gD=>?_);walk_at "1f";refine wpAny_Slice (hE (hl Z8 s1 σ H1 _ I1 q1) fun vl s2 gD=>?_);obtain⟨l,H2,I2,pl,q2⟩:=gD;refine hE (hu Z8 s2 σ H2 _ I2 q2) fun vu s3 gD=>?_
 obtain⟨u,H3,I3,pu,q3⟩:=gD;rw[evalPart_none];refine ao ?_;have I4:Inv X Z8 σ H3 { s3 with heap:=s3.heap.push { cls:=.type "slice",data:=.fields #[vl,vu,.none] } }:=I3.kept (t':=s3.toks) fun b ob q=>aj _ q
 obtain⟨T,id,hT,ht,hg⟩:=hr Z8 { s3 with heap:=s3.heap.push { cls:=.type "slice",data:=.fields #[vl,vu,.none] } } σ H3 x v vl vu l u s3.heap.objs.size Q I4 r1 (Heap.IsSliceOf.new ..) pl pu q3;show wpAny (model X.prog X.w) X.A (subscriptTail e (.Slice lo hi none p2) v (.ref s3.heap.objs.size)) (EP X Z8 σ Q) X.xe { s3 with heap:=s3.heap.push { cls:=.type "slice",data:=.fields #[vl,vu,.none] } };exact tail_any (ops:=[.ref s3.heap.objs.size,v]) ht hT hg (by with_unfolding_all rfl)
noncomputable def vc(xs:List V)(lo hi:Option Int):List V:=(xs.drop (HT.iD xs.length 0 lo)).take (HT.iD xs.length xs.length hi-HT.iD xs.length 0 lo)
theorem Na(xs:List V)(lo hi:Option Int):(vc xs lo hi).length<=xs.length:=by
 unfold vc;rw[aN,cf];omega
def OM(K:Z9):V->Option Int->Option Int->Hp->VK->Prop:=fun x lo hi H Q=>∃a xs,x=.ref a/\jE K H a xs/\
 ¬(HT.iD xs.length 0 lo=0/\HT.iD xs.length xs.length hi=xs.length)/\∀p,H p=none->Q (.ref p) (upd H p (.tup (vc xs lo hi)))
theorem P6:xK X (OM X.K):=by
 intro Z8 s σ H x v vl vu lo hi sl Q I rx hs pl pu h;obtain⟨a,xs,rfl,hx,hw,q⟩:=h;cases rx;obtain⟨its,r,ht,hz⟩:=I.tuple hx;have hlen:its.toArray.size=xs.length:=by rw[ax];exact r.length.symm
 refine⟨"tuple",_,PyProof.Rows.slot_tuple_getitem.lookup,ht.typeIs,?_⟩;refine HT.mK ht hs pl pu (by rw[hlen];exact hw) ?_ (by rw[hlen];exact hz);rw[hlen];refine⟨.ref s.heap.objs.size,_,I.laid (t':=s.toks) (o:=.tup (vc xs lo hi)) (fun b ob q=>aj _ q) (aA _) ?_,rfl,q _ (I.hV.fresh (aA _))⟩;exact⟨aK (Na xs lo hi) hz,_,(r.drop (HT.iD xs.length 0 lo)).take (HT.iD xs.length xs.length hi-HT.iD xs.length 0 lo),IsTup.new _ _⟩
end
noncomputable def rA(n:Nat)(i:Int):Option Nat:=if 0<=i then(if i<n then some i.toNat else none) else if -(n:Int)<=i then some (i+n).toNat else none
noncomputable def iR{α:Type}(xs:List α)(i:Int):Option α:=(rA xs.length i).bind fun j=>xs[j]?
theorem Lh{n:Nat}{i:Int}{j:Nat}(h:rA n i=some j):seqIndex? i n=some j/\j<n/\-(n:Int)<=i/\i<n:=by
 unfold rA at h;by_cases h0:0<=i
 ·rw[if_pos h0] at h;by_cases h1:i<n
  ·rw[if_pos h1] at h;have e:i.toNat=j:=bE h;exact⟨by rw[seqIndex_of h0 h1,e],by omega,by omega,h1⟩
  ·rw[if_neg h1] at h;cases h
 ·rw[if_neg h0] at h;by_cases h1:-(n:Int)<=i
  ·rw[if_pos h1] at h;have e:(i+n).toNat=j:=bE h;exact⟨by rw[seqIndex_neg (by omega) h1,e],by omega,h1,by omega⟩
  ·rw[if_neg h1] at h;cases h
theorem yb{α:Type}{xs:List α}{i:Int}{v:α}(h:iR xs i=some v):∃j,seqIndex? i xs.length=some j/\xs[j]?=some v/\j<xs.length/\-(xs.length:Int)<=i/\i<xs.length:=by
 unfold iR at h;cases e:rA xs.length i with
 | none=>rw[e] at h;cases h
 | some j=>
  rw[e] at h;obtain⟨h1,h2,h3,h4⟩:=Lh e;exact⟨j,h1,h,h2,h3,h4⟩
def DH(b:Expr):Prop:=∀o i,subscripted b false o i=operate [o,i] (getItem o i)
def wV(X:Cx)(r:R2):Prop:=
 ∀(value slice:Expr) (Z8:List (Addr×Obj)) (s:Shared) (σ:St) (H:Hp) (x y:V) (v u:Value) (Q:VK),Inv X Z8 σ H s->RelV x v->RelV y u->r x y H Q->
  subscripted slice false v u=operate [v,u] (getItem v u)->wpAny (model X.prog X.w) X.A (subscriptTail value slice v u) (EP X Z8 σ Q) X.xe s
def Jl(X:Cx)(id:String)(r:V->List V->Hp->VK->Prop):Prop:=
 ∀(Z8:List (Addr×Obj)) (s:Shared) (σ:St) (H:Hp) (x:V) (xs:List V) (v:Value) (us:List Value) (Q:VK),Inv X Z8 σ H s->RelV x v->Vals xs us->r x xs H Q->
  wpAny (model X.prog X.w) X.A (call (.builtin id) (v::us)) (EP X Z8 σ Q) X.xe s
section
variable {X:Cx} {a b:Expr} {ta tb:TE} {pos:Pos}
theorem wV.or{r r':R2}(h:wV X r)(h':wV X r'):wV X (fun x y H Q=>r x y H Q\/r' x y H Q):=by
 intro value slice Z8 s σ H x y v u Q I rx ry q hs;rcases q with q | q
 ·exact h value slice Z8 s σ H x y v u Q I rx ry q hs
 ·exact h' value slice Z8 s σ H x y v u Q I rx ry q hs
theorem Fe{r:R2}(hr:wV X r)(ha:PE X a ta)(hb:PE X b tb)(hs:DH b):PE X (.Subscript a b pos) (BI r ta tb):=by
 intro Z8 s σ H Q I h;exact Subscript_ (EX ha hb I h fun v u s2 x y H2 I2 rx ry q=>hr a b Z8 s2 σ H2 x y v u Q I2 rx ry q (hs _ _))
def Ju(K:Z9):R2:=fun x y H Q=>∃p xs i v,x=.ref p/\y=.int i/\iI K H p xs/\iR xs i=some v/\Q v H
def Jt(K:Z9):R2:=fun x y H Q=>∃p xs i v,x=.ref p/\y=.int i/\jE K H p xs/\iR xs i=some v/\Q v H
def JH:R2:=fun x y H Q=>∃z i c,x=.str z/\y=.int i/\z.length<=sizeLine/\iR z.cps.toList i=some c/\Q (.str ⟨#[c]⟩) H
theorem sF:wV X (Ju X.K):=by
 intro value slice Z8 s σ H x y v u Q I rx ry h hs;obtain⟨p,xs,i,z,rfl,rfl,hq,he,q⟩:=h;cases rx;obtain⟨t,rfl⟩:=ry;obtain⟨its,r,pl,hz⟩:=I.list hq;obtain⟨j,h1,h2,h3,h4,h5⟩:=yb he;obtain⟨w,ew,t9⟩:=r.get h2;have hl:=r.length;have hn:=zz;have fin:EP X Z8 σ Q w s:=⟨z,H,I,t9,q⟩
 by_cases h0:0<=i
 ·have hj:i.toNat=j:=by
   rw[seqIndex_of h0 h5] at h1;exact bE h1
  exact item_listR pl.isList h0 (by omega) (by rw[hj];simpa using ew) fin hs
 ·have hj:(i+(its.toArray.size:Int)).toNat=j:=by
   rw[seqIndex_neg (by omega) h4] at h1;rw[ax,<-hl];exact bE h1
  exact subscriptTail_builtinR (x:=w) pl.isList.typeIs slot_list_getitem.lookup
   (wpAny_getItem_list_neg (Q:=fun r s'=>r=w/\EP X Z8 σ Q r s') pl.isList (by omega) (by rw[ax]<;>omega) (by omega) (by rw[hj];simpa using ew) ⟨rfl,fin⟩) hs
theorem yC:wV X (Jt X.K):=by
 intro value slice Z8 s σ H x y v u Q I rx ry h hs;obtain⟨p,xs,i,z,rfl,rfl,hq,he,q⟩:=h;cases rx;obtain⟨t,rfl⟩:=ry;obtain⟨its,r,pl,hz⟩:=I.tuple hq;obtain⟨j,h1,h2,h3,h4,h5⟩:=yb he;obtain⟨w,ew,t9⟩:=r.get h2;have hl:=r.length;have hn:=zz;have fin:EP X Z8 σ Q w s:=⟨z,H,I,t9,q⟩
 exact subscriptTail_builtinR (x:=w) pl.typeIs slot_tuple_getitem.lookup
  (getItem_tuple (j:=j) (Q:=fun r s'=>r=w/\EP X Z8 σ Q r s') pl (by omega) (by omega) (by rw[ax,<-hl];exact h1) (by simpa using ew) ⟨rfl,fin⟩) hs
theorem P5:wV X JH:=by
 intro value slice Z8 s σ H x y v u Q I rx ry h hs;obtain⟨z,i,c,rfl,rfl,hz,he,q⟩:=h;obtain⟨t,rfl⟩:=rx;obtain⟨t',rfl⟩:=ry;obtain⟨j,h1,h2,h3,h4,h5⟩:=yb he;have hl:z.cps.toList.length=z.length:=by simp[Str.length]
 rw[hl] at h1 h4 h5;have hn:=zz
 exact tail_any (typeIs_str s z t) slot_str_getitem.lookup (getItem_str (c:=c) (by
  have e1:decide (i < -(2 ^ 63:Int))=false:=aX (by omega);have e2:decide (i>=2 ^ 63)=false:=aX (by omega)
  rw[e1,e2,Bool.or_false]) (by rw[h1];simpa using h2) ⟨.str ⟨#[c]⟩,H,I.tok _,⟨_,rfl⟩,q⟩) hs
def NC(K:Z9):R2:=fun x y H Q=>Ju K x y H Q\/Jt K x y H Q\/JH x y H Q
theorem Kq:wV X (NC X.K):=sF.or (yC.or P5)
theorem UK(its:List Value)(n j:Nat)(u:Value):Obj.mapSeq (·.setIfInBounds j u) { cls:=.type "list",data:=.seq its.toArray n }={ cls:=.type "list",data:=.seq (its.set j u).toArray n }:=by
 simp[Obj.mapSeq]
theorem Inv.lst{Z8:List (Addr×Obj)}{σ:St}{H:Hp}{s:Shared}{p:Addr}{xs:List V}(I:Inv X Z8 σ H s)(h:H p=some (.lst xs)) :
  ∃(its:List Value) (n:Nat),Vals xs its/\s.heap.get? p=some { cls:=.type "list",data:=.seq its.toArray n }/\xs.length<=sizeLine:=by
 obtain⟨z,its,n,r,e⟩:=I.hV p _ h;exact⟨its,n,r,e,z⟩
theorem Inv.yz{Z8:List (Addr×Obj)}{σ:St}{H:Hp}{s:Shared}{p:Addr}{xs ys:List V}{its its':List Value}{n n':Nat}{f:Obj->Obj}(I:Inv X Z8 σ H s)(h:H p=some (.lst xs))
  (ho:s.heap.get? p=some { cls:=.type "list",data:=.seq its.toArray n }) (hf:f { cls:=.type "list",data:=.seq its.toArray n }={ cls:=.type "list",data:=.seq its'.toArray n' }) (r:Vals ys its') (hz:ys.length<=sizeLine) (t:Nat) :
  Inv X Z8 σ (upd H p (.lst ys)) { s with heap:=s.heap.update p f,toks:=t }:=by
 have e:(s.heap.update p f).get? p=some { cls:=.type "list",data:=.seq its'.toArray n' }:=by
  rw[c6 f ho (by rw[hf]<;>rfl),hf]
 refine I.write (x:=p) (e:=p) (by rw[h];trivial) (.inl rfl) (fun b u hb q=>(bA _ _ (Ne.symm hb)).trans q) ⟨_,e⟩ ?_;exact⟨hz,its',n',r,e⟩
def PM:V->V->V->Hp->(Hp->Prop)->Prop:=fun o i v H Q=>∃p xs k j,o=.ref p/\i=.int k/\H p=some (.lst xs)/\rA xs.length k=some j/\Q (upd H p (.lst (xs.set j v)))
theorem SU:Jx X PM:=by
 intro Z8 s σ H o i v ov iv u Q I ro ri rv h;obtain⟨p,xs,k,j,rfl,rfl,hp,hj,q⟩:=h;cases ro;obtain⟨t,rfl⟩:=ri;obtain⟨its,n,r,ho,hz⟩:=I.lst hp;obtain⟨h1,h2,h3,h4⟩:=Lh hj;have hl:=r.length;have hn:=zz;have I':Inv X Z8 σ (upd H p (.lst (xs.set j v))) { s with heap:=s.heap.update p (Obj.mapSeq (·.setIfInBounds j u)) }:=
  I.yz hp ho (UK its n j u) (r.set rv j) (by rw[List.length_set];exact hz) s.toks
 by_cases h0:0<=k
 ·have hk:k.toNat=j:=by
   rw[seqIndex_of h0 h4] at h1;exact bE h1
  exact PySem.W.ki_setAt ho h0 (by omega) (by rw[ax,<-hl];exact h4) (by rw[hk];exact⟨_,I',q⟩)
 ·have hk:(k+(its.toArray.size:Int)).toNat=j:=by
   rw[seqIndex_neg (by omega) h3] at h1;rw[ax,<-hl];exact bE h1
  exact PySem.W.ki_setBack ho (by omega) (by rw[ax,<-hl];exact h3) (by omega) (by rw[hk];exact⟨_,I',q⟩)
theorem Vv(lo hi:Option Int)(n:Nat):(sliceBounds lo hi none n).1=((HT.iD n 0 lo:Nat):Int)/\(sliceBounds lo hi none n).2.1=((HT.iD n n hi:Nat):Int)/\(sliceBounds lo hi none n).2.2=1:=by
 refine⟨?_,?_,rfl⟩
 ·cases lo with
  | none=>simp[sliceBounds,HT.iD]
  | some i=>
   simp only[sliceBounds,HT.iD,Option.getD_none,show(1:Int)>0 by decide,aR];by_cases h:i<0
   ·simp only[h,aR]<;>omega
   ·simp only[h,aP]<;>omega
 ·cases hi with
  | none=>simp[sliceBounds,HT.iD]
  | some i=>
   simp only[sliceBounds,HT.iD,Option.getD_none,show(1:Int)>0 by decide,aR];by_cases h:i<0
   ·simp only[h,aR]<;>omega
   ·simp only[h,aP]<;>omega
theorem VD(its:List Value)(lo hi:Option Int):slicePick its.toArray lo hi none=((its.drop (HT.iD its.length 0 lo)).take (HT.iD its.length its.length hi-HT.iD its.length 0 lo)).toArray:=by
 obtain⟨h1,h2,h3⟩:=Vv lo hi its.toArray.size;unfold slicePick;rw[h1,h2,h3];simp only[sliceRange_one,pick_run,ax]<;>rfl
def OL(K:Z9):V->Option Int->Option Int->Hp->VK->Prop:=fun x lo hi H Q=>∃a xs,x=.ref a/\iI K H a xs/\∀p,H p=none->Q (.ref p) (upd H p (.lst (vc xs lo hi)))
theorem wb:xK X (OL X.K):=by
 intro Z8 s σ H x v vl vu lo hi sl Q I rx hs pl pu h;obtain⟨a,xs,rfl,hx,q⟩:=h;cases rx;obtain⟨its,r,ht,hz⟩:=I.list hx;have hlen:=r.length;refine⟨"list",_,slot_list_getitem.lookup,ht.isList.typeIs,?_⟩;refine wpAny_getItem_list_slice ht.isList hs pl pu .none (by simp) ?_ (by rw[ax]<;>omega);rw[VD,<-hlen];refine⟨.ref s.heap.objs.size,_,I.laid (t':=s.toks) (o:=.lst (vc xs lo hi)) (fun b ob q=>aj _ q) (aA _) ?_,rfl,q _ (I.hV.fresh (aA _))⟩;exact⟨aK (Na xs lo hi) hz,_,0,(r.drop (HT.iD xs.length 0 lo)).take (HT.iD xs.length xs.length hi-HT.iD xs.length 0 lo),az _ rfl⟩
noncomputable def C9:V->Bool
 | .non=>true
 | .bl _=>true
 | .int _=>true
 | .str _=>true
 | _=>false
noncomputable def Jg:V->V->Bool
 | .non,.non=>true
 | .bl a,.bl b=>a==b
 | .bl a,.int b=>(if a then 1 else 0)==b
 | .int a,.bl b=>a==(if b then 1 else 0)
 | .int a,.int b=>a==b
 | .str a,.str b=>a==b
 | _,_=>false
theorem Kp{A:Around}{s:Shared}{y x:V}{u v:Value}(ry:RelV y u)(rx:RelV x v)(fy:C9 y=true)(fx:C9 x=true):SeqAt.EqAt A s u v (Jg y x):=by
 cases y with
 | non=>
  cases ry;cases x with
  | non=>cases rx;exact SeqAt.EqAt.same _
  | bl b=>cases rx;exact SeqAt.EqAt.none_bool b
  | int b=>obtain⟨t,rfl⟩:=rx;exact SeqAt.EqAt.none_int b t
  | str b=>obtain⟨t,rfl⟩:=rx;exact SeqAt.EqAt.none_str b t
  | _=>exact absurd (show false=true from fx) aZ
 | bl a=>
  cases ry;cases x with
  | non=>cases rx;exact SeqAt.EqAt.bool_none a
  | bl b=>cases rx;exact SeqAt.EqAt.bool_bool a b
  | int b=>obtain⟨t,rfl⟩:=rx;exact SeqAt.EqAt.bool_int a b t
  | str b=>obtain⟨t,rfl⟩:=rx;exact SeqAt.EqAt.bool_str a b t
  | _=>exact absurd (show false=true from fx) aZ
 | int a=>
  obtain⟨t',rfl⟩:=ry;cases x with
  | non=>cases rx;exact SeqAt.EqAt.int_none a t'
  | bl b=>cases rx;exact SeqAt.EqAt.int_bool a t' b
  | int b=>obtain⟨t,rfl⟩:=rx;exact SeqAt.EqAt.int_int a t' b t
  | str b=>obtain⟨t,rfl⟩:=rx;exact SeqAt.EqAt.int_str a t' b t
  | _=>exact absurd (show false=true from fx) aZ
 | str a=>
  obtain⟨t',rfl⟩:=ry;cases x with
  | non=>cases rx;exact SeqAt.EqAt.str_none a t'
  | bl b=>cases rx;exact SeqAt.EqAt.str_bool a t' b
  | int b=>obtain⟨t,rfl⟩:=rx;exact SeqAt.EqAt.str_int a t' b t
  | str b=>obtain⟨t,rfl⟩:=rx;exact SeqAt.EqAt.str_str a t' b t
  | _=>exact absurd (show false=true from fx) aZ
 | _=>exact absurd (show false=true from fy) aZ
theorem pE:lq X (compareOp .NotIn) (fun x y H Q=>∃i j,x=.str i/\y=.str j/\Q (.bl (!(!(Builtin.Str.occurrences j i 0 j.length 1).isEmpty))) H):=by
 intro Z8 s σ H x y v u Q I rx ry h;obtain⟨i,j,rfl,rfl,q⟩:=h;obtain⟨t,rfl⟩:=rx;obtain⟨t',rfl⟩:=ry;exact notIn_str ⟨.bl _,H,I,rfl,q⟩
theorem mN:hJ X (.builtin "len") (fun xs H Q=>∃p ys,xs=[.ref p]/\(iI X.K H p ys\/jE X.K H p ys)/\Q (.int ys.length) H):=by
 walk_at "1e";obtain⟨p,ys,rfl,hq,q⟩:=h;obtain⟨u,rfl,rx⟩:=oE r;cases rx;have hn:=zz;rcases hq with hq | hq
 ·obtain⟨its,r',pl,hz⟩:=I.list hq;have hlen:=r'.length;exact Calls.call_len_list pl.isList (by simp only[ax]<;>omega) ⟨.int ys.length,H,I.tok _,⟨s.toks+1,by rw[ax,hlen]⟩,q⟩
 ·obtain⟨its,r',pl,hz⟩:=I.tuple hq;have hlen:=r'.length;exact len_tuple pl (by simp only[ax]<;>omega) ⟨.int ys.length,H,I.tok _,⟨s.toks+1,by rw[ax,hlen]⟩,q⟩
theorem Vu:hJ X (.builtin "len") (fun xs H Q=>∃z,xs=[.str z]/\z.length<=sizeLine/\Q (.int z.length) H):=by
 walk_at "1e";obtain⟨z,rfl,hz,q⟩:=h;obtain⟨u,rfl,t,rfl⟩:=oE r;have hn:=zz;exact len_str (by omega) ⟨.int z.length,H,I.tok _,⟨_,rfl⟩,q⟩
theorem hJ.or{f:Value}{r r':List V->Hp->VK->Prop}(h:hJ X f r)(h':hJ X f r'):hJ X f (fun xs H Q=>r xs H Q\/r' xs H Q):=by
 intro Z8 s σ H xs us Q I rs q;rcases q with q | q
 ·exact h Z8 s σ H xs us Q I rs q
 ·exact h' Z8 s σ H xs us Q I rs q
theorem Vt:hJ X (.type "list") (fun xs H Q=>∃p ys,xs=[.ref p]/\(iI X.K H p ys\/jE X.K H p ys)/\∀l,H l=none->Q (.ref l) (upd H l (.lst ys))):=by
 intro Z8 s σ H xs us Q I r h;obtain⟨p,ys,rfl,hq,q⟩:=h;obtain⟨u,rfl,rx⟩:=oE r;cases rx;have fin:∀(its:List Value),Vals ys its->ys.length<=sizeLine->∀(h':Heap) (c':Nat),(∀b o',s.heap.get? b=some o'->h'.get? b=some o')->
   h'.get? s.heap.objs.size=some { cls:=.type "list",dict:=none,data:=.seq its.toArray c',slots:=#[] }->EP X Z8 σ Q (.ref s.heap.objs.size) { s with heap:=h' }:=fun its r' hz h' c' kp e=>
  ⟨.ref s.heap.objs.size,_,I.laid (t':=s.toks) kp (aA _) (show iS X.prog X.w _ h' _ (.lst ys) from⟨hz,its,c',r',e⟩),rfl,q _ (I.hV.fresh (aA _))⟩
 rcases hq with hq | hq
 ·obtain⟨its,r',pl,hz⟩:=I.list hq;have hlen:=r'.length;obtain⟨o,ho,hc,n,hd⟩:=pl.isList;exact call_list_seq p (.inl rfl) ho hc hd (fun h' c' kp e=>fin its r' hz h' c' kp e) (by simp only[ax]<;>omega)
 ·obtain⟨its,r',pl,hz⟩:=I.tuple hq;have hlen:=r'.length;obtain⟨o,ho,hc,n,hd⟩:=pl;exact call_list_seq p (.inr rfl) ho hc hd (fun h' c' kp e=>fin its r' hz h' c' kp e) (by simp only[ax]<;>omega)
def Ee(K:Z9)(T:String)(x:V)(H:Hp):Prop:=match x with
 | .str _=>T="str"
 | .int _=>T="int"
 | .ref p=>(T="list"/\∃xs,iI K H p xs)\/(T="tuple"/\∃o,K.lookup p=some o/\o.cls=.type "tuple"/\o.dict=none)\/
   (T="dict"/\((∃g5 ep,H p=some (.dK g5 ep))\/∃g5 bs,H p=some (.dT g5 bs)))\/(T="set"/\∃S n,H p=some (.set S n))
 | _=>False
theorem Ko{Z8:List (Addr×Obj)}{σ:St}{H:Hp}{s:Shared}{T:String}{x:V}{v:Value}(I:Inv X Z8 σ H s)(r:RelV x v)(ty:Ee X.K T x H) :
  s.TypeIs v T/\∀a,v=.ref a->∃ob,s.heap.get? a=some ob/\ob.dict=none:=by
 cases x with
 | str z=>
  obtain⟨t,rfl⟩:=r;cases (show T="str" from ty);exact⟨typeIs_str s z t,fun _ e=>nomatch e⟩
 | int i=>
  obtain⟨t,rfl⟩:=r;cases (show T="int" from ty);exact⟨typeIs_int s i t,fun _ e=>nomatch e⟩
 | ref p=>
  cases r;rcases ty with⟨rfl,xs,hq⟩ | ⟨rfl,o,hk,hc,hd⟩ | ⟨rfl,hk⟩ | ⟨rfl,S,n,hk⟩
  ·obtain⟨its,_,pl,_⟩:=I.list hq;refine⟨pl.isList.typeIs,fun a e=>?_⟩;cases e;obtain⟨o,n,e,c,hd,_⟩:=pl;exact⟨o,e,hd⟩
  ·refine⟨⟨o,I.pZ p o hk,hc⟩,fun a e=>?_⟩;cases e;exact⟨o,I.pZ _ o hk,hd⟩
  ·have z:∃o,s.heap.get? p=some o/\o.ExactDict:=by
    rcases hk with⟨g5,ep,hk⟩ | ⟨g5,bs,hk⟩
    ·obtain⟨_,_,_,_,o,_,e,ex,_⟩:=I.hV p _ hk;exact⟨o,e,ex⟩
    ·obtain⟨_,_,_,_,_,o,_,_,e,ex,_⟩:=I.hV p _ hk;exact⟨o,e,ex⟩
   obtain⟨o,e,ex⟩:=z;refine⟨⟨o,e,ex.1⟩,fun a e2=>?_⟩;cases e2;exact⟨o,e,ex.2.1⟩
  ·obtain⟨o,_,_,_,e,ex,_⟩:=I.hV p _ hk;refine⟨⟨o,e,ex.1⟩,fun a e2=>?_⟩;cases e2;exact⟨o,e,ex.2.1⟩
 | _=>exact False.elim ty
def JG(K:Z9)(T:String)(r:V->List V->Hp->VK->Prop)(to:TE):TE:=fun σ H Q=>to σ H fun x H1=>Ee K T x H1/\r x [] H1 Q
def zV(K:Z9)(T:String)(r:V->List V->Hp->VK->Prop)(to:TE)(t:TA):TE:=fun σ H Q=>to σ H fun x H1=>Ee K T x H1/\t σ H1 fun xs H2=>r x xs H2 Q
variable {o e:Expr} {es:List Expr} {to:TE} {t:TA} {name:Str} {apos kj:Pos} {T id:String} {r:V->List V->Hp->VK->Prop}
theorem P4(pa:PlainAttrs T)(slot:Slot T name id)(Cc:typeOf (.builtin id)=pure (.type "method_descriptor"))(hm:Jl X id r)(ho:PE X o to)
  (qF:attributeBase o name X.env (eval o X.env)=eval o X.env:=by rfl) (qC:(apos.endLine==kj.line)=true:=by rfl):PE X (.Call (.Attribute o name apos) [] [] kj) (JG X.K T r to):=by
 intro Z8 s σ H Q I h;refine wpAny_Call_method0_late qF qC (hE (ho Z8 s σ H _ I h) fun v s1 gD=>?_);obtain⟨x,H1,I1,r1,ty,q1⟩:=gD;obtain⟨h1,h2⟩:=Ko I1 r1 ty;exact⟨T,id,pa,slot,Cc,h1,h2,Calls.callWith_builtin rfl (PySem.evalArgs_none (hm Z8 s1 σ H1 x [] v [] Q I1 r1 .nil q1))⟩
theorem zh(pa:PlainAttrs T)(slot:Slot T name id)(Cc:typeOf (.builtin id)=pure (.type "method_descriptor"))(hm:Jl X id r)(ho:PE X o to)(ha:PA X (e::es) t)
  (qF:attributeBase o name X.env (eval o X.env)=eval o X.env:=by rfl)
  (yM:((backTo kj (starEach (e::es) X.env)).all (fun x=>!x.1)&&(backToKw kj (keywordEach [] X.env)).all (fun x=>x.1.isSome)
   && decide ((e::es).length+([]:List Keyword).length+(if ([]:List Keyword).isEmpty then 0 else 1)<30))=true:=by rfl)
  (qC:(apos.endLine==kj.line)=true:=by rfl) (hs:starEach (e::es) X.env=(false,eval e X.env)::starEach es X.env:=by rfl) (rK:(backTo kj (starEach es X.env)).any (·.1)=false:=by rfl) :
  PE X (.Call (.Attribute o name apos) (e::es) [] kj) (zV X.K T r to t):=by
 intro Z8 s σ H Q I h;refine wpAny_Call_method_late qF yM qC rfl (hE (ho Z8 s σ H _ I h) fun v s1 gD=>?_);obtain⟨x,H1,I1,r1,ty,q1⟩:=gD;obtain⟨h1,h2⟩:=Ko I1 r1 ty;refine⟨T,id,pa,slot,Cc,h1,h2,?_⟩;have hA:=ha kj Z8 s1 σ H1 _ I1 q1;rw[hs] at hA ⊢;refine Calls.callWith_builtin (by show(false||(backTo kj (starEach es X.env)).any (·.1))=false;rw[rK]<;>rfl) (Calls.evalArgs_plain ?_);exact hE hA fun us s2 gD=>by obtain⟨vs,H2,I2,r2,q2⟩:=gD;exact hm Z8 s2 σ H2 x vs v us Q I2 r1 r2 q2
end
def EN(X:Cx)(id:String)(r:V->List V->Hp->VK->Prop):Prop:=
 ∀(Z8:List (Addr×Obj)) (s:Shared) (σ:St) (H:Hp) (x:V) (xs:List V) (v:Value) (us:List Value) (Q:VK),Inv X Z8 σ H s->RelV x v->Vals xs us->r x xs H Q->
  wpAny (model X.prog X.w) X.A (call (.builtin id) (v::us)) (EP X Z8 σ Q) X.xe s
theorem Vals.one:∀{x:V} {us:List Value},Vals [x] us->∃u,us=[u]/\RelV x u
 | _,_,.cons r .nil=>⟨_,rfl,r⟩
theorem Vals.zero:∀{us:List Value},Vals [] us->us=[]
 | _,.nil=>rfl
theorem Vals.eraseIdx:∀{xs:List V} {us:List Value} (i:Nat),Vals xs us->Vals (xs.eraseIdx i) (us.eraseIdx i)
 | _,_,_,.nil=>.nil
 | _,_,0,.cons _ t=>t
 | _,_,i+1,.cons r t=>.cons r (Vals.eraseIdx i t)
theorem Zk{α:Type}(l:List α):l.eraseIdx (l.length-1)=l.dropLast:=by
 induction l with
 | nil=>rfl
 | cons a r ih=>
  cases r with
  | nil=>rfl
  | cons b r=>
   have e:(a::b::r).length-1=((b::r).length-1)+1:=by
    have h1:(a::b::r).length=r.length+2:=rfl;have h2:(b::r).length=r.length+1:=rfl;omega
   rw[e,dD,ih];all_goals rfl
theorem MD{α:Type}:∀(l:List α) (i:Nat),(l.eraseIdx i).length<=l.length
 | [],_=>aA _
 | _::_,0=>bY _
 | _::r,i+1=>Nat.succ_le_succ (MD r i)
section
variable {X:Cx} {Z8:List (Addr×Obj)} {σ:St} {H:Hp} {s:Shared} {l b:Addr} {xs ys zs:List V}
theorem Inv.wq{its its':List Value}{n:Nat}{f:Array Value->Array Value}{t':Nat}(I:Inv X Z8 σ H s)(hH:H l=some (.lst xs))
  (e:s.heap.get? l=some { cls:=.type "list",data:=.seq its.toArray n }) (hf:f its.toArray=its'.toArray) (hv:Vals ys its') (hz:ys.length<=sizeLine) :
  Inv X Z8 σ (upd H l (.lst ys)) { s with heap:=s.heap.update l (Obj.mapSeq f),toks:=t' }:=by
 have q:=PySem.IsL.update e f;rw[hf] at q;refine I.write (x:=l) (e:=l) (by rw[hH];exact trivial) (.inl rfl) (fun b' u hb hu=>(bA s.heap (Obj.mapSeq f) (Ne.symm hb)).trans hu) ⟨_,q⟩ ?_;exact⟨hz,its',_,hv,q⟩
theorem Inv.B3{its:List Value}{t':Nat}(I:Inv X Z8 σ H s)(hv:Vals ys its)(hz:ys.length<=sizeLine) :
  Inv X Z8 σ (upd H s.heap.objs.size (.lst ys)) { s with heap:=s.heap.push { cls:=.type "list",data:=.seq its.toArray },toks:=t' }:=
 I.laid (fun _ _ q=>aj _ q) (aA _) ⟨hz,its,0,hv,az _ rfl⟩
theorem Inv.fresh(I:Inv X Z8 σ H s):H s.heap.objs.size=none:=I.hV.fresh (aA _)
theorem Inv.uH(I:Inv X Z8 σ H s)(hH:H l=some (.lst xs)):xs.length<=sizeLine/\∃(its:List Value) (n:Nat),Vals xs its/\xs.length=its.length/\s.heap.get? l=some { cls:=.type "list",data:=.seq its.toArray n }:=by
 obtain⟨z,its,n,r,e⟩:=I.hV l _ hH;exact⟨z,its,n,r,r.length,e⟩
theorem Tj{n:Nat}(h:n<=sizeLine):Builtin.List.listTooLong n=false:=by
 unfold Builtin.List.listTooLong;exact aX (by omega)
end
section
variable {X:Cx}
def DG:V->List V->Hp->VK->Prop:=fun x vs H Q=>∃l xs y,x=.ref l/\vs=[y]/\H l=some (.lst xs)/\xs.length<sizeLine/\Q .non (upd H l (.lst (xs++[y])))
theorem D8:EN X "list.append" DG:=by
 intro Z8 s σ H x vs v us Q I rx rv h;obtain⟨l,xs,y,rfl,rfl,hH,hz,q⟩:=h;cases rx;obtain⟨u,rfl,ru⟩:=rv.one;obtain⟨z,its,n,r,hl,e⟩:=I.uH hH;refine fT F.slot_list_append ⟨_,e,rfl⟩ F.entry_list_append (F.args_list_append_2 _ _) (PySem.list_append l its.toArray n u (by rw[ax];omega)) ⟨e,?_⟩;refine⟨.non,_,I.wq (its':=its++[u]) hH e (by simp) (r.append (.cons ru .nil)) ?_,rfl,q⟩;rw[au,List.length_singleton];omega
def Lg:V->List V->Hp->VK->Prop:=fun x vs H Q=>∃l b xs zs,x=.ref l/\vs=[.ref b]/\H l=some (.lst xs)/\H b=some (.lst zs)/\xs.length+zs.length<=sizeLine/\Q .non (upd H l (.lst (xs++zs)))
theorem Uw:EN X "list.extend" Lg:=by
 intro Z8 s σ H x vs v us Q I rx rv h;obtain⟨l,b,xs,zs,rfl,rfl,hH,hB,hz,q⟩:=h;cases rx;obtain⟨u,rfl,ru⟩:=rv.one;cases ru;obtain⟨z,its,n,r,hl,e⟩:=I.uH hH;obtain⟨z2,oV,n2,r2,EA,e2⟩:=I.uH hB;have ic:its.toArray.size+oV.toArray.size<=sizeLine:=by rw[ax,ax];omega
 have Cj:¬(!its.toArray.isEmpty&&Builtin.List.listTooLong (its.toArray.size+oV.toArray.size))=true:=by
  rw[Tj ic,Bool.and_false];exact aZ
 refine fT F.slot_list_extend ⟨_,e,rfl⟩ F.entry_list_extend (F.args_list_extend_2 _ _)
  (AutoSeq1.list_extend_list_list_0 l its.toArray n b oV.toArray n2 Cj (by rw[ax];omega) (by omega)) ⟨e,e2,?_⟩
 refine⟨.non,_,I.wq (its':=its++oV) hH e (by simp) (r.append r2) ?_,rfl,q⟩;rw[au];omega
def Kn:V->List V->Hp->VK->Prop:=fun x vs H Q=>∃l xs,x=.ref l/\vs=[]/\H l=some (.lst xs)/\Q .non (upd H l (.lst []))
theorem Ti:EN X "list.clear" Kn:=by
 intro Z8 s σ H x vs v us Q I rx rv h;obtain⟨l,xs,rfl,rfl,hH,q⟩:=h;cases rx;have X3:=rv.zero;subst X3;obtain⟨z,its,n,r,hl,e⟩:=I.uH hH;refine fT F.slot_list_clear ⟨_,e,rfl⟩ F.entry_list_clear (F.args_list_clear_1 _) (AutoSeq1.list_clear_list_0 l its.toArray n (by rw[ax];omega)) ⟨e,?_⟩;exact⟨.non,_,I.wq (its':=[]) (ys:=[]) hH e rfl .nil (a9 _),rfl,q⟩
end
section
variable {prog:Program} {w:World} {A:Around} {E:Value->Shared->Prop} {s:Shared}
end
end L2
namespace OD
open PySem PySem.W PySem.Calls PyProof.Rows
theorem WO{P:Params}{h:Heap}:∀(ns:List Int) (vs:List Value),WellAll P h vs (ns.map WData.int)->IntsAre vs ns:=by
 intro ns;induction ns with
 | nil=>
  intro vs w;rw[bW] at w;cases w;exact .nil
 | cons n ns ih=>
  intro vs w;rw[ay] at w;cases w with
  | cons a b=>
   cases a;exact .cons _ _ (ih _ b)
theorem Uv{l:OpenLaw}{n:Nat}(hn:l.most=some n){P:Params}{h:Heap}{args:List WData}{vals:List Value}
  (wu:l.row.toRowW.claim.pre args=true) (z8:WellAll P h vals args) :
  ∃a vs ns,vals=[Value.ref a]/\args=[WData.list (ns.map WData.int)]/\h.get? a=some { cls:=.type "list",data:=.seq vs.toArray }/\IntsAre vs ns/\ns.length<=n:=by
 have Yc:WShape.hasAll [] args [.list .int]=true:=(pre_splitW wu).1;have hc:l.pre.holds [] { args:=args }=true:=(pre_splitW wu).2;obtain⟨d,r,rfl,h1,h2⟩:=hasAllW_cons Yc;obtain rfl:=hasAllW_nil h2;obtain⟨xs,rfl,h3⟩:=hasW_list h1;obtain⟨ns,rfl⟩:=items_int h3;have hlen:ns.length<=n:=by
  unfold OpenLaw.pre at hc;have h4:(WTm.not (.lt (.lit (.int (n:Int))) (.len (.arg 0)))).holds [] { args:=[.list (ns.map .int)] }=true:=by
   have h4:=(holds_andW hc).1;rw[hn] at h4;exact h4
  have h5:=condW_of h4 (w_not (w_lt w_lit (w_len_list (w_arg rfl))));rw[ae] at h5;refine Nat.le_of_not_lt fun q=>?_
  have q':(n:Int)<((ns.length:Nat):Int):=by omega
  first
   | (rw[cg q'] at h5;exact absurd h5 (by decide))
   | (simp at h5;omega)
 cases z8 with
 | cons w1 w2=>
  cases w2;cases w1 with
  | list ho IX=>exact⟨_,_,ns,rfl,rfl,ho,WO ns _ IX,hlen⟩
theorem Uu(l:OpenLaw)(args:List WData):l.row.toRowW.claim.post args (.bool true) args=true:=
 postW_of (r:=l.row.toRowW) (X:=(true==true))
  (show WShape.has [] (.bool true) .bool=true by first | rfl | decide | simp[WShape.has,WShape.arms,WShape.armsAll])
  (show(WTm.eq .res (.lit (.bool true))).value [] { args:=args,res:=some (.bool true),after:=args }=some (.bool (true==true)) from w_eq_bool (w_res rfl) w_lit) rfl
theorem qJ{l:OpenLaw}{n:Nat}{q:Program}{loose:List Str}{XP:(Str->Option Value)->Heap->Prop}{YP:World->Heap->Prop}{d:DefRec}
  (hn:l.most=some n) (IQ:d.params.defaults=[])
  (call:∀(w:World) (ju gM:Shared) (mg mb:Str->Option Value) (fa:Addr) (o:Obj) (pm cd doc:Value) (a:Addr) (vs:List Value) (ns:List Int),
   Ground q loose [] XP w ju mg mb gM.heap->YP w gM.heap->
   gM.heap.get? fa=some o->o.data=.func (docDef d.name d.params d.body d.scope pm cd doc)->gM.heap.CodeRec cd d.name->mg d.name=some (.ref fa)->
   gM.heap.get? a=some { cls:=.type "list",data:=.seq vs.toArray }->IntsAre vs ns->ns.length<=n->gM.gens=#[]->
   codeAny (model l.prog w) callerA (.call (.ref fa) ⟨[.ref a],[]⟩) (fun r s'=>r=.ok (.ret (.bool true))/\OldK gM.heap s'.heap/\s'.os=gM.os/\AllBare s'.gens) gM) :
  WalkO q loose XP YP l.row.toRowW d [] (fun f vs=>PySem.call f vs):=by
 intro w ju gM mg mb G Y fa o pm cd doc dV kV ho hd kP hD wy hg args vals as wu Yo Zv z8 Ck;obtain rfl:dV=.none:=Dflts.none hD IQ;obtain rfl:kV=.none:=Dflts.noKw hD;obtain⟨a,vs,ns,rfl,rfl,wx,hints,hlen⟩:=Uv hn wu z8;refine enter_call (fb (call w ju gM mg mb fa o pm cd doc a vs ns G Y ho (fd_plain hd) kP wy wx hints hlen hg) fun r s' hq=>?_);obtain⟨rfl,h2,h3,h4⟩:=hq;exact⟨.inl ⟨.bool true,.bool true,[],rfl,fun _=>rfl,.bool true,Uu l _,fun _=>⟨List.Pairwise.nil,fun _ hm=>(nomatch hm)⟩⟩,h2,h3,h4⟩
end OD
namespace L2
open PySem PySem.Spec PyProof.Rows
theorem Gk:∀{vs:List Value} {ns:List Int},IntsAre vs ns->Vals (ns.map V.int) vs
 | _,_,.nil=>.nil
 | _,_,.cons n t h=>.cons ⟨t,rfl⟩ (Gk h)
def JF(H:Hp):Prop:=∀b,H b=none\/∃o xs,H b=some (.oY o (.lst xs))
theorem Th{P:Program}{w:World}{K:Z9}{mg mb:Str->Option Value}{CX:vC}{k:Nat}{fa a:Addr}{fd:FuncData}{x:Str}{sp:Sp}{gM:Shared}{vs:List Value}{ns:List Int}
  (KX:K.In gM.heap) (sM:gM.heap.Ns mainGlobals mg) (hb:gM.heap.Ns builtinsNs mb) (YD:∀x:Str,x≠"__name__"->mb x=bootBuiltins x) (IF:gM.heap.NoLimit) (hg:gM.gens=#[])
  (ha:gM.heap.get? a=some { cls:=.type "list",data:=.seq vs.toArray }) (hi:IntsAre vs ns) (hl:ns.length<=sizeLine) (hr:iL k callerA)
  (F:∀base:Heap,K.In base->base.Ns mainGlobals mg->lH P w K mg base CX k fa fd [x] sp) (Cz:∀(s:Shared) (u:Value),BindsTo s fd ⟨[u],[]⟩ [(x,u)])
  (z9:∀H:Hp,JF H->iI K H a (ns.map V.int)->sp [.ref a] H (fun v _=>v=.bl true) fun _ _ _=>False)
  (YL:∀H e s',CX [] H gM (fun _ _ _=>False) e s'->False) :
  codeAny (model P w) callerA (.call (.ref fa) ⟨[.ref a],[]⟩) (fun r s'=>r=.ok (.ret (.bool true))/\OldK gM.heap s'.heap/\s'.os=gM.os/\AllBare s'.gens) gM:=by
 have rv:=Gk hi;have HV:=hi.length
 -- from an abstract heap in Nt nothing but t8 uB may be tracked
 have core:∀H:Hp,JF H->iI K H a (ns.map V.int)->nM P w H gM.heap->(∀b,H b≠none->b=a)->(H a≠none->K.lookup a=none)->
   codeAny (model P w) callerA (.call (.ref fa) ⟨[.ref a],[]⟩) (fun r s'=>r=.ok (.ret (.bool true))/\OldK gM.heap s'.heap/\s'.os=gM.os/\AllBare s'.gens) gM:=by
  intro H hO hS hV hA hK;have sS:∀{b:Addr} {o:Obj},gM.heap.get? b=some o->H b=none->(vI gM.heap H).get? b=some o:=fun e n=>S8 e n
  have BX:∀{b:Addr} {o:Obj} {es:Array DictEntry} {ep:Nat},gM.heap.get? b=some o->o.data=.dict es ep->H b=none:=fun{b o es ep} e d=>by
   cases q:H b with
   | none=>rfl
   | some u=>
    have e':b=a:=hA b (by rw[q];simp);subst e';rw[ha] at e;cases e;have d':Data.seq vs.toArray _=Data.dict es ep:=d;cases d'
  have Es:∀{b:Addr} {m:Str->Option Value},gM.heap.Ns b m->(vI gM.heap H).Ns b m:=fun{b m} ⟨o,es,ep,e,d,r⟩=>⟨o,es,ep,sS e (BX e d),d,r⟩
  have Oi:K.In (vI gM.heap H):=fun b o e=>sS (KX b o e) (by
   cases q:H b with
   | none=>rfl
   | some u=>
    have e':b=a:=hA b (by rw[q];simp);subst e'
    rw[hK (by rw[q];simp)] at e;cases e)
  have hM:Mod K mg (vI gM.heap H):=⟨Oi,Es sM,⟨mb,Es hb,YD⟩,let⟨mc,h1,h2⟩:=IF;⟨mc,Es h1,h2⟩⟩
  have e0:rS P w K mg (vI gM.heap H) callerA [] gM H:=⟨rfl,hM,fun b o e=>Ru e,Nat.le_of_eq (UG _ _),trivial,fun b hb=>absurd (show b∈([]:List Addr) from hb) (by simp),hV,.of_eq hg⟩
  refine fb ((F _ Oi (Es sM)).run callerA [] gM H ⟨[.ref a],[]⟩ [.ref a] [.ref a] _ _ hr e0 (Cz gM (.ref a)) (.cons rfl .nil) (z9 H hO hS)) fun r s' h=>?_
  cases r with
  | error e=>exact(YL H e s' h).elim
  | ok fl=>
   cases fl with
   | next=>exact False.elim h
   | brk=>exact False.elim h
   | cont=>exact False.elim h
   | ret u=>
    obtain⟨v,H',os,bare,un,IA,r',q⟩:=h;have q':v=.bl true:=q;subst q';obtain rfl:u=Value.bool true:=r';refine⟨rfl,OldK.of_keep fun b o e=>?_,os,bare⟩;cases q:H b with
    | none=>exact un.keep b o e q (by intro z;exact absurd (show b∈([]:List Addr) from z) (by simp)) (by simp)
    | some u=>
     rcases hO b with z | ⟨ob,xs,z⟩
     ·rw[q] at z;cases z
     ·have z2:=un.pH b ob _ z;obtain⟨e1,_⟩:=hV b _ z;obtain⟨e2,_⟩:=IA b _ z2;rw[e] at e1;cases e1;exact e2
 cases hk:K.lookup a with
 | some o=>
  -- t8 uB is one of t8 BZ own objects
  have e:=KX a o hk;rw[ha] at e;cases e;refine core (fun _=>none) (fun _=>.inl rfl) (.inr ⟨_,vs.toArray,_,hk,rfl,rfl,rfl,by rw[ax,HV];exact hl,by simpa using rv⟩) (fun b u z=>by have z':(none:Option HO)=some u:=z;cases z') (fun b z=>absurd rfl z) fun z=>absurd rfl z
 | none=>
  refine core (fun b=>if b=a then some (.oY { cls:=.type "list",data:=.seq vs.toArray } (.lst (ns.map V.int))) else none) (fun b=>?_) (.inl (.inr ⟨{ cls:=.type "list",data:=.seq vs.toArray },if_pos rfl⟩)) (fun b u z=>?_) (fun b z=>?_) fun _=>hk
  ·by_cases hb:b=a
   ·exact .inr ⟨_,_,if_pos hb⟩
   ·exact .inl (if_neg hb)
  ·by_cases hb:b=a
   ·have z':=(if_pos hb).symm.trans z;cases z';subst hb;exact⟨ha,by rw[ae];exact hl,vs,_,rv,ha⟩
   ·have z':=(if_neg hb).symm.trans z;cases z'
  ·by_cases hb:b=a
   ·exact hb
   ·exact absurd (if_neg hb) z
noncomputable abbrev wU{K:Z9}{h:Heap}(_:K.In h):Z9:=K
def Lr(s:Stmt)(j:Nat):Stmt:=match s with
 | .ClassDef _ _ _ body _ _ _ _ _ _ _=>body.getD j (.Pass ⟨0,0,0,0⟩)
 | _=>.Pass ⟨0,0,0,0⟩
noncomputable def jf(s:Stmt):Arguments:=match s with
 | .FunctionDef _ a _ _ _ _ _ _ _ _=>a
 | _=>{ posonlyargs:=[],args:=[],vararg:=none,kwonlyargs:=[],kw_defaults:=[],kwarg:=none,defaults:=[] }
noncomputable def gZ(s:Stmt):List Stmt:=match s with
 | .FunctionDef _ _ b _ _ _ _ _ _ _=>b
 | _=>[]
noncomputable def gf(s:Stmt):Scope:=match s with
 | .FunctionDef _ _ _ _ _ _ sc _ _ _=>sc
 | _=>{ kind:=.function,names:=[],isGenerator:=false,isCoroutine:=false }
abbrev qd:vC:=fun _ _ _ _ _ _=>False
abbrev E0:XK:=fun _ _ _=>False
theorem JL{X:Cx}:AO qd X E0:=fun _ _ _ _ _ _ _ h=>h.elim
structure pN (dV:Value) (K:Z9) (x qual:Str) (st:Stmt) (f:Addr) (fd:FuncData):Prop where
 ex:∃(oc:Value) (od:Option Addr) (kV doc pm:Value) (an:Option Addr) (gN ct:Value) (rq:Array (Option Value)),
  fd=PySem.W.fnOf x qual (jf st) (gZ st) (gf st) dV kV doc pm an gN ct/\K.lookup f=some ⟨oc,od,.func fd,rq⟩/\PySem.W.codeIn K gN qual=true
 kp:PySem.W.keepIn K (.ref f)=true
noncomputable abbrev EU:=pN .none
section
variable {P:Program} {w:World} {K:Z9} {mg:Str->Option Value} {base:Heap}
theorem pN.ok{dV:Value}{x qual:Str}{st:Stmt}{f:Addr}{fd:FuncData}{N ps:List Str}{k:Nat}{sp:Sp}(F:pN dV K x qual st f fd)(S:gn N ps (gf st))(len:∀vs H Q E,sp vs H Q E->vs.length=ps.length)
  (uR:∀(gN:Value) (A:Around) (outer:List Env) (s:Shared) (H:Hp) (vs:List V) (Q:VK) (E:XK),iL k (A.deeper (envOfC qual (gf st) s.heap.objs.size f gN))->sp vs H Q E->
   ∃t,rR (tS qd P w K mg base N qual (gf st) f gN A outer s H E).vv (gZ st) t/\t { nx:=fun _ H'=>Q .non H',rt:=Q } (oO N vs) H):lH P w K mg base qd (k+1) f fd ps sp:=by
 obtain⟨oc,od,kV,doc,pm,an,gN,ct,rq,rfl,lk,kP⟩:=F.ex;refine O6 lk kP S len fun A outer s H vs Q E hr z9=>?_
 obtain⟨t,h,q⟩:=uR gN A outer s H vs Q E hr z9;exact⟨t,h.vv,q⟩
theorem pN.binds{x qual:Str}{st:Stmt}{f:Addr}{fd:FuncData}{ps:List Str}(F:EU K x qual st f fd)
  (h:∀(kV doc pm:Value) (an:Option Addr) (gN ct:Value) (us:List Value),us.length=ps.length->bindArgs (PySem.W.fnOf x qual (jf st) (gZ st) (gf st) .none kV doc pm an gN ct) ⟨us,[]⟩=pure (ps.zip us)):Binds K fd ps []:=by
 obtain⟨oc,od,kV,doc,pm,an,gN,ct,rq,rfl,lk,kP⟩:=F.ex;exact .all (h kV doc pm an gN ct)
theorem FD{x qual:Str}{st:Stmt}{f:Addr}{oc:Value}{od an:Option Addr}{rq:Array (Option Value)}{dV kV doc pm gN ct:Value}(l:K.lookup f=some ⟨oc,od,.func (PySem.W.fnOf x qual (jf st) (gZ st) (gf st) dV kV doc pm an gN ct),rq⟩)
  (c:PySem.W.codeIn K gN qual=true) (k:PySem.W.keepIn K (.ref f)=true):pN dV K x qual st f (PySem.W.fnOf x qual (jf st) (gZ st) (gf st) dV kV doc pm an gN ct):=⟨⟨oc,od,kV,doc,pm,an,gN,ct,rq,rfl,l,c⟩,k⟩
end
section
variable {X:Cx}
theorem pv(i:Nat){x:Str}{pos:Pos}(hN:X.N[i]?=some x:=by rfl)(hv:qK X.env.scope x:=by first | exact Or.inl rfl | exact Or.inr (Or.inl rfl) | exact Or.inr (Or.inr rfl))(hd:(x==("__debug__":Str))=false:=by decide)
  (kP:(x==("__classdict__":Str))=false:=by decide):PE X (.Name x pos) (Jy i):=sg hN hv hd kP
end
def gz(H H':Hp):Prop:=∀b o,H b=some o->H' b=some o
theorem gz.refl(H:Hp):gz H H:=fun _ _ h=>h
theorem gz.trans{H H1 H2:Hp}(a:gz H H1)(b:gz H1 H2):gz H H2:=fun c o h=>b c o (a c o h)
theorem gz.free{H H':Hp}(e:gz H H'){l:Addr}(h:H' l=Option.none):H l=Option.none:=by
 cases q:H l with
 | none=>rfl
 | some o=>
  rw[e l o q] at h;cases h
end L2
set_option maxHeartbeats 0
namespace L2
open PySem PySem.Spec PyProof.Rows
def oh(K:Z9)(H:Hp)(a:Addr)(xs:List V):Prop:=
 Rd H a (.lst xs)\/∃(its:Array Value) (n:Nat),K.lookup a=some { cls:=.type "list",data:=.seq its n }/\its.size<=sizeLine/\Vals xs its.toList
theorem oh.of{K:Z9}{H:Hp}{a:Addr}{xs:List V}(h:H a=some (.lst xs)):oh K H a xs:=.inl (.inl h)
theorem oh.sq{K:Z9}{H:Hp}{a:Addr}{xs:List V}(h:oh K H a xs):iI K H a xs:=by
 rcases h with h | ⟨its,n,h1,h2,h3⟩
 ·exact .inl h
 ·exact .inr ⟨_,its,n,h1,rfl,rfl,rfl,h2,h3⟩
theorem gz.jF{K:Z9}{H H':Hp}{a:Addr}{xs:List V}(e:gz H H')(h:oh K H a xs):oh K H' a xs:=by
 rcases h with(h | ⟨o,h⟩) | h
 ·exact .inl (.inl (e _ _ h))
 ·exact .inl (.inr ⟨o,e _ _ h⟩)
 ·exact .inr h
theorem Inv.jF{X:Cx}{Z8:List (Addr×Obj)}{σ:St}{H:Hp}{s:Shared}{a:Addr}{xs:List V}(I:Inv X Z8 σ H s)(h:oh X.K H a xs):xs.length<=sizeLine/\∃(its:List Value) (n:Nat),Vals xs its/\s.heap.get? a=some { cls:=.type "list",data:=.seq its.toArray n }:=by
 rcases h with h | ⟨its,n,h1,h2,h3⟩
 ·obtain⟨z,its,n,r,e⟩:=h.ok I.hV;exact⟨z,its,n,r,e⟩
 ·refine⟨by rw[h3.length];simpa using h2,its.toList,n,h3,?_⟩;rw[dr];exact I.pZ a _ h1
noncomputable def pW(cells:List (Str×Addr)):List (Str×NameKind)->List (Str×Addr)->List (Str×Addr)
 | [],acc=>acc
 | (n,k)::r,acc=>pW cells r (if k==.free then(n,(cells.lookup n).getD 0)::acc else acc)
theorem M6{env:Env}:∀(names:List (Str×NameKind)) (acc:List (Str×Addr)),(∀x∈names,x.2=.free->∃c,env.cells.lookup x.1=some c)->
  (forIn names acc fun(x:Str×NameKind) (r:List (Str×Addr))=>
   (if (x.2==NameKind.free)=true then do let a <-cellOf env x.1;pure (ForInStep.yield ((x.1,a)::r)) else pure (ForInStep.yield r):Sem (ForInStep (List (Str×Addr)))))=pure (pW env.cells names acc)
 | [],acc,_=>by simp[pW]
 | (n,k)::r,acc,h=>by
  have ih:=fun nD=>M6 (env:=env) r nD fun x hx=>h x (aD _ hx)
  rw[List.forIn_cons];by_cases hk:k=.free
  ·subst hk;obtain⟨c,hc⟩:=h (n,.free) (by simp) rfl;have e1:cellOf env n=pure c:=by unfold cellOf;rw[hc]
   simp only[dZ,aR,e1,pure_bind];rw[ih];simp[pW,hc]
  ·have xA:(k==NameKind.free)=false:=by simpa using hk
   simp only[xA,aq,aP,pure_bind];rw[ih];simp[pW,xA]
theorem M5{env:Env}{scope:Scope}(h:∀x∈scope.names,x.2=.free->∃c,env.cells.lookup x.1=some c):closureFor scope env=pure (pW env.cells scope.names []):=by
 have e:closureFor scope env=(forIn scope.names ([]:List (Str×Addr)) fun(x:Str×NameKind) (r:List (Str×Addr))=>
   (if (x.2==NameKind.free)=true then do let a <-cellOf env x.1;pure (ForInStep.yield ((x.1,a)::r)) else pure (ForInStep.yield r):Sem (ForInStep (List (Str×Addr))))) >>= fun r=>pure r:=rfl
 rw[e,M6 _ _ h];rfl
theorem Mh{cells:List (Str×Addr)}:∀{names:List (Str×NameKind)} {acc:List (Str×Addr)} {x:Str} {c:Addr},(x,c)∈pW cells names acc->(x,c)∈acc\/((x,.free)∈names/\c=(cells.lookup x).getD 0)
 | [],acc,x,c,h=>.inl h
 | (n,k)::r,acc,x,c,h=>by
  rcases Mh (names:=r) h with h | ⟨h,e⟩
  ·by_cases hk:k=.free
   ·subst hk;simp only[dZ,aR] at h;rcases ar.mp h with h | h
    ·cases h;exact .inr ⟨by simp,rfl⟩
    ·exact .inl h
   ·have xA:(k==NameKind.free)=false:=by simpa using hk
    simp only[xA,aq,aP] at h;exact .inl h
  ·exact .inr ⟨aD _ h,e⟩
theorem Mg{cells:List (Str×Addr)}:∀{names:List (Str×NameKind)} {acc:List (Str×Addr)} {p:Str×Addr},p∈acc->p∈pW cells names acc
 | [],acc,p,h=>h
 | (n,k)::r,acc,p,h=>Mg (names:=r) (by split<;>simp[h])
theorem F9{cells:List (Str×Addr)}:∀{names:List (Str×NameKind)} {acc:List (Str×Addr)} {x:Str},(x,.free)∈names->∃c,(x,c)∈pW cells names acc
 | (n,k)::r,acc,x,h=>by
  rcases ar.mp h with h | h
  ·have e1:x=n:=eG Prod.fst h;have e2:NameKind.free=k:=eG Prod.snd h;subst e1 e2;refine⟨(cells.lookup x).getD 0,?_⟩;show(x,(cells.lookup x).getD 0)∈pW cells r (if (NameKind.free==NameKind.free)=true then(x,(cells.lookup x).getD 0)::acc else acc);exact Mg (by simp)
  ·exact F9 (names:=r) h
theorem Ec{α:Type}:∀{l:List (Str×α)} {x:Str} {c:α},(x,c)∈l->∃c',l.lookup x=some c'
 | (n,k)::r,x,c,h=>by
  by_cases e:x=n
  ·subst e;exact⟨k,by simp[c8]⟩
  ·have e':(x==n)=false:=by simpa using e
   rcases ar.mp h with h | h
   ·cases h;exact absurd rfl e
   ·obtain⟨c',q⟩:=Ec h;exact⟨c',by simp[c8,e',q]⟩
theorem Ho{env:Env}:∀{names:List (Str×NameKind)} {x:Str},
  (names.map fun(n,k)=>if (k==NameKind.free&&env.scope.kind==.function&&env.kindOf n==some .cell) then(n,NameKind.cell) else(n,k)).lookup x
   = (names.lookup x).map fun k=>if (k==NameKind.free&&env.scope.kind==.function&&env.kindOf x==some .cell) then NameKind.cell else k
 | [],x=>rfl
 | (n,k)::r,x=>by
  have ih:=@Ho env r x;rw[ay];have e0:(if (k==NameKind.free&&env.scope.kind==.function&&env.kindOf n==some .cell)=true then(n,NameKind.cell) else(n,k))=(n,if (k==NameKind.free&&env.scope.kind==.function&&env.kindOf n==some .cell)=true then NameKind.cell else k):=by split<;>rfl
  show List.lookup x ((if (k==NameKind.free&&env.scope.kind==.function&&env.kindOf n==some .cell)=true then(n,NameKind.cell) else(n,k))::_)=_;rw[e0];by_cases e:x=n
  ·subst e;rw[c8,c8,dZ];rfl
  ·have e':(x==n)=false:=by simpa using e
   rw[c8,c8,e'];exact ih
theorem Hf:∀(names:List (Str×NameKind)) (n:Nat) (acc nD:List (Str×Addr)),cellsFrom n names (acc++nD)=cellsFrom n names acc++nD
 | [],_,_,_=>rfl
 | (x,k)::r,n,acc,nD=>by
  unfold cellsFrom;split
  ·exact Hf r (n+1) ((x,n)::acc) nD
  ·exact Hf r n acc nD
theorem He:∀{names:List (Str×NameKind)} {n:Nat} {acc:List (Str×Addr)} {p:Str×Addr},p∈cellsFrom n names acc->p∈acc\/(p.1,.cell)∈names
 | [],_,_,_,h=>.inl h
 | (x,k)::r,n,acc,p,h=>by
  unfold cellsFrom at h;split at h
  ·rename_i hk;rcases He h with h | h
   ·rcases ar.mp h with rfl | h
    ·rw[eq_of_beq hk];exact .inr (by simp)
    ·exact .inl h
   ·exact .inr (aD _ h)
  ·exact(He h).imp id (aD _)
theorem Bx:∀{names:List (Str×NameKind)} {n:Nat} {acc:List (Str×Addr)} {p:Str×Addr},p∈acc->p∈cellsFrom n names acc
 | [],_,_,_,h=>h
 | (x,k)::r,n,acc,p,h=>by
  unfold cellsFrom;split
  ·exact Bx (aD _ h)
  ·exact Bx h
theorem Hc:∀{names:List (Str×NameKind)} {n:Nat} {acc:List (Str×Addr)} {x:Str},(x,.cell)∈names->∃c,(x,c)∈cellsFrom n names acc
 | (y,k)::r,n,acc,x,h=>by
  unfold cellsFrom;rcases ar.mp h with h | h
  ·cases h;exact⟨n,Bx (by simp)⟩
  ·split
   ·exact Hc h
   ·exact Hc h
theorem Tg{M:Model}{A:Around}{E:Value->Shared->Prop}{s:Shared}{scope:Scope}{globals:Addr}{closure:List (Str×Addr)}{qual:Str}{func:Option Addr}{code:Value}{out:Env}{Q:Env->Shared->Prop}
  (hQ:∀h',h'=pushCells (s.heap.push { cls:=.type "dict",data:=.dict #[] }) scope.names->Q (newEnv scope s.heap.objs.size globals (cellsFrom (s.heap.objs.size+1) scope.names closure) qual func code (some out) builtinsNs) { s with heap:=h' }) :
  wpAny M A (newFunctionEnv scope globals closure [] qual func code (some out)) Q E s:=by
 simp only[newFunctionEnv,Option.isSome_some,aR];refine aa (wpAny_alloc ?_);refine aa (wpAny_layCells _ (fun name kind cells=>by cases Yq:kind==NameKind.cell<;>simp[Yq]) _ _ _ _ ?_);rw[show({ s with heap:=s.heap.push { cls:=.type "dict",data:=.dict #[] } }:Shared).heap.objs.size=s.heap.objs.size+1 from cV ..];rw[List.forIn_nil];exact aa (ao (ao (hQ _ rfl)))
noncomputable abbrev lW(X:Cx)(N':List Str)(scope:Scope)(s3:Shared)(H3:Hp)(ex:List Addr):Cx:=
 { X with N:=N',ju:=s3,u6:=H3,env:=compEnvC scope (cellsFrom (s3.heap.objs.size+1) scope.names (pW X.env.cells scope.names [])) s3.heap.objs.size X.env,outer:=X.stack,stack:=X.stack,ex:=ex,fn:=fun x=>scope.names.lookup x==some .cell,pn:=[],xe:=fun _ _=>False }
noncomputable def uI(m:List (Option Nat))(σ:St):St:=m.map fun o=>match o with
 | none=>none
 | some j=>(σ[j]?).join
structure gT (X:Cx) (N':List Str) (m:List (Option Nat)) (scope:Scope):Prop where
 kind:scope.kind=.function
 len:m.length=N'.length
 uniq:∀y∈scope.names,scope.names.lookup y.1=some y.2
 free:∀y∈scope.names,y.2=.free->X.env.kindOf y.1=some .cell\/X.env.kindOf y.1=some .free
 Y4:∀(i j:Nat) (x:Str),m[i]?=some (some j)->N'[i]?=some x->X.N[j]?=some x/\scope.names.lookup x=some .free
def As(X:Cx)(ifs:List Expr)(t:TT):Prop:=
 ∀(Z8:List (Addr×Obj)) (s:Shared) (σ:St) (H:Hp) (Q:Bool->Hp->Prop),Inv X Z8 σ H s->t σ H Q->
  wpAny (model X.prog X.w) X.A (forIn ifs true fun c r=>if r=true then do let ok <-isTrue c X.env (eval c X.env);pure (ForInStep.yield ok) else pure (ForInStep.yield r)) (TP X Z8 σ Q) X.xe s
def OK:TT:=fun _ H Q=>Q true H
theorem Ry{X:Cx}:As X [] OK:=fun _ _ σ H _ I h=>wpAny_tests_nil ⟨H,I,h⟩
theorem Rx{X:Cx}{c:Expr}{t:TT}(h:PT X c t):As X [c] t:=fun Z8 s σ H Q I q=>wpAny_tests_one (h Z8 s σ H Q I q)
section
variable {prog:Program} {w:World} {A:Around} {R:Result->Shared->Prop} {s:Shared}
theorem U0{elt target iter:Expr}{ifs:List Expr}{scope:Scope}{pos:Pos}{it acc:Value}{env:Env}(I:Nat->Shared->Prop)
  (turn:∀n s,I n s->wpAny (model prog w) A (pyNext it) (fun r gM=>match r with
   | none=>R (.ok .next) gM
   | some v=>wpAny (model prog w) A (letOwnedTupleGo target it v) (fun _ xp=>wpAny (model prog w) A (assign target env v) (fun _ oU=>
     wpAny (model prog w) A (forIn ifs true fun c r=>if r=true then do let ok <-isTrue c env (eval c env);pure (ForInStep.yield ok) else pure (ForInStep.yield r)) (fun ok uA=>
      if ok=true then wpAny (model prog w) A (eval elt env) (fun x v8=>
       wpAny (model prog w) A (call (.builtin "list.append") [acc,x]) (fun _ BJ=>∃m,m<n/\I m BJ) (fun _ _=>False) v8) (fun _ _=>False) uA
      else ∃m,m<n/\I m uA) (fun _ _=>False) oU) (fun _ _=>False) xp) (fun _ _=>False) gM) (fun _ _=>False) s)
  (n:Nat) (h:I n s) :
  codeAny (model prog w) A (.compLoop (.ListComp elt [⟨target,iter,ifs,0⟩] scope pos) 0 it acc env) R s:=by
 refine codeAny_loop rfl I (fun n s hI=>?_) n h;show wpAny _ A ((compTurn (.ListComp elt [⟨target,iter,ifs,0⟩] scope pos) 0 it acc env).onRaise (fun x=>do noteFrame x env;theTreesLotGoes x)) _ _ s;refine wpAny_noted ?_;rw[compTurn_list];have nv:∀{E:Value->Shared->Prop} (x:Value) (s:Shared),(fun(_:Value) (_:Shared)=>False) x s->E x s:=fun _ _ f=>f.elim
 refine aa (fY (aa (dQ (turn n s hI) (fun r gM n8=>?_) nv)));cases r with
 | none=>exact ao n8
 | some v=>
  refine aa (dQ n8 (fun _ xp B9=>?_) nv);refine aa (dQ B9 (fun _ oU Ic=>aa (dQ Ic (fun ok uA B8=>?_) nv)) nv);cases ok with
  | false=>exact ao ⟨rfl,B8⟩
  | true=>
   exact aa (aa (dQ B8 (fun x v8 Ib=>aa (dQ Ib (fun _ BJ Ia=>ao (ao ⟨rfl,Ia⟩)) nv)) nv))
end
noncomputable abbrev uj(α:Type):=Shared->Hp->List Addr->α
def AM(wi:TI)(m:List (Option Nat))(g:uj TG)(tc:uj TT)(te:uj TE):TE:=fun σ H Q=>wi σ H fun J H1=>∀D,H1 D=none->∀s3 ex,
 ∃W:Nat->Nat->St->Hp->Prop,(∃k,W 0 k (uI m σ) (upd H1 D (.lst [])))/\∀i k gK H',W i k gK H'->
  (J.stop i H'/\Q (.ref D) H')\/(J.go i H'/\∃N:St->Hp->Prop,(∀gK H',N gK H'->∃k',k'<k/\W (i+1) k' gK H')/\
   ∀x H2,J.Ed i H' x H2->g s3 (upd H1 D (.lst [])) ex x gK H2 fun oJ H3=>tc s3 (upd H1 D (.lst [])) ex oJ H3 fun b H4=>
    if b=true then te s3 (upd H1 D (.lst [])) ex oJ H4 fun v H5=>∃xs,H5 D=some (.lst xs)/\xs.length<sizeLine/\N oJ (upd H5 D (.lst (xs++[v]))) else N oJ H4)
section
variable {X:Cx} {elt iter tg:Expr} {ifs:List Expr} {scope:Scope} {pos:Pos} {N':List Str} {m:List (Option Nat)} {wi:TI} {g:uj TG} {tc:uj TT} {te:uj TE}
theorem Tf{Z8:List (Addr×Obj)}{σ:St}{H:Hp}{s:Shared}{fp:List Addr}{n8:Heap}{tk:Nat}(cs:gT X N' m scope)(I:Inv X Z8 σ H s)(f:∀b∈fp,nF X Z8 H b)(fo:∀b∈fp,b<s.heap.objs.size)
  (hh:n8=pushCells (s.heap.push { cls:=.type "dict",data:=.dict #[] }) scope.names) :
  Inv (lW X N' scope s H fp) [] (uI m σ) H { s with heap:=n8,toks:=tk }:=by
 have hk:∀b o,s.heap.get? b=some o->n8.get? b=some o:=fun b o e=>by rw[hh];exact pushCells_keeps _ _ b o (aj _ e)
 have sM:n8.Ns s.heap.objs.size (fun _=>none):=by rw[hh];exact(Heap.Ns.new s.heap (.type "dict")).keeps (pushCells_keeps _ _)
 have ok:=cellsFrom_ok scope.names (s.heap.push { cls:=.type "dict",data:=.dict #[] }) (s.heap.objs.size+1) [] ⟨fun _ _ hm=>(nomatch hm),List.Pairwise.nil⟩ (by rw[cV];exact aA _);rw[cV,<-hh] at ok;have i6:∀y∈scope.names,y.2=.free->∃c,X.env.cells.lookup y.1=some c:=fun y hy hf=>I.ok.has y.1 (cs.free y hy hf)
 have app:cellsFrom (s.heap.objs.size+1) scope.names (pW X.env.cells scope.names [])=cellsFrom (s.heap.objs.size+1) scope.names []++pW X.env.cells scope.names []:=Hf _ _ [] _
 /- a cell: of its own,or one from around -/
 have yX:∀x c,(cellsFrom (s.heap.objs.size+1) scope.names (pW X.env.cells scope.names [])).lookup x=some c->((x,c)∈cellsFrom (s.heap.objs.size+1) scope.names []/\scope.names.lookup x=some .cell)\/(X.env.cells.lookup x=some c/\scope.names.lookup x=some .free):=fun x c e=>by
  have hm:=cI e;rw[app] at hm;rcases av.mp hm with hm | hm
  ·refine .inl ⟨hm,?_⟩;rcases He hm with z | z
   ·cases z
   ·exact cs.uniq _ z
  ·rcases Mh hm with z | ⟨z,e'⟩
   ·cases z
   ·obtain⟨c',q⟩:=i6 _ z rfl;rw[q] at e';exact .inr ⟨by rw[q,e'];rfl,cs.uniq _ z⟩
 have old:∀x c,X.env.cells.lookup x=some c->c<s.heap.objs.size:=fun x c e=>by obtain⟨v,z⟩:=I.cell x c e;exact z.lt
 refine⟨⟨I.ok.mod,cs.kind,I.ok.glob,I.ok.blt,aA _,fun x y c e1 e2=>?inj,fun x hx=>?_,fun x c hx e=>?cab,I.ok.hd,I.ok.frames,.inl rfl,fun b hb=>⟨aJ (fo b hb),fun x c e=>?exf⟩,
  fun b o e=>I.bs b o e,aK I.ok.xI I.sz,fun b o e hb=>?_,fun b hb z=>?_,I.stack,I.sA⟩,
  rfl,I.bare,Un.kept hk,⟨_,sM,fun i x v h1 h2 h3=>?_⟩,fun x c e=>?_,I.hV.fresh (aA _),fun x c e=>?frc,fun p hp=>(by cases hp),I.hV.kept hk,?_⟩
 case inj=>
  rcases yX x c e1 with⟨m1,_⟩ | ⟨o1,_⟩<;>rcases yX y c e2 with⟨m2,_⟩ | ⟨o2,_⟩
  ·exact PySem.name_of_addr ok.apart m1 m2
  ·exact absurd (old y c o2) (Nat.not_lt.mpr (aK (bY _) (ok.empty x c m1).2))
  ·exact absurd (old x c o1) (Nat.not_lt.mpr (aK (bY _) (ok.empty y c m2).2))
  ·exact I.ok.inj x y c o1 o2
 case cab=>
  rcases yX x c e with⟨m1,_⟩ | ⟨_,z⟩
  ·exact aK (bY _) (ok.empty x c m1).2
  ·have sI:(scope.names.lookup x==some .cell)=true:=hx;rw[z] at sI;cases sI
 case exf=>
  rcases yX x c e with⟨m1,_⟩ | ⟨o1,_⟩
  ·exact e7 (aV (cv (fo b hb)) (ok.empty x c m1).2)
  ·exact(f b hb).2.2.2.2.1 x c o1
 case frc=>
  rcases yX x c e with⟨m1,_⟩ | ⟨o1,_⟩
  ·exact I.hV.fresh (aK (bY _) (ok.empty x c m1).2)
  ·exact I.lg x c o1
 ·have sI:(relabel scope X.env).names.lookup x=some .cell\/(relabel scope X.env).names.lookup x=some .free:=hx;have e:(relabel scope X.env).names.lookup x=(scope.names.lookup x).map fun k=>if (k==NameKind.free&&X.env.scope.kind==.function&&X.env.kindOf x==some .cell) then NameKind.cell else k:=Ho
  rw[e] at sI;have hf:(x,NameKind.free)∈scope.names\/(x,NameKind.cell)∈scope.names:=by
   cases q:scope.names.lookup x with
   | none=>rw[q] at sI;simp at sI
   | some k=>
    rw[q] at sI;have hm:=cI q;by_cases Ai:k=.free
    ·subst Ai;exact .inl hm
    ·have xA:(k==NameKind.free)=false:=by simpa using Ai
     simp only[xA,ez,Bool.false_and,aq,aP,aW] at sI;rcases sI with z | z
     ·subst z;exact .inr hm
     ·exact absurd z Ai
  show ∃c,(cellsFrom (s.heap.objs.size+1) scope.names (pW X.env.cells scope.names [])).lookup x=some c
  rcases hf with hf | hf
  ·obtain⟨c,hc⟩:=F9 (cells:=X.env.cells) (acc:=[]) hf;exact Ec (Bx hc)
  ·obtain⟨c,hc⟩:=Hc (n:=s.heap.objs.size+1) (acc:=pW X.env.cells scope.names []) hf;exact Ec hc
 ·rcases(f b hb).2.2.2.1 with z | z
  ·exact I.ok.uF b o e z
  ·exact absurd (aV (aE (I.ok.bs b o e).1) z) (cO _)
 ·rcases ar.mp (I.rD b z) with q | q
  ·exact(f b hb).2.1 q
  ·exact(f b hb).2.2.1 q
 ·unfold uI at h2;rw[aH] at h2;cases q:m[i]? with
  | none=>rw[q] at h2;cases h2
  | some o=>
   rw[q] at h2;cases o with
   | none=>cases h2
   | some j=>
    simp only[ez,aW] at h2;have Jd:σ[j]?=some (some v):=by
     cases z:σ[j]? with
     | none=>rw[z] at h2;cases h2
     | some a=>rw[z] at h2;simp at h2;rw[h2]
    obtain⟨hN,wD⟩:=cs.Y4 i j x q h1;have N5:=cI wD;obtain⟨m0,Zx,hl⟩:=I.loc;have sO:=cs.free _ N5 rfl;have Ih:qK X.env.scope x:=sO.elim (fun z=>.inr (.inl z)) (fun z=>.inr (.inr z));obtain⟨u,ru,lu⟩:=hl j x v hN Jd Ih;refine⟨u,ru,.inr ⟨?_,?_⟩⟩
    ·show(relabel scope X.env).names.lookup x=some .cell\/(relabel scope X.env).names.lookup x=some .free;have e:(relabel scope X.env).names.lookup x=(scope.names.lookup x).map fun k=>if (k==NameKind.free&&X.env.scope.kind==.function&&X.env.kindOf x==some .cell) then NameKind.cell else k:=Ho
     rw[e,wD];simp only[ez];split
     ·exact .inl rfl
     ·exact .inr rfl
    ·rcases lu with⟨k,_⟩ | ⟨_,c,e,z⟩
     ·rcases sO with z | z<;>· rw[k] at z;cases z
     ·obtain⟨c',uQ⟩:=Ec (Bx (names:=scope.names) (n:=s.heap.objs.size+1) (F9 (cells:=X.env.cells) (acc:=[]) N5).choose_spec);have:X.env.cells.lookup x=some c':=by
       rcases yX x c' uQ with⟨_,z⟩ | ⟨z,_⟩
       ·rw[wD] at z;cases z
       ·exact z
      rw[e] at this;cases this;obtain⟨oc,Ad,hd⟩:=z;exact⟨c,uQ,oc,hk c oc Ad,hd⟩
 ·rcases yX x c e with⟨m1,_⟩ | ⟨o1,_⟩
  ·exact⟨none,(ok.empty x c m1).1⟩
  ·obtain⟨v,oc,Ad,hd⟩:=I.cell x c o1;exact⟨v,oc,hk c oc Ad,hd⟩
 ·show(uI m σ).length=N'.length;unfold uI;rw[ae,cs.len]
theorem MC{use:Option (Value->Sem Unit)}{Q':Value->Shared->Prop}{Z8:List (Addr×Obj)}{s:Shared}{σ:St}{H:Hp}{Q:VK}
  (hc:X.calm=true) (cs:gT X N' m scope) (hi:PI X tg iter wi) (hg:∀s3 H3 ex,PG (lW X N' scope s3 H3 ex) tg (g s3 H3 ex)) (ht:∀s3 H3 ex,As (lW X N' scope s3 H3 ex) ifs (tc s3 H3 ex))
  (he:∀s3 H3 ex,PE (lW X N' scope s3 H3 ex) elt (te s3 H3 ex)) (I:Inv X Z8 σ H s) (h:AM wi m g tc te σ H Q)
  (fin:∀D C s' H',Inv X Z8 σ H' s'->nF X Z8 H' C->(∃m,s'.heap.Ns C m)->Q (.ref D) H'->compPost (model X.prog X.w) X.A X.xe use Q' (.ref D) C (.ok .next) s') :
  wpAny (model X.prog X.w) X.A (eval iter X.env) (fun x gM=>wpAny (model X.prog X.w) X.A (pyIter x) (fun it oU=>wpAny (model X.prog X.w) X.A (newList []) (fun acc uA=>
   wpAny (model X.prog X.w) X.A (newFunctionEnv scope X.env.globals (pW X.env.cells scope.names []) [] X.env.qual none .none (some X.env)) (fun CH v8=>
    codeAny (model X.prog X.w) X.A (.compStart (.ListComp elt [⟨tg,iter,ifs,0⟩] scope pos) 0 it acc { CH with scope:=relabel scope X.env }) (compPost (model X.prog X.w) X.A X.xe use Q' acc CH.locals) v8) X.xe uA) X.xe oU) X.xe gM) X.xe s:=by
 refine hE (hi Z8 s σ H _ I h) fun v s1 h1=>hE h1 fun HZ s2 h2=>?_
 obtain⟨it,fp,tn,J,H2,e,I2,T,gC,f2,h⟩:=h2;subst e;refine cA (Tg fun n8 xD=>?_);have hf:H2 s2.heap.objs.size=none:=I2.hV.fresh (aA _);obtain⟨W,⟨k0,w0⟩,turn⟩:=h s2.heap.objs.size hf { s2 with heap:=s2.heap.push { cls:=.type "list",data:=.seq ([]:List Value).toArray } } fp;have I3:Inv X Z8 σ (upd H2 s2.heap.objs.size (.lst [])) { s2 with heap:=s2.heap.push { cls:=.type "list",data:=.seq ([]:List Value).toArray } }:=I2.B3 (its:=[]) (t':=s2.toks) .nil (by simp);have Oo:∀b∈fp,b<s2.heap.objs.size:=fun b hb=>by
  obtain⟨o,e,_⟩:=T.obj _ _ gC b hb;exact aE e
 have f3:∀b∈fp,nF X Z8 (upd H2 s2.heap.objs.size (.lst [])) b:=fun b hb=>⟨by rw[iy (aJ (Oo b hb))];exact(f2 b hb).1,(f2 b hb).2⟩
 generalize NV:({ s2 with heap:=s2.heap.push { cls:=.type "list",data:=.seq ([]:List Value).toArray } }:Shared)=s3 at *;have hC:s3.heap.objs.size=s2.heap.objs.size+1:=by rw[<-NV];exact cV ..
 have Oq:∀b∈fp,b<s3.heap.objs.size:=fun b hb=>by rw[hC];exact cv (Oo b hb)
 have k3:∀b o,s2.heap.get? b=some o->s3.heap.get? b=some o:=fun b o e=>by rw[<-NV];exact aj _ e
 have k1:∀b o,s3.heap.get? b=some o->n8.get? b=some o:=fun b o e=>by rw[xD];exact pushCells_keeps _ _ b o (aj _ e)
 have J0:=Tf (tk:=s3.toks) cs I3 f3 Oq xD;have wa:tn 0 n8:=T.keep _ _ _ gC fun b _ o e=>k1 b o (k3 b o e)
 have Je:∀{H':Hp},(∀b∈fp,H' b=none)->∀b∈fp,nF (lW X N' scope s3 (upd H2 s2.heap.objs.size (.lst [])) fp) [] H' b:=fun hn b hb=>
  ⟨hn b hb,aJ (Oq b hb),J0.ok.uW b hb,.inl hb,(J0.ok.exf b hb).2,fun p hp=>by cases hp⟩
 have wD:∀b∈fp,(upd H2 s2.heap.objs.size (.lst [])) b=none:=fun b hb=>(f3 b hb).1
 have loop:codeAny (model X.prog X.w) X.A (.compLoop (.ListComp elt [⟨tg,iter,ifs,0⟩] scope pos) 0 (.ref it) (.ref s2.heap.objs.size) (compEnvC scope (cellsFrom (s3.heap.objs.size+1) scope.names (pW X.env.cells scope.names [])) s3.heap.objs.size X.env))
   (compPost (model X.prog X.w) X.A X.xe use Q' (.ref s2.heap.objs.size) s3.heap.objs.size) { s3 with heap:=n8 }:=by
  refine U0 (fun n s'=>∃i gK H',Inv (lW X N' scope s3 (upd H2 s2.heap.objs.size (.lst [])) fp) [] gK H' s'/\tn i s'.heap/\(∀b∈fp,H' b=none)/\W i n gK H') ?_ k0 ⟨0,_,_,J0,wa,wD,w0⟩;rintro n s4 ⟨i,tP,H4,I4,Nu,Ap,w4⟩;rcases turn i n tP H4 w4 with⟨stop,qn⟩ | ⟨go,N,hN,step⟩
  ·refine hE (T.done (lW X N' scope s3 (upd H2 s2.heap.objs.size (.lst [])) fp) rfl rfl rfl hc i [] s4 tP H4 _ I4 (Je Ap) Nu stop) fun r s5 gD=>?_
   obtain⟨hr,I5⟩:=gD;subst hr;have ue:∀b∈fp,(b∈X.ex\/X.ju.heap.objs.size<=b)/\b≠X.env.locals/\(∀x c,X.env.cells.lookup x=some c->c≠b)/\∀p∈X.pn++Z8,p.1≠b:=fun b hb=>⟨(f2 b hb).2.2.2.1,(f2 b hb).2.1,(f2 b hb).2.2.2.2.1,(f2 b hb).2.2.2.2.2⟩
   have I6:Inv X Z8 σ H4 s5:=I3.CI (ch:=fp) I5.os I5.base I5.hV I5.bare ue;obtain⟨m5,Yk,_⟩:=id I5.loc;exact fin _ _ s5 H4 I6 (I3.qH (aA _) I5.free) ⟨m5,Yk⟩ qn
  ·refine hE (T.item (lW X N' scope s3 (upd H2 s2.heap.objs.size (.lst [])) fp) rfl rfl rfl hc i [] s4 tP H4 _ I4 (Je Ap) Nu go) fun r s5 gD=>?_
   obtain⟨u,hr,h5⟩:=gD;subst hr;refine hE h5 fun _ s6 gD=>?_
   obtain⟨x,H6,I6,r6,y6,Hx,YX⟩:=gD;have Y9:=I6.pinned (Je YX) (T.obj _ _ Hx);refine hE (hg _ _ _ _ s6 tP H6 x u _ Y9 r6 (step x H6 y6)) fun _ s7 gD=>?_
   obtain⟨qX,H7,I7,q7⟩:=gD;refine hE (ht _ _ _ _ s7 qX H7 _ I7 q7) fun b s8 gD=>?_
   obtain⟨H8,I8,q8⟩:=gD;have again:∀{s9:Shared} {Av:St} {H9:Hp},Inv (lW X N' scope s3 (upd H2 s2.heap.objs.size (.lst [])) fp) ([]++AQ fp s6.heap) Av H9 s9->N Av H9->∃m,m<n/\∃i gK H',Inv (lW X N' scope s3 (upd H2 s2.heap.objs.size (.lst [])) fp) [] gK H' s9/\tn i s9.heap/\(∀b∈fp,H' b=none)/\W i m gK H':=fun{s9 Av H9} I9 n9=>by
    obtain⟨m',hm,w9⟩:=hN Av H9 n9;refine⟨m',hm,i+1,Av,H9,I9.md,T.keep _ _ _ Hx fun b hb o e=>(I9.pin (b,o) (bg _ (bg _ (D6 hb e)))).1,fun b hb=>?_,w9⟩;obtain⟨o,e,d⟩:=T.obj _ _ Hx b hb;exact(I9.pin (b,o) (bg _ (bg _ (D6 hb e)))).2.1
   cases b with
   | false=>exact again I8 q8
   | true=>
    rw[if_pos rfl];refine hE (he _ _ _ _ s8 qX H8 _ I8 q8) fun y s9 gD=>?_
    obtain⟨v9,H9,I9,r9,xs,hD,hz,q9⟩:=gD;refine hE (D8 _ s9 qX H9 (.ref s2.heap.objs.size) [v9] (.ref s2.heap.objs.size) [y] (fun _ H'=>N qX H') I9 rfl (.cons r9 .nil) ⟨_,xs,v9,rfl,rfl,hD,hz,q9⟩) fun _ Zn gD=>?_
    obtain⟨_,ZO,Zb,_,XG⟩:=gD;exact again Zb XG
 exact codeAny_compStart_list loop (T.self _ 0 _ _ _ wa loop)
theorem Lq(hc:X.calm=true)(cs:gT X N' m scope)(hi:PI X tg iter wi)(hg:∀s3 H3 ex,PG (lW X N' scope s3 H3 ex) tg (g s3 H3 ex))(ht:∀s3 H3 ex,As (lW X N' scope s3 H3 ex) ifs (tc s3 H3 ex))
  (he:∀s3 H3 ex,PE (lW X N' scope s3 H3 ex) elt (te s3 H3 ex)) (hs:∀x,foldedSetIterable iter X.env x=pure x:=by intro _;rfl):PE X (.ListComp elt [⟨tg,iter,ifs,0⟩] scope pos) (AM wi m g tc te):=by
 intro Z8 s σ H Q I h;rw[eval_ListComp];have i6:∀y∈scope.names,y.2=.free->∃c,X.env.cells.lookup y.1=some c:=fun y hy hf=>I.ok.has y.1 (cs.free y hy hf)
 refine wpAny_comprehension_free (use:=none) rfl hs (M5 i6) cs.kind (fun y hy hl=>by rw[cs.uniq y hy,hl]) (MC hc cs hi hg ht he I h fun D C s' H' I' fC ⟨mC,hn⟩ q=>?_);refine⟨mC,hn,fun h' sb=>⟨.ref D,H',I'.turned (t':=s'.toks) (fun b o hb e=>(sb.2 b hb).trans e) fC.1 fC.2.1 fC.2.2.2.1 fC.2.2.2.2.1 fC.2.2.2.2.2,rfl,q⟩⟩
theorem FE{i:Nat}{x:Str}{pos' nX:Pos}(hN:X.N.Nodup)(yL:X.N[i]?=some x)(hx:Loc X.env.scope x)
  (hc:X.calm=true) (cs:gT X N' m scope) (hi:PI X tg iter wi) (hg:∀s3 H3 ex,PG (lW X N' scope s3 H3 ex) tg (g s3 H3 ex)) (ht:∀s3 H3 ex,As (lW X N' scope s3 H3 ex) ifs (tc s3 H3 ex))
  (he:∀s3 H3 ex,PE (lW X N' scope s3 H3 ex) elt (te s3 H3 ex)) (hs:∀x,foldedSetIterable iter X.env x=pure x:=by intro _;rfl)
  (yG:swapsWith (.ListComp elt [⟨tg,iter,ifs,0⟩] scope pos) (some (.Name x pos')) nX.line X.env=pure true:=by rfl)
  (hf:X.fn x=true\/X.env.scope.names.lookup x=some .local:=by first | exact .inl rfl | exact .inr rfl | assumption) :
  PS X (.Assign [.Name x pos'] (.ListComp elt [⟨tg,iter,ifs,0⟩] scope pos) nX) (EY (AM wi m g tc te) (Fh i)):=by
 intro Z8 s σ H D I h;have i6:∀y∈scope.names,y.2=.free->∃c,X.env.cells.lookup y.1=some c:=fun y hy hf=>I.ok.has y.1 (cs.free y hy hf)
 rw[exec_Assign_Name_used _ _ _ _ yG];refine aa (fY (aa ?_));show wpAny _ _ (do let _ <-comprehension (.ListComp elt [⟨tg,iter,ifs,0⟩] scope pos) scope X.env _ (newList []) false (eval iter X.env) (some (assign (.Name x pos') X.env))) _ _ s;refine aa (dQ (wpAny_comprehension_free (use:=some (assign (.Name x pos') X.env)) (Q:=fun _ s'=>SP X Z8 D .next s') rfl hs (M5 i6) cs.kind (fun y hy hl=>by rw[cs.uniq y hy,hl]) (MC hc cs hi hg ht he I h fun A C s' H' I' fC ⟨mC,hn⟩ q=>?_)) (fun _ s' hq=>ao (ao hq)) fun _ _ e=>e);show wpAny _ _ (assign (.Name x pos') X.env (.ref A)) _ _ _;refine wpAny_assign_Name (Mp I' hN yL hx (show RelV (.ref A) (.ref A) from rfl) (fun s2 I2 Yd=>?_) hf);obtain⟨a,Xw,ha⟩:=Yd;have YK:C≠a:=by
  rcases ha with rfl | ha
  ·exact fC.2.1
  ·exact fun z=>fC.2.2.2.2.1 x a ha z.symm
 refine⟨mC,hn.sameBut Xw YK,fun h' sb=>⟨_,H',I2.turned (t':=s2.toks) (fun b o hb e=>(sb.2 b hb).trans e) fC.1 fC.2.1 fC.2.2.2.1 fC.2.2.2.2.1 fC.2.2.2.2.2,q⟩⟩
end
theorem Km:2<=sizeLine:=by decide
theorem Inv.nH{X:Cx}{Z8:List (Addr×Obj)}{σ:St}{H:Hp}{s:Shared}{h':Heap}{t':Nat}{fp:List Addr}(I:Inv X Z8 σ H s)(k:∀b o,b∉fp->s.heap.get? b=some o->h'.get? b=some o)(f:∀b∈fp,nF X Z8 H b) :
  Inv X Z8 σ H { s with heap:=h',toks:=t' }:=by
 have xu:∀b u,H b=some u->b∉fp:=fun b u e z=>by rw[(f b z).1] at e;cases e
 refine I.step (g':=s.gens) (d':=s.drawn) (ch:=fp) (fun b hb=>⟨(f b hb).2.2.2.1,(f b hb).2.1,(f b hb).2.2.2.2.1,(f b hb).2.2.2.2.2⟩) (fun b o _ _ hc e _=>k b o hc e) (fun b o _ _ hc e _=>⟨o.slots,k b o hc e⟩) (fun _ _ _ _ n=>n)
  (fun b o hc e=>⟨o,k b o hc e⟩) (fun _ _ e=>e) (fun _ _ _ e=>e) (fun b ps e=>⟨#[],by rw[e];simp⟩) (fun m hm=>?_) (fun b u e=>?_) I.bare
 ·obtain⟨o,es,ep,ho,r⟩:=hm;exact⟨o,es,ep,k _ o (fun z=>(f _ z).2.1 rfl) ho,r⟩
 ·refine(I.hV b u e).rE (fun c v hc q=>k c v ?_ q) (fun _ q=>q) fun _ _ q=>q
  rcases hc with z | z
  ·rw[z];exact xu b u e
  ·exact xu c _ z
theorem Inv.pj{X:Cx}{Z8:List (Addr×Obj)}{σ:St}{H:Hp}{s:Shared}{h':Heap}{t':Nat}{fp:List Addr}{a:Addr}{o:HO}(I:Inv X Z8 σ H s)(k:∀b o,b∉fp->s.heap.get? b=some o->h'.get? b=some o)(f:∀b∈fp,nF X Z8 H b)
  (hp:s.heap.objs.size<=a) (new:iS X.prog X.w (upd H a o) h' a o):Inv X Z8 σ (upd H a o) { s with heap:=h',toks:=t' }:=by
 have i6:H a=none:=I.hV.fresh hp;have xu:∀b u,H b=some u->b∉fp:=fun b u e z=>by rw[(f b z).1] at e;cases e
 refine I.step (g':=s.gens) (d':=s.drawn) (ch:=fp) (fun b hb=>⟨(f b hb).2.2.2.1,(f b hb).2.1,(f b hb).2.2.2.2.1,(f b hb).2.2.2.2.2⟩) (fun b o _ _ hc e _=>k b o hc e) (fun b o _ _ hc e _=>⟨o.slots,k b o hc e⟩)
  (fun b o _ q n=>by rw[iy (aJ (aV (aE q) hp))];exact n)
  (fun b o hc e=>⟨o,k b o hc e⟩) (fun b zs q=>by rw[iy (nQ q i6)];exact q) (fun b ob zs q=>by rw[iy (nQ q i6)];exact q) (fun b ps q=>⟨#[],by rw[iy (nQ q i6),q];simp⟩) (fun m hm=>?_) (fun b u q=>?_) I.bare
 ·obtain⟨o,es,ep,ho,r⟩:=hm;exact⟨o,es,ep,k _ o (fun z=>(f _ z).2.1 rfl) ho,r⟩
 ·by_cases hb:b=a
  ·subst hb;rw[lA] at q;cases q;exact new
  ·rw[iy hb] at q;refine(I.hV b u q).rE (fun c v hc z=>k c v ?_ z) (fun c z=>by rw[iy (nQ z i6)];exact z) fun c zs z=>by rw[iy (nQ z i6)];exact z
   rcases hc with rfl | hc
   ·exact xu _ _ q
   ·exact xu _ _ hc
noncomputable def EO(x:Str):It:=⟨fun i _=>i<x.cps.size,fun i H v H'=>H'=H/\∃c,x.cps[i]?=some c/\v=.str ⟨#[c]⟩,fun i _=>i=x.cps.size⟩
theorem Te{P:Program}{w:World}{K:Z9}{tg:Expr}{x:Str}{it:Addr}{n:String}{t:Tok}(hn:["enumerate","zip","dict_itemiterator","dict_reverseitemiterator","odict_iterator","itertools.zip_longest","itertools.pairwise"].contains n=false)
  (W:∀A':Around,A'.handled=none->Walks P w A' it [it] [it] x.cps.size (SignAt x) (fun i h=>h.IsStrIter it n x t i))
  (hs:∀(A:Around) (i:Nat) (s:Shared) (Q:Value->Shared->Prop) (E:Value->Shared->Prop),s.heap.IsStrIter it n x t i->Q (.ref it) s->wpAny (model P w) A (pyIter (.ref it)) Q E s):Turn P w K tg (EO x) [it] it (fun i h=>h.IsStrIter it n x t i) where
 mem:=by simp
 obj:=fun i h st b hb=>by
  have e:b=it:=by simpa using hb
  subst e;obtain⟨o,e,c,d⟩:=st;exact⟨o,e,fun v z=>by rw[d] at z;cases z⟩
 keep:=fun i h h' st k=>by
  obtain⟨o,e,r⟩:=st;exact⟨o,k it (by simp) o e,r⟩
 item:=by
  intro X hP hw hK hc i Z8 s σ H E I hf st hg;subst hP hw hK;refine(W X.A (I.ok.hd hc)).item i s _ _ hg st fun v h' tk hv gm kk=>?_
  obtain⟨c,u,hx,rfl⟩:=hv;have I1:Inv X Z8 σ H { s with heap:=h',toks:=tk }:=I.nH kk hf;obtain⟨o,e,c',d⟩:=id gm;exact⟨_,rfl,Dc (s:={ s with heap:=h',toks:=tk }) e c' d hn ⟨.str ⟨#[c]⟩,H,I1,⟨u,rfl⟩,⟨rfl,c,hx,rfl⟩,gm,fun b hb=>(hf b hb).1⟩⟩
 done:=by
  intro X hP hw hK hc i Z8 s σ H E I hf st hg;subst hP hw hK;have e:i=x.cps.size:=hg;subst e;exact(W X.A (I.ok.hd hc)).done s _ _ st fun h' tk kk=>⟨rfl,I.nH kk hf⟩
 self:=hs
section
variable {X:Cx} {tg:Expr}
theorem P2{Z8:List (Addr×Obj)}{σ:St}{H:Hp}{s:Shared}{R:It->Hp->Prop}{E:Value->Shared->Prop}{x:Str}{t:Tok}(I:Inv X Z8 σ H s)(q:R (EO x) H) :
  wpAny (model X.prog X.w) X.A (pyIter (.str x t)) (EL X Z8 σ tg R) E s:=by
 have fin:∀(o:Obj) (n:String),(hn:["enumerate","zip","dict_itemiterator","dict_reverseitemiterator","odict_iterator","itertools.zip_longest","itertools.pairwise"].contains n=false)->
   (W:∀A':Around,A'.handled=none->Walks X.prog X.w A' s.heap.objs.size [s.heap.objs.size] [s.heap.objs.size] x.cps.size (SignAt x) (fun i h=>h.IsStrIter s.heap.objs.size n x t i))->
   (hs:∀(A:Around) (i:Nat) (s':Shared) (Q:Value->Shared->Prop) (E:Value->Shared->Prop),s'.heap.IsStrIter s.heap.objs.size n x t i->Q (.ref s.heap.objs.size) s'->wpAny (model X.prog X.w) A (pyIter (.ref s.heap.objs.size)) Q E s')->
   (s.heap.push o).IsStrIter s.heap.objs.size n x t 0->EL X Z8 σ tg R (.ref s.heap.objs.size) { s with heap:=s.heap.push o }:=fun o n hn W hs st=>by
  refine⟨s.heap.objs.size,[s.heap.objs.size],_,_,H,rfl,I.kept (t':=s.toks) fun b o e=>aj _ e,Te hn W hs,st,fun b hb=>?_,q⟩;have e:b=s.heap.objs.size:=by simpa using hb
  subst e;exact I.qH (aA _) (I.hV.fresh (aA _))
 cases ha:x.cps.all (·<128)
 ·exact wpAny_pyIter_wide ha (fin _ _ (by decide) (fun A' hA=>Walks.strWide hA _ x t) (fun _ _ _ _ _ st q=>wpAny_pyIter_striter_wide st q) ⟨_,az _ rfl,rfl,rfl⟩)
 ·exact wpAny_pyIter_ascii ha (fin _ _ (by decide) (fun A' hA=>Walks.strAscii hA _ x t) (fun _ _ _ _ _ st q=>wpAny_pyIter_striter_ascii st q) ⟨_,az _ rfl,rfl,rfl⟩)
def OJ(K:Z9)(tl:TE):TI:=fun σ H R=>tl σ H fun x H1=>(∃a,x=.ref a/\(∃xs,iI K H1 a xs)/\R (ES K a) H1)\/(∃a,x=.ref a/\(∃xs,jE K H1 a xs)/\R (Jn K a) H1)\/(∃z,x=.str z/\R (EO z) H1)
theorem P1{l:Expr}{tl:TE}(hl:PE X l tl):PI X tg l (OJ X.K tl):=by
 intro Z8 s σ H R I h;refine hE (hl Z8 s σ H _ I h) fun v s1 gD=>?_
 walk_at "1f";rcases q1 with⟨a,e,⟨xs,hq⟩,q⟩ | ⟨a,e,⟨xs,hq⟩,q⟩ | ⟨z,e,q⟩
 ·subst e;cases r1;obtain⟨its,rv,p,hz⟩:=I1.list hq;refine eB p.isList ?_;refine⟨s1.heap.objs.size,[s1.heap.objs.size],_,_,H1,rfl,I1.kept (t':=s1.toks) fun b o e=>aj _ e,Mo a _,⟨_,az _ rfl,rfl,rfl⟩,fun b hb=>?_,q⟩;have e:b=s1.heap.objs.size:=by simpa using hb
  subst e;exact I1.qH (aA _) (I1.hV.fresh (aA _))
 ·subst e;cases r1;obtain⟨its,rv,p,hz⟩:=I1.tuple hq;refine wpAny_pyIter_tuple (show s1.heap.IsTuple a its.toArray from p) ?_;refine⟨s1.heap.objs.size,[s1.heap.objs.size],_,_,H1,rfl,I1.kept (t':=s1.toks) fun b o e=>aj _ e,US a _,⟨_,az _ rfl,rfl,rfl⟩,fun b hb=>?_,q⟩;have e:b=s1.heap.objs.size:=by simpa using hb
  subst e;exact I1.qH (aA _) (I1.hV.fresh (aA _))
 ·subst e;obtain⟨t,rfl⟩:=r1;exact P2 I1 q
end
noncomputable def Jo(K:Z9)(a:Addr):It:=
 ⟨fun i H=>∃xs x,iI K H a xs/\xs[i]?=some x,fun i H v H'=>∃t,v=.ref t/\H t=none/\∀xs,iI K H a xs->∃x,xs[i]?=some x/\H'=upd H t (.tup [.int i,x]),fun i H=>∃xs,iI K H a xs/\xs.length<=i⟩
noncomputable def Jm(K:Z9)(a b:Addr):It:=
 ⟨fun i H=>∃xs ys x y,iI K H a xs/\iI K H b ys/\xs[i]?=some x/\ys[i]?=some y,fun i H v H'=>∃t,v=.ref t/\H t=none/\∀xs ys,iI K H a xs->iI K H b ys->∃x y,xs[i]?=some x/\ys[i]?=some y/\H'=upd H t (.tup [x,y]),
  fun i H=>∃xs ys,iI K H a xs/\iI K H b ys/\(xs.length<=i\/ys.length<=i)⟩
theorem Kl{H:Hp}{t:Addr}{o:HO}{fp:List Addr}(h:∀b∈fp,H b=none)(ht:∀b∈fp,b≠t):∀b∈fp,upd H t o b=none:=fun b hb=>by rw[iy (ht b hb)];exact h b hb
theorem UZ{prog:Program}{w:World}{A:Around}{E:Value->Shared->Prop}{s:Shared}{elts:List Expr}{x1}{pos:Pos}{e it T:Addr}{i:Int}{old:Value}{Q:Unit->Shared->Prop}(he:IsEnumOut s.heap e it i old T)
  (hQ:∀h',IsEnum h' e it i old->Heap.SameBut e s.heap h'->Q () { s with heap:=h' }) :
  wpAny (model prog w) A (letOwnedTupleGo (.Tuple elts x1 pos) (.ref e) (.ref T)) Q E s:=by
 unfold letOwnedTupleGo;refine aa (wpAny_load he ?_);show wpAny _ _ (if (["enumerate","zip","dict_itemiterator","dict_reverseitemiterator","odict_iterator","itertools.zip_longest","itertools.pairwise"].contains "enumerate" &&
   (#[rawInt T,.bool false,.ref it,rawInt i,.none,old]:Array Value)[0]?==some (rawInt T))=true then _ else _) Q E s
 rw[if_pos (by simp)];refine aa (fF ?_);show wpAny _ _ (setField (.ref e) 0 .none) Q E s;exact wpAny_setField_rec he (by simp) fun h' XZ Aa=>hQ h' XZ Aa
theorem UJ{P:Program}{w:World}{K:Z9}{elts:List Expr}{x1}{pos:Pos}(a e it:Addr)(ij:e≠it):Turn P w K (.Tuple elts x1 pos) (Jo K a) [e,it] e (fun i h=>(∃old,IsEnum h e it i old)/\h.IsListIter it a i) where
 mem:=by simp
 obj:=fun i h st b hb=>by
  obtain⟨⟨old,h1⟩,o,h2,c,d⟩:=st;rcases ar.mp hb with rfl | hb
  ·exact⟨_,h1,fun v z=>by have z':Data.fields _=Data.cell v:=z;cases z'⟩
  ·have e:b=it:=by simpa using hb
   subst e;exact⟨o,h2,fun v z=>by rw[d] at z;cases z⟩
 keep:=fun i h h' st k=>by
  obtain⟨⟨old,h1⟩,h2⟩:=st;exact⟨⟨old,k e (by simp) _ h1⟩,h2.at fun o q=>k it (by simp) o q⟩
 item:=by
  intro X hP hw hK hc i Z8 s σ H E I hf st hg;subst hP hw hK;obtain⟨xs,x,hq,hx⟩:=hg;obtain⟨its,rv,p,hz⟩:=I.list hq;obtain⟨u,hu,ru⟩:=rv.get hx;obtain⟨⟨old,h1⟩,h2⟩:=st;refine wpAny_pyNext_enum_item h1 h2 p.isList (x:=u) (by simpa using hu) ij fun h' e1 e2 e3 e4 kk=>?_
  refine⟨_,rfl,UZ e1 fun yR e5 sb=>?_⟩;have Ex:s.heap.objs.size≠e:=e7 (aE h1);have X6:s.heap.objs.size≠it:=by obtain⟨o,q,_⟩:=h2;exact e7 (aE q)
  have hT:yR.get? s.heap.objs.size=some { cls:=.type "tuple",data:=.seq #[.int i s.toks,u] }:=sb.extBut _ _ Ex e3;have i6:H s.heap.objs.size=none:=I.hV.fresh (aA _);have new:iS X.prog X.w (upd H s.heap.objs.size (.tup [.int i,x])) yR s.heap.objs.size (.tup [.int i,x]):=⟨Km,[.int i s.toks,u],.cons ⟨_,rfl⟩ (.cons ru .nil),⟨_,hT,rfl,_,rfl⟩⟩
  refine⟨.ref s.heap.objs.size,upd H s.heap.objs.size (.tup [.int i,x]),I.pj (fp:=[e,it]) (fun b o hb q=>sb.extBut b o (fun z=>hb (by simp[z])) (kk b o (fun z=>hb (by simp[z])) (fun z=>hb (by simp[z])) q)) hf (aA _) new,rfl,
   ⟨_,rfl,i6,fun ys hy=>⟨x,by rw[I.k9 hy hq];exact hx,rfl⟩⟩,⟨⟨u,e5⟩,e2.extBut sb.extBut (Ne.symm ij)⟩,Kl (fun b hb=>(hf b hb).1) fun b hb=>?_⟩
  rcases ar.mp hb with rfl | hb
  ·exact Ex.symm
  ·have z:b=it:=by simpa using hb
   rw[z];exact X6.symm
 done:=by
  intro X hP hw hK hc i Z8 s σ H E I hf st hg;subst hP hw hK;obtain⟨xs,hq,hx⟩:=hg;obtain⟨its,rv,p,hz⟩:=I.list hq;obtain⟨⟨old,h1⟩,h2⟩:=st;have hl:=rv.length;exact wpAny_pyNext_enum_end (I.ok.hd hc) h1 h2 p.isList (by simp;omega) fun h' eb=>⟨rfl,I.nH (fp:=[e,it]) (t':=s.toks) (fun b o hb q=>eb b o (fun z=>hb (by simp[z])) q) hf⟩
 self:=fun _ _ _ _ _ st h=>by
  obtain⟨⟨old,h1⟩,_⟩:=st;exact wpAny_pyIter_enum h1 h
section
variable {X:Cx} {elts:List Expr} {x1:Nat} {vZ:Pos}
def PL(K:Z9)(ta:TA):TI:=fun σ H R=>ta σ H fun vs H1=>∃a xs,vs=[.ref a]/\oh K H1 a xs/\R (Jo K a) H1
theorem Rw{a:Expr}{ta:TA}{p pos:Pos}(hg:Gl X "enumerate")(hm:X.mg "enumerate"=none)(ha:PA X [a] ta)(hs:starEach [a] X.env=[(false,eval a X.env)]:=by rfl):PI X (.Tuple elts x1 vZ) (.Call (.Name "enumerate" p) [a] [] pos) (PL X.K ta):=by
 intro Z8 s σ H R I h;refine Call_ (vP I hg hm boot_enumerate (cT (hE (ha pos Z8 s σ H _ I h) fun us s1 gD=>?_) hs rfl));obtain⟨vs,H1,I1,r1,q1⟩:=gD;obtain⟨l,xs,e,hl,q⟩:=q1;subst e;obtain⟨u,rfl,ru⟩:=oE r1;cases ru;obtain⟨z,its,n,r,e⟩:=I1.jF hl;refine call_enumerate_1 e fun h' e1 e2 e3 kk=>?_
 refine wpAny_pyIter_enum e1 ?_;have ij:s1.heap.objs.size+1≠s1.heap.objs.size:=by omega
 refine⟨s1.heap.objs.size+1,[s1.heap.objs.size+1,s1.heap.objs.size],_,_,H1,rfl,I1.kept (t':=s1.toks) kk,UJ l _ _ ij,⟨⟨_,e1⟩,e2⟩,fun b hb=>?_,q⟩;have uS:s1.heap.objs.size<=b:=by
  rcases ar.mp hb with rfl | hb
  ·exact bY _
  ·have e:b=s1.heap.objs.size:=by simpa using hb
   exact Nat.le_of_eq e.symm
 exact I1.qH uS (I1.hV.fresh uS)
theorem Td{P:Program}{w:World}{K:Z9}(a b z TI TO i1 i2:Addr)(D1:TI≠z/\TO≠z/\i1≠z/\i2≠z/\TI≠TO/\TI≠i1/\TI≠i2/\TO≠i1/\TO≠i2/\i1≠i2):Turn P w K (.Tuple elts x1 vZ) (Jm K a b) [z,TI,TO,i1,i2] z
  (fun i h=>IsZip h z TI TO .none/\IsPair h TI (.ref i1) (.ref i2)/\(∃a b,IsPair h TO a b)/\h.IsListIter i1 a i/\h.IsListIter i2 b i) where
 mem:=by simp
 obj:=fun i h st c hc=>by
  obtain⟨h1,h2,⟨u,v,h3⟩,⟨o1,g1,_,d1⟩,⟨o2,g2,_,d2⟩⟩:=st;simp only[ar,bK,eC] at hc;rcases hc with rfl | rfl | rfl | rfl | rfl
  ·exact⟨_,h1,fun v z=>by have z':Data.fields _=Data.cell v:=z;cases z'⟩
  ·exact⟨_,h2,fun v z=>by have z':Data.seq _ _=Data.cell v:=z;cases z'⟩
  ·exact⟨_,h3,fun v z=>by have z':Data.seq _ _=Data.cell v:=z;cases z'⟩
  ·exact⟨_,g1,fun v z=>by rw[d1] at z;cases z⟩
  ·exact⟨_,g2,fun v z=>by rw[d2] at z;cases z⟩
 keep:=fun i h h' st k=>by
  obtain⟨h1,h2,⟨u,v,h3⟩,h4,h5⟩:=st;exact⟨k z (by simp) _ h1,k TI (by simp) _ h2,⟨u,v,k TO (by simp) _ h3⟩,h4.at fun o q=>k i1 (by simp) o q,h5.at fun o q=>k i2 (by simp) o q⟩
 item:=by
  intro X hP hw hK hc i Z8 s σ H E I hf st hg;subst hP hw hK;obtain⟨xs,ys,x,y,hq,oe,hx,hy⟩:=hg;obtain⟨its,rv,p,hz⟩:=I.list hq;obtain⟨oV,ua,p2,Ca⟩:=I.list oe;obtain⟨u,hu,ru⟩:=rv.get hx;obtain⟨v,hv,Xz⟩:=ua.get hy;obtain⟨h1,h2,⟨c,d,h3⟩,h4,h5⟩:=st;obtain⟨d1,d2,d3,d4,d5,d6,d7,d8,d9,Ji⟩:=D1;have B4:∀{l:Addr} {its:List Value},PlainL s.heap l its.toArray->l≠z/\l≠TO/\l≠i1/\l≠i2:=fun{l its} pl=>by
   obtain⟨o,n,e,c1,_,dd⟩:=pl;obtain⟨o1,g1,c4,_⟩:=h4;obtain⟨o2,g2,c5,_⟩:=h5;refine⟨?_,?_,?_,?_⟩
   ·rintro rfl;rw[h1] at e;cases e;simp at c1
   ·rintro rfl;rw[h3] at e;cases e;simp at c1
   ·rintro rfl;rw[g1] at e;cases e;rw[c4] at c1;simp at c1
   ·rintro rfl;rw[g2] at e;cases e;rw[c5] at c1;simp at c1
  obtain⟨e1,e2,e3,e4⟩:=B4 p;obtain⟨f1,f2,f3,f4⟩:=B4 p2;have D:ZipApart z TI TO i1 i2 a b:=⟨d1,d2,d3,d4,d5,d6,d7,d8,d9,Ji,e1,e2,e3,e4,f1,f2,f3,f4⟩
  refine wpAny_pyNext_zip_item D h1 h2 h3 h4 h5 p.isList p2.isList (x:=u) (y:=v) (by simpa using hu) (by simpa using hv) fun h' a1 a2 a3 a4 a5 a6 kk=>?_
  refine⟨_,rfl,wpAny_letOwnedTupleGo_zip a1 fun yR b1 sb=>?_⟩;have YE:s.heap.objs.size≠z:=e7 (aE h1);have i6:H s.heap.objs.size=none:=I.hV.fresh (aA _);have hT:yR.get? s.heap.objs.size=some { cls:=.type "tuple",data:=.seq #[u,v] }:=sb.extBut _ _ YE a5;have new:iS X.prog X.w (upd H s.heap.objs.size (.tup [x,y])) yR s.heap.objs.size (.tup [x,y]):=⟨Km,[u,v],.cons ru (.cons Xz .nil),⟨_,hT,rfl,_,rfl⟩⟩
  have lt:∀{c o},s.heap.get? c=some o->c≠s.heap.objs.size:=fun e=>aJ (aE e)
  refine⟨.ref s.heap.objs.size,upd H s.heap.objs.size (.tup [x,y]),I.pj (fp:=[z,TI,TO,i1,i2]) (t':=s.toks) (fun c o hc q=>sb.extBut c o (fun e=>hc (by simp[e])) (kk c o (fun e=>hc (by simp[e])) (fun e=>hc (by simp[e])) (fun e=>hc (by simp[e])) (fun e=>hc (by simp[e])) q)) hf (aA _) new,rfl,
   ⟨_,rfl,i6,fun zs ws h6 h7=>⟨x,y,by rw[I.k9 h6 hq];exact hx,by rw[I.k9 h7 oe];exact hy,rfl⟩⟩,
   ⟨b1,sb.extBut _ _ d1 (kk _ _ d1 d5 d6 d7 h2),⟨_,_,sb.extBut _ _ d2 a2⟩,a3.extBut sb.extBut d3,a4.extBut sb.extBut d4⟩,Kl (fun b hb=>(hf b hb).1) fun c hc=>?_⟩
  simp only[ar,bK,eC] at hc;rcases hc with rfl | rfl | rfl | rfl | rfl
  ·exact lt h1
  ·exact lt h2
  ·exact lt h3
  ·obtain⟨_,g,_⟩:=h4;exact lt g
  ·obtain⟨_,g,_⟩:=h5;exact lt g
 done:=by
  intro X hP hw hK hc i Z8 s σ H E I hf st hg;subst hP hw hK;obtain⟨xs,ys,hq,oe,hx⟩:=hg;obtain⟨its,rv,p,hz⟩:=I.list hq;obtain⟨oV,ua,p2,Ca⟩:=I.list oe;obtain⟨h1,h2,⟨c,d,h3⟩,h4,h5⟩:=st;obtain⟨d1,d2,d3,d4,d5,d6,d7,d8,d9,Ji⟩:=D1;have B4:∀{l:Addr} {its:List Value},PlainL s.heap l its.toArray->l≠z/\l≠TO/\l≠i1/\l≠i2:=fun{l its} pl=>by
   obtain⟨o,n,e,c1,_,dd⟩:=pl;obtain⟨o1,g1,c4,_⟩:=h4;obtain⟨o2,g2,c5,_⟩:=h5;refine⟨?_,?_,?_,?_⟩
   ·rintro rfl;rw[h1] at e;cases e;simp at c1
   ·rintro rfl;rw[h3] at e;cases e;simp at c1
   ·rintro rfl;rw[g1] at e;cases e;rw[c4] at c1;simp at c1
   ·rintro rfl;rw[g2] at e;cases e;rw[c5] at c1;simp at c1
  obtain⟨e1,e2,e3,e4⟩:=B4 p;obtain⟨f1,f2,f3,f4⟩:=B4 p2;have D:ZipApart z TI TO i1 i2 a b:=⟨d1,d2,d3,d4,d5,d6,d7,d8,d9,Ji,e1,e2,e3,e4,f1,f2,f3,f4⟩
  have l1:=rv.length;have l2:=ua.length;have IP:its.toArray[i]?=none\/oV.toArray[i]?=none:=by
   rcases hx with hx | hx
   ·exact .inl (by simp;omega)
   ·exact .inr (by simp;omega)
  exact wpAny_pyNext_zip_end (I.ok.hd hc) D h1 h2 h3 h4 h5 p.isList p2.isList IP fun h' kk=>⟨rfl,I.nH (fp:=[z,TI,TO,i1,i2]) (t':=s.toks) (fun c o hc q=>kk c o (fun e=>hc (by simp[e])) (fun e=>hc (by simp[e])) (fun e=>hc (by simp[e])) (fun e=>hc (by simp[e])) q) hf⟩
 self:=fun _ _ _ _ _ st h=>wpAny_pyIter_zip st.1 h
theorem UI(n:Nat):(n+2:Nat)≠n+4/\(n+3:Nat)≠n+4/\n≠n+4/\(n+1:Nat)≠n+4/\(n+2:Nat)≠n+3/\(n+2:Nat)≠n/\(n+2:Nat)≠n+1/\(n+3:Nat)≠n/\(n+3:Nat)≠n+1/\n≠n+1:=by omega
def OI(K:Z9)(ta:TA):TI:=fun σ H R=>ta σ H fun vs H1=>∃a b,vs=[.ref a,.ref b]/\(∃xs,iI K H1 a xs)/\(∃ys,iI K H1 b ys)/\R (Jm K a b) H1
theorem PZ{a b:Expr}{ta:TA}{p pos:Pos}(hg:Gl X "zip")(hm:X.mg "zip"=none)(ha:PA X [a,b] ta)(hs:starEach [a,b] X.env=[(false,eval a X.env),(false,eval b X.env)]:=by rfl)(uc:starEach [b] X.env=[(false,eval b X.env)]:=by rfl) :
  PI X (.Tuple elts x1 vZ) (.Call (.Name "zip" p) [a,b] [] pos) (OI X.K ta):=by
 intro Z8 s σ H R I h;refine Call_ (vP I hg hm boot_zip (cT (hE (ha pos Z8 s σ H _ I h) fun us s1 ⟨vs,H1,I1,r1,q1⟩=>?_) (by rw[hs,uc]) (by rw[uc];rfl)));obtain⟨l,l',e,⟨xs,hl⟩,⟨ys,Ah⟩,q⟩:=q1;subst e;obtain⟨u,v,rfl,ru,rv⟩:=AK r1;cases ru;cases rv;obtain⟨its,_,p1,_⟩:=I1.list hl;obtain⟨its',_,p2,_⟩:=I1.list Ah;refine call_zip_2 p1.isList p2.isList fun h' e1 e2 e3 e4 e5 e6 kk=>?_
 refine wpAny_pyIter_zip e1 ?_;refine⟨s1.heap.objs.size+4,[s1.heap.objs.size+4,s1.heap.objs.size+2,s1.heap.objs.size+3,s1.heap.objs.size,s1.heap.objs.size+1],_,_,H1,rfl,I1.kept (t':=s1.toks) kk,Td l l' _ _ _ _ _ (UI _),
  ⟨e1,e2,⟨_,_,e3⟩,e4,e5⟩,fun b hb=>?_,q⟩
 have uS:s1.heap.objs.size<=b:=by
  simp only[ar,bK,eC] at hb;rcases hb with rfl | rfl | rfl | rfl | rfl<;>first | exact Nat.le_add_right _ _ | exact aA _
 exact I1.qH uS (I1.hV.fresh uS)
end
inductive D where
 | non | bl (b:Bool) | int (i:Int) | str (x:Str) | tup (ds:List D) | lst (ds:List D) | obj (cn:Str) (fs:List (Str×D)) | dic (g5:List (Key×D)) | dit (g5:List (List Key×D)) | exc (cn:Str)
structure ClsAt (K:Z9) (cn:Str) (C:Addr):Prop where
 at_:PySem.W.nsIn K mainGlobals cn=some (some (.ref C))
 cls:xP K C
def nq(H:Hp):List (List Key×V)->List Addr->Prop
 | [],[]=>True
 | p::ps,b::bs=>H b=some (.tup (p.1.map kV))/\nq H ps bs
 | _,_=>False
theorem nq.mono{H H':Hp}(e:gz H H'):∀{ps:List (List Key×V)} {bs:List Addr},nq H ps bs->nq H' ps bs
 | [],[],h=>h
 | p::ps,b::bs,h=>⟨e _ _ h.1,nq.mono e h.2⟩
 | [],_::_,h=>h.elim
 | _::_,[],h=>h.elim
mutual
def Rep(K:Z9)(H:Hp):V->D->Prop
 | v,.non=>v=.non
 | v,.bl b=>v=.bl b
 | v,.int i=>v=.int i
 | v,.str x=>v=.str x
 | v,.tup ds=>∃a xs,v=.ref a/\H a=some (.tup xs)/\f9 K H xs ds
 | v,.lst ds=>∃a xs,v=.ref a/\oh K H a xs/\f9 K H xs ds
 | v,.obj cn fs=>∃a C dx gs,v=.ref a/\H a=some (.ins C dx gs)/\ClsAt K cn C/\(∀p∈fs,gP K C p.1)/\g7 K H gs fs
 | v,.dic g5=>∃a ks ep,v=.ref a/\H a=some (.dK ks ep)/\iJ K H ks g5
 | v,.dit g5=>∃a ks bs,v=.ref a/\H a=some (.dT ks bs)/\nq H ks bs.1/\j0 K H ks g5
 | v,.exc cn=>∃a φ C,v=.ref a/\H a=some (.ext φ)/\PySem.W.nsIn K mainGlobals cn=some (some (.ref C))/\∀h:Heap,φ h->∃o,h.get? a=some o/\o.cls=.ref C
def f9(K:Z9)(H:Hp):List V->List D->Prop
 | [],[]=>True
 | v::vs,d::ds=>Rep K H v d/\f9 K H vs ds
 | _,_=>False
def g7(K:Z9)(H:Hp):List (Str×V)->List (Str×D)->Prop
 | [],[]=>True
 | v::vs,d::ds=>(v.1=d.1/\Rep K H v.2 d.2)/\g7 K H vs ds
 | _,_=>False
def iJ(K:Z9)(H:Hp):List (Key×V)->List (Key×D)->Prop
 | [],[]=>True
 | v::vs,d::ds=>(v.1=d.1/\Rep K H v.2 d.2)/\iJ K H vs ds
 | _,_=>False
def j0(K:Z9)(H:Hp):List (List Key×V)->List (List Key×D)->Prop
 | [],[]=>True
 | v::vs,d::ds=>(v.1=d.1/\Rep K H v.2 d.2)/\j0 K H vs ds
 | _,_=>False
end
theorem gz.qt{K:Z9}{H H':Hp}{a:Addr}{xs:List V}(e:gz H H')(h:H a=some (.tup xs)):jE K H' a xs:=jE.of (e _ _ h)
theorem gz.tF{K:Z9}{H H':Hp}{a:Addr}{xs:List V}(e:gz H H')(h:jE K H a xs):jE K H' a xs:=by
 rcases h with(h | ⟨o,h⟩) | h
 ·exact .inl (.inl (e _ _ h))
 ·exact .inl (.inr ⟨o,e _ _ h⟩)
 ·exact .inr h
mutual
theorem Rep.mono{K:Z9}{H H':Hp}(e:gz H H'):∀(v:V) (d:D),Rep K H v d->Rep K H' v d
 | v,.non,h=>by simpa only[Rep] using h
 | v,.bl b,h=>by simpa only[Rep] using h
 | v,.int i,h=>by simpa only[Rep] using h
 | v,.str x,h=>by simpa only[Rep] using h
 | v,.tup ds,h=>by
  simp only[Rep] at h ⊢;obtain⟨a,xs,h1,h2,h3⟩:=h;exact⟨a,xs,h1,e _ _ h2,f9.mono e xs ds h3⟩
 | v,.lst ds,h=>by
  simp only[Rep] at h ⊢;obtain⟨a,xs,h1,h2,h3⟩:=h;exact⟨a,xs,h1,e.jF h2,f9.mono e xs ds h3⟩
 | v,.obj cn fs,h=>by
  simp only[Rep] at h ⊢;obtain⟨a,C,dx,gs,h1,h2,h3,h4,h5⟩:=h;exact⟨a,C,dx,gs,h1,e _ _ h2,h3,h4,g7.mono e gs fs h5⟩
 | v,.dic g5,h=>by
  simp only[Rep] at h ⊢;obtain⟨a,ks,ep,h1,h2,h3⟩:=h;exact⟨a,ks,ep,h1,e _ _ h2,iJ.mono e ks g5 h3⟩
 | v,.dit g5,h=>by
  simp only[Rep] at h ⊢;obtain⟨a,ks,bs,h1,h2,h3,h4⟩:=h;exact⟨a,ks,bs,h1,e _ _ h2,h3.mono e,j0.mono e ks g5 h4⟩
 | v,.exc cn,h=>by
  simp only[Rep] at h ⊢;obtain⟨a,φ,C,h1,h2,h3,h4⟩:=h;exact⟨a,φ,C,h1,e _ _ h2,h3,h4⟩
theorem f9.mono{K:Z9}{H H':Hp}(e:gz H H'):∀(vs:List V) (ds:List D),f9 K H vs ds->f9 K H' vs ds
 | [],[],h=>by simp only[f9]
 | v::vs,d::ds,h=>by
  simp only[f9] at h ⊢;exact⟨Rep.mono e v d h.1,f9.mono e vs ds h.2⟩
 | [],_::_,h=>by simp only[f9] at h
 | _::_,[],h=>by simp only[f9] at h
theorem g7.mono{K:Z9}{H H':Hp}(e:gz H H'):∀(vs:List (Str×V)) (ds:List (Str×D)),g7 K H vs ds->g7 K H' vs ds
 | [],[],h=>by simp only[g7]
 | (x,v)::vs,(y,d)::ds,h=>by
  simp only[g7] at h ⊢;exact⟨⟨h.1.1,Rep.mono e v d h.1.2⟩,g7.mono e vs ds h.2⟩
 | [],_::_,h=>by simp only[g7] at h
 | _::_,[],h=>by simp only[g7] at h
theorem iJ.mono{K:Z9}{H H':Hp}(e:gz H H'):∀(vs:List (Key×V)) (ds:List (Key×D)),iJ K H vs ds->iJ K H' vs ds
 | [],[],h=>by simp only[iJ]
 | (x,v)::vs,(y,d)::ds,h=>by
  simp only[iJ] at h ⊢;exact⟨⟨h.1.1,Rep.mono e v d h.1.2⟩,iJ.mono e vs ds h.2⟩
 | [],_::_,h=>by simp only[iJ] at h
 | _::_,[],h=>by simp only[iJ] at h
theorem j0.mono{K:Z9}{H H':Hp}(e:gz H H'):∀(vs:List (List Key×V)) (ds:List (List Key×D)),j0 K H vs ds->j0 K H' vs ds
 | [],[],h=>by simp only[j0]
 | (x,v)::vs,(y,d)::ds,h=>by
  simp only[j0] at h ⊢;exact⟨⟨h.1.1,Rep.mono e v d h.1.2⟩,j0.mono e vs ds h.2⟩
 | [],_::_,h=>by simp only[j0] at h
 | _::_,[],h=>by simp only[j0] at h
end
section
variable {K:Z9} {H H':Hp}
theorem f9.length:∀{vs:List V} {ds:List D},f9 K H vs ds->vs.length=ds.length
 | [],[],_=>rfl
 | v::vs,d::ds,h=>by
  simp only[f9] at h;simp only[aG,f9.length h.2]
 | [],_::_,h=>by simp only[f9] at h
 | _::_,[],h=>by simp only[f9] at h
theorem f9.get:∀{vs:List V} {ds:List D} {i:Nat} {d:D},f9 K H vs ds->ds[i]?=some d->∃v,vs[i]?=some v/\Rep K H v d
 | [],[],i,d,_,e=>by simp at e
 | v::vs,d'::ds,0,d,h,e=>by
  simp only[f9] at h;simp only[dF,aW] at e;subst e;exact⟨v,rfl,h.1⟩
 | v::vs,d'::ds,i+1,d,h,e=>by
  simp only[f9] at h;simp only[cj] at e ⊢;exact f9.get h.2 e
 | [],_::_,_,_,h,_=>by simp only[f9] at h
 | _::_,[],_,_,h,_=>by simp only[f9] at h
theorem f9.CA:∀{vs:List V} {ds:List D} {i:Nat} {v:V},f9 K H vs ds->vs[i]?=some v->∃d,ds[i]?=some d/\Rep K H v d
 | [],[],i,d,_,e=>by simp at e
 | v'::vs,d::ds,0,v,h,e=>by
  simp only[f9] at h;simp only[dF,aW] at e;subst e;exact⟨d,rfl,h.1⟩
 | v'::vs,d::ds,i+1,v,h,e=>by
  simp only[f9] at h;simp only[cj] at e ⊢;exact f9.CA h.2 e
 | [],_::_,_,_,h,_=>by simp only[f9] at h
 | _::_,[],_,_,h,_=>by simp only[f9] at h
theorem f9.nil:f9 K H [] []:=by simp only[f9]
theorem f9.cons{v:V}{vs:List V}{d:D}{ds:List D}(h:Rep K H v d)(hs:f9 K H vs ds):f9 K H (v::vs) (d::ds):=by simp only[f9];exact⟨h,hs⟩
theorem f9.append:∀{vs:List V} {ds:List D} {us:List V} {es:List D},f9 K H vs ds->f9 K H us es->f9 K H (vs++us) (ds++es)
 | [],[],_,_,_,h=>h
 | v::vs,d::ds,_,_,h,h'=>by
  simp only[f9] at h;exact f9.cons h.1 (f9.append h.2 h')
 | [],_::_,_,_,h,_=>by simp only[f9] at h
 | _::_,[],_,_,h,_=>by simp only[f9] at h
theorem f9.take:∀{vs:List V} {ds:List D} (n:Nat),f9 K H vs ds->f9 K H (vs.take n) (ds.take n)
 | _,_,0,_=>f9.nil
 | [],[],_+1,_=>f9.nil
 | v::vs,d::ds,n+1,h=>by
  simp only[f9] at h;exact f9.cons h.1 (f9.take n h.2)
 | [],_::_,_+1,h=>by simp only[f9] at h
 | _::_,[],_+1,h=>by simp only[f9] at h
theorem f9.drop:∀{vs:List V} {ds:List D} (n:Nat),f9 K H vs ds->f9 K H (vs.drop n) (ds.drop n)
 | _,_,0,h=>h
 | [],[],_+1,_=>f9.nil
 | v::vs,d::ds,n+1,h=>by
  simp only[f9] at h;exact f9.drop n h.2
 | [],_::_,_+1,h=>by simp only[f9] at h
 | _::_,[],_+1,h=>by simp only[f9] at h
theorem f9.set:∀{vs:List V} {ds:List D} {v:V} {d:D} (n:Nat),f9 K H vs ds->Rep K H v d->f9 K H (vs.set n v) (ds.set n d)
 | [],[],_,_,_,_,_=>f9.nil
 | v'::vs,d'::ds,v,d,0,h,q=>by
  simp only[f9] at h;exact f9.cons q h.2
 | v'::vs,d'::ds,v,d,n+1,h,q=>by
  simp only[f9] at h;exact f9.cons h.1 (f9.set n h.2 q)
 | [],_::_,_,_,_,h,_=>by simp only[f9] at h
 | _::_,[],_,_,_,h,_=>by simp only[f9] at h
end
structure Ext (G H G' H':Hp):Prop where
 g:gz G G'
 h:gz H H'
 s:gz G' H'
 n:∀p,G p=none->H p≠none->G' p=none
theorem Ext.refl{G H:Hp}(s:gz G H):Ext G H G H:=⟨gz.refl _,gz.refl _,s,fun _ h _=>h⟩
theorem Ext.trans{G H G1 H1 G2 H2:Hp}(a:Ext G H G1 H1)(b:Ext G1 H1 G2 H2):Ext G H G2 H2:=
 ⟨a.g.trans b.g,a.h.trans b.h,b.s,fun p h1 h2=>b.n p (a.n p h1 h2) fun z=>h2 (a.h.free z)⟩
theorem xg{H:Hp}{p:Addr}{o:HO}(h:H p=none):gz H (upd H p o):=fun b u e=>by rw[iy (nQ e h)];exact e
theorem UH{G H:Hp}{p:Addr}{o:HO}(s:gz G H):gz (upd G p o) (upd H p o):=fun b u e=>by
 by_cases hb:b=p
 ·subst hb;rw[lA] at e ⊢;exact e
 ·rw[iy hb] at e ⊢;exact s b u e
theorem Ext.new{G H:Hp}{p:Addr}{o:HO}(s:gz G H)(h:H p=none):Ext G H (upd G p o) (upd H p o):=
 ⟨xg (s.free h),xg h,UH s,fun q h1 h2=>by rw[iy (fun z=>h2 (by rw[z];exact h))];exact h1⟩
theorem Ext.own{G H:Hp}{p:Addr}{o:HO}(s:gz G H)(h:H p=none):Ext G H G (upd H p o):=
 ⟨gz.refl _,xg h,s.trans (xg h),fun q h1 _=>h1⟩
inductive OV where
 | ll (g6:List (List D))
 | dc (g5:List (Key×D))
 | dl (g5:List (Key×List D))
 | tl (d:D) (ds:List D)
 | ld (yU:List (List (Key×D)))
 | dt (g5:List (List Key×List D))
 | tp (ds:List D)
 | ob (cn:Str) (fs:List (Str×List D))
 | dq (g5:List (List Key×D))
noncomputable def OV.val:OV->D
 | .ll g6=>.lst (g6.map .lst)
 | .dc g5=>.dic g5
 | .dl g5=>.dic (g5.map fun p=>(p.1,.lst p.2))
 | .tl d ds=>.tup [d,.lst ds]
 | .ld yU=>.lst (yU.map .dic)
 | .dt g5=>.dit (g5.map fun p=>(p.1,.lst p.2))
 | .tp ds=>.tup ds
 | .ob cn fs=>.obj cn (fs.map fun p=>(p.1,.lst p.2))
 | .dq g5=>.dit g5
inductive R where
 | fz (d:D)
 | ow (ds:List D)
 | ov (o:OV)
noncomputable def R.val:R->D
 | .fz d=>d
 | .ow ds=>.lst ds
 | .ov o=>o.val
inductive Sl where
 | un
 | fz (d:D)
 | ow (ds:List D)
 | ov (o:OV)
noncomputable def R.sl:R->Sl
 | .fz d=>.fz d
 | .ow ds=>.ow ds
 | .ov o=>.ov o
def gw(K:Z9)(G H:Hp):List Addr->List (List D)->Prop
 | [],[]=>True
 | q::qs,ds::g6=>(∃xs,H q=some (.lst xs)/\f9 K G xs ds)/\gw K G H qs g6
 | _,_=>False
theorem gw.mono{K:Z9}{G H G' H':Hp}(g:gz G G'):∀{qs:List Addr} {g6:List (List D)},(∀q∈qs,∀xs,H q=some (.lst xs)->H' q=some (.lst xs))->gw K G H qs g6->gw K G' H' qs g6
 | [],[],_,_=>by simp only[gw]
 | q::qs,ds::g6,hh,h=>by
  simp only[gw] at h ⊢;obtain⟨⟨xs,h1,h2⟩,h3⟩:=h;exact⟨⟨xs,hh q (by simp) xs h1,h2.mono g⟩,gw.mono g (fun r hr=>hh r (by simp[hr])) h3⟩
 | [],_::_,_,h=>by simp only[gw] at h
 | _::_,[],_,h=>by simp only[gw] at h
theorem gw.here{K:Z9}{G H:Hp}:∀{qs:List Addr} {g6:List (List D)},gw K G H qs g6->∀q∈qs,H q≠none
 | [],[],_,q,hq=>by cases hq
 | q::qs,ds::g6,h,r,hr=>by
  simp only[gw] at h;obtain⟨⟨xs,h1,h2⟩,h3⟩:=h;rcases ar.mp hr with rfl | hr
  ·rw[h1];exact nofun
  ·exact gw.here h3 r hr
 | [],_::_,h,_,_=>by simp only[gw] at h
 | _::_,[],h,_,_=>by simp only[gw] at h
theorem gw.qv{K:Z9}{G H G':Hp}(g:gz G G'):∀{qs:List Addr} {g6:List (List D)},(∀q∈qs,∀xs,H q=some (.lst xs)->G' q=some (.lst xs))->gw K G H qs g6->f9 K G' (qs.map V.ref) (g6.map D.lst)
 | [],[],_,_=>f9.nil
 | q::qs,ds::g6,hh,h=>by
  simp only[gw] at h;obtain⟨⟨xs,h1,h2⟩,h3⟩:=h;refine f9.cons ?_ (gw.qv g (fun r hr=>hh r (by simp[hr])) h3);simp only[Rep];exact⟨q,xs,rfl,oh.of (hh q (by simp) xs h1),h2.mono g⟩
 | [],_::_,_,h=>by simp only[gw] at h
 | _::_,[],_,h=>by simp only[gw] at h
def jw(K:Z9)(G H:Hp):List Addr->List (List (Key×D))->Prop
 | [],[]=>True
 | q::qs,ds::g6=>(∃ks ep,H q=some (.dK ks ep)/\iJ K G ks ds)/\jw K G H qs g6
 | _,_=>False
theorem jw.mono{K:Z9}{G H G' H':Hp}(g:gz G G'):∀{qs:List Addr} {g6:List (List (Key×D))},(∀q∈qs,∀u,H q=some u->H' q=some u)->jw K G H qs g6->jw K G' H' qs g6
 | [],[],_,_=>by simp only[jw]
 | q::qs,ds::g6,hh,h=>by
  simp only[jw] at h ⊢;obtain⟨⟨ks,ep,h1,h2⟩,h3⟩:=h;exact⟨⟨ks,ep,hh q (by simp) _ h1,iJ.mono g _ _ h2⟩,jw.mono g (fun r hr=>hh r (by simp[hr])) h3⟩
 | [],_::_,_,h=>by simp only[jw] at h
 | _::_,[],_,h=>by simp only[jw] at h
theorem jw.kind{K:Z9}{G H:Hp}:∀{qs:List Addr} {g6:List (List (Key×D))},jw K G H qs g6->∀q∈qs,∃ks ep,H q=some (.dK ks ep)
 | [],[],_,q,hq=>by cases hq
 | q::qs,ds::g6,h,r,hr=>by
  simp only[jw] at h;obtain⟨⟨ks,ep,h1,h2⟩,h3⟩:=h;rcases ar.mp hr with rfl | hr
  ·exact⟨ks,ep,h1⟩
  ·exact jw.kind h3 r hr
 | [],_::_,h,_,_=>by simp only[jw] at h
 | _::_,[],h,_,_=>by simp only[jw] at h
theorem jw.here{K:Z9}{G H:Hp}{qs:List Addr}{g6:List (List (Key×D))}(h:jw K G H qs g6):∀q∈qs,H q≠none:=fun q hq=>by
 obtain⟨ks,ep,e⟩:=h.kind q hq;rw[e];exact nofun
theorem jw.qv{K:Z9}{G H G':Hp}(g:gz G G'):∀{qs:List Addr} {g6:List (List (Key×D))},(∀q∈qs,∀u,H q=some u->G' q=some u)->jw K G H qs g6->f9 K G' (qs.map V.ref) (g6.map D.dic)
 | [],[],_,_=>f9.nil
 | q::qs,ds::g6,hh,h=>by
  simp only[jw] at h;obtain⟨⟨ks,ep,h1,h2⟩,h3⟩:=h;refine f9.cons ?_ (jw.qv g (fun r hr=>hh r (by simp[hr])) h3);simp only[Rep];exact⟨q,ks,ep,rfl,hh q (by simp) _ h1,iJ.mono g _ _ h2⟩
 | [],_::_,_,h=>by simp only[jw] at h
 | _::_,[],_,h=>by simp only[jw] at h
def m6(K:Z9)(G H:Hp)(p:Addr)(fp:List Addr):OV->Prop
 | .ll g6=>H p=some (.lst (fp.map V.ref))/\gw K G H fp g6
 | .dc g5=>fp=[]/\∃ks ep,H p=some (.dK ks ep)/\iJ K G ks g5
 | .dl g5=>∃ks ep,H p=some (.dK ks ep)/\ks.map (·.1)=g5.map (·.1)/\ks.map (·.2)=fp.map V.ref/\gw K G H fp (g5.map (·.2))
 | .tl d ds=>∃q v xs,fp=[q]/\H p=some (.tup [v,.ref q])/\Rep K G v d/\H q=some (.lst xs)/\f9 K G xs ds
 | .ld yU=>H p=some (.lst (fp.map V.ref))/\jw K G H fp yU
 | .dt g5=>∃ks bs,H p=some (.dT ks bs)/\nq G ks bs.1/\ks.map (·.1)=g5.map (·.1)/\ks.map (·.2)=fp.map V.ref/\gw K G H fp (g5.map (·.2))
 | .tp ds=>fp=[]/\∃xs,H p=some (.tup xs)/\f9 K G xs ds
 | .ob cn fs=>∃C dx gs,H p=some (.ins C dx gs)/\ClsAt K cn C/\(∀p∈fs,gP K C p.1)/\gs.map (·.1)=fs.map (·.1)/\gs.map (·.2)=fp.map V.ref/\gw K G H fp (fs.map (·.2))
 | .dq g5=>fp=[]/\∃ks bs,H p=some (.dT ks bs)/\nq G ks bs.1/\j0 K G ks g5
theorem m6.here{K:Z9}{G H:Hp}{p:Addr}{fp:List Addr}{o:OV}(h:m6 K G H p fp o):∀q∈p::fp,H q≠none:=by
 intro q hq;cases o with
 | ll g6=>
  rcases ar.mp hq with rfl | hq
  ·rw[h.1];exact nofun
  ·exact h.2.here q hq
 | dc g5=>
  obtain⟨rfl,ks,ep,h1,_⟩:=h;simp only[bH] at hq;subst hq;rw[h1];exact nofun
 | dl g5=>
  obtain⟨ks,ep,h1,_,_,h4⟩:=h;rcases ar.mp hq with rfl | hq
  ·rw[h1];exact nofun
  ·exact h4.here q hq
 | tl d ds=>
  obtain⟨r,v,xs,rfl,h1,_,h2,_⟩:=h;simp only[ar,bK,eC] at hq;rcases hq with rfl | rfl
  ·rw[h1];exact nofun
  ·rw[h2];exact nofun
 | ld yU=>
  rcases ar.mp hq with rfl | hq
  ·rw[h.1];exact nofun
  ·exact h.2.here q hq
 | dt g5=>
  obtain⟨ks,bs,h1,_,_,_,h4⟩:=h;rcases ar.mp hq with rfl | hq
  ·rw[h1];exact nofun
  ·exact h4.here q hq
 | tp ds=>
  obtain⟨rfl,xs,h1,_⟩:=h;simp only[bH] at hq;subst hq;rw[h1];exact nofun
 | ob cn fs=>
  obtain⟨C,dx,gs,h1,_,_,_,_,h4⟩:=h;rcases ar.mp hq with rfl | hq
  ·rw[h1];exact nofun
  ·exact h4.here q hq
 | dq g5=>
  obtain⟨rfl,ks,bs,h1,_⟩:=h;simp only[bH] at hq;subst hq;rw[h1];exact nofun
theorem gw.kind{K:Z9}{G H:Hp}:∀{qs:List Addr} {g6:List (List D)},gw K G H qs g6->∀q∈qs,∃xs,H q=some (.lst xs)
 | [],[],_,q,hq=>by cases hq
 | q::qs,ds::g6,h,r,hr=>by
  simp only[gw] at h;obtain⟨⟨xs,h1,h2⟩,h3⟩:=h;rcases ar.mp hr with rfl | hr
  ·exact⟨xs,h1⟩
  ·exact gw.kind h3 r hr
 | [],_::_,h,_,_=>by simp only[gw] at h
 | _::_,[],h,_,_=>by simp only[gw] at h
theorem m6.mono{K:Z9}{G H G' H':Hp}{p:Addr}{fp:List Addr}{o:OV}(g:gz G G')(hh:∀q∈p::fp,∀u,H q=some u->H' q=some u)(h:m6 K G H p fp o):m6 K G' H' p fp o:=by
 cases o with
 | ll g6=>exact⟨hh p (by simp) _ h.1,h.2.mono g fun q hq xs=>hh q (by simp[hq]) _⟩
 | dc g5=>
  obtain⟨rfl,ks,ep,h1,h2⟩:=h;exact⟨rfl,ks,ep,hh p (by simp) _ h1,iJ.mono g _ _ h2⟩
 | dl g5=>
  obtain⟨ks,ep,h1,h2,h3,h4⟩:=h;exact⟨ks,ep,hh p (by simp) _ h1,h2,h3,h4.mono g fun q hq xs=>hh q (by simp[hq]) _⟩
 | tl d ds=>
  obtain⟨r,v,xs,rfl,h1,h2,h3,h4⟩:=h;exact⟨r,v,xs,rfl,hh p (by simp) _ h1,h2.mono g,hh r (by simp) _ h3,h4.mono g⟩
 | ld yU=>exact⟨hh p (by simp) _ h.1,h.2.mono g fun q hq=>hh q (by simp[hq])⟩
 | dt g5=>
  obtain⟨ks,bs,h1,hk,h2,h3,h4⟩:=h;exact⟨ks,bs,hh p (by simp) _ h1,hk.mono g,h2,h3,h4.mono g fun q hq xs=>hh q (by simp[hq]) _⟩
 | tp ds=>
  obtain⟨rfl,xs,h1,h2⟩:=h;exact⟨rfl,xs,hh p (by simp) _ h1,h2.mono g⟩
 | ob cn fs=>
  obtain⟨C,dx,gs,h1,hc,hn,h2,h3,h4⟩:=h;exact⟨C,dx,gs,hh p (by simp) _ h1,hc,hn,h2,h3,h4.mono g fun q hq xs=>hh q (by simp[hq]) _⟩
 | dq g5=>
  obtain⟨rfl,ks,bs,h1,hk,h2⟩:=h;exact⟨rfl,ks,bs,hh p (by simp) _ h1,hk.mono g,j0.mono g _ _ h2⟩
theorem iJ.jj{K:Z9}{G:Hp}:∀{ks:List (Key×V)} {g5:List (Key×List D)} {fp:List Addr},ks.map (·.1)=g5.map (·.1)->ks.map (·.2)=fp.map V.ref->f9 K G (fp.map V.ref) ((g5.map (·.2)).map D.lst)->iJ K G ks (g5.map fun p=>(p.1,.lst p.2))
 | [],[],_,_,_,_=>by simp only[bW,iJ]
 | a::ks,b::g5,fp,h1,h2,h3=>by
  simp only[ay,List.cons.injEq] at h1;cases fp with
  | nil=>simp at h2
  | cons q fp=>
   simp only[ay,List.cons.injEq] at h2;simp only[ay,f9] at h3;simp only[ay,iJ];exact⟨⟨h1.1,by rw[h2.1];exact h3.1⟩,iJ.jj h1.2 h2.2 h3.2⟩
 | [],_::_,_,h,_,_=>by simp at h
 | _::_,[],_,h,_,_=>by simp at h
theorem j0.jj{K:Z9}{G:Hp}:∀{ks:List (List Key×V)} {g5:List (List Key×List D)} {fp:List Addr},ks.map (·.1)=g5.map (·.1)->ks.map (·.2)=fp.map V.ref->f9 K G (fp.map V.ref) ((g5.map (·.2)).map D.lst)->j0 K G ks (g5.map fun p=>(p.1,.lst p.2))
 | [],[],_,_,_,_=>by simp only[bW,j0]
 | a::ks,b::g5,fp,h1,h2,h3=>by
  simp only[ay,List.cons.injEq] at h1;cases fp with
  | nil=>simp at h2
  | cons q fp=>
   simp only[ay,List.cons.injEq] at h2;simp only[ay,f9] at h3;simp only[ay,j0];exact⟨⟨h1.1,by rw[h2.1];exact h3.1⟩,j0.jj h1.2 h2.2 h3.2⟩
 | [],_::_,_,h,_,_=>by simp at h
 | _::_,[],_,h,_,_=>by simp at h
theorem g7.jj{K:Z9}{G:Hp}:∀{ks:List (Str×V)} {g5:List (Str×List D)} {fp:List Addr},ks.map (·.1)=g5.map (·.1)->ks.map (·.2)=fp.map V.ref->f9 K G (fp.map V.ref) ((g5.map (·.2)).map D.lst)->g7 K G ks (g5.map fun p=>(p.1,.lst p.2))
 | [],[],_,_,_,_=>by simp only[bW,g7]
 | a::ks,b::g5,fp,h1,h2,h3=>by
  simp only[ay,List.cons.injEq] at h1;cases fp with
  | nil=>simp at h2
  | cons q fp=>
   simp only[ay,List.cons.injEq] at h2;simp only[ay,f9] at h3;simp only[ay,g7];exact⟨⟨h1.1,by rw[h2.1];exact h3.1⟩,g7.jj h1.2 h2.2 h3.2⟩
 | [],_::_,_,h,_,_=>by simp at h
 | _::_,[],_,h,_,_=>by simp at h
noncomputable def sZ(G H:Hp)(l:List Addr):Hp:=fun a=>if a∈l then H a else G a
theorem vm{G H:Hp}{l:List Addr}{a:Addr}(h:a∈l):sZ G H l a=H a:=if_pos h
theorem uz{G H:Hp}{l:List Addr}{a:Addr}(h:a∉l):sZ G H l a=G a:=if_neg h
theorem A7{G H:Hp}{l:List Addr}(h:∀q∈l,G q=none):gz G (sZ G H l):=fun b u e=>by
 rw[uz (fun z=>by rw[h b z] at e;cases e)];exact e
theorem m6.freeze{K:Z9}{G H:Hp}{p:Addr}{fp:List Addr}{o:OV}(h:m6 K G H p fp o)(hn:∀q∈p::fp,G q=none):Rep K (sZ G H (p::fp)) (.ref p) o.val:=by
 have hs:=A7 (H:=H) hn;have hp:sZ G H (p::fp) p=H p:=vm (by simp);cases o with
 | ll g6=>
  simp only[OV.val,Rep];exact⟨p,_,rfl,oh.of (by rw[hp];exact h.1),h.2.qv hs fun q hq xs e=>by rw[vm (by simp[hq])];exact e⟩
 | dc g5=>
  obtain⟨rfl,ks,ep,h1,h2⟩:=h;simp only[OV.val,Rep];exact⟨p,ks,ep,rfl,by rw[hp];exact h1,iJ.mono hs _ _ h2⟩
 | dl g5=>
  obtain⟨ks,ep,h1,h2,h3,h4⟩:=h;simp only[OV.val,Rep];exact⟨p,ks,ep,rfl,by rw[hp];exact h1,iJ.jj h2 h3 (h4.qv hs fun q hq xs e=>by rw[vm (by simp[hq])];exact e)⟩
 | tl d ds=>
  obtain⟨r,v,xs,rfl,h1,h2,h3,h4⟩:=h;simp only[OV.val,Rep];refine⟨p,_,rfl,(by rw[hp];exact h1),f9.cons (h2.mono hs) (f9.cons ?_ f9.nil)⟩;simp only[Rep];exact⟨r,xs,rfl,oh.of (by rw[vm (by simp)];exact h3),h4.mono hs⟩
 | dt g5=>
  obtain⟨ks,bs,h1,hk,h2,h3,h4⟩:=h;simp only[OV.val,Rep];exact⟨p,ks,bs,rfl,by rw[hp];exact h1,hk.mono hs,j0.jj h2 h3 (h4.qv hs fun q hq xs e=>by rw[vm (by simp[hq])];exact e)⟩
 | tp ds=>
  obtain⟨rfl,xs,h1,h2⟩:=h;simp only[OV.val,Rep];exact⟨p,xs,rfl,(by rw[hp];exact h1),h2.mono hs⟩
 | ob cn fs=>
  obtain⟨C,dx,gs,h1,hc,hn,h2,h3,h4⟩:=h;simp only[OV.val,Rep];refine⟨p,C,dx,gs,rfl,by rw[hp];exact h1,hc,fun u hu=>?_,g7.jj h2 h3 (h4.qv hs fun q hq xs e=>by rw[vm (by simp[hq])];exact e)⟩;obtain⟨v,hv,rfl⟩:=aO.mp hu;exact hn v hv
 | ld yU=>
  simp only[OV.val,Rep];exact⟨p,_,rfl,oh.of (by rw[hp];exact h.1),h.2.qv hs fun q hq u e=>by rw[vm (by simp[hq])];exact e⟩
 | dq g5=>
  obtain⟨rfl,ks,bs,h1,hk,h2⟩:=h;simp only[OV.val,Rep];exact⟨p,ks,bs,rfl,by rw[hp];exact h1,hk.mono hs,j0.mono hs _ _ h2⟩
noncomputable abbrev Ev:=List Sl
noncomputable def gt:Ev->Nat->Sl
 | [],_=>.un
 | a::_,0=>a
 | _::r,n+1=>gt r n
theorem vO{ρ:Ev}{i j:Nat}{s:Sl}:gt (ρ.set i s) j=if i=j/\j<ρ.length then s else gt ρ j:=by
 induction ρ generalizing i j with
 | nil=>simp[gt]
 | cons a r ih=>
  cases i with
  | zero=>
   cases j with
   | zero=>simp[gt]
   | succ j=>simp[gt]
  | succ i=>
   cases j with
   | zero=>simp[gt]
   | succ j=>simp[gt,ih]
def jl(K:Z9)(G' H' H:Hp)(v:V):R->Prop
 | .fz d=>Rep K G' v d
 | .ow ds=>∃p xs,v=.ref p/\H p=none/\G' p=none/\H' p=some (.lst xs)/\f9 K G' xs ds
 | .ov o=>∃p fp,v=.ref p/\(p::fp).Nodup/\m6 K G' H' p fp o/\∀q∈p::fp,H q=none/\G' q=none
structure ie (K:Z9) (G0 H0:Hp) (ρ:Ev) (σ:St) (G H:Hp):Prop where
 e:Ext G0 H0 G H
 len:σ.length=ρ.length
 fz:∀i d,gt ρ i=.fz d->∃v,σ[i]?=some (some v)/\Rep K G v d
 ow:∀i ds,gt ρ i=.ow ds->∃p xs,σ[i]?=some (some (.ref p))/\H p=some (.lst xs)/\G p=none/\H0 p=none/\f9 K G xs ds
 dj:∀i j ds es,i≠j->gt ρ i=.ow ds->gt ρ j=.ow es->σ[i]?≠σ[j]?
 on:∃own:Addr->Option Nat,(∀i ds p,gt ρ i=.ow ds->σ[i]?=some (some (.ref p))->own p=some i)/\∀i o,gt ρ i=.ov o->∃p fp,σ[i]?=some (some (.ref p))/\(p::fp).Nodup/\m6 K G H p fp o/\∀q∈p::fp,G q=none/\H0 q=none/\own q=some i
section
variable {K:Z9} {G0 H0 G H G' H' G2 H2:Hp} {ρ:Ev} {σ:St} {v:V}
theorem ie.ext(E:ie K G0 H0 ρ σ G H)(x:Ext G H G' H'):ie K G0 H0 ρ σ G' H' where
 e:=E.e.trans x
 len:=E.len
 fz:=fun i d h=>let⟨v,h1,h2⟩:=E.fz i d h;⟨v,h1,h2.mono x.g⟩
 ow:=fun i ds h=>let⟨p,xs,h1,h2,h3,h4,h5⟩:=E.ow i ds h;⟨p,xs,h1,x.h _ _ h2,x.n p h3 (by rw[h2];exact nofun),h4,h5.mono x.g⟩
 dj:=E.dj
 on:=by
  obtain⟨own,h1,h2⟩:=E.on;refine⟨own,h1,fun i o h=>?_⟩;obtain⟨p,fp,b1,b2,b3,b4⟩:=h2 i o h;exact⟨p,fp,b1,b2,b3.mono x.g fun q _ u e=>x.h q u e,fun q hq=>⟨x.n q (b4 q hq).1 (b3.here q hq),(b4 q hq).2⟩⟩
theorem jl.freeze{r:R}(x:Ext G H G' H')(h:jl K G' H' H v r):∃G2,Ext G H G2 H'/\Rep K G2 v r.val/\gz G' G2:=by
 cases r with
 | fz d=>exact⟨G',x,h,gz.refl _⟩
 | ow ds=>
  obtain⟨p,xs,h1,h2,h3,h4,h5⟩:=h;refine⟨upd G' p (.lst xs),⟨x.g.trans (xg h3),x.h,fun b o e=>?_,fun q rJ oe=>?_⟩,?_,xg h3⟩
  ·by_cases hb:b=p
   ·subst hb;rw[lA] at e;rw[h4];exact e
   ·rw[iy hb] at e;exact x.s b o e
  ·rw[iy (fun z=>oe (by rw[z];exact h2))];exact x.n q rJ oe
  ·show Rep K (upd G' p (.lst xs)) v (.lst ds);simp only[Rep];exact⟨p,xs,h1,oh.of lA,h5.mono (xg h3)⟩
 | ov o=>
  obtain⟨p,fp,rfl,h1,h2,h3⟩:=h;have hn:∀q∈p::fp,G' q=none:=fun q hq=>(h3 q hq).2
  refine⟨sZ G' H' (p::fp),⟨x.g.trans (A7 hn),x.h,fun b u e=>?_,fun q rJ oe=>?_⟩,h2.freeze hn,A7 hn⟩
  ·by_cases hb:b∈p::fp
   ·rw[vm hb] at e;exact e
   ·rw[uz hb] at e;exact x.s b u e
  ·rw[uz (fun z=>oe (h3 q z).1)];exact x.n q rJ oe
theorem jl.lR{r:R}{H1 H3:Hp}(s:gz H3 H1)(h:jl K G' H' H1 v r):jl K G' H' H3 v r:=by
 cases r with
 | fz d=>exact h
 | ow ds=>
  obtain⟨p,xs,h1,h2,h3,h4,h5⟩:=h;exact⟨p,xs,h1,s.free h2,h3,h4,h5⟩
 | ov o=>
  obtain⟨p,fp,rfl,h1,h2,h3⟩:=h;exact⟨p,fp,rfl,h1,h2,fun q hq=>⟨s.free (h3 q hq).1,(h3 q hq).2⟩⟩
end
noncomputable abbrev TD:=Ev->(R->Prop)->Prop
noncomputable abbrev mT:=Ev->(Bool->Prop)->Prop
noncomputable abbrev nE:=Ev->(List D->Prop)->Prop
structure DE where
 nx:Ev->Prop
 rt:R->Prop
 bk:Ev->Prop:=fun _=>False
 ct:Ev->Prop:=fun _=>False
noncomputable abbrev TX:=DE->Ev->Prop
def PD(X:Cx)(e:Expr)(t:TD):Prop:=∃tt,PE X e tt/\∀(ρ:Ev) (σ:St) (G0 H0 G H:Hp) (Q:R->Prop) (P:VK),ie X.K G0 H0 ρ σ G H->t ρ Q->
 (∀v H' r G',Ext G H G' H'->jl X.K G' H' H v r->Q r->P v H')->tt σ H P
def PB(X:Cx)(e:Expr)(t:mT):Prop:=∃tt,PT X e tt/\∀(ρ:Ev) (σ:St) (G0 H0 G H:Hp) (Q:Bool->Prop) (P:Bool->Hp->Prop),ie X.K G0 H0 ρ σ G H->t ρ Q->
 (∀b H' G',Ext G H G' H'->Q b->P b H')->tt σ H P
def qL(X:Cx)(es:List Expr)(t:nE):Prop:=∃tt,PA X es tt/\∀(ρ:Ev) (σ:St) (G0 H0 G H:Hp) (Q:List D->Prop) (P:List V->Hp->Prop),ie X.K G0 H0 ρ σ G H->t ρ Q->
 (∀vs H' ds G',Ext G H G' H'->f9 X.K G' vs ds->Q ds->P vs H')->tt σ H P
structure Goes (K:Z9) (G0 H0 G:Hp) (D:DE) (E:Ends):Prop where
 nx:∀ρ σ G' H',gz G G'->ie K G0 H0 ρ σ G' H'->D.nx ρ->E.nx σ H'
 rt:∀v H' r G',Ext G0 H0 G' H'->jl K G' H' H0 v r->D.rt r->E.rt v H'
 bk:∀ρ σ G' H',gz G G'->ie K G0 H0 ρ σ G' H'->D.bk ρ->E.bk σ H'
 ct:∀ρ σ G' H',gz G G'->ie K G0 H0 ρ σ G' H'->D.ct ρ->E.ct σ H'
theorem Goes.shift{K:Z9}{G0 H0 G G':Hp}{D:DE}{E:Ends}(g:Goes K G0 H0 G D E)(s:gz G G'):Goes K G0 H0 G' D E:=
 ⟨fun ρ σ G2 H2 s2=>g.nx ρ σ G2 H2 (s.trans s2),g.rt,fun ρ σ G2 H2 s2=>g.bk ρ σ G2 H2 (s.trans s2),fun ρ σ G2 H2 s2=>g.ct ρ σ G2 H2 (s.trans s2)⟩
def PX(X:Cx)(st:Stmt)(t:TX):Prop:=∃tt,PS X st tt/\∀(ρ:Ev) (σ:St) (G0 H0 G H:Hp) (D:DE) (E:Ends),ie X.K G0 H0 ρ σ G H->t D ρ->Goes X.K G0 H0 G D E->tt E σ H
def rQ(X:Cx)(st:List Stmt)(t:TX):Prop:=∃tt,rR X st tt/\∀(ρ:Ev) (σ:St) (G0 H0 G H:Hp) (D:DE) (E:Ends),ie X.K G0 H0 ρ σ G H->t D ρ->Goes X.K G0 H0 G D E->tt E σ H
section
variable {X:Cx} {pos:Pos} {a b c:Expr} {ta tb tc:TD}
theorem j7{K:Z9}{G' H' H:Hp}{v:V}{d:D}(h:Rep K G' v d):jl K G' H' H v (.fz d):=h
def f6(i:Nat):TD:=fun ρ Q=>match gt ρ i with
 | .fz d=>Q (.fz d)
 | _=>False
theorem f7(i:Nat){x:Str}(hN:X.N[i]?=some x:=by rfl)(hv:qK X.env.scope x:=by first | exact Or.inl rfl | exact Or.inr (Or.inl rfl) | exact Or.inr (Or.inr rfl))(hd:(x==("__debug__":Str))=false:=by decide)
  (kP:(x==("__classdict__":Str))=false:=by decide):PD X (.Name x pos) (f6 i):=by
 refine⟨_,sg hN hv hd kP,fun ρ σ G0 H0 G H Q P E h k=>?_⟩;unfold f6 at h;split at h
 ·rename_i d e;obtain⟨v,h1,h2⟩:=E.fz i d e;exact⟨v,h1,k v H (.fz d) G (.refl E.e.s) h2 h⟩
 ·exact h.elim
def dC(d:D):TD:=fun _ Q=>Q (.fz d)
theorem DQ{e:Expr}{v:V}{d:D}(h:PE X e (tC v))(r:∀K G,Rep K G v d):PD X e (dC d):=
 ⟨_,h,fun ρ σ G0 H0 G H Q P E h k=>k v H (.fz d) G (.refl E.e.s) (r _ _) h⟩
theorem nz(K:Z9)(G:Hp)(i:Int):Rep K G (.int i) (.int i):=by simp only[Rep]
theorem pB(K:Z9)(G:Hp)(i:Bool):Rep K G (.bl i) (.bl i):=by simp only[Rep]
theorem zE(K:Z9)(G:Hp)(i:Str):Rep K G (.str i) (.str i):=by simp only[Rep]
theorem Lp(K:Z9)(G:Hp):Rep K G .non .non:=by simp only[Rep]
theorem gv{i j}:PD X (.Constant (.int i) j pos) (dC (.int i)):=DQ QZ fun K G=>nz K G i
theorem zj{i j}:PD X (.Constant (.bool i) j pos) (dC (.bl i)):=DQ Pn fun K G=>pB K G i
theorem pd{i j}:PD X (.Constant (.str i) j pos) (dC (.str i)):=DQ QX fun K G=>zE K G i
theorem m9{j}:PD X (.Constant .none j pos) (dC .non):=DQ QY fun K G=>Lp K G
noncomputable abbrev O2:=D->D->(R->Prop)->Prop
def o3(X:Cx)(f:Value->Value->Sem Value)(o:O2):Prop:=∃r:R2,lq X f r/\∀(G H:Hp) (x y:V) (d e:D) (Q:R->Prop) (P:VK),gz G H->Rep X.K G x d->Rep X.K G y e->o d e Q->
 (∀v H' r' G',Ext G H G' H'->jl X.K G' H' H v r'->Q r'->P v H')->r x y H P
def gk(o:O2)(ta tb:TD):TD:=fun ρ Q=>ta ρ fun ra=>tb ρ fun rb=>o ra.val rb.val Q
theorem Dr{r:R2}{o:O2}{BE BD:TE}
  (hr:∀(G H:Hp) (x y:V) (d e:D) (Q:R->Prop) (P:VK),gz G H->Rep X.K G x d->Rep X.K G y e->o d e Q->(∀v H' r' G',Ext G H G' H'->jl X.K G' H' H v r'->Q r'->P v H')->r x y H P)
  (ha:∀(ρ:Ev) (σ:St) (G0 H0 G H:Hp) (Q:R->Prop) (P:VK),ie X.K G0 H0 ρ σ G H->ta ρ Q->(∀v H' r G',Ext G H G' H'->jl X.K G' H' H v r->Q r->P v H')->BE σ H P)
  (hb:∀(ρ:Ev) (σ:St) (G0 H0 G H:Hp) (Q:R->Prop) (P:VK),ie X.K G0 H0 ρ σ G H->tb ρ Q->(∀v H' r G',Ext G H G' H'->jl X.K G' H' H v r->Q r->P v H')->BD σ H P)
  (ρ:Ev) (σ:St) (G0 H0 G H:Hp) (Q:R->Prop) (P:VK) (E:ie X.K G0 H0 ρ σ G H) (h:gk o ta tb ρ Q) (k:∀v H' r G',Ext G H G' H'->jl X.K G' H' H v r->Q r->P v H'):BI r BE BD σ H P:=by
 refine ha ρ σ G0 H0 G H _ _ E h fun v H1 ra G1 x1 r1 h1=>?_
 obtain⟨Jp,xo,q1,_⟩:=r1.freeze x1;refine hb ρ σ G0 H0 Jp H1 _ _ (E.ext xo) h1 fun u H2 rb G2 x2 r2 h2=>?_
 obtain⟨ET,xn,q2,_⟩:=r2.freeze x2;refine hr ET H2 v u _ _ Q P xn.s (q1.mono xn.g) q2 h2 fun v' H' r' G' x3 r3 h3=>?_
 have x4:=(xo.trans xn).trans x3;exact k v' H' r' G' x4 (r3.lR (xo.trans xn).h) h3
theorem gH{op:Operator}{o:O2}(ho:o3 X (binaryOp op) o)(ha:PD X a ta)(hb:PD X b tb):PD X (.BinOp a op b pos) (gk o ta tb):=by
 obtain⟨r,hr,tK⟩:=ho;obtain⟨BE,pa,qa⟩:=ha;obtain⟨BD,pb,qb⟩:=hb;exact⟨_,Pe hr pa pb,Dr tK qa qb⟩
theorem zu{op:CmpOp}{o:O2}(ho:o3 X (compareOp op) o)(ha:PD X a ta)(hb:PD X b tb)(hm:behindInMarks op b=false:=by first | exact Ks _ | rfl):PD X (.Compare a [op] [b] pos) (gk o ta tb):=by
 obtain⟨r,hr,tK⟩:=ho;obtain⟨BE,pa,qa⟩:=ha;obtain⟨BD,pb,qb⟩:=hb;exact⟨_,RL hr pa pb hm,Dr tK qa qb⟩
def gR(t:TD):mT:=fun ρ Q=>t ρ fun r=>match r with
 | .fz (.bl k)=>Q k
 | _=>False
theorem ik{op:CmpOp}{o:O2}(ho:o3 X (compareOp op) o)(ha:PD X a ta)(hb:PD X b tb)(hm:behindInMarks op b=false:=by first | exact Ks _ | rfl):PB X (.Compare a [op] [b] pos) (gR (gk o ta tb)):=by
 obtain⟨r,hr,tK⟩:=ho;obtain⟨BE,pa,qa⟩:=ha;obtain⟨BD,pb,qb⟩:=hb;refine⟨_,RK hr pa pb hm,fun ρ σ G0 H0 G H Q P E h k=>?_⟩;refine Dr tK qa qb ρ σ G0 H0 G H _ _ E h fun v H' r G' x1 r1 h1=>?_
 split at h1
 ·rename_i kk;have e:v=.bl kk:=by simpa only[jl,Rep] using r1
  exact⟨kk,e,k kk H' G' x1 h1⟩
 ·exact h1.elim
theorem xa{e:Expr}{t:TD}(h:PD X e t)(he:∀whole,isTrue e X.env whole=(do let v <-whole;standAt e.pos;holding [v] (truthy v)):=by intro _;rfl):PB X e (gR t):=by
 obtain⟨tt,p,q⟩:=h;refine⟨_,QW p he,fun ρ σ G0 H0 G H Q P E h k=>?_⟩;refine q ρ σ G0 H0 G H _ _ E h fun v H' r G' x1 r1 h1=>?_
 split at h1
 ·rename_i kk;have e:v=.bl kk:=by simpa only[jl,Rep] using r1
  exact⟨kk,e,k kk H' G' x1 h1⟩
 ·exact h1.elim
def i5:O2:=fun d e Q=>match d,e with
 | .int i,.int j=>Q (.fz (.int (i+j)))
 | .str x,.str y=>x.length+y.length<=sizeLine/\Q (.fz (.str (x++y)))
 | .lst xs,.lst ys=>xs.length+ys.length<=sizeLine/\Q (.ow (xs++ys))
 | _,_=>False
def PJ(K:Z9):R2:=fun x y H Q=>∃l b xs zs,x=.ref l/\y=.ref b/\oh K H l xs/\oh K H b zs/\xs.length+zs.length<=sizeLine/\∀p,H p=none->Q (.ref p) (upd H p (.lst (xs++zs)))
theorem Rv:lq X (binaryOp .Add) (PJ X.K):=by
 intro Z8 s σ H x y v u Q I rx ry h;obtain⟨l,b,xs,zs,rfl,rfl,hH,hB,hz,q⟩:=h;cases rx;cases ry;obtain⟨z,its,n,r,e⟩:=I.jF hH;obtain⟨z2,oV,n2,r2,e2⟩:=I.jF hB;have hl:=r.length;have EA:=r2.length;refine PySem.P.add_list e e2 ?_ (by rw[ax,ax];omega);have ea:its.toArray++oV.toArray=(its++oV).toArray:=by simp
 rw[ea];exact⟨.ref _,_,I.B3 (t':=s.toks) (r.append r2) (by rw[au];omega),rfl,q _ I.fresh⟩
theorem vR{G H:Hp}{xs:List V}{ds:List D}{Q:R->Prop}{P:VK}(s:gz G H)(r:f9 X.K G xs ds)(q:Q (.ow ds))
  (k:∀v H' r' G',Ext G H G' H'->jl X.K G' H' H v r'->Q r'->P v H'):∀p,H p=none->P (.ref p) (upd H p (.lst xs)):=fun p hp=>
 k _ _ (.ow ds) G (.own s hp) ⟨p,xs,rfl,hp,s.free hp,lA,r⟩ q
theorem jq:o3 X (binaryOp .Add) i5:=by
 refine⟨_,yu.or (rF.or Rv),fun G H x y d e Q P s rx ry h k=>?_⟩;unfold i5 at h;split at h
 ·simp only[Rep] at rx ry;exact .inl ⟨_,_,rx,ry,k _ _ _ G (.refl s) (j7 (nz _ _ _)) h⟩
 ·simp only[Rep] at rx ry;exact .inr (.inl ⟨_,_,rx,ry,h.1,k _ _ _ G (.refl s) (j7 (zE _ _ _)) h.2⟩)
 ·simp only[Rep] at rx ry;obtain⟨a,xs,rfl,hx,Nz⟩:=rx;obtain⟨b,ys,rfl,hy,vt⟩:=ry;refine .inr (.inr ⟨_,_,_,_,rfl,rfl,s.jF hx,s.jF hy,by rw[Nz.length,vt.length];exact h.1,vR s (Nz.append vt) h.2 k⟩)
 ·exact h.elim
def oI(C:Int->Int->Prop)(g:Int->Int->D):O2:=fun d e Q=>match d,e with
 | .int i,.int j=>C i j/\Q (.fz (g i j))
 | _,_=>False
def mH(g:Int->Int->D):O2:=fun d e Q=>match d,e with
 | .int i,.int j=>Q (.fz (g i j))
 | _,_=>False
theorem Dd{f:Value->Value->Sem Value}{C:Int->Int->Prop}{g:Int->Int->V}{g':Int->Int->D}(h:lq X f (rI C g))(hg:∀K G i j,Rep K G (g i j) (g' i j)):o3 X f (oI C g'):=by
 refine⟨_,h,fun G H x y d e Q P s rx ry h k=>?_⟩;unfold oI at h;split at h
 ·simp only[Rep] at rx ry;exact⟨_,_,rx,ry,h.1,k _ _ _ G (.refl s) (j7 (hg _ _ _ _)) h.2⟩
 ·exact h.elim
theorem AU{f:Value->Value->Sem Value}{g:Int->Int->V}{g':Int->Int->D}(h:lq X f (tH g))(hg:∀K G i j,Rep K G (g i j) (g' i j)):o3 X f (mH g'):=by
 refine⟨_,h,fun G H x y d e Q P s rx ry h k=>?_⟩;unfold mH at h;split at h
 ·simp only[Rep] at rx ry;exact⟨_,_,rx,ry,k _ _ _ G (.refl s) (j7 (hg _ _ _ _)) h⟩
 ·exact h.elim
theorem PH:o3 X (binaryOp .Sub) (mH fun i j=>.int (i-j)):=AU Rj fun K G i j=>nz K G _
theorem vK:o3 X (binaryOp .Mult) (oI mP fun i j=>.int (i*j)):=Dd Ri fun K G i j=>nz K G _
theorem oR:o3 X (binaryOp .FloorDiv) (oI nG fun i j=>.int (i/j)):=Dd RN fun K G i j=>nz K G _
theorem j6:o3 X (binaryOp .Mod) (oI (fun _ j=>0<j) fun i j=>.int (i%j)):=Dd Rh fun K G i j=>nz K G _
theorem AL:o3 X (binaryOp .Pow) (oI ur fun i j=>.int (i ^ j.toNat)):=Dd Rg fun K G i j=>nz K G _
theorem zg:o3 X (compareOp .Lt) (mH fun i j=>.bl (decide (i<j))):=AU Pb fun K G i j=>pB K G _
theorem OH:o3 X (compareOp .LtE) (mH fun i j=>.bl (decide (i<=j))):=AU Fg fun K G i j=>pB K G _
theorem Ax:o3 X (compareOp .Gt) (mH fun i j=>.bl (decide (j<i))):=AU Pa fun K G i j=>pB K G _
theorem OG:o3 X (compareOp .GtE) (mH fun i j=>.bl (decide (j<=i))):=AU O9 fun K G i j=>pB K G _
end
open PySem.SeqAt
mutual
noncomputable def iq:D->D->Bool
 | .non,.non=>true
 | .bl a,.bl b=>a==b
 | .bl a,.int b=>(if a then 1 else 0)==b
 | .int a,.bl b=>a==(if b then 1 else 0)
 | .int a,.int b=>a==b
 | .str a,.str b=>a==b
 | .tup xs,.tup ys=>qe xs ys
 | .lst xs,.lst ys=>qe xs ys
 | _,_=>false
noncomputable def qe:List D->List D->Bool
 | [],[]=>true
 | x::xs,y::ys=>iq x y&&qe xs ys
 | _,_=>false
end
def iE:Nat->D->Prop
 | _,.non=>True
 | _,.bl _=>True
 | _,.int _=>True
 | _,.str _=>True
 | n+1,.tup ds=>∀d∈ds,iE n d
 | n+1,.lst ds=>∀d∈ds,iE n d
 | _,_=>False
theorem iE.mono:∀{n m:Nat} {d:D},n<=m->iE n d->iE m d
 | n,m,.non,_,_=>by cases m<;>exact trivial
 | n,m,.bl _,_,_=>by cases m<;>exact trivial
 | n,m,.int _,_,_=>by cases m<;>exact trivial
 | n,m,.str _,_,_=>by cases m<;>exact trivial
 | 0,m,.tup ds,_,h=>by cases h
 | 0,m,.lst ds,_,h=>by cases h
 | n+1,0,.tup ds,l,h=>by omega
 | n+1,0,.lst ds,l,h=>by omega
 | n+1,m+1,.tup ds,l,h=>fun d hd=>iE.mono (by omega) (h d hd)
 | n+1,m+1,.lst ds,l,h=>fun d hd=>iE.mono (by omega) (h d hd)
 | 0,m,.obj _ _,_,h=>by cases h
 | n+1,m,.obj _ _,_,h=>by cases h
 | 0,m,.dic _,_,h=>by cases h
 | 0,m,.dit _,_,h=>by cases h
 | 0,m,.exc _,_,h=>by cases h
 | n+1,m,.dic _,_,h=>by cases h
 | n+1,m,.dit _,_,h=>by cases h
 | n+1,m,.exc _,_,h=>by cases h
mutual
theorem DP:∀(n:Nat) (d:D),iE n d->iq d d=true
 | n,.non,_=>by simp only[iq]
 | n,.bl _,_=>by simp only[iq,dZ]
 | n,.int _,_=>by simp only[iq,dZ]
 | n,.str _,_=>by simp only[iq,dZ]
 | 0,.tup ds,h=>by cases h
 | 0,.lst ds,h=>by cases h
 | n+1,.tup ds,h=>by simp only[iq];exact Gj n ds h
 | n+1,.lst ds,h=>by simp only[iq];exact Gj n ds h
 | 0,.obj _ _,h=>by cases h
 | n+1,.obj _ _,h=>by cases h
 | 0,.dic _,h=>by cases h
 | 0,.dit _,h=>by cases h
 | 0,.exc _,h=>by cases h
 | n+1,.dic _,h=>by cases h
 | n+1,.dit _,h=>by cases h
 | n+1,.exc _,h=>by cases h
theorem Gj:∀(n:Nat) (ds:List D),(∀d∈ds,iE n d)->qe ds ds=true
 | n,[],_=>by simp only[qe]
 | n,d::ds,h=>by simp only[qe,DP n d (h d (by simp)),Gj n ds (fun e he=>h e (by simp[he])),Bool.and_self]
end
theorem A4:∀{xs ys:List D},xs.length≠ys.length->qe xs ys=false
 | [],[],h=>absurd rfl h
 | x::xs,y::ys,h=>by
  rw[qe,A4 (xs:=xs) (ys:=ys) (by simpa using h),Bool.and_false]
 | [],_::_,_=>by simp only[qe]
 | _::_,[],_=>by simp only[qe]
theorem A3:∀(xs ys:List D),xs.length=ys.length->qe xs ys=(List.range xs.length).all fun j=>iq (xs.getD j .non) (ys.getD j .non)
 | [],[],_=>by simp[qe]
 | x::xs,y::ys,h=>by
  rw[qe,A3 xs ys (by simpa using h),aG,List.range_succ_eq_map,List.all_cons,List.all_map];congr 1
 | [],_::_,h=>by simp at h
 | _::_,[],h=>by simp at h
theorem F8(xs ys:List D):((List.range (min xs.length ys.length)).all (fun j=>iq (xs.getD j .non) (ys.getD j .non))&&xs.length==ys.length)=qe xs ys:=by
 by_cases h:xs.length=ys.length
 ·rw[A3 xs ys h,h];simp
 ·rw[A4 h];simp[h]
section
variable {X:Cx} {Z8:List (Addr×Obj)} {σ:St} {H:Hp} {s:Shared}
mutual
theorem DF(I:Inv X Z8 σ H s):∀(n:Nat) (d e:D) (v:V),iE n d->iE n e->Rep X.K H v d->Rep X.K H v e->d=e
 | n,.non,e,v,h,h',r,r'=>by
  cases e<;>simp only[Rep] at r r'<;>subst r<;>first | rfl | (simp at r';done) | (simp only[V.bl.injEq,V.int.injEq,V.str.injEq] at r';rw[r'])
 | n,.bl b,e,v,h,h',r,r'=>by
  cases e<;>simp only[Rep] at r r'<;>subst r<;>first | rfl | (simp at r';done) | (simp only[V.bl.injEq,V.int.injEq,V.str.injEq] at r';rw[r'])
 | n,.int b,e,v,h,h',r,r'=>by
  cases e<;>simp only[Rep] at r r'<;>subst r<;>first | rfl | (simp at r';done) | (simp only[V.bl.injEq,V.int.injEq,V.str.injEq] at r';rw[r'])
 | n,.str b,e,v,h,h',r,r'=>by
  cases e<;>simp only[Rep] at r r'<;>subst r<;>first | rfl | (simp at r';done) | (simp only[V.bl.injEq,V.int.injEq,V.str.injEq] at r';rw[r'])
 | 0,.tup ds,e,v,h,h',r,r'=>by cases h
 | 0,.lst ds,e,v,h,h',r,r'=>by cases h
 | n+1,.tup ds,e,v,h,h',r,r'=>by
  simp only[Rep] at r;obtain⟨a,xs,rfl,q,rs⟩:=r;cases e<;>simp only[Rep] at r'
  case tup es=>
   obtain⟨b,ys,e1,q',mW⟩:=r';cases e1;rw[I.pk (jE.of q') (jE.of q)] at mW;rw[F7 I n ds es xs h h' rs mW]
  case lst es=>
   obtain⟨b,ys,e1,q',mW⟩:=r';cases e1;obtain⟨its,_,ht,_⟩:=I.tuple (jE.of q);obtain⟨its',_,hl,_⟩:=I.list q'.sq;exact absurd rfl (ne_of_list_tuple hl.isList (show s.heap.IsTuple a its.toArray from ht))
  case obj=>cases h'
  case dic=>cases h'
  case dit=>cases h'
  case exc=>cases h'
  all_goals cases r'
 | n+1,.lst ds,e,v,h,h',r,r'=>by
  simp only[Rep] at r;obtain⟨a,xs,rfl,q,rs⟩:=r;cases e<;>simp only[Rep] at r'
  case lst es=>
   obtain⟨b,ys,e1,q',mW⟩:=r';cases e1;rw[I.k9 q'.sq q.sq] at mW;rw[F7 I n ds es xs h h' rs mW]
  case tup es=>
   obtain⟨b,ys,e1,q',mW⟩:=r';cases e1;obtain⟨its,_,ht,_⟩:=I.tuple (jE.of q');obtain⟨its',_,hl,_⟩:=I.list q.sq;exact absurd rfl (ne_of_list_tuple hl.isList (show s.heap.IsTuple a its.toArray from ht))
  case obj=>cases h'
  case dic=>cases h'
  case dit=>cases h'
  case exc=>cases h'
  all_goals cases r'
 | 0,.obj _ _,_,_,h,_,_,_=>by cases h
 | n+1,.obj _ _,_,_,h,_,_,_=>by cases h
 | 0,.dic _,_,_,h,_,_,_=>by cases h
 | 0,.dit _,_,_,h,_,_,_=>by cases h
 | 0,.exc _,_,_,h,_,_,_=>by cases h
 | n+1,.dic _,_,_,h,_,_,_=>by cases h
 | n+1,.dit _,_,_,h,_,_,_=>by cases h
 | n+1,.exc _,_,_,h,_,_,_=>by cases h
theorem F7(I:Inv X Z8 σ H s):∀(n:Nat) (ds es:List D) (vs:List V),(∀d∈ds,iE n d)->(∀d∈es,iE n d)->f9 X.K H vs ds->f9 X.K H vs es->ds=es
 | n,[],[],_,_,_,_,_=>rfl
 | n,d::ds,e::es,v::vs,h,h',r,r'=>by
  simp only[f9] at r r';rw[DF I n d e v (h d (by simp)) (h' e (by simp)) r.1 r'.1,F7 I n ds es vs (fun x hx=>h x (by simp[hx])) (fun x hx=>h' x (by simp[hx])) r.2 r'.2]
 | n,[],_::_,[],_,_,_,r=>by simp only[f9] at r
 | n,[],_::_,_::_,_,_,r,_=>by simp only[f9] at r
 | n,_::_,[],[],_,_,r,_=>by simp only[f9] at r
 | n,_::_,[],_::_,_,_,_,r=>by simp only[f9] at r
 | n,_::_,_::_,[],_,_,r,_=>by simp only[f9] at r
end
theorem tm{vs:List V}{ds:List D}{us:List Value}{j:Nat}(rv:Vals vs us)(rd:f9 X.K H vs ds)(hj:j<us.toArray.size):∃v,RelV v us.toArray[j]/\Rep X.K H v (ds.getD j .non)/\ds.getD j .non∈ds:=by
 have h1:j<us.length:=by simpa using hj
 have h2:j<vs.length:=by rw[rv.length];exact h1
 have h3:j<ds.length:=by rw[<-rd.length];exact h2
 obtain⟨u,hu,ru⟩:=rv.get (ai h2);obtain⟨d,hd,XF⟩:=rd.CA (ai h2);rw[ai h1] at hu;rw[ai h3] at hd;cases hu;cases hd;refine⟨vs[j],?_,?_,?_⟩
 ·simpa using ru
 ·simpa[List.getD,h3] using XF
 ·simp[List.getD,h3]
noncomputable def zi:D->Bool
 | .non=>true
 | .bl _=>true
 | .int _=>true
 | .str _=>true
 | _=>false
theorem Lo{d e:D}{x y:V}(hd:zi d=true)(he:zi e=true)(rx:Rep X.K H x d)(ry:Rep X.K H y e):C9 x=true/\C9 y=true/\Jg x y=iq d e:=by
 cases d<;>first | cases hd | skip
 all_goals (cases e<;>first | cases he | skip)
 all_goals
  simp only[Rep] at rx ry;subst rx ry;exact⟨rfl,rfl,by simp[Jg,iq]⟩
theorem AS(I:Inv X Z8 σ H s):∀(n:Nat) (A:Around) (d e:D) (x y:V) (v u:Value),iE n d->iE n e->A.units+n<cLine->Rep X.K H x d->Rep X.K H y e->RelV x v->RelV y u->EqAt A s v u (iq d e):=by
 intro n;induction n with
 | zero=>
  intro A d e x y v u hd he hu rx ry qx qy;have fd:zi d=true:=by cases d<;>first | rfl | cases hd
  have fe:zi e=true:=by cases e<;>first | rfl | cases he
  obtain⟨h1,h2,h3⟩:=Lo fd fe rx ry;rw[<-h3];exact Kp qx qy h1 h2
 | succ n ih=>
  intro A d e x y v u hd he hu rx ry qx qy;have iH:A.units<cLine:=by omega
  have vw:A.in1.units+n<cLine:=by show A.units+1+n<cLine;omega
  by_cases fd:zi d=true
  ·by_cases fe:zi e=true
   ·obtain⟨h1,h2,h3⟩:=Lo fd fe rx ry;rw[<-h3];exact Kp qx qy h1 h2
   ·cases e<;>first | exact absurd rfl fe | skip
    case tup es=>
     simp only[Rep] at ry;obtain⟨b,ys,rfl,q,rs⟩:=ry;cases qy;obtain⟨its,rv,ht,_⟩:=I.tuple (jE.of q);have iP:s.heap.IsTuple b its.toArray:=ht;cases d<;>first | cases fd | skip
     ·walk_at "1d";cases qx;simpa only[iq] using EqAt.none_tuple iP iH
     ·walk_at "1d";cases qx;simpa only[iq] using EqAt.bool_tuple _ iP iH
     ·walk_at "1d";obtain⟨t,rfl⟩:=qx;simpa only[iq] using EqAt.int_tuple _ t iP iH
     ·walk_at "1d";obtain⟨t,rfl⟩:=qx;simpa only[iq] using EqAt.str_tuple _ t iP iH
    case lst es=>
     simp only[Rep] at ry;obtain⟨b,ys,rfl,q,rs⟩:=ry;cases qy;obtain⟨its,rv,ht,_⟩:=I.list q.sq;have iP:=ht.isList;cases d<;>first | cases fd | skip
     ·walk_at "1d";cases qx;simpa only[iq] using EqAt.none_list iP iH
     ·walk_at "1d";cases qx;simpa only[iq] using EqAt.bool_list _ iP iH
     ·walk_at "1d";obtain⟨t,rfl⟩:=qx;simpa only[iq] using EqAt.int_list _ t iP iH
     ·walk_at "1d";obtain⟨t,rfl⟩:=qx;simpa only[iq] using EqAt.str_list _ t iP iH
    case obj=>cases he
    case dic=>cases he
    case dit=>cases he
    case exc=>cases he
  ·cases d<;>first | exact absurd rfl fd | skip
   case tup ds=>
    have HC:=rx;simp only[Rep] at rx;obtain⟨a,xs,rfl,q,rs⟩:=rx;cases qx;obtain⟨its,rv,ht,_⟩:=I.tuple (jE.of q);have iP:s.heap.IsTuple a its.toArray:=ht;cases e
    case non=>simp only[Rep] at ry;subst ry;cases qy;simpa only[iq] using EqAt.tuple_none iP iH
    case bl=>simp only[Rep] at ry;subst ry;cases qy;simpa only[iq] using EqAt.tuple_bool _ iP iH
    case int=>simp only[Rep] at ry;subst ry;obtain⟨t,rfl⟩:=qy;simpa only[iq] using EqAt.tuple_int _ t iP iH
    case str=>simp only[Rep] at ry;subst ry;obtain⟨t,rfl⟩:=qy;simpa only[iq] using EqAt.tuple_str _ t iP iH
    case lst es=>
     simp only[Rep] at ry;obtain⟨b,ys,rfl,q',mW⟩:=ry;cases qy;obtain⟨its',nI,hl,_⟩:=I.list q'.sq;simpa only[iq] using EqAt.tuple_list iP hl.isList iH
    case tup es=>
     have HB:=ry;simp only[Rep] at ry;obtain⟨b,ys,rfl,q',mW⟩:=ry;cases qy;obtain⟨its',nI,lT,_⟩:=I.tuple (jE.of q');by_cases kU:a=b
     ·subst kU;have e0:=DF I (n+1) _ _ _ hd he HC HB;rw[<-e0,DP (n+1) _ hd];exact EqAt.same _
     ·refine EqAt.of_refs kU ?_;have h:=RcAt.tuples (e:=fun j=>iq (ds.getD j .non) (es.getD j .non)) iP (show s.heap.IsTuple b its'.toArray from lT) iH fun j h1 h2=>by
       obtain⟨v1,a1,b1,c1⟩:=tm rv rs h1;obtain⟨v2,a2,b2,c2⟩:=tm nI mW h2;exact ih A.in1 _ _ v1 v2 _ _ (hd _ c1) (he _ c2) vw b1 b2 a1 a2
      have l1:its.toArray.size=ds.length:=by rw[ax,<-rv.length,rs.length]
      have l2:its'.toArray.size=es.length:=by rw[ax,<-nI.length,mW.length]
      rw[l1,l2,F8] at h;simpa only[iq] using h
    case obj=>cases he
    case dic=>cases he
    case dit=>cases he
    case exc=>cases he
   case lst ds=>
    have HC:=rx;simp only[Rep] at rx;obtain⟨a,xs,rfl,q,rs⟩:=rx;cases qx;obtain⟨its,rv,ht,_⟩:=I.list q.sq;have iP:=ht.isList;cases e
    case non=>simp only[Rep] at ry;subst ry;cases qy;simpa only[iq] using EqAt.list_none iP iH
    case bl=>simp only[Rep] at ry;subst ry;cases qy;simpa only[iq] using EqAt.list_bool _ iP iH
    case int=>simp only[Rep] at ry;subst ry;obtain⟨t,rfl⟩:=qy;simpa only[iq] using EqAt.list_int _ t iP iH
    case str=>simp only[Rep] at ry;subst ry;obtain⟨t,rfl⟩:=qy;simpa only[iq] using EqAt.list_str _ t iP iH
    case tup es=>
     simp only[Rep] at ry;obtain⟨b,ys,rfl,q',mW⟩:=ry;cases qy;obtain⟨its',nI,hl,_⟩:=I.tuple (jE.of q');simpa only[iq] using EqAt.list_tuple iP (show s.heap.IsTuple b its'.toArray from hl) iH
    case lst es=>
     have HB:=ry;simp only[Rep] at ry;obtain⟨b,ys,rfl,q',mW⟩:=ry;cases qy;obtain⟨its',nI,lT,_⟩:=I.list q'.sq;by_cases kU:a=b
     ·subst kU;have e0:=DF I (n+1) _ _ _ hd he HC HB;rw[<-e0,DP (n+1) _ hd];exact EqAt.same _
     ·refine EqAt.of_refs kU ?_;have l1:its.toArray.size=ds.length:=by rw[ax,<-rv.length,rs.length]
      have l2:its'.toArray.size=es.length:=by rw[ax,<-nI.length,mW.length]
      by_cases hl:ds.length=es.length
      ·have h:=RcAt.lists (e:=fun j=>iq (ds.getD j .non) (es.getD j .non)) iP lT.isList (by rw[l1,l2,hl]) iH fun j h1 h2=>by
        obtain⟨v1,a1,b1,c1⟩:=tm rv rs h1;obtain⟨v2,a2,b2,c2⟩:=tm nI mW h2;exact ih A.in1 _ _ v1 v2 _ _ (hd _ c1) (he _ c2) vw b1 b2 a1 a2
       rw[l1,<-A3 ds es hl] at h;simpa only[iq] using h
      ·have h:=RcAt.lists_lengths (A:=A) iP lT.isList (by rw[l1,l2];simpa using hl) iH;simp only[iq,A4 hl];exact h
    case obj=>cases he
    case dic=>cases he
    case dit=>cases he
    case exc=>cases he
   case obj=>cases hd
   case dic=>cases hd
   case dit=>cases hd
   case exc=>cases hd
end
section
variable {X:Cx} {Z8:List (Addr×Obj)} {σ:St} {H:Hp} {s:Shared}
theorem ug{y:V}{u:Value}(r:Rep X.K H y .non)(q:RelV y u):u=.none:=by simp only[Rep] at r;subst r;cases q;rfl
theorem ui{y:V}{u:Value}{c:Bool}(r:Rep X.K H y (.bl c))(q:RelV y u):u=.bool c:=by simp only[Rep] at r;subst r;cases q;rfl
theorem uh{y:V}{u:Value}{i:Int}(r:Rep X.K H y (.int i))(q:RelV y u):∃t,u=.int i t:=by simp only[Rep] at r;subst r;exact q
theorem uf{y:V}{u:Value}{x:Str}(r:Rep X.K H y (.str x))(q:RelV y u):∃t,u=.str x t:=by simp only[Rep] at r;subst r;exact q
theorem vy{y:V}{u:Value}{es:List D}(I:Inv X Z8 σ H s)(r:Rep X.K H y (.tup es))(q:RelV y u):∃b it,u=.ref b/\s.heap.IsTuple b (List.toArray it):=by
 simp only[Rep] at r;obtain⟨b,ys,rfl,h,_⟩:=r;cases q;obtain⟨it,_,ht,_⟩:=I.tuple (jE.of h);exact⟨b,it,rfl,ht⟩
theorem vz{y:V}{u:Value}{es:List D}(I:Inv X Z8 σ H s)(r:Rep X.K H y (.lst es))(q:RelV y u):∃b it,u=.ref b/\s.heap.IsList b (List.toArray it):=by
 simp only[Rep] at r;obtain⟨b,ys,rfl,h,_⟩:=r;cases q;obtain⟨it,_,ht,_⟩:=I.list h.sq;exact⟨b,it,rfl,ht.isList⟩
theorem PY(I:Inv X Z8 σ H s):∀(n:Nat) (A:Around) (d e:D) (x y:V) (v u:Value),iE n d->iE n e->A.units+n<cLine->Rep X.K H x d->Rep X.K H y e->RelV x v->RelV y u->RcAt A s v u (iq d e):=by
 intro n A d e x y v u hd he hu rx ry qx qy;have iH:A.units<cLine:=by omega
 cases d
 case non=>
  walk_at "1d";cases qx;cases e
  case non=>cases ug ry qy;exact RcAt.none_none
  case bl=>cases ui ry qy;exact RcAt.none_bool _
  case int=>obtain⟨t,rfl⟩:=uh ry qy;exact RcAt.none_int _ t
  case str=>obtain⟨t,rfl⟩:=uf ry qy;exact RcAt.none_str _ t
  case tup=>obtain⟨b,it,rfl,h2⟩:=vy I ry qy;exact RcAt.none_tuple h2 iH
  case lst=>obtain⟨b,it,rfl,h2⟩:=vz I ry qy;exact RcAt.none_list h2 iH
  all_goals (cases n<;>cases he)
 case bl a=>
  walk_at "1d";cases qx;cases e
  case non=>cases ug ry qy;exact RcAt.bool_none _
  case bl=>cases ui ry qy;exact RcAt.bool_bool _ _
  case int=>obtain⟨t,rfl⟩:=uh ry qy;exact RcAt.bool_int _ _ t
  case str=>obtain⟨t,rfl⟩:=uf ry qy;exact RcAt.bool_str _ _ t
  case tup=>obtain⟨b,it,rfl,h2⟩:=vy I ry qy;exact RcAt.bool_tuple _ h2 iH
  case lst=>obtain⟨b,it,rfl,h2⟩:=vz I ry qy;exact RcAt.bool_list _ h2 iH
  all_goals (cases n<;>cases he)
 case int a=>
  walk_at "1d";obtain⟨t0,rfl⟩:=qx;cases e
  case non=>cases ug ry qy;exact RcAt.int_none _ t0
  case bl=>cases ui ry qy;exact RcAt.int_bool _ t0 _
  case int=>obtain⟨t,rfl⟩:=uh ry qy;exact RcAt.int_int _ t0 _ t
  case str=>obtain⟨t,rfl⟩:=uf ry qy;exact RcAt.int_str _ t0 _ t
  case tup=>obtain⟨b,it,rfl,h2⟩:=vy I ry qy;exact RcAt.int_tuple _ t0 h2 iH
  case lst=>obtain⟨b,it,rfl,h2⟩:=vz I ry qy;exact RcAt.int_list _ t0 h2 iH
  all_goals (cases n<;>cases he)
 case str a=>
  walk_at "1d";obtain⟨t0,rfl⟩:=qx;cases e
  case non=>cases ug ry qy;exact RcAt.str_none _ t0
  case bl=>cases ui ry qy;exact RcAt.str_bool _ t0 _
  case int=>obtain⟨t,rfl⟩:=uh ry qy;exact RcAt.str_int _ t0 _ t
  case str=>obtain⟨t,rfl⟩:=uf ry qy;exact RcAt.str_str _ t0 _ t
  case tup=>obtain⟨b,it,rfl,h2⟩:=vy I ry qy;exact RcAt.str_tuple _ t0 h2 iH
  case lst=>obtain⟨b,it,rfl,h2⟩:=vz I ry qy;exact RcAt.str_list _ t0 h2 iH
  all_goals (cases n<;>cases he)
 case tup ds=>
  cases n with
  | zero=>cases hd
  | succ n=>
  have vw:A.in1.units+n<cLine:=by show A.units+1+n<cLine;omega
  simp only[Rep] at rx;obtain⟨a,xs,rfl,q,rs⟩:=rx;cases qx;obtain⟨its,rv,ht,_⟩:=I.tuple (jE.of q);have iP:s.heap.IsTuple a its.toArray:=ht;cases e
  case non=>cases ug ry qy;exact RcAt.tuple_none iP iH
  case bl=>cases ui ry qy;exact RcAt.tuple_bool _ iP iH
  case int=>obtain⟨t,rfl⟩:=uh ry qy;exact RcAt.tuple_int _ t iP iH
  case str=>obtain⟨t,rfl⟩:=uf ry qy;exact RcAt.tuple_str _ t iP iH
  case lst es=>obtain⟨b,it,rfl,h2⟩:=vz I ry qy;exact RcAt.tuple_list iP h2 iH
  case tup es=>
   simp only[Rep] at ry;obtain⟨b,ys,rfl,q',mW⟩:=ry;cases qy;obtain⟨its',nI,lT,_⟩:=I.tuple (jE.of q');have h:=RcAt.tuples (e:=fun j=>iq (ds.getD j .non) (es.getD j .non)) iP (show s.heap.IsTuple b its'.toArray from lT) iH fun j h1 h2=>by
    obtain⟨v1,a1,b1,c1⟩:=tm rv rs h1;obtain⟨v2,a2,b2,c2⟩:=tm nI mW h2;exact AS I n A.in1 _ _ v1 v2 _ _ (hd _ c1) (he _ c2) vw b1 b2 a1 a2
   have l1:its.toArray.size=ds.length:=by rw[ax,<-rv.length,rs.length]
   have l2:its'.toArray.size=es.length:=by rw[ax,<-nI.length,mW.length]
   rw[l1,l2,F8] at h;simpa only[iq] using h
  all_goals cases he
 case lst ds=>
  cases n with
  | zero=>cases hd
  | succ n=>
  have vw:A.in1.units+n<cLine:=by show A.units+1+n<cLine;omega
  simp only[Rep] at rx;obtain⟨a,xs,rfl,q,rs⟩:=rx;cases qx;obtain⟨its,rv,ht,_⟩:=I.list q.sq;have iP:=ht.isList;cases e
  case non=>cases ug ry qy;exact RcAt.list_none iP iH
  case bl=>cases ui ry qy;exact RcAt.list_bool _ iP iH
  case int=>obtain⟨t,rfl⟩:=uh ry qy;exact RcAt.list_int _ t iP iH
  case str=>obtain⟨t,rfl⟩:=uf ry qy;exact RcAt.list_str _ t iP iH
  case tup es=>obtain⟨b,it,rfl,h2⟩:=vy I ry qy;exact RcAt.list_tuple iP h2 iH
  case lst es=>
   simp only[Rep] at ry;obtain⟨b,ys,rfl,q',mW⟩:=ry;cases qy;obtain⟨its',nI,lT,_⟩:=I.list q'.sq;have l1:its.toArray.size=ds.length:=by rw[ax,<-rv.length,rs.length]
   have l2:its'.toArray.size=es.length:=by rw[ax,<-nI.length,mW.length]
   by_cases hl:ds.length=es.length
   ·have h:=RcAt.lists (e:=fun j=>iq (ds.getD j .non) (es.getD j .non)) iP lT.isList (by rw[l1,l2,hl]) iH fun j h1 h2=>by
     obtain⟨v1,a1,b1,c1⟩:=tm rv rs h1;obtain⟨v2,a2,b2,c2⟩:=tm nI mW h2;exact AS I n A.in1 _ _ v1 v2 _ _ (hd _ c1) (he _ c2) vw b1 b2 a1 a2
    rw[l1,<-A3 ds es hl] at h;simpa only[iq] using h
   ·have h:=RcAt.lists_lengths (A:=A) iP lT.isList (by rw[l1,l2];simpa using hl) iH;simp only[iq,A4 hl];exact h
  all_goals cases he
 all_goals (cases n<;>cases hd)
theorem Tc(I:Inv X Z8 σ H s):∀(n:Nat) (A:Around) (d e:D) (x y:V) (v u:Value),iE n d->iE n e->A.units+n<cLine->Rep X.K H x d->Rep X.K H y e->RelV x v->RelV y u->RcNeAt A s v u (!iq d e):=by
 intro n A d e x y v u hd he hu rx ry qx qy;have iH:A.units<cLine:=by omega
 cases d
 case non=>
  walk_at "1d";cases qx;cases e
  case non=>cases ug ry qy;exact RcNeAt.none_none
  case bl=>cases ui ry qy;exact RcNeAt.none_bool _
  case int=>obtain⟨t,rfl⟩:=uh ry qy;exact RcNeAt.none_int _ t
  case str=>obtain⟨t,rfl⟩:=uf ry qy;exact RcNeAt.none_str _ t
  case tup=>obtain⟨b,it,rfl,h2⟩:=vy I ry qy;exact RcNeAt.none_tuple h2 iH
  case lst=>obtain⟨b,it,rfl,h2⟩:=vz I ry qy;exact RcNeAt.none_list h2 iH
  all_goals (cases n<;>cases he)
 case bl a=>
  walk_at "1d";cases qx;cases e
  case non=>cases ug ry qy;exact RcNeAt.bool_none _
  case bl=>cases ui ry qy;exact RcNeAt.bool_bool _ _
  case int=>obtain⟨t,rfl⟩:=uh ry qy;exact RcNeAt.bool_int _ _ t
  case str=>obtain⟨t,rfl⟩:=uf ry qy;exact RcNeAt.bool_str _ _ t
  case tup=>obtain⟨b,it,rfl,h2⟩:=vy I ry qy;exact RcNeAt.bool_tuple _ h2 iH
  case lst=>obtain⟨b,it,rfl,h2⟩:=vz I ry qy;exact RcNeAt.bool_list _ h2 iH
  all_goals (cases n<;>cases he)
 case int a=>
  walk_at "1d";obtain⟨t0,rfl⟩:=qx;cases e
  case non=>cases ug ry qy;exact RcNeAt.int_none _ t0
  case bl=>cases ui ry qy;exact RcNeAt.int_bool _ t0 _
  case int=>obtain⟨t,rfl⟩:=uh ry qy;exact RcNeAt.int_int _ t0 _ t
  case str=>obtain⟨t,rfl⟩:=uf ry qy;exact RcNeAt.int_str _ t0 _ t
  case tup=>obtain⟨b,it,rfl,h2⟩:=vy I ry qy;exact RcNeAt.int_tuple _ t0 h2 iH
  case lst=>obtain⟨b,it,rfl,h2⟩:=vz I ry qy;exact RcNeAt.int_list _ t0 h2 iH
  all_goals (cases n<;>cases he)
 case str a=>
  walk_at "1d";obtain⟨t0,rfl⟩:=qx;cases e
  case non=>cases ug ry qy;exact RcNeAt.str_none _ t0
  case bl=>cases ui ry qy;exact RcNeAt.str_bool _ t0 _
  case int=>obtain⟨t,rfl⟩:=uh ry qy;exact RcNeAt.str_int _ t0 _ t
  case str=>obtain⟨t,rfl⟩:=uf ry qy;exact RcNeAt.str_str _ t0 _ t
  case tup=>obtain⟨b,it,rfl,h2⟩:=vy I ry qy;exact RcNeAt.str_tuple _ t0 h2 iH
  case lst=>obtain⟨b,it,rfl,h2⟩:=vz I ry qy;exact RcNeAt.str_list _ t0 h2 iH
  all_goals (cases n<;>cases he)
 case tup ds=>
  cases n with
  | zero=>cases hd
  | succ n=>
  have vw:A.in1.units+n<cLine:=by show A.units+1+n<cLine;omega
  simp only[Rep] at rx;obtain⟨a,xs,rfl,q,rs⟩:=rx;cases qx;obtain⟨its,rv,ht,_⟩:=I.tuple (jE.of q);have iP:s.heap.IsTuple a its.toArray:=ht;cases e
  case non=>cases ug ry qy;exact RcNeAt.tuple_none iP iH
  case bl=>cases ui ry qy;exact RcNeAt.tuple_bool _ iP iH
  case int=>obtain⟨t,rfl⟩:=uh ry qy;exact RcNeAt.tuple_int _ t iP iH
  case str=>obtain⟨t,rfl⟩:=uf ry qy;exact RcNeAt.tuple_str _ t iP iH
  case lst es=>obtain⟨b,it,rfl,h2⟩:=vz I ry qy;exact RcNeAt.tuple_list iP h2 iH
  case tup es=>
   simp only[Rep] at ry;obtain⟨b,ys,rfl,q',mW⟩:=ry;cases qy;obtain⟨its',nI,lT,_⟩:=I.tuple (jE.of q');have h:=RcNeAt.tuples (e:=fun j=>iq (ds.getD j .non) (es.getD j .non)) iP (show s.heap.IsTuple b its'.toArray from lT) iH fun j h1 h2=>by
    obtain⟨v1,a1,b1,c1⟩:=tm rv rs h1;obtain⟨v2,a2,b2,c2⟩:=tm nI mW h2;exact AS I n A.in1 _ _ v1 v2 _ _ (hd _ c1) (he _ c2) vw b1 b2 a1 a2
   have l1:its.toArray.size=ds.length:=by rw[ax,<-rv.length,rs.length]
   have l2:its'.toArray.size=es.length:=by rw[ax,<-nI.length,mW.length]
   rw[l1,l2,F8] at h;simpa only[iq] using h
  all_goals cases he
 case lst ds=>
  cases n with
  | zero=>cases hd
  | succ n=>
  have vw:A.in1.units+n<cLine:=by show A.units+1+n<cLine;omega
  simp only[Rep] at rx;obtain⟨a,xs,rfl,q,rs⟩:=rx;cases qx;obtain⟨its,rv,ht,_⟩:=I.list q.sq;have iP:=ht.isList;cases e
  case non=>cases ug ry qy;exact RcNeAt.list_none iP iH
  case bl=>cases ui ry qy;exact RcNeAt.list_bool _ iP iH
  case int=>obtain⟨t,rfl⟩:=uh ry qy;exact RcNeAt.list_int _ t iP iH
  case str=>obtain⟨t,rfl⟩:=uf ry qy;exact RcNeAt.list_str _ t iP iH
  case tup es=>obtain⟨b,it,rfl,h2⟩:=vy I ry qy;exact RcNeAt.list_tuple iP h2 iH
  case lst es=>
   simp only[Rep] at ry;obtain⟨b,ys,rfl,q',mW⟩:=ry;cases qy;obtain⟨its',nI,lT,_⟩:=I.list q'.sq;have l1:its.toArray.size=ds.length:=by rw[ax,<-rv.length,rs.length]
   have l2:its'.toArray.size=es.length:=by rw[ax,<-nI.length,mW.length]
   by_cases hl:ds.length=es.length
   ·have h:=RcNeAt.lists (e:=fun j=>iq (ds.getD j .non) (es.getD j .non)) iP lT.isList (by rw[l1,l2,hl]) iH fun j h1 h2=>by
     obtain⟨v1,a1,b1,c1⟩:=tm rv rs h1;obtain⟨v2,a2,b2,c2⟩:=tm nI mW h2;exact AS I n A.in1 _ _ v1 v2 _ _ (hd _ c1) (he _ c2) vw b1 b2 a1 a2
    rw[l1,<-A3 ds es hl] at h;simpa only[iq] using h
   ·have h:=RcNeAt.lists_lengths (A:=A) iP lT.isList (by rw[l1,l2];simpa using hl) iH;simp only[iq,A4 hl];exact h
  all_goals cases he
 all_goals (cases n<;>cases hd)
end
section
variable {X:Cx}
def oEq:O2:=fun d e Q=>iE 9 d/\iE 9 e/\Q (.fz (.bl (iq d e)))
def zY:O2:=fun d e Q=>iE 9 d/\iE 9 e/\Q (.fz (.bl (!iq d e)))
theorem lU(hu:X.A.units+64<cLine):o3 X (compareOp .Eq) oEq:=by
 refine⟨fun x y H Q=>∃d e,iE 9 d/\iE 9 e/\Rep X.K H x d/\Rep X.K H y e/\Q (.bl (iq d e)) H,fun Z8 s σ H x y v u Q I rx ry h=>?_,fun G H x y d e Q P s rx ry h k=>?_⟩
 ·obtain⟨d,e,hd,he,rd,re,q⟩:=h;exact PY I 9 X.A d e x y v u hd he (by omega) rd re rx ry _ _ _ _ ⟨.bl _,H,I,rfl,q⟩
 ·exact⟨d,e,h.1,h.2.1,rx.mono s,ry.mono s,k _ _ _ G (.refl s) (j7 (pB _ _ _)) h.2.2⟩
theorem E8(hu:X.A.units+64<cLine):o3 X (compareOp .NotEq) zY:=by
 refine⟨fun x y H Q=>∃d e,iE 9 d/\iE 9 e/\Rep X.K H x d/\Rep X.K H y e/\Q (.bl (!iq d e)) H,fun Z8 s σ H x y v u Q I rx ry h=>?_,fun G H x y d e Q P s rx ry h k=>?_⟩
 ·obtain⟨d,e,hd,he,rd,re,q⟩:=h;exact Tc I 9 X.A d e x y v u hd he (by omega) rd re rx ry _ _ _ _ ⟨.bl _,H,I,rfl,q⟩
 ·exact⟨d,e,h.1,h.2.1,rx.mono s,ry.mono s,k _ _ _ G (.refl s) (j7 (pB _ _ _)) h.2.2⟩
noncomputable def inD(d:D)(ds:List D):Bool:=ds.any fun e=>iq e d
def mR(neg:Bool):O2:=fun d e Q=>match d,e with
 | .str x,.str y=>Q (.fz (.bl (if neg then !(!(Builtin.Str.occurrences y x 0 y.length 1).isEmpty) else !(Builtin.Str.occurrences y x 0 y.length 1).isEmpty)))
 | d,.lst es=>iE 8 d/\(∀e∈es,iE 8 e)/\Q (.fz (.bl (if neg then !inD d es else inD d es)))
 | d,.tup es=>iE 8 d/\(∀e∈es,iE 8 e)/\Q (.fz (.bl (if neg then !inD d es else inD d es)))
 | _,_=>False
noncomputable def p9(X:Cx)(H:Hp)(d:D)(u:Value):Bool:=open Classical in if h:∃(v:V) (e:D),iE 8 e/\RelV v u/\Rep X.K H v e then iq h.choose_spec.choose d else false
theorem Fu{Z8:List (Addr×Obj)}{σ:St}{H:Hp}{s:Shared}(I:Inv X Z8 σ H s){d e:D}{v:V}{u:Value}(he:iE 8 e)(rv:RelV v u)(re:Rep X.K H v e):p9 X H d u=iq e d:=by
 have h:∃(v:V) (e:D),iE 8 e/\RelV v u/\Rep X.K H v e:=⟨v,e,he,rv,re⟩
 unfold p9;rw[dif_pos h];obtain⟨h1,h2,h3⟩:=h.choose_spec.choose_spec;have e1:h.choose=v:=RelV.inj h2 rv;have h4:∀v',v'=v->∀e',iE 8 e'->Rep X.K H v' e'->e'=e:=fun v' hv e' o r=>by subst hv;exact DF I 8 _ e _ o he r re
 rw[h4 _ e1 _ h1 h3]
theorem AR{Z8:List (Addr×Obj)}{σ:St}{H:Hp}{s:Shared}(I:Inv X Z8 σ H s){d:D}:∀{es:List D} {vs:List V} {us:List Value},(∀e∈es,iE 8 e)->Vals vs us->f9 X.K H vs es->us.any (p9 X H d)=inD d es
 | [],_,_,_,rv,re=>by
  cases rv
  ·rfl
  ·simp only[f9] at re
 | e::es,_,_,h,rv,re=>by
  cases rv with
  | nil=>simp only[f9] at re
  | cons r t=>
   simp only[f9] at re;rw[fj,Fu I (h e (by simp)) r re.1,AR I (fun x hx=>h x (by simp[hx])) t re.2];rfl
theorem A2{Z8:List (Addr×Obj)}{σ:St}{H:Hp}{s:Shared}{A:Around}(I:Inv X Z8 σ H s){d:D}{x:V}{v:Value}(hd:iE 8 d)(hu:A.units+8<cLine)(rx:Rep X.K H x d)(qx:RelV x v){es:List D}{vs:List V}{us:List Value}
  (he:∀e∈es,iE 8 e) (rv:Vals vs us) (re:f9 X.K H vs es):∀u∈us.toArray,EqAt A s u v (p9 X H d u):=fun u X5=>by
 obtain⟨j,hj,e⟩:=Array.mem_iff_getElem.mp X5;obtain⟨w,a1,b1,c1⟩:=tm rv re hj;rw[e] at a1;rw[Fu I (he _ c1) a1 b1];exact AS I 8 A _ _ w x _ _ (he _ c1) hd hu b1 rx a1 qx
theorem PV(hu:X.A.units+64<cLine):lq X (compareOp .In) (fun x y H Q=>∃p d es vs,y=.ref p/\(iI X.K H p vs\/jE X.K H p vs)/\iE 8 d/\(∀e∈es,iE 8 e)/\Rep X.K H x d/\f9 X.K H vs es/\Q (.bl (inD d es)) H):=by
 intro Z8 s σ H x y v u Q I rx ry h;obtain⟨p,d,es,vs,rfl,hq,hd,he,rd,re,q⟩:=h;cases ry;rcases hq with hq | hq
 ·obtain⟨its,r,pl,hz⟩:=I.list hq;refine SeqAt.in_listAt (p9 X H d) pl.isList (A2 I hd (by show X.A.units+1+8<cLine;omega) rd rx he r re) ⟨.bl _,H,I,rfl,?_⟩;rw[show its.toArray.any (p9 X H d)=its.any (p9 X H d) by simp,AR I he r re];exact q
 ·obtain⟨its,r,pl,hz⟩:=I.tuple hq;refine SeqAt.in_tupleAt (p9 X H d) pl (A2 I hd (by show X.A.units+1+8<cLine;omega) rd rx he r re) ⟨.bl _,H,I,rfl,?_⟩;rw[show its.toArray.any (p9 X H d)=its.any (p9 X H d) by simp,AR I he r re];exact q
theorem TF(hu:X.A.units+64<cLine):lq X (compareOp .NotIn) (fun x y H Q=>∃p d es vs,y=.ref p/\(iI X.K H p vs\/jE X.K H p vs)/\iE 8 d/\(∀e∈es,iE 8 e)/\Rep X.K H x d/\f9 X.K H vs es/\Q (.bl (!inD d es)) H):=by
 intro Z8 s σ H x y v u Q I rx ry h;obtain⟨p,d,es,vs,rfl,hq,hd,he,rd,re,q⟩:=h;cases ry;rcases hq with hq | hq
 ·obtain⟨its,r,pl,hz⟩:=I.list hq;refine SeqAt.notIn_listAt (p9 X H d) pl.isList (A2 I hd (by show X.A.units+1+8<cLine;omega) rd rx he r re) ⟨.bl _,H,I,rfl,?_⟩;rw[show its.toArray.any (p9 X H d)=its.any (p9 X H d) by simp,AR I he r re];exact q
 ·obtain⟨its,r,pl,hz⟩:=I.tuple hq;refine SeqAt.notIn_tupleAt (p9 X H d) pl (A2 I hd (by show X.A.units+1+8<cLine;omega) rd rx he r re) ⟨.bl _,H,I,rfl,?_⟩;rw[show its.toArray.any (p9 X H d)=its.any (p9 X H d) by simp,AR I he r re];exact q
theorem r8(hu:X.A.units+64<cLine):o3 X (compareOp .In) (mR false):=by
 refine⟨_,tI.or (PV hu),fun G H x y d e Q P s rx ry h k=>?_⟩;unfold mR at h;split at h
 ·simp only[Rep] at rx ry;exact .inl ⟨_,_,rx,ry,k _ _ _ G (.refl s) (j7 (pB _ _ _)) h⟩
 ·simp only[Rep] at ry;obtain⟨a,ys,rfl,hy,vt⟩:=ry;exact .inr ⟨a,_,_,ys,rfl,.inl ((s.jF hy).sq),h.1,h.2.1,rx.mono s,vt.mono s,k _ _ _ G (.refl s) (j7 (pB _ _ _)) h.2.2⟩
 ·simp only[Rep] at ry;obtain⟨a,ys,rfl,hy,vt⟩:=ry;exact .inr ⟨a,_,_,ys,rfl,.inr (s.qt hy),h.1,h.2.1,rx.mono s,vt.mono s,k _ _ _ G (.refl s) (j7 (pB _ _ _)) h.2.2⟩
 ·exact h.elim
theorem DD(hu:X.A.units+64<cLine):o3 X (compareOp .NotIn) (mR true):=by
 refine⟨_,pE.or (TF hu),fun G H x y d e Q P s rx ry h k=>?_⟩;unfold mR at h;split at h
 ·simp only[Rep] at rx ry;exact .inl ⟨_,_,rx,ry,k _ _ _ G (.refl s) (j7 (pB _ _ _)) h⟩
 ·simp only[Rep] at ry;obtain⟨a,ys,rfl,hy,vt⟩:=ry;exact .inr ⟨a,_,_,ys,rfl,.inl ((s.jF hy).sq),h.1,h.2.1,rx.mono s,vt.mono s,k _ _ _ G (.refl s) (j7 (pB _ _ _)) h.2.2⟩
 ·simp only[Rep] at ry;obtain⟨a,ys,rfl,hy,vt⟩:=ry;exact .inr ⟨a,_,_,ys,rfl,.inr (s.qt hy),h.1,h.2.1,rx.mono s,vt.mono s,k _ _ _ G (.refl s) (j7 (pB _ _ _)) h.2.2⟩
 ·exact h.elim
noncomputable def xW:D->Bool
 | .non=>true
 | _=>false
def pz(neg:Bool):O2:=fun d e Q=>match e with
 | .non=>Q (.fz (.bl (if neg then !xW d else xW d)))
 | _=>False
theorem Mf{K:Z9}{G:Hp}{x:V}{d:D}(r:Rep K G x d):decide (x=.non)=xW d:=by
 cases d<;>simp only[Rep] at r
 case non=>subst r;rfl
 case bl=>subst r;rfl
 case int=>subst r;rfl
 case str=>subst r;rfl
 case tup=>obtain⟨_,_,rfl,_⟩:=r;rfl
 case lst=>obtain⟨_,_,rfl,_⟩:=r;rfl
 case obj=>obtain⟨_,_,_,_,rfl,_⟩:=r;rfl
 case dic=>obtain⟨_,_,_,rfl,_⟩:=r;rfl
 case dit=>obtain⟨_,_,_,rfl,_⟩:=r;rfl
 case exc=>obtain⟨_,_,_,rfl,_⟩:=r;rfl
theorem E7:o3 X (compareOp .Is) (pz false):=by
 refine⟨_,Qd,fun G H x y d e Q P s rx ry h k=>?_⟩;unfold pz at h;split at h
 ·simp only[Rep] at ry;refine⟨ry,?_⟩;rw[Mf rx];exact k _ _ _ G (.refl s) (j7 (pB _ _ _)) h
 ·exact h.elim
theorem uw:o3 X (compareOp .IsNot) (pz true):=by
 refine⟨_,RM,fun G H x y d e Q P s rx ry h k=>?_⟩;unfold pz at h;split at h
 ·simp only[Rep] at ry;refine⟨ry,?_⟩;rw[Mf rx];exact k _ _ _ G (.refl s) (j7 (pB _ _ _)) h
 ·exact h.elim
end
section
variable {X:Cx} {pos:Pos} {a b c:Expr} {ta tb tc:TD} {pa xt:mT} {oB:List Expr}
def wY(t:mT):mT:=fun ρ Q=>t ρ fun k=>Q (!k)
def o7(t u:mT):mT:=fun ρ Q=>t ρ fun k=>if k=true then u ρ Q else Q false
def Ar(t u:mT):mT:=fun ρ Q=>t ρ fun k=>if k=true then Q true else u ρ Q
theorem zr(h:PB X a pa):PB X (.UnaryOp .Not a pos) (wY pa):=by
 obtain⟨t,p,q⟩:=h;exact⟨_,Rp p,fun ρ σ G0 H0 G H Q P E h k=>q ρ σ G0 H0 G H _ _ E h fun b H' G' x hq=>k _ H' G' x hq⟩
def xM(X:Cx)(e:Expr)(t:mT):Prop:=∃tt,PW X e tt/\∀(ρ:Ev) (σ:St) (G0 H0 G H:Hp) (Q:Bool->Prop) (P:Bool->Hp->Prop),ie X.K G0 H0 ρ σ G H->t ρ Q->
 (∀b H' G',Ext G H G' H'->Q b->P b H')->tt σ H P
theorem xM.pb{e:Expr}{t:mT}(h:xM X e t):PB X e t:=let⟨tt,p,q⟩:=h;⟨tt,p.pt,q⟩
theorem vQ(h:PB X a pa):xM X (.BoolOp .And [a] pos) pa:=let⟨tt,p,q⟩:=h;⟨tt,RQ p,q⟩
theorem DC(h:PB X a pa):xM X (.BoolOp .Or [a] pos) pa:=let⟨tt,p,q⟩:=h;⟨tt,Rr p,q⟩
theorem sr(h:PB X a pa)(h':xM X (.BoolOp .And (b::oB) pos) xt):xM X (.BoolOp .And (a::b::oB) pos) (o7 pa xt):=by
 obtain⟨t,p,q⟩:=h;obtain⟨t',p',q'⟩:=h';refine⟨_,Rq p p',fun ρ σ G0 H0 G H Q P E h k=>q ρ σ G0 H0 G H _ _ E h fun b H' G' x hq=>?_⟩;cases b with
 | true=>rw[if_pos rfl] at hq ⊢;exact q' ρ σ G0 H0 G' H' Q P (E.ext x) hq fun b2 H2 G2 x2 h2=>k b2 H2 G2 (x.trans x2) h2
 | false=>rw[if_neg aZ] at hq ⊢;exact k false H' G' x hq
theorem Dl(h:PB X a pa)(h':xM X (.BoolOp .Or (b::oB) pos) xt):xM X (.BoolOp .Or (a::b::oB) pos) (Ar pa xt):=by
 obtain⟨t,p,q⟩:=h;obtain⟨t',p',q'⟩:=h';refine⟨_,Pm p p',fun ρ σ G0 H0 G H Q P E h k=>q ρ σ G0 H0 G H _ _ E h fun b H' G' x hq=>?_⟩;cases b with
 | true=>rw[if_pos rfl] at hq ⊢;exact k true H' G' x hq
 | false=>rw[if_neg aZ] at hq ⊢;exact q' ρ σ G0 H0 G' H' Q P (E.ext x) hq fun b2 H2 G2 x2 h2=>k b2 H2 G2 (x.trans x2) h2
def OF(t:TD):TD:=fun ρ Q=>t ρ fun r=>match r with
 | .fz (.bl k)=>Q (.fz (.bl (!k)))
 | _=>False
def wL(t:mT)(ta tb:TD):TD:=fun ρ Q=>t ρ fun k=>if k=true then ta ρ Q else tb ρ Q
theorem zI(h:PB X c pa)(h1:PD X a ta)(h2:PD X b tb):PD X (.IfExp c a b pos) (wL pa ta tb):=by
 obtain⟨t,p,q⟩:=h;obtain⟨t1,p1,q1⟩:=h1;obtain⟨t2,p2,q2⟩:=h2;refine⟨_,S6 p p1 p2,fun ρ σ G0 H0 G H Q P E h k=>q ρ σ G0 H0 G H _ _ E h fun b H' G' x hq=>?_⟩;cases b with
 | true=>rw[if_pos rfl] at hq ⊢;exact q1 ρ σ G0 H0 G' H' Q P (E.ext x) hq fun b2 H2 r2 G2 x2 BP h2=>k b2 H2 r2 G2 (x.trans x2) (BP.lR x.h) h2
 | false=>rw[if_neg aZ] at hq ⊢;exact q2 ρ σ G0 H0 G' H' Q P (E.ext x) hq fun b2 H2 r2 G2 x2 BP h2=>k b2 H2 r2 G2 (x.trans x2) (BP.lR x.h) h2
def Dk(o o':O2)(ta tb tc:TD):TD:=fun ρ Q=>ta ρ fun ra=>tb ρ fun rb=>o ra.val rb.val fun r=>match r with
 | .fz (.bl k)=>if k=true then tc ρ fun rc=>o' rb.val rc.val Q else Q (.fz (.bl false))
 | _=>False
abbrev sT(K:Z9)(t:TD)(tt:TE):Prop:=∀(ρ:Ev) (σ:St) (G0 H0 G H:Hp) (Q:R->Prop) (P:VK),ie K G0 H0 ρ σ G H->t ρ Q->(∀v H' r G',Ext G H G' H'->jl K G' H' H v r->Q r->P v H')->tt σ H P
theorem Tb{K:Z9}{g g':Int->Int->Bool}{t1 t2 t3:TE}(q1:sT K ta t1)(q2:sT K tb t2)(q3:sT K tc t3) :
  sT K (Dk (mH fun i j=>.bl (g i j)) (mH fun i j=>.bl (g' i j)) ta tb tc) (Kr (tH fun i j=>.bl (g i j)) (tH fun i j=>.bl (g' i j)) t1 t2 t3):=by
 refine fun ρ σ G0 H0 G H Q P E h k=>q1 ρ σ G0 H0 G H _ _ E h fun v1 H1 r1 G1 x1 HF rJ=>?_
 obtain⟨Jp,xo,HD,_⟩:=HF.freeze x1;refine q2 ρ σ G0 H0 Jp H1 _ _ (E.ext xo) rJ fun v2 H2 r2 G2 x2 BP oe=>?_
 obtain⟨ET,xn,ua,_⟩:=BP.freeze x2;unfold mH at oe;split at oe
 ·rename_i i j e1 e2;rw[e1] at HD;rw[e2] at ua;simp only[Rep] at HD ua;refine⟨i,j,HD,ua,_,rfl,?_⟩;dsimp only at oe;cases hk:g i j with
  | false=>
   rw[hk,if_neg aZ] at oe;rw[if_neg aZ];exact k _ _ _ ET (xo.trans xn) (j7 (pB _ _ _)) oe
  | true=>
   rw[hk,if_pos rfl] at oe;rw[if_pos rfl];refine q3 ρ σ G0 H0 ET H2 _ _ (E.ext (xo.trans xn)) oe fun v3 H3 r3 G3 x3 yp kO=>?_
   obtain⟨Zc,Xi,tG,_⟩:=yp.freeze x3;rw[e2] at kO;split at kO
   ·rename_i i' j' e3 e4;cases e3;rw[e4] at tG;simp only[Rep] at tG;exact⟨j,j',ua,tG,k _ _ _ Zc ((xo.trans xn).trans Xi) (j7 (pB _ _ _)) kO⟩
   ·exact kO.elim
 ·exact oe.elim
theorem PU{K:Z9}{t:TD}{tt:TE}(q:sT K t tt)(ρ:Ev)(σ:St)(G0 H0 G H:Hp)(Q:Bool->Prop)(P:Bool->Hp->Prop)(E:ie K G0 H0 ρ σ G H)(h:gR t ρ Q)(k:∀b H' G',Ext G H G' H'->Q b->P b H'):Ff tt σ H P:=by
 refine q ρ σ G0 H0 G H _ _ E h fun v H' r G' x1 r1 h1=>?_
 split at h1
 ·rename_i kk;have e:v=.bl kk:=by simpa only[jl,Rep] using r1
  exact⟨kk,e,k kk H' G' x1 h1⟩
 ·exact h1.elim
theorem Sk{op yv:CmpOp}{g g':Int->Int->Bool}(ho:lq X (compareOp op) (tH fun i j=>.bl (g i j)))(uM:lq X (compareOp yv) (tH fun i j=>.bl (g' i j)))(h1:PD X a ta)(h2:PD X b tb)(h3:PD X c tc)(hm:lastMarks [op,yv] [b,c]=false:=by with_unfolding_all rfl) :
  PB X (.Compare a [op,yv] [b,c] pos) (gR (Dk (mH fun i j=>.bl (g i j)) (mH fun i j=>.bl (g' i j)) ta tb tc)):=by
 obtain⟨t1,p1,q1⟩:=h1;obtain⟨t2,p2,q2⟩:=h2;obtain⟨t3,p3,q3⟩:=h3;exact⟨_,S0 ho uM p1 p2 p3 hm,PU (Tb q1 q2 q3)⟩
def gU:O2:=fun d e Q=>match d,e with
 | .lst ds,.int i=>∃d,iR ds i=some d/\Q (.fz d)
 | .tup ds,.int i=>∃d,iR ds i=some d/\Q (.fz d)
 | .str z,.int i=>z.length<=sizeLine/\∃c,iR z.cps.toList i=some c/\Q (.fz (.str ⟨#[c]⟩))
 | _,_=>False
theorem FU{K:Z9}{G:Hp}{xs:List V}{ds:List D}{i:Int}{d:D}(r:f9 K G xs ds)(h:iR ds i=some d):∃v,iR xs i=some v/\Rep K G v d:=by
 unfold iR at h ⊢;rw[r.length];cases e:rA ds.length i with
 | none=>rw[e] at h;cases h
 | some j=>
  rw[e] at h;simp only[Option.bind_some] at h ⊢;exact r.get h
theorem g9(h1:PD X a ta)(h2:PD X b tb)(hs:DH b:=by intro _ _;rfl):PD X (.Subscript a b pos) (gk gU ta tb):=by
 obtain⟨t1,p1,q1⟩:=h1;obtain⟨t2,p2,q2⟩:=h2;refine⟨_,Fe Kq p1 p2 hs,Dr (r:=NC X.K) (fun G H x y d e Q P s rx ry h k=>?_) q1 q2⟩;unfold gU at h;split at h
 ·simp only[Rep] at rx ry;obtain⟨p,xs,rfl,hq,rs⟩:=rx;obtain⟨d,hd,q⟩:=h;obtain⟨v,hv,rv⟩:=FU rs hd;exact .inl ⟨p,xs,_,v,rfl,ry,(s.jF hq).sq,hv,k _ _ _ G (.refl s) (j7 rv) q⟩
 ·simp only[Rep] at rx ry;obtain⟨p,xs,rfl,hq,rs⟩:=rx;obtain⟨d,hd,q⟩:=h;obtain⟨v,hv,rv⟩:=FU rs hd;exact .inr (.inl ⟨p,xs,_,v,rfl,ry,s.qt hq,hv,k _ _ _ G (.refl s) (j7 rv) q⟩)
 ·simp only[Rep] at rx ry;obtain⟨hz,c,hc,q⟩:=h;exact .inr (.inr ⟨_,_,c,rx,ry,hz,hc,k _ _ _ G (.refl s) (j7 (zE _ _ _)) q⟩)
 ·exact h.elim
def xS(i:Nat)(tb:TD):TD:=fun ρ Q=>match gt ρ i with
 | .ow ds=>tb ρ fun rb=>match rb.val with
  | .int j=>∃d,iR ds j=some d/\Q (.fz d)
  | _=>False
 | _=>False
theorem Dj(i:Nat){x:Str}{p':Pos}(h2:PD X b tb)(hN:X.N[i]?=some x:=by rfl)(hv:qK X.env.scope x:=by first | exact Or.inl rfl | exact Or.inr (Or.inl rfl) | exact Or.inr (Or.inr rfl))(hs:DH b:=by intro _ _;rfl)(hd:(x==("__debug__":Str))=false:=by decide)
  (kP:(x==("__classdict__":Str))=false:=by decide):PD X (.Subscript (.Name x p') b pos) (xS i tb):=by
 obtain⟨t2,p2,q2⟩:=h2;refine⟨_,Fe Kq (sg hN hv hd kP) p2 hs,fun ρ σ G0 H0 G H Q P E h k=>?_⟩;unfold xS at h;split at h
 ·rename_i ds hg;obtain⟨p,xs,h1,h2,h3,h4,h5⟩:=E.ow i ds hg;refine⟨_,h1,q2 ρ σ G0 H0 G H _ _ E h fun v H' r G' x1 rr hq=>?_⟩;obtain⟨G2,x2,rv,_⟩:=rr.freeze x1;split at hq
  ·rename_i j e2;obtain⟨d,wF,q⟩:=hq;obtain⟨w',hw,t9⟩:=FU (h5.mono x2.g) wF;rw[e2] at rv;simp only[Rep] at rv;exact .inl ⟨p,xs,_,w',rfl,rv,iI.of (x2.h _ _ h2),hw,k _ _ _ G2 x2 (j7 t9) q⟩
  ·exact hq.elim
 ·exact h.elim
variable {e:Expr} {es:List Expr} {te:TD} {ts:nE}
def gq:nE:=fun _ Q=>Q []
def gi(te:TD)(ts:nE):nE:=fun ρ Q=>te ρ fun r=>ts ρ fun ds=>Q (r.val::ds)
theorem gr:qL X [] gq:=⟨_,tY,fun ρ σ G0 H0 G H Q P E h k=>k [] H [] G (.refl E.e.s) f9.nil h⟩
theorem gj(h:PD X e te)(hr:qL X es ts)(hs:starEach (e::es) X.env=(false,eval e X.env)::starEach es X.env:=by rfl):qL X (e::es) (gi te ts):=by
 obtain⟨t1,p1,q1⟩:=h;obtain⟨t2,p2,q2⟩:=hr;refine⟨_,tq p1 p2 hs,fun ρ σ G0 H0 G H Q P E h k=>q1 ρ σ G0 H0 G H _ _ E h fun v H' r G' x1 rr hq=>?_⟩;obtain⟨G2,x2,rv,_⟩:=rr.freeze x1;refine q2 ρ σ G0 H0 G2 H' _ _ (E.ext x2) hq fun vs H3 ds G3 x3 rs kO=>?_
 exact k _ H3 _ G3 (x2.trans x3) (f9.cons (rv.mono x3.g) rs) kO
def l7(ts:nE):TD:=fun ρ Q=>ts ρ fun ds=>ds.length<=sizeLine/\Q (.fz (.tup ds))
def j5(ts:nE):TD:=fun ρ Q=>ts ρ fun ds=>ds.length<=sizeLine/\Q (.ow ds)
theorem oF{x1}(h:qL X es ts):PD X (.Tuple es x1 pos) (l7 ts):=by
 obtain⟨t,p,q⟩:=h;refine⟨_,Qa p,fun ρ σ G0 H0 G H Q P E h k=>q ρ σ G0 H0 G H _ _ E h fun vs H' ds G' x rs hq=>⟨by rw[rs.length];exact hq.1,fun p hp=>?_⟩⟩;have x2:Ext G' H' (upd G' p (.tup vs)) (upd H' p (.tup vs)):=.new x.s hp;refine k _ _ (.fz (.tup ds)) _ (x.trans x2) ?_ hq.2;show Rep X.K _ _ (.tup ds);simp only[Rep];exact⟨p,vs,rfl,lA,rs.mono x2.g⟩
theorem kQ(h:qL X es ts):PD X (.List es pos) (j5 ts):=by
 obtain⟨t,p,q⟩:=h;refine⟨_,P9 p,fun ρ σ G0 H0 G H Q P E h k=>q ρ σ G0 H0 G H _ _ E h fun vs H' ds G' x rs hq=>⟨by rw[rs.length];exact hq.1,fun p hp=>?_⟩⟩;exact k _ _ (.ow ds) G' (x.trans (.own x.s hp)) ⟨p,vs,rfl,x.h.free hp,x.s.free hp,lA,rs⟩ hq.2
def tW(X:Cx)(f:Value)(o:List D->(R->Prop)->Prop):Prop:=∃r,hJ X f r/\∀(G H:Hp) (vs:List V) (ds:List D) (Q:R->Prop) (P:VK),gz G H->f9 X.K G vs ds->o ds Q->
 (∀v H' r' G',Ext G H G' H'->jl X.K G' H' H v r'->Q r'->P v H')->r vs H P
def iQ(o:List D->(R->Prop)->Prop)(ts:nE):TD:=fun ρ Q=>ts ρ fun ds=>o ds Q
theorem JK{o:List D->(R->Prop)->Prop}{r:List V->Hp->VK->Prop}{t:TA}
  (hr:∀(G H:Hp) (vs:List V) (ds:List D) (Q:R->Prop) (P:VK),gz G H->f9 X.K G vs ds->o ds Q->(∀v H' r' G',Ext G H G' H'->jl X.K G' H' H v r'->Q r'->P v H')->r vs H P)
  (q:∀(ρ:Ev) (σ:St) (G0 H0 G H:Hp) (Q:List D->Prop) (P:List V->Hp->Prop),ie X.K G0 H0 ρ σ G H->ts ρ Q->(∀vs H' ds G',Ext G H G' H'->f9 X.K G' vs ds->Q ds->P vs H')->t σ H P):sT X.K (iQ o ts) (Eg r t):=
 fun ρ σ G0 H0 G H Q P E h k=>q ρ σ G0 H0 G H _ _ E h fun vs H' ds G' x rs hq=>hr G' H' vs ds Q P x.s rs hq fun v H2 r' G2 x2 rr q2=>k v H2 r' G2 (x.trans x2) (rr.lR x.h) q2
theorem kY{id:String}{x:Str}{p:Pos}{o:List D->(R->Prop)->Prop}(hc:tW X (.builtin id) o)(hm:X.mg x=none)(hv:bootBuiltins x=some (.builtin id))(ha:qL X (e::es) ts)(hg:Gl X x:=by rfl)(hn:x≠"__name__":=by decide)(qE:(x==("__debug__":Str))=false:=by decide)
  (he:starEach (e::es) X.env=(false,eval e X.env)::starEach es X.env:=by rfl) (kS:(backTo pos (starEach es X.env)).any (·.1)=false:=by rfl):PD X (.Call (.Name x p) (e::es) [] pos) (iQ o ts):=by
 obtain⟨r,hr,tK⟩:=hc;obtain⟨t,pp,q⟩:=ha;exact⟨_,A8 hr hg hm hv pp hn qE he kS,JK tK q⟩
theorem uy{T:String}{x:Str}{p:Pos}{o:List D->(R->Prop)->Prop}(hc:tW X (.type T) o)(hm:X.mg x=none)(hv:bootBuiltins x=some (.type T))(ha:qL X (e::es) ts)(hg:Gl X x:=by rfl)(hn:x≠"__name__":=by decide)(qE:(x==("__debug__":Str))=false:=by decide)
  (he:starEach (e::es) X.env=(false,eval e X.env)::starEach es X.env:=by rfl) (kS:(backTo pos (starEach es X.env)).any (·.1)=false:=by rfl):PD X (.Call (.Name x p) (e::es) [] pos) (iQ o ts):=by
 obtain⟨r,hr,tK⟩:=hc;obtain⟨t,pp,q⟩:=ha;exact⟨_,D9 hr hg hm hv pp hn qE he kS,JK tK q⟩
end
theorem tf{σ:St}{i j:Nat}{x:Option V}:(σ.set i x)[j]?=if i=j/\j<σ.length then some x else σ[j]?:=by
 by_cases h:i=j
 ·subst h;by_cases hl:i<σ.length
  ·simp[hl]
  ·simp[hl]
 ·simp[h]
section
variable {K:Z9} {G0 H0 G H G' H':Hp} {ρ:Ev} {σ:St}
theorem ie.put{i:Nat}{v:V}{r:R}(E:ie K G0 H0 ρ σ G H)(x:Ext G H G' H')(rr:jl K G' H' H v r):ie K G0 H0 (ρ.set i r.sl) (σ.set i (some v)) G' H':=by
 have E':=E.ext x;have hl:=E.len;have gs:∀j s,gt (ρ.set i r.sl) j=s->(i=j/\j<ρ.length/\s=r.sl)\/(¬(i=j/\j<ρ.length)/\gt ρ j=s):=fun j s e=>by
  rw[vO] at e;by_cases h:i=j/\j<ρ.length
  ·rw[if_pos h] at e;exact .inl ⟨h.1,h.2,e.symm⟩
  ·rw[if_neg h] at e;exact .inr ⟨h,e⟩
 refine⟨E'.e,by simp[E.len],fun j d h=>?_,fun j ds h=>?_,fun j k ds es qD h1 h2=>?_,?_⟩
 ·rcases gs j _ h with⟨h1,h2,h3⟩ | ⟨h1,h2⟩
  ·cases r with
   | ow=>cases h3
   | ov=>cases h3
   | fz d'=>
    cases h3;exact⟨v,by rw[tf,if_pos ⟨h1,by omega⟩],rr⟩
  ·obtain⟨u,hu,ru⟩:=E'.fz j d h2;exact⟨u,by rw[tf,if_neg (by rw[hl];exact h1)];exact hu,ru⟩
 ·rcases gs j _ h with⟨h1,h2,h3⟩ | ⟨h1,h2⟩
  ·cases r with
   | fz=>cases h3
   | ov=>cases h3
   | ow Aq=>
    cases h3;obtain⟨p,xs,rfl,a1,a2,a3,a4⟩:=rr;exact⟨p,xs,by rw[tf,if_pos ⟨h1,by omega⟩],a3,a2,E.e.h.free a1,a4⟩
  ·obtain⟨p,xs,b1,b2,b3,b4,b5⟩:=E'.ow j ds h2;exact⟨p,xs,by rw[tf,if_neg (by rw[hl];exact h1)];exact b1,b2,b3,b4,b5⟩
 ·have old:∀{j:Nat} {ds:List D},gt ρ j=.ow ds->∀es,r=.ow es->σ[j]?≠some (some v):=fun{j ds} h es e z=>by
   subst e;obtain⟨p,xs,rfl,a1,a2,a3,a4⟩:=rr;obtain⟨p',tD,b1,b2,b3,b4,b5⟩:=E.ow j ds h;rw[b1] at z;cases z;rw[a1] at b2;cases b2
  rcases gs j _ h1 with⟨c1,c2,c3⟩ | ⟨c1,c2⟩
  ·rcases gs k _ h2 with⟨d1,d2,d3⟩ | ⟨d1,d2⟩
   ·exact absurd (c1.symm.trans d1) qD
   ·rw[tf,if_pos ⟨c1,by omega⟩,tf,if_neg (by rw[hl];exact d1)];cases r with
    | fz=>cases c3
    | ov=>cases c3
    | ow lD=>exact fun z=>old d2 lD rfl z.symm
  ·rcases gs k _ h2 with⟨d1,d2,d3⟩ | ⟨d1,d2⟩
   ·rw[tf,if_neg (by rw[hl];exact c1),tf,if_pos ⟨d1,by omega⟩];cases r with
    | fz=>cases d3
    | ov=>cases d3
    | ow lD=>exact old c2 lD rfl
   ·rw[tf,if_neg (by rw[hl];exact c1),tf,if_neg (by rw[hl];exact d1)];exact E.dj j k ds es qD c2 d2
 ·obtain⟨own,o1,o2⟩:=E.on;have z5:∀j,¬(i=j/\j<ρ.length)->(σ.set i (some v))[j]?=σ[j]?:=fun j h=>by rw[tf,if_neg (by rw[hl];exact h)]
  have gen:∀L:List Addr,(∀q∈L,H q=none)->(∀j ds p,i=j->j<ρ.length->r.sl=.ow ds->v=.ref p->p∈L)->
    (∀j o,i=j->j<ρ.length->r.sl=.ov o->∃p fp,v=.ref p/\(p::fp).Nodup/\m6 K G' H' p fp o/\∀q∈p::fp,G' q=none/\q∈L)->
    ∃own:Addr->Option Nat,(∀j ds p,gt (ρ.set i r.sl) j=.ow ds->(σ.set i (some v))[j]?=some (some (.ref p))->own p=some j)/\∀j o,gt (ρ.set i r.sl) j=.ov o->∃p fp,(σ.set i (some v))[j]?=some (some (.ref p))/\(p::fp).Nodup/\m6 K G' H' p fp o/\∀q∈p::fp,G' q=none/\H0 q=none/\own q=some j:=by
   intro L hL hw ho;refine⟨fun q=>if q∈L then some i else own q,fun j ds p h hp=>?_,fun j o h=>?_⟩
   ·rcases gs j _ h with⟨h1,h2,h3⟩ | ⟨h1,h2⟩
    ·rw[tf,if_pos ⟨h1,by omega⟩] at hp;have hv:v=.ref p:=by injection hp with hp;injection hp
     dsimp only;rw[if_pos (hw j ds p h1 h2 h3.symm hv),h1]
    ·rw[z5 j h1] at hp;obtain⟨p',tD,b1,b2,_⟩:=E.ow j ds h2;have ij:p∉L:=fun z=>by
      rw[hp] at b1;cases b1;rw[hL p z] at b2;cases b2
     dsimp only;rw[if_neg ij];exact o1 j ds p h2 hp
   ·rcases gs j _ h with⟨h1,h2,h3⟩ | ⟨h1,h2⟩
    ·obtain⟨p,fp,rfl,c1,c2,c3⟩:=ho j o h1 h2 h3.symm;refine⟨p,fp,by rw[tf,if_pos ⟨h1,by omega⟩],c1,c2,fun q hq=>⟨(c3 q hq).1,E.e.h.free (hL q (c3 q hq).2),?_⟩⟩;dsimp only;rw[if_pos (c3 q hq).2,h1]
    ·obtain⟨p,fp,b1,b2,b3,b4⟩:=o2 j o h2;refine⟨p,fp,by rw[z5 j h1];exact b1,b2,b3.mono x.g fun q _ u e=>x.h q u e,fun q hq=>⟨x.n q (b4 q hq).1 (b3.here q hq),(b4 q hq).2.1,?_⟩⟩;dsimp only;rw[if_neg (fun z=>b3.here q hq (hL q z))];exact(b4 q hq).2.2
  cases r with
  | fz d=>exact gen [] (fun q hq=>by cases hq) (fun j ds p _ _ e=>by cases e) (fun j o _ _ e=>by cases e)
  | ow Aq=>
   obtain⟨p,xs,rfl,a1,a2,a3,a4⟩:=rr;refine gen [p] (fun q hq=>?_) (fun j ds p' _ _ e e2=>?_) (fun j o _ _ e=>by cases e)
   ·simp only[bH] at hq;subst hq;exact a1
   ·cases e2;simp
  | ov o'=>
   obtain⟨p,fp,rfl,a1,a2,a3⟩:=rr;refine gen (p::fp) (fun q hq=>(a3 q hq).1) (fun j ds p' _ _ e=>by cases e) (fun j o _ _ e=>?_);cases e;exact⟨p,fp,rfl,a1,a2,fun q hq=>⟨(a3 q hq).2,hq⟩⟩
noncomputable def oY(i:Nat)(ρ:Ev):Ev:=match gt ρ i with
 | .ow ds=>ρ.set i (.fz (.lst ds))
 | .ov o=>ρ.set i (.fz o.val)
 | _=>ρ
theorem xV{ρ:Ev}{i:Nat}{s:Sl}(h:gt ρ i=s)(hs:s≠.un):i<ρ.length:=by
 induction ρ generalizing i with
 | nil=>simp[gt] at h;exact absurd h.symm hs
 | cons a r ih=>
  cases i with
  | zero=>simp
  | succ i=>simp only[gt] at h;have:=ih h;simp;omega
theorem gw.NN{K:Z9}{G H:Hp}:∀{qs:List Addr} {g6:List (List D)},gw K G H qs g6->∀q∈qs,∃zs,H q=some (.lst zs)
 | [],[],_,q,hq=>by cases hq
 | p::qs,ds::g6,h,q,hq=>by
  simp only[gw] at h;rcases ar.mp hq with rfl | hq
  ·exact⟨_,h.1.choose_spec.1⟩
  ·exact gw.NN h.2 q hq
 | [],_::_,h,_,_=>by simp only[gw] at h
 | _::_,[],h,_,_=>by simp only[gw] at h
theorem ie.uV(i:Nat)(E:ie K G0 H0 ρ σ G H):∃L:List Addr,(∀q∈L,G q=none)/\ie K G0 H0 (oY i ρ) σ (sZ G H L) H/\(((∀o,gt ρ i=.ov o->(∃g5,o=.dc g5)\/∃g6,o=.ll g6)->∀q∈L,H q≠none/\∀xs,¬Rd H q (.tup xs)))/\∀o p,gt ρ i=.ov o->σ[i]?=some (some (.ref p))->p∈L:=by
 unfold oY;split
 ·rename_i ds hg;obtain⟨p,xs,h1,h2,h3,h4,h5⟩:=E.ow i ds hg;have gL:i<ρ.length:=xV hg (by simp);have hs:gz G (upd G p (.lst xs)):=xg h3;have gs:∀j s,gt (ρ.set i (.fz (.lst ds))) j=s->(i=j/\s=.fz (.lst ds))\/(i≠j/\gt ρ j=s):=fun j s e=>by
   rw[vO] at e;by_cases h:i=j
   ·subst h;rw[if_pos ⟨rfl,gL⟩] at e;exact .inl ⟨rfl,e.symm⟩
   ·rw[if_neg (fun z=>h z.1)] at e;exact .inr ⟨h,e⟩
  have ep:sZ G H [p]=upd G p (.lst xs):=by
   funext a
   by_cases ha:a=p
   ·subst ha;rw[lA,vm (by simp)];exact h2
   ·rw[iy ha,uz (by simpa using ha)]
  refine⟨[p],fun q hq=>?_,?_,fun _ q hq=>by
   simp only[bH] at hq;rw[hq]
   exact⟨(by rw[h2];exact nofun),fun tD e=>by rcases e with e | ⟨_,e⟩<;>(rw[h2] at e;cases e)⟩,fun o p z=>by rw[hg] at z;cases z⟩
  ·simp only[bH] at hq;subst hq;exact h3
  rw[ep];refine⟨⟨E.e.g.trans hs,E.e.h,fun b o e=>?_,fun q q1 q2=>?_⟩,by simp[E.len],fun j d h=>?_,fun j es h=>?_,fun j k es fs qD a1 a2=>?_,?_⟩
  ·by_cases hb:b=p
   ·subst hb;rw[lA] at e;rw[h2];exact e
   ·rw[iy hb] at e;exact E.e.s b o e
  ·rw[iy (fun z=>q2 (by rw[z];exact h4))];exact E.e.n q q1 q2
  ·rcases gs j _ h with⟨e,e2⟩ | ⟨e,e2⟩
   ·subst e;cases e2;exact⟨_,h1,by simp only[Rep];exact⟨p,xs,rfl,oh.of lA,h5.mono hs⟩⟩
   ·obtain⟨u,u1,u2⟩:=E.fz j d e2;exact⟨u,u1,u2.mono hs⟩
  ·rcases gs j _ h with⟨e,e2⟩ | ⟨e,e2⟩
   ·cases e2
   ·obtain⟨p',tD,b1,b2,b3,b4,b5⟩:=E.ow j es e2;have ij:p'≠p:=fun z=>by
     subst z;exact E.dj i j ds es e hg e2 (by rw[h1,b1])
    exact⟨p',tD,b1,b2,by rw[iy ij];exact b3,b4,b5.mono hs⟩
  ·rcases gs j _ a1 with⟨_,e2⟩ | ⟨e,e2⟩
   ·cases e2
   ·rcases gs k _ a2 with⟨_,e4⟩ | ⟨e3,e4⟩
    ·cases e4
    ·exact E.dj j k es fs qD e2 e4
  ·obtain⟨own,o1,o2⟩:=E.on;refine⟨own,fun j es p' h hp=>?_,fun j o h=>?_⟩
   ·rcases gs j _ h with⟨_,e2⟩ | ⟨_,e2⟩
    ·cases e2
    ·exact o1 j es p' e2 hp
   ·rcases gs j _ h with⟨_,e2⟩ | ⟨e,e2⟩
    ·cases e2
    ·obtain⟨p',fp,b1,b2,b3,b4⟩:=o2 j o e2;refine⟨p',fp,b1,b2,b3.mono hs fun q _ u e=>e,fun q hq=>⟨?_,(b4 q hq).2⟩⟩;rw[iy fun z=>?_]
     ·exact(b4 q hq).1
     ·have z1:=(b4 q hq).2.2;rw[z,o1 i ds p hg h1] at z1;injection z1 with z1
      exact e z1
 ·rename_i o hg;obtain⟨own,o1,o2⟩:=E.on;obtain⟨p,fp,h1,h2,h3,h4⟩:=o2 i o hg;have gL:i<ρ.length:=xV hg (by simp);have hn:∀q∈p::fp,G q=none:=fun q hq=>(h4 q hq).1
  have hs:gz G (sZ G H (p::fp)):=A7 hn;have gs:∀j s,gt (ρ.set i (.fz o.val)) j=s->(i=j/\s=.fz o.val)\/(i≠j/\gt ρ j=s):=fun j s e=>by
   rw[vO] at e;by_cases h:i=j
   ·subst h;rw[if_pos ⟨rfl,gL⟩] at e;exact .inl ⟨rfl,e.symm⟩
   ·rw[if_neg (fun z=>h z.1)] at e;exact .inr ⟨h,e⟩
  suffices Ci:ie K G0 H0 (ρ.set i (.fz o.val)) σ (sZ G H (p::fp)) H from⟨p::fp,hn,Ci,fun hd q hq=>by
   rcases hd o hg with⟨g5,rfl⟩ | ⟨g6,rfl⟩
   ·obtain⟨rfl,ks,ep,h5,_⟩:=h3;simp only[bH] at hq;rw[hq];exact⟨(by rw[h5];exact nofun),fun tD e=>by rcases e with e | ⟨_,e⟩<;>(rw[h5] at e;cases e)⟩
   ·obtain⟨zs,h5⟩:∃zs,H q=some (.lst zs):=by
     rcases ar.mp hq with rfl | hq
     ·exact⟨_,h3.1⟩
     ·exact gw.NN h3.2 q hq
    exact⟨(by rw[h5];exact nofun),fun tD e=>by rcases e with e | ⟨_,e⟩<;>(rw[h5] at e;cases e)⟩,fun o' p' _ e=>by rw[h1] at e;cases e;simp⟩
  refine⟨⟨E.e.g.trans hs,E.e.h,fun b u e=>?_,fun q q1 q2=>?_⟩,by simp[E.len],fun j d h=>?_,fun j es h=>?_,fun j k es fs qD a1 a2=>?_,own,fun j es p' h hp=>?_,fun j o' h=>?_⟩
  ·by_cases hb:b∈p::fp
   ·rw[vm hb] at e;exact e
   ·rw[uz hb] at e;exact E.e.s b u e
  ·rw[uz (fun z=>q2 (h4 q z).2.1)];exact E.e.n q q1 q2
  ·rcases gs j _ h with⟨e,e2⟩ | ⟨e,e2⟩
   ·subst e;cases e2;exact⟨_,h1,h3.freeze hn⟩
   ·obtain⟨u,u1,u2⟩:=E.fz j d e2;exact⟨u,u1,u2.mono hs⟩
  ·rcases gs j _ h with⟨e,e2⟩ | ⟨e,e2⟩
   ·cases e2
   ·obtain⟨p',tD,b1,b2,b3,b4,b5⟩:=E.ow j es e2;refine⟨p',tD,b1,b2,?_,b4,b5.mono hs⟩;rw[uz fun z=>?_]
    ·exact b3
    ·have z1:=(h4 p' z).2.2;rw[o1 j es p' e2 b1] at z1;injection z1 with z1
     exact e z1.symm
  ·rcases gs j _ a1 with⟨_,e2⟩ | ⟨e,e2⟩
   ·cases e2
   ·rcases gs k _ a2 with⟨_,e4⟩ | ⟨e3,e4⟩
    ·cases e4
    ·exact E.dj j k es fs qD e2 e4
  ·rcases gs j _ h with⟨_,e2⟩ | ⟨_,e2⟩
   ·cases e2
   ·exact o1 j es p' e2 hp
  ·rcases gs j _ h with⟨_,e2⟩ | ⟨e,e2⟩
   ·cases e2
   ·obtain⟨p',sQ,b1,b2,b3,b4⟩:=o2 j o' e2;refine⟨p',sQ,b1,b2,b3.mono hs fun q _ u e=>e,fun q hq=>⟨?_,(b4 q hq).2⟩⟩;rw[uz fun z=>?_]
    ·exact(b4 q hq).1
    ·have z1:=(b4 q hq).2.2;rw[(h4 q z).2.2] at z1;injection z1 with z1
     exact e z1
 ·rename_i Zq XN;have ep:sZ G H []=G:=by funext a;exact uz (by simp)
  exact⟨[],fun q hq=>(by cases hq),by rw[ep];exact E,fun _ q hq=>(by cases hq),fun o p z=>(XN o z).elim⟩
theorem ie.pI(i:Nat)(E:ie K G0 H0 ρ σ G H):∃L:List Addr,(∀q∈L,G q=none)/\ie K G0 H0 (oY i ρ) σ (sZ G H L) H/\((∀o,gt ρ i=.ov o->(∃g5,o=.dc g5)\/∃g6,o=.ll g6)->∀q∈L,H q≠none/\∀xs,¬Rd H q (.tup xs)):=
 let⟨L,a,b,c,_⟩:=E.uV i
 ⟨L,a,b,c⟩
theorem ie.freeze(i:Nat)(E:ie K G0 H0 ρ σ G H):∃G',ie K G0 H0 (oY i ρ) σ G' H/\gz G G':=
 let⟨L,hL,E',_⟩:=E.pI i
 ⟨_,E',A7 hL⟩
theorem ie.change{i:Nat}{ds Aq:List D}{p:Addr}{tD:List V}(E:ie K G0 H0 ρ σ G H)(hg:gt ρ i=.ow ds)(h1:σ[i]?=some (some (.ref p)))(hr:f9 K G tD Aq) :
  ie K G0 H0 (ρ.set i (.ow Aq)) σ G (upd H p (.lst tD)):=by
 obtain⟨p',Zl,b1,b2,b3,b4,b5⟩:=E.ow i ds hg;rw[h1] at b1;cases b1;have gL:i<ρ.length:=xV hg (by simp);have gs:∀j s,gt (ρ.set i (.ow Aq)) j=s->(i=j/\s=.ow Aq)\/(i≠j/\gt ρ j=s):=fun j s e=>by
  rw[vO] at e;by_cases h:i=j
  ·subst h;rw[if_pos ⟨rfl,gL⟩] at e;exact .inl ⟨rfl,e.symm⟩
  ·rw[if_neg (fun z=>h z.1)] at e;exact .inr ⟨h,e⟩
 have hG:gz G (upd H p (.lst tD)):=fun b o e=>by rw[iy (nQ e b3)];exact E.e.s b o e
 refine⟨⟨E.e.g,fun b o e=>by rw[iy (nQ e b4)];exact E.e.h b o e,hG,E.e.n⟩,by simp[E.len],fun j d h=>?_,fun j es h=>?_,fun j k es fs qD a1 a2=>?_,?_⟩
 ·rcases gs j _ h with⟨_,e2⟩ | ⟨e,e2⟩
  ·cases e2
  ·exact E.fz j d e2
 ·rcases gs j _ h with⟨e,e2⟩ | ⟨e,e2⟩
  ·subst e;cases e2;exact⟨p,tD,h1,lA,b3,b4,hr⟩
  ·obtain⟨p',Xh,c1,c2,c3,c4,c5⟩:=E.ow j es e2;have ij:p'≠p:=fun z=>by
    subst z;exact E.dj i j ds es e hg e2 (by rw[h1,c1])
   exact⟨p',Xh,c1,by rw[iy ij];exact c2,c3,c4,c5⟩
 ·rcases gs j _ a1 with⟨e,e2⟩ | ⟨e,e2⟩
  ·subst e;rcases gs k _ a2 with⟨e3,e4⟩ | ⟨e3,e4⟩
   ·exact absurd e3 qD
   ·exact E.dj i k ds fs qD hg e4
  ·rcases gs k _ a2 with⟨e3,e4⟩ | ⟨e3,e4⟩
   ·subst e3;exact E.dj j i es ds qD e2 hg
   ·exact E.dj j k es fs qD e2 e4
 ·obtain⟨own,o1,o2⟩:=E.on;refine⟨own,fun j es p' h hp=>?_,fun j o h=>?_⟩
  ·rcases gs j _ h with⟨e,e2⟩ | ⟨_,e2⟩
   ·subst e;exact o1 i ds p' hg hp
   ·exact o1 j es p' e2 hp
  ·rcases gs j _ h with⟨_,e2⟩ | ⟨e,e2⟩
   ·cases e2
   ·obtain⟨p',fp,c1,c2,c3,c4⟩:=o2 j o e2;refine⟨p',fp,c1,c2,c3.mono (gz.refl _) fun q hq u e3=>?_,c4⟩;rw[iy fun z=>?_]
    ·exact e3
    ·have z1:=(c4 q hq).2.2;rw[z,o1 i ds p hg h1] at z1;injection z1 with z1
     exact e z1
theorem ie.sR{i:Nat}{o o':OV}{p:Addr}(E:ie K G0 H0 ρ σ G H)(hg:gt ρ i=.ov o)(h1:σ[i]?=some (some (.ref p)))
  (hc:∀fp,(p::fp).Nodup->m6 K G H p fp o->∃sQ,(p::sQ).Nodup/\m6 K G H' p sQ o'/\(∀q∈p::sQ,q∈p::fp\/H q=none)/\∀b,b∉p::fp->H b≠none->H' b=H b) :
  ie K G0 H0 (ρ.set i (.ov o')) σ G H':=by
 obtain⟨own,o1,o2⟩:=E.on;obtain⟨p',fp,b1,b2,b3,b4⟩:=o2 i o hg;rw[h1] at b1;cases b1;obtain⟨sQ,c1,c2,c3,c4⟩:=hc fp b2 b3;have gL:i<ρ.length:=xV hg (by simp);have gs:∀j s,gt (ρ.set i (.ov o')) j=s->(i=j/\s=.ov o')\/(i≠j/\gt ρ j=s):=fun j s e=>by
  rw[vO] at e;by_cases h:i=j
  ·subst h;rw[if_pos ⟨rfl,gL⟩] at e;exact .inl ⟨rfl,e.symm⟩
  ·rw[if_neg (fun z=>h z.1)] at e;exact .inr ⟨h,e⟩
 have hk:∀(F:Hp),(∀q∈p::fp,F q=none)->gz F H->gz F H':=fun F hF s b u e=>by
  have hb:b∉p::fp:=fun z=>by rw[hF b z] at e;cases e
  rw[c4 b hb (by rw[s b u e];exact nofun)];exact s b u e
 refine⟨⟨E.e.g,hk H0 (fun q hq=>(b4 q hq).2.1) E.e.h,hk G (fun q hq=>(b4 q hq).1) E.e.s,E.e.n⟩,by simp[E.len],fun j d h=>?_,fun j es h=>?_,fun j k es fs qD a1 a2=>?_,fun q=>if q∈p::sQ then some i else own q,fun j es p' h hp=>?_,fun j XM h=>?_⟩
 ·rcases gs j _ h with⟨_,e2⟩ | ⟨e,e2⟩
  ·cases e2
  ·exact E.fz j d e2
 ·rcases gs j _ h with⟨_,e2⟩ | ⟨e,e2⟩
  ·cases e2
  ·obtain⟨p',xs,d1,d2,d3,d4,d5⟩:=E.ow j es e2;refine⟨p',xs,d1,?_,d3,d4,d5⟩;rw[c4 p' (fun z=>?_) (by rw[d2];exact nofun)]
   ·exact d2
   ·have z1:=(b4 p' z).2.2;rw[o1 j es p' e2 d1] at z1;injection z1 with z1
    exact e z1.symm
 ·rcases gs j _ a1 with⟨_,e2⟩ | ⟨e,e2⟩
  ·cases e2
  ·rcases gs k _ a2 with⟨_,e4⟩ | ⟨e3,e4⟩
   ·cases e4
   ·exact E.dj j k es fs qD e2 e4
 ·rcases gs j _ h with⟨_,e2⟩ | ⟨e,e2⟩
  ·cases e2
  ·have w:=o1 j es p' e2 hp;obtain⟨p2,xs,d1,d2,_⟩:=E.ow j es e2;rw[hp] at d1;cases d1;dsimp only;rw[if_neg fun z=>?_]
   ·exact w
   ·rcases c3 p' z with z | z
    ·have z1:=(b4 p' z).2.2;rw[w] at z1;injection z1 with z1
     exact e z1.symm
    ·rw[z] at d2;cases d2
 ·rcases gs j _ h with⟨e,e2⟩ | ⟨e,e2⟩
  ·subst e;cases e2;refine⟨p,sQ,h1,c1,c2,fun q hq=>?_⟩;dsimp only;rw[if_pos hq];rcases c3 q hq with z | z
   ·exact⟨(b4 q z).1,(b4 q z).2.1,rfl⟩
   ·exact⟨E.e.s.free z,E.e.h.free z,rfl⟩
  ·obtain⟨p2,Ot,d1,d2,d3,d4⟩:=o2 j XM e2;have uN:∀q∈p2::Ot,q∉p::fp:=fun q hq z=>by
    have z1:=(b4 q z).2.2;rw[(d4 q hq).2.2] at z1;injection z1 with z1
    exact e z1.symm
   refine⟨p2,Ot,d1,d2,d3.mono (gz.refl _) fun q hq u e3=>?_,fun q hq=>⟨(d4 q hq).1,(d4 q hq).2.1,?_⟩⟩
   ·rw[c4 q (uN q hq) (by rw[e3];exact nofun)];exact e3
   ·dsimp only;rw[if_neg fun z=>?_]
    ·exact(d4 q hq).2.2
    ·rcases c3 q z with z | z
     ·exact uN q hq z
     ·exact d3.here q hq z
theorem ie.weak{ρ':Ev}(E:ie K G0 H0 ρ σ G H)(hl:ρ'.length=ρ.length)(w:∀i,gt ρ' i=.un\/gt ρ' i=gt ρ i):ie K G0 H0 ρ' σ G H:=by
 have g:∀i s,gt ρ' i=s->s≠.un->gt ρ i=s:=fun i s e n=>by
  rcases w i with h | h
  ·exact absurd (e.symm.trans h) n
  ·rw[<-h];exact e
 exact⟨E.e,by rw[hl];exact E.len,fun i d h=>E.fz i d (g i _ h (by simp)),fun i d h=>E.ow i d (g i _ h (by simp)),fun i j ds es jX h1 h2=>E.dj i j ds es jX (g i _ h1 (by simp)) (g j _ h2 (by simp)),let⟨own,o1,o2⟩:=E.on;⟨own,fun i ds p h=>o1 i ds p (g i _ h (by simp)),fun i o h=>o2 i o (g i _ h (by simp))⟩⟩
end
section
variable {X:Cx} {pos:Pos} {e:Expr} {te:TD}
def gB(t u:TX):TX:=fun D ρ=>t { D with nx:=u D } ρ
def jI:TX:=fun D ρ=>D.nx ρ
theorem kE:rQ X [] jI:=⟨_,Ll,fun ρ σ G0 H0 G H D E k h g=>g.nx ρ σ G H (gz.refl _) k h⟩
theorem gE{st:Stmt}{vp:List Stmt}{t u:TX}(h1:PX X st t)(h2:rQ X vp u):rQ X (st::vp) (gB t u):=by
 obtain⟨t1,p1,q1⟩:=h1;obtain⟨t2,p2,q2⟩:=h2;refine⟨_,Mj p1 p2,fun ρ σ G0 H0 G H D E k h g=>q1 ρ σ G0 H0 G H _ _ k h ⟨fun ρ' gK G' H' s' k' h'=>q2 ρ' gK G0 H0 G' H' D E k' h' (g.shift s'),g.rt,g.bk,g.ct⟩⟩
theorem gQ{st:Stmt}{t:TX}(h1:PX X st t):rQ X [st] t:=by
 obtain⟨t1,p1,q1⟩:=h1;exact⟨_,Lk p1,q1⟩
theorem ya(i:Nat){vp:List Stmt}{t:TX}(h:rQ X vp t):rQ X vp (fun D ρ=>t D (oY i ρ)):=by
 obtain⟨t1,p1,q1⟩:=h;refine⟨_,p1,fun ρ σ G0 H0 G H D E k h g=>?_⟩;obtain⟨G',k',s'⟩:=k.freeze i;exact q1 _ σ G0 H0 G' H D E k' h (g.shift s')
def jt(te:TD):TX:=fun D ρ=>te ρ D.rt
theorem jH(h:PD X e te):PX X (.Return (some e) pos) (jt te):=by
 obtain⟨t,p,q⟩:=h;exact⟨_,Kw p,fun ρ σ G0 H0 G H D E k h g=>q ρ σ G0 H0 G H _ _ k h fun v H' r G' x rr hq=>g.rt v H' r G' (k.e.trans x) (rr.lR k.e.h) hq⟩
def rh(i:Nat):TX:=fun D ρ=>match gt ρ i with
 | .ow ds=>D.rt (.ow ds)
 | _=>False
theorem xc(i:Nat){x:Str}{p':Pos}(hN:X.N[i]?=some x:=by rfl)(hv:qK X.env.scope x:=by first | exact Or.inl rfl | exact Or.inr (Or.inl rfl) | exact Or.inr (Or.inr rfl))(hd:(x==("__debug__":Str))=false:=by decide)
  (kP:(x==("__classdict__":Str))=false:=by decide):PX X (.Return (some (.Name x p')) pos) (rh i):=by
 refine⟨_,Kw (sg hN hv hd kP),fun ρ σ G0 H0 G H D E k h g=>?_⟩;unfold rh at h;split at h
 ·rename_i ds hg;obtain⟨p,xs,h1,h2,h3,h4,h5⟩:=k.ow i ds hg;exact⟨_,h1,g.rt _ H (.ow ds) G k.e ⟨p,xs,rfl,h4,h3,h2,h5⟩ h⟩
 ·exact h.elim
def jJ(c:mT)(t u:TX):TX:=fun D ρ=>c ρ fun b=>if b=true then t D ρ else u D ρ
theorem kD{c:Expr}{a b:List Stmt}{tc:mT}{t u:TX}(hc:PB X c tc)(ha:rQ X a t)(hb:rQ X b u):PX X (.If c a b pos) (jJ tc t u):=by
 obtain⟨t0,p0,q0⟩:=hc;obtain⟨t1,p1,q1⟩:=ha;obtain⟨t2,p2,q2⟩:=hb;refine⟨_,Pj p0 p1 p2,fun ρ σ G0 H0 G H D E k h g=>q0 ρ σ G0 H0 G H _ _ k h fun b H' G' x hq=>?_⟩;cases b with
 | true=>rw[if_pos rfl] at hq ⊢;exact q1 ρ σ G0 H0 G' H' D E (k.ext x) hq (g.shift x.g)
 | false=>rw[if_neg aZ] at hq ⊢;exact q2 ρ σ G0 H0 G' H' D E (k.ext x) hq (g.shift x.g)
def oA(i:Nat)(te:TD):TX:=fun D ρ=>te ρ fun r=>D.nx (ρ.set i r.sl)
theorem sf(i:Nat){x:Str}{pos':Pos}(he:PD X e te)(hN:X.N.Nodup:=by assumption)(hi:X.N[i]?=some x:=by rfl)(hx:Loc X.env.scope x:=by first | exact Or.inl rfl | exact Or.inr rfl)(hs:swapsWith e (some (.Name x pos')) pos.line X.env=pure false:=by rfl)(hf:X.fn x=true\/X.env.scope.names.lookup x=some .local:=by first | exact .inl rfl | exact .inr rfl | assumption) :
  PX X (.Assign [.Name x pos'] e pos) (oA i te):=by
 obtain⟨t,p,q⟩:=he;exact⟨_,Ku hN hi hx p hs hf,fun ρ σ G0 H0 G H D E k h g=>q ρ σ G0 H0 G H _ _ k h fun v H' r G' x rr hq=>g.nx _ _ G' H' x.g (k.put x rr) hq⟩
def ig(i:Nat)(te:TD):TX:=fun D ρ=>te ρ fun r=>D.nx (ρ.set i (.fz r.val))
theorem iK(i:Nat){x:Str}{pos':Pos}(he:PD X e te)(hN:X.N.Nodup:=by assumption)(hi:X.N[i]?=some x:=by rfl)(hx:Loc X.env.scope x:=by first | exact Or.inl rfl | exact Or.inr rfl)(hs:swapsWith e (some (.Name x pos')) pos.line X.env=pure false:=by rfl)(hf:X.fn x=true\/X.env.scope.names.lookup x=some .local:=by first | exact .inl rfl | exact .inr rfl | assumption) :
  PX X (.Assign [.Name x pos'] e pos) (ig i te):=by
 obtain⟨t,p,q⟩:=he;refine⟨_,Ku hN hi hx p hs hf,fun ρ σ G0 H0 G H D E k h g=>q ρ σ G0 H0 G H _ _ k h fun v H' r G' x rr hq=>?_⟩;obtain⟨G2,x2,rv,_⟩:=rr.freeze x;exact g.nx _ _ G2 H' x2.g (k.put x2 (r:=.fz r.val) rv) hq
def nt(i:Nat)(te:TD):TX:=fun D ρ=>match gt ρ i with
 | .ow ds=>te ρ fun r=>ds.length<sizeLine/\D.nx (ρ.set i (.ow (ds++[r.val])))
 | _=>False
theorem qj(i:Nat){x:Str}{p1 p2 pos':Pos}(he:PD X e te)(hN:X.N[i]?=some x:=by rfl)(hv:qK X.env.scope x:=by first | exact Or.inl rfl | exact Or.inr (Or.inl rfl) | exact Or.inr (Or.inr rfl))(hd:(x==("__debug__":Str))=false:=by decide)
  (kP:(x==("__classdict__":Str))=false:=by decide) (jW:starEach [e] X.env=(false,eval e X.env)::starEach [] X.env:=by rfl)
  (hb:∀{ta:TE} {t:TA},PE X (.Name x p1) ta->PA X [e] t->PE X (.Call (.Attribute (.Name x p1) "append" p2) [e] [] pos') (zV X.K "list" DG ta t):=by intro ta t h1 h2;exact zh cB fk fm D8 h1 h2) :
  PX X (.Expr (.Call (.Attribute (.Name x p1) "append" p2) [e] [] pos') pos) (nt i te):=by
 obtain⟨t,p,q⟩:=he;refine⟨_,zF (hb (sg hN hv hd kP) (tq p tY jW)),fun ρ σ G0 H0 G H D E k h g=>?_⟩;unfold nt at h;split at h
 ·rename_i ds hg;obtain⟨a,xs,h1,h2,h3,h4,h5⟩:=k.ow i ds hg;refine⟨_,h1,.inl ⟨rfl,xs,iI.of h2⟩,?_⟩;refine q ρ σ G0 H0 G H _ _ k h fun v H' r G' x1 rr hq=>?_
  obtain⟨G2,x2,rv,_⟩:=rr.freeze x1;have k2:=k.ext x2;refine⟨a,xs,v,rfl,rfl,x2.h _ _ h2,by rw[h5.length];exact hq.1,?_⟩;exact g.nx _ _ G2 _ x2.g (k2.change hg h1 ((h5.mono x2.g).append (f9.cons rv f9.nil))) hq.2
 ·exact h.elim
end
section
variable {X:Cx} {pos:Pos} {tg:Expr}
noncomputable abbrev lX:=D->Ev->(Ev->Prop)->Prop
noncomputable abbrev sW:=List D->Ev->(Ev->Prop)->Prop
def u5(X:Cx)(tg:Expr)(g:lX):Prop:=∃gg,PG X tg gg/\∀(ρ:Ev) (σ:St) (G0 H0 G H:Hp) (d:D) (v:V) (Q:Ev->Prop) (P:St->Hp->Prop),ie X.K G0 H0 ρ σ G H->Rep X.K G v d->g d ρ Q->
 (∀ρ' gK G' H',ie X.K G0 H0 ρ' gK G' H'->Ext G H G' H'->Q ρ'->P gK H')->gg v σ H P
def Aw(X:Cx)(Xo:List Expr)(g:sW):Prop:=∃gg,Au X Xo gg/\∀(ρ:Ev) (σ:St) (G0 H0 G H:Hp) (ds:List D) (vs:List V) (Q:Ev->Prop) (P:St->Hp->Prop),ie X.K G0 H0 ρ σ G H->f9 X.K G vs ds->g ds ρ Q->
 (∀ρ' gK G' H',ie X.K G0 H0 ρ' gK G' H'->Ext G H G' H'->Q ρ'->P gK H')->gg vs σ H P
def gJ(i:Nat):lX:=fun d ρ Q=>Q (ρ.set i (.fz d))
theorem gW(i:Nat){x:Str}(hN:X.N.Nodup:=by assumption)(hi:X.N[i]?=some x:=by rfl)(hx:Loc X.env.scope x:=by first | exact Or.inl rfl | exact Or.inr rfl)(hf:X.fn x=true\/X.env.scope.names.lookup x=some .local:=by first | exact .inl rfl | exact .inr rfl | assumption):u5 X (.Name x pos) (gJ i):=
 ⟨_,Lj hN hi hx hf,fun ρ σ G0 H0 G H d v Q P E r h k=>k _ _ G H (E.put (.refl E.e.s) (r:=.fz d) r) (.refl E.e.s) h⟩
noncomputable def kW:sW:=fun ds ρ Q=>match ds with
 | []=>Q ρ
 | _=>False
noncomputable def il(t:lX)(u:sW):sW:=fun ds ρ Q=>match ds with
 | d::r=>t d ρ fun ρ'=>u r ρ' Q
 | []=>False
theorem oG:Aw X [] kW:=by
 refine⟨_,RP,fun ρ σ G0 H0 G H ds vs Q P E r h k=>?_⟩;unfold kW at h;split at h
 ·cases vs with
  | nil=>exact⟨rfl,k _ _ G H E (.refl E.e.s) h⟩
  | cons=>simp only[f9] at r
 ·exact h.elim
theorem je{e:Expr}{es:List Expr}{t:lX}{u:sW}(h1:u5 X e t)(h2:Aw X es u)(hs:(assignEach (e::es) X.env).map (·.2)=assign e X.env::(assignEach es X.env).map (·.2):=by rfl):Aw X (e::es) (il t u):=by
 obtain⟨t1,p1,q1⟩:=h1;obtain⟨t2,p2,q2⟩:=h2;refine⟨_,S5 p1 p2 hs,fun ρ σ G0 H0 G H ds vs Q P E r h k=>?_⟩;unfold il at h;split at h
 ·cases vs with
  | nil=>simp only[f9] at r
  | cons v vs=>
   simp only[f9] at r;refine⟨v,vs,rfl,q1 ρ σ G0 H0 G H _ v _ _ E r.1 h fun ρ' gK G' H' E' x hq=>?_⟩;exact q2 ρ' gK G0 H0 G' H' _ vs Q P E' (r.2.mono x.g) hq fun jc oJ G2 H2 E2 x2 oe=>k jc oJ G2 H2 E2 (x.trans x2) oe
 ·exact h.elim
def mQ(n:Nat)(t:sW):lX:=fun d ρ Q=>match d with
 | .tup ds=>ds.length=n/\t ds ρ Q
 | _=>False
theorem pC{es:List Expr}{k:Nat}{t:sW}{n:Nat}(hc:X.calm=true)(h:Aw X es t)(hn:(assignEach es X.env).length=n:=by rfl)(jW:(assignEach es X.env).findIdx? (·.1)=none:=by rfl):u5 X (.Tuple es k pos) (mQ n t):=by
 obtain⟨t1,p1,q1⟩:=h;refine⟨_,Ro hc p1 hn jW,fun ρ σ G0 H0 G H d v Q P E r h k=>?_⟩;unfold mQ at h;split at h
 ·simp only[Rep] at r;obtain⟨a,xs,rfl,hq,rs⟩:=r;exact⟨a,xs,rfl,E.e.s.qt hq,by rw[rs.length];exact h.1,q1 ρ σ G0 H0 G H _ xs Q P E rs h.2 k⟩
 ·exact h.elim
def zf(te:TD)(g:lX):TX:=fun D ρ=>te ρ fun r=>g r.val ρ D.nx
theorem Di{e:Expr}{te:TD}{g:lX}(he:PD X e te)(hg:u5 X tg g)(hs:swapsWithSole [tg] e pos.line X.env=pure false:=by rfl)(hw:swappedStores [tg] e X.env=pure none:=by rfl)(h1:(assignEach [tg] X.env).map (·.2)=[assign tg X.env]:=by rfl):PX X (.Assign [tg] e pos) (zf te g):=by
 obtain⟨t,p,q⟩:=he;obtain⟨t2,p2,q2⟩:=hg;refine⟨_,Kv p p2 hs hw h1,fun ρ σ G0 H0 G H D E k h g=>q ρ σ G0 H0 G H _ _ k h fun v H' r G' x rr hq=>?_⟩;obtain⟨G2,x2,rv,_⟩:=rr.freeze x;exact q2 ρ σ G0 H0 G2 H' _ v _ _ (k.ext x2) rv hq fun ρ' gK G' H' E' x' sL=>g.nx ρ' gK G' H' (x2.g.trans x'.g) E' sL
def vE(K:Z9)(J:It)(G:Hp)(ds:List D):Prop:=
 (∀i d G' H',ds[i]?=some d->gz G G'->gz G' H'->J.go i H'/\∀v H2,J.Ed i H' v H2->∃G2,Ext G' H' G2 H2/\Rep K G2 v d)/\∀G' H',gz G G'->gz G' H'->J.stop ds.length H'
noncomputable abbrev oH:=Ev->(List D->Prop)->Prop
def PId(X:Cx)(tg iter:Expr)(wi:oH):Prop:=∃ww,PI X tg iter ww/\∀(ρ:Ev) (σ:St) (G0 H0 G H:Hp) (Q:List D->Prop) (P:It->Hp->Prop),ie X.K G0 H0 ρ σ G H->wi ρ Q->
 (∀J H' ds G',Ext G H G' H'->vE X.K J G' ds->Q ds->P J H')->ww σ H P
def Ft(d:D)(Q:List D->Prop):Prop:=match d with
 | .lst ds=>Q ds
 | .tup ds=>Q ds
 | .str z=>Q (z.cps.toList.map fun c=>.str ⟨#[c]⟩)
 | _=>False
def jT(te:TD):oH:=fun ρ Q=>te ρ fun r=>Ft r.val Q
theorem TC{K:Z9}{G:Hp}{a:Addr}{xs:List V}{ds:List D}(h:oh K G a xs)(r:f9 K G xs ds):vE K (ES K a) G ds:=by
 refine⟨fun i d G' H' hd s1 s2=>?_,fun G' H' s1 s2=>⟨xs,(s2.jF (s1.jF h)).sq,by rw[r.length];exact aA _⟩⟩;obtain⟨v,hv,rv⟩:=r.get hd;have hs:iI K H' a xs:=(s2.jF (s1.jF h)).sq;refine⟨⟨xs,v,hs,hv⟩,fun u H2 hy=>?_⟩;obtain⟨e,y⟩:=hy;subst e;have:=y xs hs;rw[hv] at this;cases this;exact⟨G',.refl s2,rv.mono s1⟩
theorem Sj{K:Z9}{G:Hp}{a:Addr}{xs:List V}{ds:List D}(h:jE K G a xs)(r:f9 K G xs ds):vE K (Jn K a) G ds:=by
 refine⟨fun i d G' H' hd s1 s2=>?_,fun G' H' s1 s2=>⟨xs,s2.tF (s1.tF h),by rw[r.length];exact aA _⟩⟩;obtain⟨v,hv,rv⟩:=r.get hd;have hs:jE K H' a xs:=s2.tF (s1.tF h);refine⟨⟨xs,v,hs,hv⟩,fun u H2 hy=>?_⟩;obtain⟨e,y⟩:=hy;subst e;have:=y xs hs;rw[hv] at this;cases this;exact⟨G',.refl s2,rv.mono s1⟩
theorem Si{K:Z9}{G:Hp}(z:Str):vE K (EO z) G (z.cps.toList.map fun c=>.str ⟨#[c]⟩):=by
 refine⟨fun i d G' H' hd s1 s2=>?_,fun G' H' s1 s2=>?_⟩
 ·rw[aH] at hd;cases e:z.cps.toList[i]? with
  | none=>rw[e] at hd;cases hd
  | some c=>
   rw[e] at hd;cases hd;have hc:z.cps[i]?=some c:=by simpa using e
   refine⟨(Array.getElem?_eq_some_iff.mp hc).1,fun v H2 hy=>?_⟩;obtain⟨e2,c',uQ,rfl⟩:=hy;subst e2;rw[hc] at uQ;cases uQ;exact⟨G',.refl s2,zE _ _ _⟩
 ·show _=_;simp
theorem UY{K:Z9}{G:Hp}(lo:Int)(n:Nat):vE K (ER lo n) G ((List.range n).map fun(i:Nat)=>.int (lo+i)):=by
 refine⟨fun i d G' H' hd s1 s2=>?_,fun G' H' s1 s2=>?_⟩
 ·rw[aH] at hd;cases e:(List.range n)[i]? with
  | none=>rw[e] at hd;cases hd
  | some c=>
   rw[e] at hd;cases hd;obtain⟨h1,h2⟩:=aB.mp e;have h3:i<n:=by simpa using h1
   have h4:c=i:=by rw[<-h2];simp
   subst h4;refine⟨h3,fun v H2 hy=>?_⟩;obtain⟨e2,rfl⟩:=hy;subst e2;exact⟨G',.refl s2,nz _ _ _⟩
 ·show n<=_;simp
noncomputable def se(ds:List D):List D:=ds.mapIdx fun i d=>.tup [.int (i:Nat),d]
theorem LK{K:Z9}{G:Hp}{t:Addr}{x y:V}{d e:D}(s1:G t=some (.tup [x,y]))(r1:Rep K G x d)(r2:Rep K G y e):Rep K G (.ref t) (.tup [d,e]):=by
 simp only[Rep];exact⟨t,[x,y],rfl,s1,f9.cons r1 (f9.cons r2 f9.nil)⟩
theorem TB{K:Z9}{G:Hp}{a:Addr}{xs:List V}{ds:List D}(h:oh K G a xs)(r:f9 K G xs ds):vE K (Jo K a) G (se ds):=by
 refine⟨fun i d G' H' hd s1 s2=>?_,fun G' H' s1 s2=>⟨xs,(s2.jF (s1.jF h)).sq,by rw[r.length];simp[se]⟩⟩;unfold se at hd;rw[List.getElem?_mapIdx] at hd;cases e:ds[i]? with
 | none=>rw[e] at hd;cases hd
 | some d'=>
  rw[e] at hd;cases hd;obtain⟨v,hv,rv⟩:=r.get e;have hs:iI K H' a xs:=(s2.jF (s1.jF h)).sq;refine⟨⟨xs,v,hs,hv⟩,fun u H2 hy=>?_⟩;obtain⟨t,rfl,ht,y⟩:=hy;obtain⟨x,hx,rfl⟩:=y xs hs;rw[hv] at hx;cases hx;have x2:Ext G' H' (upd G' t (.tup [.int i,v])) (upd H' t (.tup [.int i,v])):=.new s2 ht;exact⟨_,x2,LK lA (nz _ _ _) ((rv.mono s1).mono x2.g)⟩
noncomputable def zd(ds es:List D):List D:=List.zipWith (fun d e=>.tup [d,e]) ds es
theorem Sh{K:Z9}{G:Hp}{a b:Addr}{xs ys:List V}{ds es:List D}(h:oh K G a xs)(r:f9 K G xs ds)(h':oh K G b ys)(r':f9 K G ys es):vE K (Jm K a b) G (zd ds es):=by
 refine⟨fun i d G' H' hd s1 s2=>?_,fun G' H' s1 s2=>⟨xs,ys,(s2.jF (s1.jF h)).sq,(s2.jF (s1.jF h')).sq,?_⟩⟩
 ·unfold zd at hd;rw[List.getElem?_zipWith] at hd;cases e:ds[i]? with
  | none=>rw[e] at hd;cases hd
  | some d'=>
   cases e2:es[i]? with
   | none=>rw[e,e2] at hd;cases hd
   | some d2=>
    rw[e,e2] at hd;cases hd;obtain⟨v,hv,rv⟩:=r.get e;obtain⟨v',tJ,nI⟩:=r'.get e2;have hs:iI K H' a xs:=(s2.jF (s1.jF h)).sq;have Aa:iI K H' b ys:=(s2.jF (s1.jF h')).sq;refine⟨⟨xs,ys,v,v',hs,Aa,hv,tJ⟩,fun u H2 hy=>?_⟩;obtain⟨t,rfl,ht,y⟩:=hy;obtain⟨x,x',hx,sI,rfl⟩:=y xs ys hs Aa;rw[hv] at hx;rw[tJ] at sI;cases hx;cases sI;have x2:Ext G' H' (upd G' t (.tup [v,v'])) (upd H' t (.tup [v,v'])):=.new s2 ht;exact⟨_,x2,LK lA ((rv.mono s1).mono x2.g) ((nI.mono s1).mono x2.g)⟩
 ·rw[r.length,r'.length];unfold zd;rw[List.length_zipWith];omega
theorem kR{l:Expr}{te:TD}(h:PD X l te):PId X tg l (jT te):=by
 obtain⟨t,p,q⟩:=h;refine⟨_,P1 p,fun ρ σ G0 H0 G H Q P E h k=>q ρ σ G0 H0 G H _ _ E h fun v H' r G' x rr hq=>?_⟩;obtain⟨G2,x2,rv,_⟩:=rr.freeze x;unfold Ft at hq;split at hq
 ·rename_i ds e;rw[e] at rv;simp only[Rep] at rv;obtain⟨a,xs,rfl,h1,h2⟩:=rv;exact .inl ⟨a,rfl,⟨xs,(x2.s.jF h1).sq⟩,k _ H' _ G2 x2 (TC h1 h2) hq⟩
 ·rename_i ds e;rw[e] at rv;simp only[Rep] at rv;obtain⟨a,xs,rfl,h1,h2⟩:=rv;exact .inr (.inl ⟨a,rfl,⟨xs,x2.s.qt h1⟩,k _ H' _ G2 x2 (Sj (jE.of h1) h2) hq⟩)
 ·rename_i z e;rw[e] at rv;simp only[Rep] at rv;exact .inr (.inr ⟨z,rv,k _ H' _ G2 x2 (Si z) hq⟩)
 ·exact hq.elim
def rg(ts:nE):oH:=fun ρ Q=>ts ρ fun ds=>match ds with
 | [.int j]=>-(2 ^ 62)<=j/\j<2 ^ 62/\Q ((List.range j.toNat).map fun(i:Nat)=>.int (0+i))
 | _=>False
theorem oC{K:Z9}{G:Hp}{vs:List V}{d:D}(h:f9 K G vs [d]):∃v,vs=[v]/\Rep K G v d:=by
 match vs,h with
 | [],h=>simp only[f9] at h
 | [v],h=>simp only[f9] at h;exact⟨v,rfl,h.1⟩
 | v::w::r,h=>simp only[f9] at h;exact absurd h.2 (by simp)
theorem AI{K:Z9}{G:Hp}{vs:List V}{d e:D}(h:f9 K G vs [d,e]):∃v w,vs=[v,w]/\Rep K G v d/\Rep K G w e:=by
 match vs,h with
 | [],h=>simp only[f9] at h
 | v::r,h=>
  simp only[f9] at h;obtain⟨w,rfl,hw⟩:=oC h.2;exact⟨v,w,rfl,h.1,hw⟩
theorem tx{a:Expr}{ts:nE}{p:Pos}(hm:X.mg "range"=none)(ha:qL X [a] ts)(hg:Gl X "range":=by rfl)(hs:starEach [a] X.env=[(false,eval a X.env)]:=by rfl):PId X tg (.Call (.Name "range" p) [a] [] pos) (rg ts):=by
 obtain⟨t,pp,q⟩:=ha;refine⟨_,UE hg hm pp hs,fun ρ σ G0 H0 G H Q P E h k=>q ρ σ G0 H0 G H _ _ E h fun vs H' ds G' x rs hq=>?_⟩;split at hq
 ·obtain⟨v,rfl,rv⟩:=oC rs;simp only[Rep] at rv;subst rv;exact⟨_,rfl,hq.1,hq.2.1,k _ H' _ G' x (UY 0 _) hq.2.2⟩
 ·exact hq.elim
def w6(ts:nE):oH:=fun ρ Q=>ts ρ fun ds=>match ds with
 | [.lst es]=>Q (se es)
 | _=>False
theorem zH{a:Expr}{ts:nE}{p tp:Pos}{elts:List Expr}{x1:Nat}(hm:X.mg "enumerate"=none)(ha:qL X [a] ts)(hg:Gl X "enumerate":=by rfl)(hs:starEach [a] X.env=[(false,eval a X.env)]:=by rfl):PId X (.Tuple elts x1 tp) (.Call (.Name "enumerate" p) [a] [] pos) (w6 ts):=by
 obtain⟨t,pp,q⟩:=ha;refine⟨_,Rw hg hm pp hs,fun ρ σ G0 H0 G H Q P E h k=>q ρ σ G0 H0 G H _ _ E h fun vs H' ds G' x rs hq=>?_⟩;split at hq
 ·obtain⟨v,rfl,rv⟩:=oC rs;simp only[Rep] at rv;obtain⟨a,xs,rfl,h1,h2⟩:=rv;exact⟨a,xs,rfl,x.s.jF h1,k _ H' _ G' x (TB h1 h2) hq⟩
 ·exact hq.elim
def vb(ts:nE):oH:=fun ρ Q=>ts ρ fun ds=>match ds with
 | [.lst es,.lst fs]=>Q (zd es fs)
 | _=>False
theorem DB{a b:Expr}{ts:nE}{p tp:Pos}{elts:List Expr}{x1:Nat}(hm:X.mg "zip"=none)(ha:qL X [a,b] ts)(hg:Gl X "zip":=by rfl)(hs:starEach [a,b] X.env=[(false,eval a X.env),(false,eval b X.env)]:=by rfl)(uc:starEach [b] X.env=[(false,eval b X.env)]:=by rfl) :
  PId X (.Tuple elts x1 tp) (.Call (.Name "zip" p) [a,b] [] pos) (vb ts):=by
 obtain⟨t,pp,q⟩:=ha;refine⟨_,PZ hg hm pp hs uc,fun ρ σ G0 H0 G H Q P E h k=>q ρ σ G0 H0 G H _ _ E h fun vs H' ds G' x rs hq=>?_⟩;split at hq
 ·obtain⟨v,w',rfl,rv,t9⟩:=AI rs;simp only[Rep] at rv t9;obtain⟨a,xs,rfl,h1,h2⟩:=rv;obtain⟨b,ys,rfl,h3,h4⟩:=t9;exact⟨a,b,rfl,⟨xs,(x.s.jF h1).sq⟩,⟨ys,(x.s.jF h3).sq⟩,k _ H' _ G' x (Sh h1 h2 h3 h4) hq⟩
 ·exact hq.elim
def mS(wi:oH)(g:lX)(tb:TX):TX:=fun D ρ=>wi ρ fun ds=>∃Iv:Nat->Ev->Prop,Iv 0 ρ/\
 (∀i d ρ',ds[i]?=some d->Iv i ρ'->g d ρ' fun jc=>tb { D with nx:=Iv (i+1),ct:=Iv (i+1),bk:=D.nx } jc)/\∀ρ',Iv ds.length ρ'->D.nx ρ'
theorem oQ{iter:Expr}{body:List Stmt}{wi:oH}{g:lX}{tb:TX}(hp:PassesOwn (model X.prog X.w) X.A X.env X.xe)(hc:X.calm=true)(hi:PId X tg iter wi)(hg:u5 X tg g)(hb:rQ X body tb)
  (hs:∀x,foldedSetIterable iter X.env x=pure x:=by intro _;rfl):PX X (.For tg iter body [] pos) (mS wi g tb):=by
 obtain⟨t1,p1,q1⟩:=hi;obtain⟨t2,p2,q2⟩:=hg;obtain⟨t3,p3,q3⟩:=hb;refine⟨_,Kt hp hc p1 p2 p3 hs,fun ρ σ G0 H0 G H D E k h gg=>q1 ρ σ G0 H0 G H _ _ k h fun J H1 ds G1 x1 wk hq=>?_⟩;obtain⟨Iv,i0,turn,fin⟩:=hq;refine⟨fun i m gK H'=>m=ds.length-i/\i<=ds.length/\∃ρ' G',ie X.K G0 H0 ρ' gK G' H'/\gz G1 G'/\Iv i ρ',⟨ds.length,by simp,a9 _,ρ,G1,k.ext x1,gz.refl _,i0⟩,?_⟩;rintro i m gK H' ⟨rfl,hi,ρ',G',k',s',iv⟩;by_cases gL:i<ds.length
 ·obtain⟨w1,w2⟩:=wk;obtain⟨go,yl⟩:=w1 i ds[i] G' H' (ai gL) s' k'.e.s;refine .inr ⟨go,fun oJ H2=>∃jc G2,ie X.K G0 H0 jc oJ G2 H2/\gz G1 G2/\Iv (i+1) jc,fun oJ H2 ⟨jc,G2,k2,s2,XU⟩=>⟨ds.length-(i+1),by omega,rfl,gL,jc,G2,k2,s2,XU⟩,fun v H2 hy=>?_⟩;obtain⟨G2,x2,rv⟩:=yl v H2 hy;refine q2 ρ' gK G0 H0 G2 H2 ds[i] v _ _ (k'.ext x2) rv (turn i ds[i] ρ' (ai gL) iv) fun vD pw G3 H3 k3 x3 kO=>?_
  have s3:gz G1 G3:=(s'.trans x2.g).trans x3.g;refine q3 vD pw G0 H0 G3 H3 _ _ k3 kO ⟨fun uk tP G4 H4 s4 k4 h4=>⟨uk,G4,k4,s3.trans s4,h4⟩,gg.rt,fun uk tP G4 H4 s4 k4 h4=>gg.nx uk tP G4 H4 ((x1.g.trans s3).trans s4) k4 h4,fun uk tP G4 H4 s4 k4 h4=>⟨uk,G4,k4,s3.trans s4,h4⟩⟩
 ·have e:i=ds.length:=by omega
  subst e;exact .inl ⟨wk.2 G' H' s' k'.e.s,gg.nx ρ' gK G' H' (x1.g.trans s') k' (fin ρ' iv)⟩
def Fs(c:mT)(tb:TX):TX:=fun D ρ=>∃W:Nat->Ev->Prop,(∃m,W m ρ)/\∀m ρ',W m ρ'->c ρ' fun b=>if b=true then tb { D with nx:=fun jc=>∃m',m'<m/\W m' jc,ct:=fun jc=>∃m',m'<m/\W m' jc,bk:=D.nx } ρ' else D.nx ρ'
theorem LJ{c:Expr}{body:List Stmt}{tc:mT}{tb:TX}(hp:PassesOwn (model X.prog X.w) X.A X.env X.xe)(hc:PB X c tc)(hb:rQ X body tb):PX X (.While c body [] pos) (Fs tc tb):=by
 obtain⟨t1,p1,q1⟩:=hc;obtain⟨t3,p3,q3⟩:=hb;refine⟨_,S4 hp p1 p3,fun ρ σ G0 H0 G H D E k h gg=>?_⟩;obtain⟨W,⟨m0,w0⟩,turn⟩:=h;refine⟨fun m gK H'=>∃ρ' G',ie X.K G0 H0 ρ' gK G' H'/\gz G G'/\W m ρ',⟨m0,ρ,G,k,gz.refl _,w0⟩,?_⟩;rintro m gK H' ⟨ρ',G',k',s',wm⟩;refine q1 ρ' gK G0 H0 G' H' _ _ k' (turn m ρ' wm) fun b H2 G2 x2 hq=>?_
 cases b with
 | true=>
  rw[if_pos rfl] at hq ⊢;refine⟨fun oJ H2=>∃m',m'<m/\∃jc G2,ie X.K G0 H0 jc oJ G2 H2/\gz G G2/\W m' jc,fun oJ H2 h2=>h2,?_⟩;have s2:gz G G2:=s'.trans x2.g;exact q3 ρ' gK G0 H0 G2 H2 _ _ (k'.ext x2) hq ⟨fun uk tP G4 H4 s4 k4 gD=>by obtain⟨m',hm,h4⟩:=gD;exact⟨m',hm,uk,G4,k4,s2.trans s4,h4⟩,gg.rt,fun uk tP G4 H4 s4 k4 h4=>gg.nx uk tP G4 H4 (s2.trans s4) k4 h4,fun uk tP G4 H4 s4 k4 gD=>by obtain⟨m',hm,h4⟩:=gD;exact⟨m',hm,uk,G4,k4,s2.trans s4,h4⟩⟩
 | false=>
  rw[if_neg aZ] at hq ⊢;exact gg.nx ρ' gK G2 H2 (s'.trans x2.g) (k'.ext x2) hq
end
noncomputable def tR(ρ:Ev):Option Nat->Sl
 | none=>.un
 | some j=>match gt ρ j with
  | .fz d=>.fz d
  | _=>.un
noncomputable def j9(m:List (Option Nat))(ρ:Ev):Ev:=m.map (tR ρ)
theorem vk{m:List (Option Nat)}{ρ:Ev}{i:Nat}:gt (m.map (tR ρ)) i=match m[i]? with
  | some o=>tR ρ o
  | none=>.un:=by
 induction m generalizing i with
 | nil=>simp[gt]
 | cons a r ih=>
  cases i with
  | zero=>simp[gt]
  | succ i=>simp only[ay,gt,cj];exact ih
def tX(m:List (Option Nat))(g:lX):Prop:=∀d ρ Q,g d ρ Q->g d ρ fun jc=>Q jc/\jc.length=ρ.length/\∀j c,m[j]?=some (some c)->gt jc j=gt ρ j
def Dz(m:List (Option Nat))(g:sW):Prop:=∀ds ρ Q,g ds ρ Q->g ds ρ fun jc=>Q jc/\jc.length=ρ.length/\∀j c,m[j]?=some (some c)->gt jc j=gt ρ j
theorem lB{m:List (Option Nat)}{i:Nat}(h:m[i]?=some none:=by rfl):tX m (gJ i):=fun d ρ Q q=>by
 refine⟨q,by simp,fun j c hj=>?_⟩;rw[vO,if_neg];rintro⟨e,_⟩;subst e;rw[h] at hj;cases hj
theorem LI{m:List (Option Nat)}:Dz m kW:=fun ds ρ Q q=>by
 unfold kW at q ⊢;split at q
 ·exact⟨q,rfl,fun _ _ _=>rfl⟩
 ·exact q.elim
theorem A6{m:List (Option Nat)}{t:lX}{u:sW}(mono:∀d ρ (Q Q':Ev->Prop),(∀ρ',Q ρ'->Q' ρ')->t d ρ Q->t d ρ Q')(uG:∀d ρ (Q Q':Ev->Prop),(∀ρ',Q ρ'->Q' ρ')->u d ρ Q->u d ρ Q')(h1:tX m t)(h2:Dz m u):Dz m (il t u):=fun ds ρ Q q=>by
 unfold il at q ⊢;split at q
 ·refine mono _ _ _ _ (fun ρ' gD=>?_) (h1 _ _ _ q);obtain⟨q',l',k'⟩:=gD;exact uG _ _ _ _ (fun jc gD=>by obtain⟨q2,l2,k2⟩:=gD;exact⟨q2,l2.trans l',fun j c hj=>(k2 j c hj).trans (k' j c hj)⟩) (h2 _ _ _ q')
 ·exact q.elim
theorem LH{m:List (Option Nat)}{n:Nat}{u:sW}(h2:Dz m u):tX m (mQ n u):=fun d ρ Q q=>by
 unfold mQ at q ⊢;split at q
 ·exact⟨q.1,h2 _ _ _ q.2⟩
 ·exact q.elim
theorem vW{i:Nat}:∀d ρ (Q Q':Ev->Prop),(∀ρ',Q ρ'->Q' ρ')->gJ i d ρ Q->gJ i d ρ Q':=fun _ _ _ _ h q=>h _ q
theorem A1:∀d ρ (Q Q':Ev->Prop),(∀ρ',Q ρ'->Q' ρ')->kW d ρ Q->kW d ρ Q':=fun _ _ _ _ h q=>by
 unfold kW at q ⊢;split at q
 ·exact h _ q
 ·exact q.elim
theorem D3{t:lX}{u:sW}(mono:∀d ρ (Q Q':Ev->Prop),(∀ρ',Q ρ'->Q' ρ')->t d ρ Q->t d ρ Q')(uG:∀d ρ (Q Q':Ev->Prop),(∀ρ',Q ρ'->Q' ρ')->u d ρ Q->u d ρ Q'):∀d ρ (Q Q':Ev->Prop),(∀ρ',Q ρ'->Q' ρ')->il t u d ρ Q->il t u d ρ Q':=fun _ _ _ _ h q=>by
 unfold il at q ⊢;split at q
 ·exact mono _ _ _ _ (fun ρ' q'=>uG _ _ _ _ h q') q
 ·exact q.elim
theorem xk{m:List (Option Nat)}{i j n:Nat}(h:m[i]?=some none:=by rfl)(h':m[j]?=some none:=by rfl):tX m (mQ n (il (gJ i) (il (gJ j) kW))):=
 LH (A6 vW (D3 vW A1) (lB h) (A6 vW A1 (lB h') LI))
theorem Vg{m:List (Option Nat)}{i j k n:Nat}(h:m[i]?=some none:=by rfl)(h':m[j]?=some none:=by rfl)(yR:m[k]?=some none:=by rfl):tX m (mQ n (il (gJ i) (il (gJ j) (il (gJ k) kW)))):=
 LH (A6 vW (D3 vW (D3 vW A1)) (lB h) (A6 vW (D3 vW A1) (lB h') (A6 vW A1 (lB yR) LI)))
def yZ(X:Cx)(ifs:List Expr)(t:mT):Prop:=∃tt,As X ifs tt/\∀(ρ:Ev) (σ:St) (G0 H0 G H:Hp) (Q:Bool->Prop) (P:Bool->Hp->Prop),ie X.K G0 H0 ρ σ G H->t ρ Q->
 (∀b H' G',Ext G H G' H'->Q b->P b H')->tt σ H P
def mU:mT:=fun _ Q=>Q true
theorem ph{X:Cx}:yZ X [] mU:=⟨_,Ry,fun ρ σ G0 H0 G H Q P E h k=>k true H G (.refl E.e.s) h⟩
theorem pX{X:Cx}{c:Expr}{t:mT}(h:PB X c t):yZ X [c] t:=let⟨tt,p,q⟩:=h;⟨tt,Rx p,q⟩
def jG(wi:oH)(m:List (Option Nat))(g:lX)(tc:mT)(te:TD):TD:=fun ρ Q=>wi ρ fun ds=>∃Iv:Nat->List D->Prop,Iv 0 []/\
 (∀i d acc,ds[i]?=some d->Iv i acc->g d (j9 m ρ) fun jc=>tc jc fun b=>if b=true then te jc fun r=>acc.length<sizeLine/\Iv (i+1) (acc++[r.val]) else Iv (i+1) acc)/\∀acc,Iv ds.length acc->Q (.ow acc)
section
variable {X:Cx} {elt iter tg:Expr} {ifs:List Expr} {scope:Scope} {pos:Pos} {N':List Str} {m:List (Option Nat)} {wi:oH} {g:lX} {tc:mT} {te:TD}
theorem Dy(cs:gT X N' m scope)(hk:tX m g){ww:TI}{gg:uj TG}{BG:uj TT}{tee:uj TE}
  (q1:∀(ρ:Ev) (σ:St) (G0 H0 G H:Hp) (Q:List D->Prop) (P:It->Hp->Prop),ie X.K G0 H0 ρ σ G H->wi ρ Q->(∀J H' ds G',Ext G H G' H'->vE X.K J G' ds->Q ds->P J H')->ww σ H P)
  (q2:∀s3 H3 ex (ρ:Ev) (σ:St) (G0 H0 G H:Hp) (d:D) (v:V) (Q:Ev->Prop) (P:St->Hp->Prop),ie X.K G0 H0 ρ σ G H->Rep X.K G v d->g d ρ Q->(∀ρ' gK G' H',ie X.K G0 H0 ρ' gK G' H'->Ext G H G' H'->Q ρ'->P gK H')->gg s3 H3 ex v σ H P)
  (q3:∀s3 H3 ex (ρ:Ev) (σ:St) (G0 H0 G H:Hp) (Q:Bool->Prop) (P:Bool->Hp->Prop),ie X.K G0 H0 ρ σ G H->tc ρ Q->(∀b H' G',Ext G H G' H'->Q b->P b H')->BG s3 H3 ex σ H P)
  (q4:∀s3 H3 ex,sT X.K te (tee s3 H3 ex)):sT X.K (jG wi m g tc te) (AM ww m gg BG tee):=by
 refine fun ρ σ G0 H0 G H Q P E h k=>q1 ρ σ G0 H0 G H _ _ E h fun J H1 ds G1 x1 wk hq=>?_
 obtain⟨Iv,i0,turn,fin⟩:=hq;intro D hD s3 ex;have E1:=E.ext x1;have Jb:G1 D=none:=x1.s.free hD;have mY:∀{i:Nat} {es:List L2.D},gt (j9 m ρ) i=.ow es->False:=fun{i es} h=>by
  unfold j9 at h;rw[vk] at h;split at h
  ·rename_i o _;unfold tR at h;split at h
   ·cases h
   ·split at h<;>cases h
  ·cases h
 have uE:∀{i:Nat} {o:OV},gt (j9 m ρ) i=.ov o->False:=fun{i o} h=>by
  unfold j9 at h;rw[vk] at h;split at h
  ·rename_i o _;unfold tR at h;split at h
   ·cases h
   ·split at h<;>cases h
  ·cases h
 have oO:ie X.K G1 H1 (j9 m ρ) (uI m σ) G1 (upd H1 D (.lst [])):=by
  refine⟨.own x1.s hD,by simp[uI,j9],fun i d h=>?_,fun i es h=>(mY h).elim,fun i j es fs _ h=>(mY h).elim,fun _=>none,fun i es _ h=>(mY h).elim,fun i o h=>(uE h).elim⟩;unfold j9 at h;rw[vk] at h;split at h
  ·rename_i o ho;unfold tR at h;split at h
   ·cases h
   ·rename_i j;split at h
    ·rename_i d' wF;cases h;obtain⟨v,hv,rv⟩:=E1.fz j d wF;refine⟨v,?_,rv⟩;unfold uI;rw[aH,ho];simp[hv]
    ·cases h
  ·cases h
 refine⟨fun i n gK H'=>n=ds.length-i/\i<=ds.length/\∃acc xs G',ie X.K G1 H1 (j9 m ρ) gK G' H'/\H' D=some (.lst xs)/\G' D=none/\f9 X.K G' xs acc/\Iv i acc,
  ⟨ds.length,by simp,a9 _,[],[],G1,oO,lA,Jb,f9.nil,i0⟩,?_⟩
 rintro i n gK H' ⟨rfl,hi,acc,xs,G',E',hx,Cu,rx,iv⟩;by_cases gL:i<ds.length
 ·obtain⟨w1,w2⟩:=wk;obtain⟨go,yl⟩:=w1 i ds[i] G' H' (ai gL) E'.e.g E'.e.s;refine .inr ⟨go,fun oJ H2=>∃acc xs G',ie X.K G1 H1 (j9 m ρ) oJ G' H2/\H2 D=some (.lst xs)/\G' D=none/\f9 X.K G' xs acc/\Iv (i+1) acc,fun oJ H2 h2=>⟨ds.length-(i+1),by omega,rfl,gL,h2⟩,fun v H2 hy=>?_⟩;obtain⟨G2,x2,rv⟩:=yl v H2 hy;refine q2 _ _ _ (j9 m ρ) gK G1 H1 G2 H2 ds[i] v _ _ (E'.ext x2) rv (hk _ _ _ (turn i ds[i] acc (ai gL) iv)) fun vD pw G3 H3 E3 x3 kO=>?_
  obtain⟨kO,IH,IJ⟩:=kO;have weak:∀j,gt (j9 m ρ) j=.un\/gt (j9 m ρ) j=gt vD j:=fun j=>by
   cases hm:m[j]? with
   | none=>left;unfold j9;rw[vk,hm]
   | some o=>
    cases o with
    | none=>left;unfold j9;rw[vk,hm];rfl
    | some c=>right;exact(IJ j c hm).symm
  have Ht:=x2.trans x3;refine q3 _ _ _ vD pw G1 H1 G3 H3 _ _ E3 kO fun b H4 G4 x4 wt=>?_
  have oS:=Ht.trans x4;have E4:=(E3.ext x4).weak (ρ':=j9 m ρ) (IH.symm) weak;have xw:H4 D=some (.lst xs):=oS.h _ _ hx;have Cs:G4 D=none:=oS.n D Cu (by rw[hx];exact nofun);cases b with
  | false=>
   rw[if_neg aZ] at wt ⊢;exact⟨acc,xs,G4,E4,xw,Cs,rx.mono oS.g,wt⟩
  | true=>
   rw[if_pos rfl] at wt ⊢;refine q4 _ _ _ vD pw G1 H1 G4 H4 _ _ (E3.ext x4) wt fun v5 H5 r5 G5 x5 HE yH=>?_
   obtain⟨G6,x6,XA,_⟩:=HE.freeze x5;have E6:=E4.ext x6;have Ig:H5 D=some (.lst xs):=x6.h _ _ xw;have Cr:G6 D=none:=x6.n D Cs (by rw[xw];exact nofun);have r6:f9 X.K G6 xs acc:=(rx.mono oS.g).mono x6.g;refine⟨xs,Ig,by rw[r6.length];exact yH.1,acc++[r5.val],xs++[v5],G6,?_,lA,Cr,r6.append (f9.cons XA f9.nil),yH.2⟩;refine⟨⟨E6.e.g,fun b o e=>by rw[iy (nQ e hD)];exact E6.e.h b o e,fun b o e=>by rw[iy (nQ e Cr)];exact E6.e.s b o e,E6.e.n⟩,E6.len,E6.fz,fun i es h=>(mY h).elim,fun i j es fs _ h=>(mY h).elim,fun _=>none,fun i es _ h=>(mY h).elim,fun i o h=>(uE h).elim⟩
 ·have e:i=ds.length:=by omega
  subst e;refine .inl ⟨wk.2 G' H' E'.e.g E'.e.s,k _ H' (.ow acc) G' (x1.trans E'.e) ⟨D,xs,rfl,x1.h.free hD,Cu,hx,rx⟩ (fin acc iv)⟩
theorem ny(hc:X.calm=true)(cs:gT X N' m scope)(hk:tX m g)(hi:PId X tg iter wi)(hg:∀s3 H3 ex,u5 (lW X N' scope s3 H3 ex) tg g)(ht:∀s3 H3 ex,yZ (lW X N' scope s3 H3 ex) ifs tc)
  (he:∀s3 H3 ex,PD (lW X N' scope s3 H3 ex) elt te) (hs:∀x,foldedSetIterable iter X.env x=pure x:=by intro _;rfl):PD X (.ListComp elt [⟨tg,iter,ifs,0⟩] scope pos) (jG wi m g tc te):=by
 obtain⟨ww,p1,q1⟩:=hi;exact⟨_,Lq (g:=fun s3 H3 ex=>(hg s3 H3 ex).choose) (tc:=fun s3 H3 ex=>(ht s3 H3 ex).choose) (te:=fun s3 H3 ex=>(he s3 H3 ex).choose) hc cs p1 (fun s3 H3 ex=>(hg s3 H3 ex).choose_spec.1) (fun s3 H3 ex=>(ht s3 H3 ex).choose_spec.1) (fun s3 H3 ex=>(he s3 H3 ex).choose_spec.1) hs,
  Dy cs hk q1 (fun s3 H3 ex=>(hg s3 H3 ex).choose_spec.2) (fun s3 H3 ex=>(ht s3 H3 ex).choose_spec.2) (fun s3 H3 ex=>(he s3 H3 ex).choose_spec.2)⟩
theorem FT(i:Nat){x:Str}{pos' nX:Pos}(hc:X.calm=true)(cs:gT X N' m scope)(hk:tX m g)(hi:PId X tg iter wi)(hg:∀s3 H3 ex,u5 (lW X N' scope s3 H3 ex) tg g)(ht:∀s3 H3 ex,yZ (lW X N' scope s3 H3 ex) ifs tc)
  (he:∀s3 H3 ex,PD (lW X N' scope s3 H3 ex) elt te) (hN:X.N.Nodup:=by assumption) (yL:X.N[i]?=some x:=by rfl) (hx:Loc X.env.scope x:=by first | exact Or.inl rfl | exact Or.inr rfl) (hs:∀x,foldedSetIterable iter X.env x=pure x:=by intro _;rfl)
  (yG:swapsWith (.ListComp elt [⟨tg,iter,ifs,0⟩] scope pos) (some (.Name x pos')) nX.line X.env=pure true:=by rfl)
  (hf:X.fn x=true\/X.env.scope.names.lookup x=some .local:=by first | exact .inl rfl | exact .inr rfl | assumption) :
  PX X (.Assign [.Name x pos'] (.ListComp elt [⟨tg,iter,ifs,0⟩] scope pos) nX) (oA i (jG wi m g tc te)):=by
 obtain⟨ww,p1,q1⟩:=hi;refine⟨_,FE (g:=fun s3 H3 ex=>(hg s3 H3 ex).choose) (tc:=fun s3 H3 ex=>(ht s3 H3 ex).choose) (te:=fun s3 H3 ex=>(he s3 H3 ex).choose) hN yL hx hc cs p1 (fun s3 H3 ex=>(hg s3 H3 ex).choose_spec.1) (fun s3 H3 ex=>(ht s3 H3 ex).choose_spec.1) (fun s3 H3 ex=>(he s3 H3 ex).choose_spec.1) hs yG hf,fun ρ σ G0 H0 G H D E k h gg=>?_⟩;exact Dy cs hk q1 (fun s3 H3 ex=>(hg s3 H3 ex).choose_spec.2) (fun s3 H3 ex=>(ht s3 H3 ex).choose_spec.2) (fun s3 H3 ex=>(he s3 H3 ex).choose_spec.2) ρ σ G0 H0 G H _ _ k h fun v H' r G' x rr hq=>gg.nx _ _ G' H' x.g (k.put x rr) hq
theorem zG(i:Nat){x:Str}{pos' nX:Pos}(hc:X.calm=true)(cs:gT X N' m scope)(hk:tX m g)(hi:PId X tg iter wi)(hg:∀s3 H3 ex,u5 (lW X N' scope s3 H3 ex) tg g)(ht:∀s3 H3 ex,yZ (lW X N' scope s3 H3 ex) ifs tc)
  (he:∀s3 H3 ex,PD (lW X N' scope s3 H3 ex) elt te) (hN:X.N.Nodup:=by assumption) (yL:X.N[i]?=some x:=by rfl) (hx:Loc X.env.scope x:=by first | exact Or.inl rfl | exact Or.inr rfl) (hs:∀x,foldedSetIterable iter X.env x=pure x:=by intro _;rfl)
  (yG:swapsWith (.ListComp elt [⟨tg,iter,ifs,0⟩] scope pos) (some (.Name x pos')) nX.line X.env=pure true:=by rfl)
  (hf:X.fn x=true\/X.env.scope.names.lookup x=some .local:=by first | exact .inl rfl | exact .inr rfl | assumption) :
  PX X (.Assign [.Name x pos'] (.ListComp elt [⟨tg,iter,ifs,0⟩] scope pos) nX) (ig i (jG wi m g tc te)):=by
 obtain⟨ww,p1,q1⟩:=hi;refine⟨_,FE (g:=fun s3 H3 ex=>(hg s3 H3 ex).choose) (tc:=fun s3 H3 ex=>(ht s3 H3 ex).choose) (te:=fun s3 H3 ex=>(he s3 H3 ex).choose) hN yL hx hc cs p1 (fun s3 H3 ex=>(hg s3 H3 ex).choose_spec.1) (fun s3 H3 ex=>(ht s3 H3 ex).choose_spec.1) (fun s3 H3 ex=>(he s3 H3 ex).choose_spec.1) hs yG hf,fun ρ σ G0 H0 G H D E k h gg=>?_⟩;refine Dy cs hk q1 (fun s3 H3 ex=>(hg s3 H3 ex).choose_spec.2) (fun s3 H3 ex=>(ht s3 H3 ex).choose_spec.2) (fun s3 H3 ex=>(he s3 H3 ex).choose_spec.2) ρ σ G0 H0 G H _ _ k h fun v H' r G' x rr hq=>?_
 obtain⟨G2,x2,rv,_⟩:=rr.freeze x;exact gg.nx _ _ G2 H' x2.g (k.put x2 (r:=.fz r.val) rv) hq
end
noncomputable abbrev iF:=List D->(R->Prop)->Prop
def y3(K:Z9)(n:Nat)(t:iF):Sp:=fun vs H Q _=>∃G ds Qr,gz G H/\f9 K G vs ds/\ds.length=n/\t ds Qr/\∀v H' r G',Ext G H G' H'->jl K G' H' H v r->Qr r->Q v H'
noncomputable def vN(N:List Str)(ds:List D):Ev:=ds.map Sl.fz++List.replicate (N.length-ds.length) .un
theorem Vs{ds:List D}{l:List Sl}{i:Nat}{s:Sl}(h:gt (ds.map Sl.fz++l) i=s):(∃d,ds[i]?=some d/\s=.fz d)\/(ds.length<=i/\gt l (i-ds.length)=s):=by
 induction ds generalizing i with
 | nil=>exact .inr ⟨a9 _,by simpa using h⟩
 | cons d ds ih=>
  cases i with
  | zero=>simp only[ay,c9,gt] at h;exact .inl ⟨d,rfl,h.symm⟩
  | succ i=>
   simp only[ay,c9,gt] at h;rcases ih h with⟨e,h1,h2⟩ | ⟨h1,h2⟩
   ·exact .inl ⟨e,by simpa using h1,h2⟩
   ·refine .inr ⟨by simp;omega,?_⟩;rw[aG];rw[show i+1-(ds.length+1)=i-ds.length by omega];exact h2
theorem Tz{n i:Nat}:gt (List.replicate n Sl.un) i=.un:=by
 induction n generalizing i with
 | zero=>simp[gt]
 | succ n ih=>
  cases i with
  | zero=>rfl
  | succ i=>exact ih
theorem LG{K:Z9}{G H:Hp}{N:List Str}{vs:List V}{ds:List D}(s:gz G H)(r:f9 K G vs ds):ie K G H (vN N ds) (oO N vs) G H:=by
 have hl:=r.length;have c:∀{i:Nat} {t:Sl},gt (vN N ds) i=t->t≠.un->∃d,ds[i]?=some d/\t=.fz d:=fun{i t} h n=>by
  rcases Vs h with h | ⟨_,h⟩
  ·exact h
  ·rw[Tz] at h;exact absurd h.symm n
 refine⟨.refl s,by simp[oO,vN,hl],fun i d h=>?_,fun i es h=>?_,fun i j es fs _ h=>?_,fun _=>none,fun i es _ h=>?_,fun i o h=>?_⟩
 ·obtain⟨d',h1,h2⟩:=c h (by simp);cases h2;obtain⟨v,hv,rv⟩:=r.get h1;have hi:i<vs.length:=(aB.mp hv).1;refine⟨v,?_,rv⟩;unfold oO;rw[List.getElem?_append_left (by simpa using hi),aH,hv];rfl
 ·obtain⟨d',h1,h2⟩:=c h (by simp);cases h2
 ·obtain⟨d',h1,h2⟩:=c h (by simp);cases h2
 ·obtain⟨d',h1,h2⟩:=c h (by simp);cases h2
 ·obtain⟨d',h1,h2⟩:=c h (by simp);cases h2
section
variable {P:Program} {w:World} {K:Z9} {mg:Str->Option Value} {base:Heap}
theorem FR{x qual:Str}{st:Stmt}{f:Addr}{fd:FuncData}{N ps:List Str}{k:Nat}{t:iF}{T:TX}{dV:Value}(F:pN dV K x qual st f fd)(S:gn N ps (gf st))
  (body:∀(gN:Value) (A:Around) (outer:List Env) (s:Shared) (H:Hp) (E:XK),iL k (A.deeper (envOfC qual (gf st) s.heap.objs.size f gN))->rQ (tS qd P w K mg base N qual (gf st) f gN A outer s H E).vv (gZ st) T)
  (spec:∀(ds:List D) (Qr:R->Prop),ds.length=ps.length->t ds Qr->T { nx:=fun _=>Qr (.fz .non),rt:=Qr } (vN N ds)):lH P w K mg base qd (k+1) f fd ps (y3 K ps.length t):=by
 refine F.ok S (fun vs H Q E h=>?_) (fun gN A outer s H vs Q E hr h=>?_)
 ·obtain⟨G,ds,Qr,_,r,hl,_⟩:=h;rw[r.length,hl]
 ·obtain⟨G,ds,Qr,s0,r,hl,ht,k0⟩:=h;obtain⟨tt,p,q⟩:=body gN A outer s H E hr;exact⟨tt,p,q _ _ G H G H _ _ (LG s0 r) (spec ds Qr hl ht) ⟨fun ρ σ G' H' _ e h=>k0 _ H' _ G' e.e (j7 (Lp _ _)) h,k0,fun _ _ _ _ _ _ h=>h.elim,fun _ _ _ _ _ _ h=>h.elim⟩⟩
end
section
variable {X:Cx} {k n:Nat} {f:Addr} {fd:FuncData} {ps:List Str} {t:iF} {x:Str} {p pos:Pos} {e:Expr} {es:List Expr} {ts:nE}
def iN(n:Nat)(t:iF)(ts:nE):TD:=fun ρ Q=>ts ρ fun ds=>ds.length=n/\t ds Q
theorem RY(F:lH X.prog X.w X.K X.mg X.base qd k f fd ps (y3 X.K n t))(hr:iL k X.A)(hm:X.mg x=some (.ref f))(hk:PySem.W.keepIn X.K (.ref f)=true)(hb:Binds X.K fd ps [])(ha:qL X (e::es) ts)(hg:Gl X x:=by rfl)(qE:(x==("__debug__":Str))=false:=by decide)
  (he:starEach (e::es) X.env=(false,eval e X.env)::starEach es X.env:=by rfl) (kS:(backTo pos (starEach es X.env)).any (·.1)=false:=by rfl):PD X (.Call (.Name x p) (e::es) [] pos) (iN n t ts):=by
 obtain⟨tt,pp,q⟩:=ha;refine⟨_,RF F hr hg hm hk hb .nil JL pp qE he kS,fun ρ σ G0 H0 G H Q P E h k=>q ρ σ G0 H0 G H _ _ E h fun vs H' ds G' x rs hq=>?_⟩;rw[ba];exact⟨G',ds,Q,x.s,rs,hq.1,hq.2,fun v H2 r G2 x2 rr q2=>k v H2 r G2 (x.trans x2) (rr.lR x.h) q2⟩
end
open PySem.StrLaws
noncomputable def nO{α:Type}(xs:List α)(lo hi:Option Int):List α:=(xs.drop (HT.iD xs.length 0 lo)).take (HT.iD xs.length xs.length hi-HT.iD xs.length 0 lo)
noncomputable def uq(z:Str)(lo hi:Option Int):Str:=⟨(nO z.cps.toList lo hi).toArray⟩
theorem w5(v:Int)(n d:Nat):max 0 (min (if v<0 then v+(n:Int) else v) (n:Int))=((HT.iD n d (some v):Nat):Int):=by
 rw[<-HT.pK];by_cases h:v<0
 ·rw[if_pos h,if_pos h];omega
 ·rw[if_neg h,if_neg h];omega
theorem M4(z:Str)(lo hi:Option Int):(Builtin.Str.strSliceIndices lo hi 1 z.length).filterMap (z.cps[·]?)=nO z.cps.toList lo hi:=by
 have hl:z.cps.toList.length=z.length:=by simp[Str.length]
 have e:Builtin.Str.strSliceIndices lo hi 1 z.length=sliceRange ((HT.iD z.length 0 lo:Nat):Int) ((HT.iD z.length z.length hi:Nat):Int) 1:=by
  unfold Builtin.Str.strSliceIndices;cases lo with
  | none=>
   cases hi with
   | none=>rfl
   | some v=>simp only[show((1:Int)>0) from by decide,aR,w5 v z.length z.length];rfl
  | some u=>
   cases hi with
   | none=>simp only[show((1:Int)>0) from by decide,aR,w5 u z.length 0];rfl
   | some v=>simp only[show((1:Int)>0) from by decide,aR,w5 v z.length z.length,w5 u z.length 0]
 rw[e];unfold nO;rw[hl];generalize ha:HT.iD z.length 0 lo=a;generalize hb:HT.iD z.length z.length hi=b;have yP:b<=z.length:=by rw[<-hb];exact HT.mV _ _ (aA _) _
 have Ob:a<=z.length:=by rw[<-ha];exact HT.mV _ _ (a9 _) _
 by_cases kU:a<=b
 ·have:=sliced_plain z kU yP;rw[strSliceIndices_plain kU yP] at this;rw[<-this];unfold sliceRange;simp only[show((1:Int)>0) from by decide,aR];congr 1
  by_cases h:a<b
  ·rw[if_pos (by omega)];rw[show(((b:Int)-(a:Int)+1-1)/1).toNat=b-a by omega];apply List.map_congr_left;intro k _;show((a:Int)+1*(k:Int)).toNat=a+k;omega
  ·rw[if_neg (by omega),show b-a=0 by omega];rfl
 ·rw[show b-a=0 by omega,List.take_zero];unfold sliceRange;simp only[show((1:Int)>0) from by decide,aR];rw[if_neg (by omega)];rfl
theorem Tx(z:Str)(lo hi:Option Int):Txt.slice z lo hi=uq z lo hi:=by
 unfold Txt.slice uq;split
 ·rename_i h;have h':(Builtin.Str.strSliceIndices lo hi 1 z.length).length=z.length:=by simpa using h
  have hl:z.cps.toList.length=z.length:=by simp[Str.length]
  have e:=M4 z lo hi;have h2:(nO z.cps.toList lo hi).length=z.length:=by
   unfold nO;rw[aN,cf,hl];have e1:Builtin.Str.strSliceIndices lo hi 1 z.length=sliceRange ((HT.iD z.length 0 lo:Nat):Int) ((HT.iD z.length z.length hi:Nat):Int) 1:=by
    unfold Builtin.Str.strSliceIndices;cases lo with
    | none=>
     cases hi with
     | none=>rfl
     | some v=>simp only[show((1:Int)>0) from by decide,aR,w5 v z.length z.length];rfl
    | some u=>
     cases hi with
     | none=>simp only[show((1:Int)>0) from by decide,aR,w5 u z.length 0];rfl
     | some v=>simp only[show((1:Int)>0) from by decide,aR,w5 v z.length z.length,w5 u z.length 0]
   rw[e1] at h';unfold sliceRange at h';simp only[show((1:Int)>0) from by decide,aR,ae,cW] at h';have b1:=HT.mV z.length z.length (aA _) hi;have b2:=HT.mV z.length 0 (a9 _) lo;by_cases h3:((HT.iD z.length 0 lo:Nat):Int)<((HT.iD z.length z.length hi:Nat):Int)
   ·rw[if_pos h3] at h';omega
   ·rw[if_neg h3] at h';simp at h';omega
  apply Str.ext';show z.cps=(nO z.cps.toList lo hi).toArray;have h3:nO z.cps.toList lo hi=z.cps.toList:=by
   unfold nO at h2 ⊢;rw[aN,cf,hl] at h2;rw[hl];have b1:=HT.mV z.length z.length (aA _) hi;have a0:HT.iD z.length 0 lo=0\/z.length=0:=by omega
   rcases a0 with a0 | a0
   ·rw[a0,List.drop_zero,Nat.sub_zero];exact bI (by omega)
   ·have:z.cps.toList=[]:=bR (by omega);rw[this];simp
  rw[h3]
 ·rw[M4]
section
variable {X:Cx} {pos:Pos} {e:Expr} {te:TD}
theorem ym:xK X (fun x lo hi H Q=>∃z,x=.str z/\z.length<=sizeLine/\Q (.str (uq z lo hi)) H):=by
 intro Z8 s σ H x v vl vu lo hi sl Q I rx hs pl pu h;obtain⟨z,rfl,hz,q⟩:=h;obtain⟨t,rfl⟩:=rx;refine⟨"str",_,F.slot_str_getitem.lookup,typeIs_str _ _ _,?_⟩;have part:∀{u:Value} {o:Option Int},IsPart u o->∃p:Option (Int×Tok),u=partValue p/\p.map (·.1)=o:=fun h=>by
  cases h with
  | none=>exact⟨none,rfl,rfl⟩
  | int i t=>exact⟨some (i,t),rfl,rfl⟩
 obtain⟨p1,rfl,e1⟩:=part pl;obtain⟨p2,rfl,e2⟩:=part pu;obtain⟨o,ho,hc,hd⟩:=hs;refine wpAny_getItem_str_slice (l:=p1) (u:=p2) (st:=none) ⟨o,ho,hc,hd⟩ rfl ?_;have fin:∀t' k,EP X Z8 σ Q (.str (Txt.slice z lo hi) t') { s with toks:=k }:=fun t' k=>⟨.str (uq z lo hi),H,I.tok k,⟨t',by rw[Tx]⟩,q⟩
 have hle:=aK (Txt.slice_le z lo hi) hz;subst e1 e2;exact post_val_or_str ⟨hle,fin⟩
noncomputable abbrev CO:=Ev->(Option Int->Prop)->Prop
def EJ(X:Cx)(e:Option Expr)(t:CO):Prop:=∃tt,PO X e tt/\∀(ρ:Ev) (σ:St) (G0 H0 G H:Hp) (Q:Option Int->Prop) (P:Option Int->Hp->Prop),ie X.K G0 H0 ρ σ G H->t ρ Q->(∀o H' G',Ext G H G' H'->Q o->P o H')->tt σ H P
def rG:CO:=fun _ Q=>Q none
def pA(te:TD):CO:=fun ρ Q=>te ρ fun r=>match r.val with
 | .int i=>Q (some i)
 | _=>False
theorem tZ:EJ X none rG:=⟨_,RB,fun ρ σ G0 H0 G H Q P E h k=>k none H G (.refl E.e.s) h⟩
theorem rm(h:PD X e te):EJ X (some e) (pA te):=by
 obtain⟨t,p,q⟩:=h;refine⟨_,RA p,fun ρ σ G0 H0 G H Q P E h k=>q ρ σ G0 H0 G H _ _ E h fun v H' r G' x rr hq=>?_⟩;obtain⟨G2,x2,rv,_⟩:=rr.freeze x;split at hq
 ·rename_i i e1;rw[e1] at rv;simp only[Rep] at rv;exact⟨i,rv,k _ H' G2 x2 hq⟩
 ·exact hq.elim
def qI(te:TD)(tl th:CO):TD:=fun ρ Q=>te ρ fun r=>tl ρ fun lo=>th ρ fun hi=>match r.val with
 | .lst ds=>Q (.ow (nO ds lo hi))
 | .str z=>z.length<=sizeLine/\Q (.fz (.str (uq z lo hi)))
 | .tup ds=>¬(HT.iD ds.length 0 lo=0/\HT.iD ds.length ds.length hi=ds.length)/\Q (.fz (.tup (nO ds lo hi)))
 | _=>False
theorem KW{K:Z9}{G:Hp}{xs:List V}{ds:List D}(r:f9 K G xs ds)(lo hi:Option Int):f9 K G (vc xs lo hi) (nO ds lo hi):=by
 unfold vc nO;rw[r.length];exact(r.drop _).take _
theorem sk{lo hi:Option Expr}{tl th:CO}{p2:Pos}(he:PD X e te)(hl:EJ X lo tl)(hh:EJ X hi th):PD X (.Subscript e (.Slice lo hi none p2) pos) (qI te tl th):=by
 obtain⟨t1,p1,q1⟩:=he;obtain⟨t2,p2,q2⟩:=hl;obtain⟨t3,p3,q3⟩:=hh;refine⟨_,SV (wb.or (ym.or P6)) p1 p2 p3,fun ρ σ G0 H0 G H Q P E h k=>q1 ρ σ G0 H0 G H _ _ E h fun v H' r G' x rr hq=>?_⟩;obtain⟨G1,x1,rv,_⟩:=rr.freeze x;refine q2 ρ σ G0 H0 G1 H' _ _ (E.ext x1) hq fun lo H2 G2 x2 oe=>?_
 refine q3 ρ σ G0 H0 G2 H2 _ _ ((E.ext x1).ext x2) oe fun hi H3 G3 x3 kO=>?_
 have vY:=(x1.trans x2).trans x3;have tG:=(rv.mono x2.g).mono x3.g;split at kO
 ·rename_i ds e1;rw[e1] at tG;simp only[Rep] at tG;obtain⟨a,xs,rfl,h1,h2⟩:=tG;refine .inl ⟨a,xs,rfl,(vY.s.jF h1).sq,fun p hp=>?_⟩;exact k _ _ (.ow _) G3 (vY.trans (.own vY.s hp)) ⟨p,_,rfl,vY.h.free hp,vY.s.free hp,lA,KW h2 lo hi⟩ kO
 ·rename_i z e1;rw[e1] at tG;simp only[Rep] at tG;exact .inr (.inl ⟨z,tG,kO.1,k _ _ _ G3 vY (j7 (zE _ _ _)) kO.2⟩)
 ·rename_i ds e1;rw[e1] at tG;simp only[Rep] at tG;obtain⟨a,xs,rfl,h1,h2⟩:=tG;refine .inr (.inr ⟨a,xs,rfl,vY.s.qt h1,by rw[h2.length];exact kO.1,fun p hp=>?_⟩);have x4:Ext G3 H3 (upd G3 p (.tup (vc xs lo hi))) (upd H3 p (.tup (vc xs lo hi))):=.new vY.s hp;refine k _ _ (.fz _) _ (vY.trans x4) ?_ kO.2;show Rep X.K _ _ (.tup _);simp only[Rep];exact⟨p,_,rfl,lA,(KW h2 lo hi).mono x4.g⟩
 ·exact kO.elim
def oN:iF:=fun ds Q=>match ds with
 | [.lst es]=>Q (.fz (.int es.length))
 | [.tup es]=>Q (.fz (.int es.length))
 | [.str z]=>z.length<=sizeLine/\Q (.fz (.int z.length))
 | _=>False
theorem rf:tW X (.builtin "len") oN:=by
 refine⟨_,mN.or Vu,fun G H vs ds Q P s rs h k=>?_⟩;unfold oN at h;split at h
 ·obtain⟨v,rfl,rv⟩:=oC rs;simp only[Rep] at rv;obtain⟨a,xs,rfl,h1,h2⟩:=rv;refine .inl ⟨a,xs,rfl,.inl ((s.jF h1).sq),?_⟩;rw[h2.length];exact k _ _ _ G (.refl s) (j7 (nz _ _ _)) h
 ·obtain⟨v,rfl,rv⟩:=oC rs;simp only[Rep] at rv;obtain⟨a,xs,rfl,h1,h2⟩:=rv;refine .inl ⟨a,xs,rfl,.inr (s.qt h1),?_⟩;rw[h2.length];exact k _ _ _ G (.refl s) (j7 (nz _ _ _)) h
 ·obtain⟨v,rfl,rv⟩:=oC rs;simp only[Rep] at rv;subst rv;exact .inr ⟨_,rfl,h.1,k _ _ _ G (.refl s) (j7 (nz _ _ _)) h.2⟩
 ·exact h.elim
def AH(i:Nat):TD:=fun ρ Q=>match gt ρ i with
 | .ow ds=>Q (.fz (.int ds.length))
 | _=>False
theorem KU(i:Nat){x:Str}{p p':Pos}(hm:X.mg "len"=none)(hN:X.N[i]?=some x:=by rfl)(hv:qK X.env.scope x:=by first | exact Or.inl rfl | exact Or.inr (Or.inl rfl) | exact Or.inr (Or.inr rfl))(hg:Gl X "len":=by rfl)(hd:(x==("__debug__":Str))=false:=by decide)
  (kP:(x==("__classdict__":Str))=false:=by decide) (jW:starEach [Expr.Name x p'] X.env=(false,eval (.Name x p') X.env)::starEach [] X.env:=by rfl):PD X (.Call (.Name "len" p) [.Name x p'] [] pos) (AH i):=by
 refine⟨_,A8 mN hg hm du (tq (sg hN hv hd kP) tY jW),fun ρ σ G0 H0 G H Q P E h k=>?_⟩;unfold AH at h;split at h
 ·rename_i ds hg;obtain⟨a,xs,h1,h2,h3,h4,h5⟩:=E.ow i ds hg;refine⟨_,h1,a,xs,rfl,.inl (iI.of h2),?_⟩;rw[h5.length];exact k _ _ _ G (.refl E.e.s) (j7 (nz _ _ _)) h
 ·exact h.elim
noncomputable def qg:List D->Option (List Bool)
 | []=>some []
 | .bl b::r=>(qg r).map (b::·)
 | _=>none
theorem MB:∀{ds:List D} {bs:List Bool},qg ds=some bs->ds=bs.map D.bl
 | [],bs,h=>by simp[qg] at h;subst h;rfl
 | .bl b::r,bs,h=>by
  simp only[qg,cX] at h;obtain⟨Oy,h1,rfl⟩:=h;rw[MB h1];rfl
 | .non::r,bs,h=>by simp[qg] at h
 | .int _::r,bs,h=>by simp[qg] at h
 | .str _::r,bs,h=>by simp[qg] at h
 | .tup _::r,bs,h=>by simp[qg] at h
 | .lst _::r,bs,h=>by simp[qg] at h
 | .obj _ _::r,bs,h=>by simp[qg] at h
 | .dic _::r,bs,h=>by simp[qg] at h
 | .dit _::r,bs,h=>by simp[qg] at h
 | .exc _::r,bs,h=>by simp[qg] at h
theorem Tw(bs:List Bool):qg (bs.map D.bl)=some bs:=by
 induction bs with
 | nil=>rfl
 | cons b r ih=>simp[qg,ih]
theorem KS{K:Z9}{G:Hp}:∀{bs:List Bool} {vs:List V},f9 K G vs (bs.map D.bl)->vs=bs.map V.bl
 | [],[],_=>rfl
 | b::bs,v::vs,h=>by
  simp only[ay,f9,Rep] at h;rw[h.1,KS h.2];rfl
 | [],_::_,h=>by simp only[bW,f9] at h
 | _::_,[],h=>by simp only[ay,f9] at h
theorem Sg{bs:List Bool}{us:List Value}(h:Vals (bs.map V.bl) us){i:Nat}{v:Value}(hv:us[i]?=some v):∃b,bs[i]?=some b/\v=.bool b:=by
 have hl:=h.length;have hi:i<us.length:=(aB.mp hv).1;have xC:i<bs.length:=by rw[ae] at hl;omega
 obtain⟨u,hu,ru⟩:=h.get (i:=i) (x:=V.bl bs[i]) (by simp[xC]);rw[hv] at hu;cases hu;exact⟨bs[i],by simp[xC],ru⟩
theorem RX{s:Shared}{h':Heap}{o:Obj}(hk:∀b x,b∉[s.heap.objs.size]->(s.heap.push o).get? b=some x->h'.get? b=some x):∀b x,s.heap.get? b=some x->h'.get? b=some x:=
 fun b x e=>hk b x (fun hm=>by rw[bH.mp hm] at e;exact cO _ (aE e)) (aj _ e)
theorem Zi(bs:List Bool):((List.range bs.length).all fun i=>(bs[i]?).getD true)=bs.all id:=by
 rw[fu];simp only[List.all_eq_true,bU,id];constructor
 ·intro h b hb;obtain⟨i,hi,rfl⟩:=List.mem_iff_getElem.mp hb;simpa[hi] using h i hi
 ·intro h i hi;simpa[hi] using h _ (cq hi)
theorem RW(bs:List Bool):((List.range bs.length).any fun i=>(bs[i]?).getD false)=bs.any id:=by
 rw[fu];simp only[List.any_eq_true,bU,id];constructor
 ·rintro⟨i,hi,h⟩;exact⟨bs[i],cq hi,by simpa[hi] using h⟩
 ·rintro⟨b,hb,h⟩;obtain⟨i,hi,rfl⟩:=List.mem_iff_getElem.mp hb;exact⟨i,hi,by simpa[hi] using h⟩
theorem Tv(hc:X.calm=true):hJ X (.builtin "any") (fun xs H Q=>∃(p:Addr) (bs:List Bool),xs=[.ref p]/\iI X.K H p (bs.map V.bl)/\Q (.bl (bs.any id)) H):=by
 walk_at "1e";obtain⟨p,bs,rfl,hq,q⟩:=h;obtain⟨u,rfl,ru⟩:=oE r;cases ru;obtain⟨its,rv,pl,hz⟩:=I.list hq;have gL:p<s.heap.objs.size:=by obtain⟨_,_,e,_⟩:=pl;exact aE e
 have hl:its.length=bs.length:=by rw[<-rv.length,ae]
 refine call_any_walk (eB pl.isList ?_);refine⟨s.heap.objs.size,[s.heap.objs.size,p],[s.heap.objs.size],its.toArray.size,_,_,fun i=>(bs[i]?).getD false,rfl,Walks.list (A:=X.A.in1) (I.ok.hd hc) _ p (aJ gL) its.toArray,
  ⟨⟨_,az _ rfl,rfl,rfl⟩,pl.isList.push _⟩,fun i v s' Q' E' hP hQ=>?_,fun h' tk hk=>?_⟩
 ·obtain⟨b,e,rfl⟩:=Sg rv (i:=i) (v:=v) (by simpa using hP);simp only[e,Option.getD_some] at hQ;exact cK hQ
 ·rw[ax,hl,RW];exact⟨.bl _,H,I.kept (RX hk),rfl,q⟩
def Zf:iF:=fun ds Q=>match ds with
 | [.lst es]=>match qg es with
  | some bs=>Q (.fz (.bl (bs.all id)))
  | none=>False
 | _=>False
def CW:iF:=fun ds Q=>match ds with
 | [.lst es]=>match qg es with
  | some bs=>Q (.fz (.bl (bs.any id)))
  | none=>False
 | _=>False
theorem PF(hc:X.calm=true):tW X (.builtin "any") CW:=by
 refine⟨_,Tv hc,fun G H vs ds Q P s rs h k=>?_⟩;unfold CW at h;split at h
 ·split at h
  ·rename_i es bs hb;obtain⟨v,rfl,rv⟩:=oC rs;simp only[Rep] at rv;obtain⟨a,xs,rfl,h1,h2⟩:=rv;rw[MB hb] at h2;rw[KS h2] at h1;exact⟨a,bs,rfl,(s.jF h1).sq,k _ _ _ G (.refl s) (j7 (pB _ _ _)) h⟩
  ·exact h.elim
 ·exact h.elim
end
section
variable {X:Cx} {pos:Pos} {e:Expr} {te:TD}
noncomputable def rn:D->String
 | .non=>"NoneType"
 | .bl _=>"bool"
 | .int _=>"int"
 | .str _=>"str"
 | .tup _=>"tuple"
 | .lst _=>"list"
 | .obj _ _=>"object"
 | .dic _=>"dict"
 | .dit _=>"dict"
 | .exc _=>"object"
noncomputable def va(t T:String):Bool:=(t==T)||(t=="bool"&&T=="int")
theorem zq{K:Z9}{t T:String}(ht:t∈["NoneType","bool","int","str","tuple","list"])(hT:T∈["bool","int","str","tuple","list"]):PySem.W.kitOne K (.type t) (.type T)=some (va t T):=by
 simp only[ar,bK,eC] at ht hT;rcases ht with rfl | rfl | rfl | rfl | rfl | rfl<;>rcases hT with rfl | rfl | rfl | rfl | rfl<;>(first | rfl | decide | (unfold PySem.W.kitOne PySem.W.kitCls;decide +kernel))
noncomputable def JJ:D->Bool
 | .obj _ _=>false
 | .dic _=>false
 | .dit _=>false
 | .exc _=>false
 | _=>true
theorem Sf{T:String}(hT:T∈["bool","int","str","tuple","list"]):hJ X (.builtin "isinstance") (fun xs H Q=>∃x d,xs=[x,.ty T]/\Rep X.K H x d/\JJ d=true/\Q (.bl (va (rn d) T)) H):=by
 walk_at "1e";obtain⟨x,d,rfl,rd,ho,q⟩:=h;obtain⟨u,c,rfl,ru,rc⟩:=AK r;cases (show c=Value.type T from rc);have fin:∀tk,EP X Z8 σ Q (.bool (va (rn d) T)) { s with toks:=tk }:=fun tk=>⟨.bl _,H,I.tok tk,rfl,q⟩
 cases d with
 | non=>simp only[Rep] at rd;subst rd;cases (show u=Value.none from ru);exact eN PySem.W.kitx_none I.pZ True.intro (zq (by simp) hT) (fun z=>nomatch z) fin
 | bl y=>simp only[Rep] at rd;subst rd;cases (show u=Value.bool y from ru);exact eN PySem.W.kitx_bool I.pZ True.intro (zq (by simp) hT) (fun z=>nomatch z) fin
 | int i=>simp only[Rep] at rd;subst rd;obtain⟨t,q'⟩:=(show ∃t,u=Value.int i t from ru);cases q';exact eN PySem.W.kitx_int I.pZ True.intro (zq (by simp) hT) (fun z=>nomatch z) fin
 | str y=>simp only[Rep] at rd;subst rd;obtain⟨t,q'⟩:=(show ∃t,u=Value.str y t from ru);cases q';exact eN PySem.W.kitx_str I.pZ True.intro (zq (by simp) hT) (fun z=>nomatch z) fin
 | tup ds=>
  simp only[Rep] at rd;obtain⟨a,xs,rfl,hq,_⟩:=rd;cases (show u=Value.ref a from ru);obtain⟨its,_,ht,_⟩:=I.tuple (jE.of hq);obtain⟨o,h1,h2,_⟩:=ht;exact eN PySem.W.kitx_tuple I.pZ ⟨o,h1,h2⟩ (zq (by simp) hT) (fun z=>nomatch z) fin
 | lst ds=>
  simp only[Rep] at rd;obtain⟨a,xs,rfl,hq,_⟩:=rd;cases (show u=Value.ref a from ru);obtain⟨its,_,ht,_⟩:=I.list hq.sq;obtain⟨o,n,h1,h2,_⟩:=ht;exact eN PySem.W.kitx_list I.pZ ⟨o,h1,h2⟩ (zq (by simp) hT) (fun z=>nomatch z) fin
 | obj=>cases ho
 | dic=>cases ho
 | dit=>cases ho
 | exc=>cases ho
def zc(T:String)(te:TD):TD:=fun ρ Q=>te ρ fun r=>JJ r.val=true/\Q (.fz (.bl (va (rn r.val) T)))
theorem Dh{T:String}{TN:Str}{p p':Pos}(he:PD X e te)(hm:X.mg "isinstance"=none)(oW:X.mg TN=none)(hv:bootBuiltins TN=some (.type T))(hT:T∈["bool","int","str","tuple","list"]:=by decide)(hg:Gl X "isinstance":=by rfl)(wC:Gl X TN:=by rfl)(hn:TN≠"__name__":=by decide)
  (hd:(TN==("__debug__":Str))=false:=by decide) (jW:starEach [e,Expr.Name TN p'] X.env=(false,eval e X.env)::starEach [Expr.Name TN p'] X.env:=by rfl) (Il:starEach [Expr.Name TN p'] X.env=(false,eval (.Name TN p') X.env)::starEach [] X.env:=by rfl)
  (kS:(backTo pos (starEach [Expr.Name TN p'] X.env)).any (·.1)=false:=by rfl):PD X (.Call (.Name "isinstance" p) [e,.Name TN p'] [] pos) (zc T te):=by
 obtain⟨t,pp,q⟩:=he;refine⟨_,A8 (Sf hT) hg hm boot_isinstance (tq pp (tq (RR (v:=.ty T) wC oW hv rfl hn hd) tY Il) jW) (by decide) (by decide) jW kS,fun ρ σ G0 H0 G H Q P E h k=>q ρ σ G0 H0 G H _ _ E h fun v H' r G' x rr hq=>?_⟩;obtain⟨G2,x2,rv,_⟩:=rr.freeze x;exact⟨v,r.val,rfl,rv.mono x2.s,hq.1,k _ _ _ G2 x2 (j7 (pB _ _ _)) hq.2⟩
end
section
variable {P:Program} {w:World} {K:Z9} {mg:Str->Option Value} {base:Heap}
structure Known (P:Program) (w:World) (K:Z9) (mg:Str->Option Value) (base:Heap) (k:Nat) (x:Str) (n:Nat) (t:iF):Prop where
 ex:∃(f:Addr) (fd:FuncData) (ps:List Str),lH P w K mg base qd k f fd ps (y3 K n t)/\mg x=some (.ref f)/\PySem.W.keepIn K (.ref f)=true/\Binds K fd ps []
structure At (K:Z9) (mg:Str->Option Value) (x:Str) (st:Stmt):Prop where
 ex:∃(f:Addr) (fd:FuncData),EU K x x st f fd/\mg x=some (.ref f)
theorem CL{h:Heap}{x:Str}{st:Stmt}{f:Addr}{oc:Value}{od an:Option Addr}{rq:Array (Option Value)}{kV doc pm gN ct:Value}(X:K.In h)(G:h.Ns mainGlobals mg)(a:PySem.W.nsIn K mainGlobals x=some (some (.ref f)))
  (l:K.lookup f=some ⟨oc,od,.func (PySem.W.fnOf x x (jf st) (gZ st) (gf st) .none kV doc pm an gN ct),rq⟩) (c:PySem.W.codeIn K gN x=true) (k:PySem.W.keepIn K (.ref f)=true):At K mg x st:=
 ⟨f,_,FD l c k,PySem.W.mg_of X G a⟩
end
section
variable {X:Cx} {k k' n:Nat} {t:iF} {x:Str} {p pos:Pos} {e:Expr} {es:List Expr} {ts:nE}
theorem jd(C:Known X.prog X.w X.K X.mg X.base k x n t)(hr:iL k' X.A)(ha:qL X (e::es) ts)(hk:k<=k':=by decide)(hg:Gl X x:=by rfl)(qE:(x==("__debug__":Str))=false:=by decide)
  (he:starEach (e::es) X.env=(false,eval e X.env)::starEach es X.env:=by rfl) (kS:(backTo pos (starEach es X.env)).any (·.1)=false:=by rfl):PD X (.Call (.Name x p) (e::es) [] pos) (iN n t ts):=by
 obtain⟨f,fd,ps,F,hm,kp,hb⟩:=C.ex;exact RY F (hr.mono hk) hm kp hb ha hg qE he kS
end
noncomputable def KR(kindOf:Str->Option NameKind)(N N':List Str)(m:List (Option Nat))(scope:Scope):Bool:=
 (scope.kind==.function)&&(m.length==N'.length)&&(scope.names.all fun y=>scope.names.lookup y.1==some y.2) &&
 (scope.names.all fun y=>y.2 != .free||kindOf y.1==some .cell||kindOf y.1==some .free) &&
 ((m.zip N').all fun p=>match p.1 with
   | none=>true
   | some j=>N[j]?==some p.2&&scope.names.lookup p.2==some .free)
theorem gT.of{X:Cx}{N':List Str}{m:List (Option Nat)}{scope:Scope}(h:KR X.env.kindOf X.N N' m scope=true):gT X N' m scope:=by
 unfold KR at h;simp only[cx,ef,List.all_eq_true,Bool.or_eq_true,bne_iff_ne,ne_eq] at h;obtain⟨⟨⟨⟨h1,h2⟩,h3⟩,h5⟩,h6⟩:=h;refine⟨h1,h2,fun y hy=>h3 y hy,fun y hy e=>?_,fun i j x hm hN=>?_⟩
 ·rcases h5 y hy with(z | z) | z
  ·exact absurd e z
  ·exact .inl z
  ·exact .inr z
 ·have hz:(some j,x)∈m.zip N':=by
   apply aU (i:=i);rw[eh];exact⟨hm,hN⟩
  have:=h6 _ hz;simpa using this
theorem UX{K:Z9}{G:Hp}{a:Addr}{ns:List Int}(h:oh K G a (ns.map V.int)):Rep K G (.ref a) (.lst (ns.map D.int)):=by
 simp only[Rep];refine⟨a,_,rfl,h,?_⟩;clear h;induction ns with
 | nil=>exact f9.nil
 | cons n r ih=>exact f9.cons (nz _ _ _) ih
def Fi(n:Nat):iF:=fun ds Q=>∃ns:List Int,ds=[.lst (ns.map .int)]/\ns.length<=n/\Q (.fz (.bl true))
theorem tE{l:PySem.W.OpenLaw}{n k:Nat}{q:Program}{loose:List Str}{XP:(Str->Option Value)->Heap->Prop}{YP:World->Heap->Prop}{d:DefRec}{K:Params->Z9}{x:Str}
  (hn:l.most=some n) (Cg:n<=sizeLine) (IQ:d.params.defaults=[]) (hr:iL k callerA) (hY:∀(w:World) (h:Heap),YP w h->(K w.params).In h)
  (F:∀(w:World) (mg:Str->Option Value) (fa:Addr) (h:Heap),(K w.params).In h->h.Ns mainGlobals mg->mg d.name=some (.ref fa)->
   ∃fd:FuncData,(∀(s:Shared) (u:Value),BindsTo s fd ⟨[u],[]⟩ [(x,u)])/\∀base:Heap,lH l.prog w (K w.params) mg base qd k fa fd [x] (y3 (K w.params) 1 (Fi n))) :
  PySem.W.WalkO q loose XP YP l.row.toRowW d [] (fun f vs=>PySem.call f vs):=by
 refine OD.qJ hn IQ fun w ju gM mg mb fa o pm cd doc a vs ns G Y ho hd kP wy wx hints hlen hg=>?_
 have KX:=hY w _ Y;obtain⟨fd,hb,hF⟩:=F w mg fa _ KX G.T.g wy;refine Th KX G.T.g G.T.b G.T.builtins G.T.nolimit hg wx hints (aK hlen Cg) hr (fun base _ _=>hF base) hb (fun H hO hS=>?_) fun H e s' z=>z
 have hL:oh (K w.params) H a (ns.map V.int):=by
  rcases hS with hS | ⟨o,its,m,h1,h2,h3,h4,h5,h6⟩
  ·exact .inl hS
  ·have e:=KX a o h1;rw[wx] at e;cases e;have YM:Data.seq vs.toArray _=Data.seq its m:=h4;injection YM with e1 e2
   subst e1;exact .inr ⟨_,_,h1,h5,h6⟩
 refine⟨H,[.lst (ns.map .int)],fun r=>r=.fz (.bl true),gz.refl _,f9.cons (UX hL) f9.nil,rfl,⟨ns,rfl,hlen,rfl⟩,fun v H' r G' _ rr e=>?_⟩;subst e;simpa only[jl,Rep] using rr
theorem PR{P:Program}{w:World}{K:Z9}{mg:Str->Option Value}{st:Stmt}{N:List Str}{x:Str}{k:Nat}{t:iF}{T:Heap->TX}{fa:Addr}(DA:At K mg "law" st)(wy:mg "law"=some (.ref fa))(S:gn N [x] (gf st))
  (hb:∀(kV doc pm:Value) (an:Option Addr) (gN ct:Value) (us:List Value),us.length=1->bindArgs (PySem.W.fnOf "law" "law" (jf st) (gZ st) (gf st) .none kV doc pm an gN ct) ⟨us,[]⟩=pure ([x].zip us))
  (body:∀(base:Heap) (f:Addr) (gN:Value) (A:Around) (outer:List Env) (s:Shared) (H:Hp) (E:XK),iL k (A.deeper (envOfC "law" (gf st) s.heap.objs.size f gN))->rQ (tS qd P w K mg base N "law" (gf st) f gN A outer s H E).vv (gZ st) (T base))
  (spec:∀(base:Heap) (ds:List D) (Qr:R->Prop),ds.length=1->t ds Qr->T base { nx:=fun _=>Qr (.fz .non),rt:=Qr } (vN N ds)) :
  ∃fd:FuncData,(∀(s:Shared) (u:Value),BindsTo s fd ⟨[u],[]⟩ [(x,u)])/\∀base:Heap,lH P w K mg base qd (k+1) fa fd [x] (y3 K 1 t):=by
 obtain⟨f,fd,F,hm⟩:=DA.ex;rw[wy] at hm;cases hm;refine⟨fd,fun s u=>?_,fun base=>FR F S (body base fa) (spec base)⟩;obtain⟨oc,od,kV,doc,pm,an,gN,ct,rq,rfl,lk,kP⟩:=F.ex;exact .of_eq (hb kV doc pm an gN ct [u] rfl)
def wX(i:Nat)(t:TX):TX:=fun D ρ=>t D (oY i ρ)
theorem zo(d:D):(R.fz d).val=d:=rfl
theorem xZ(ds:List D):(R.ow ds).val=.lst ds:=rfl
theorem JI(d:D):(R.fz d).sl=.fz d:=rfl
theorem Pz(ds:List D):(R.ow ds).sl=.ow ds:=rfl
theorem FQ{α:Type}{wi:oH}{m:List (Option Nat)}{g:lX}{tc:mT}{te:TD}{ρ:Ev}{Q:R->Prop}(L:List α)(φ:α->D)(f:α->Option D)(hw:∀Q':List D->Prop,Q' (L.map φ)->wi ρ Q')(hl:L.length<=sizeLine)
  (h:∀x∈L,∀(K1:D->Prop) (K0:Prop),(∀e,f x=some e->K1 e)->(f x=none->K0)->g (φ x) (j9 m ρ) fun jc=>tc jc fun b=>if b=true then te jc fun r=>K1 r.val else K0)
  (q:Q (.ow (L.filterMap f))):jG wi m g tc te ρ Q:=by
 refine hw _ ⟨fun i acc=>acc=(L.take i).filterMap f,rfl,fun i d acc hd ha=>?_,fun acc ha=>?_⟩
 ·rw[aH] at hd;cases hx:L[i]? with
  | none=>rw[hx] at hd;cases hd
  | some x=>
   rw[hx] at hd;cases hd;have hi:i<L.length:=(aB.mp hx).1;have e:L.take (i+1)=L.take i++[x]:=by rw[bL,hx];rfl
   have hlen:acc.length<sizeLine:=by
    rw[ha];refine Nat.lt_of_le_of_lt (di _ _) ?_;rw[aN];omega
   exact h x (aU hx) (fun e=>acc.length<sizeLine/\acc++[e]=(L.take (i+1)).filterMap f) (acc=(L.take (i+1)).filterMap f)
    (fun z hz=>⟨hlen,by rw[e,List.filterMap_append,ha];simp[hz]⟩) (fun hz=>by rw[e,List.filterMap_append,ha];simp[hz])
 ·dsimp only at ha;rw[ae,bT] at ha;rw[ha];exact q
theorem sj{α:Type}{wi:oH}{m:List (Option Nat)}{g:lX}{te:TD}{ρ:Ev}{Q:R->Prop}(L:List α)(φ f:α->D)(hw:∀Q':List D->Prop,Q' (L.map φ)->wi ρ Q')(hl:L.length<=sizeLine)
  (h:∀x∈L,∀(K1:D->Prop),K1 (f x)->g (φ x) (j9 m ρ) fun jc=>te jc fun r=>K1 r.val) (q:Q (.ow (L.map f))):jG wi m g mU te ρ Q:=by
 refine FQ L φ (fun x=>some (f x)) hw hl (fun x hx K1 K0 h1 _=>?_) ?_
 ·have:=h x hx K1 (h1 _ rfl);simpa[mU] using this
 ·have e:L.filterMap (fun x=>some (f x))=L.map f:=by
   induction L with
   | nil=>rfl
   | cons a r ih=>simp
  rw[e];exact q
theorem sv{α:Type}{wi:oH}{m:List (Option Nat)}{g:lX}{tc:mT}{te:TD}{ρ:Ev}{Q:R->Prop}(L:List α)(φ f:α->D)(p:α->Bool)(hw:∀Q':List D->Prop,Q' (L.map φ)->wi ρ Q')(hl:L.length<=sizeLine)
  (h:∀x∈L,∀(K1:D->Prop) (K0:Prop),(p x=true->K1 (f x))->(p x=false->K0)->g (φ x) (j9 m ρ) fun jc=>tc jc fun b=>if b=true then te jc fun r=>K1 r.val else K0)
  (q:Q (.ow ((L.filter p).map f))):jG wi m g tc te ρ Q:=by
 refine FQ L φ (fun x=>if p x=true then some (f x) else none) hw hl (fun x hx K1 K0 h1 h0=>h x hx K1 K0 (fun z=>h1 _ (by simp[z])) (fun z=>h0 (by simp[z]))) ?_;have e:L.filterMap (fun x=>if p x=true then some (f x) else none)=(L.filter p).map f:=by
  clear h hl hw q;induction L with
  | nil=>rfl
  | cons a r ih=>by_cases z:p a=true<;>simp[z,ih]
 rw[e];exact q
theorem LF{wi:oH}{g:lX}{tb:TX}{D:DE}{ρ:Ev}(ds:List L2.D)(hw:∀Q':List L2.D->Prop,Q' ds->wi ρ Q')(Iv:Nat->Ev->Prop)(h0:Iv 0 ρ)
  (turn:∀i d ρ',ds[i]?=some d->Iv i ρ'->g d ρ' fun jc=>tb { D with nx:=Iv (i+1),ct:=Iv (i+1),bk:=D.nx } jc) (fin:∀ρ',Iv ds.length ρ'->D.nx ρ'):mS wi g tb D ρ:=hw _ ⟨Iv,h0,turn,fin⟩
theorem vV{α:Type}{wi:oH}{g:lX}{tb:TX}{D:DE}{ρ:Ev}(L:List α)(φ:α->L2.D)(hw:∀Q':List L2.D->Prop,Q' (L.map φ)->wi ρ Q')(Iv:Nat->Ev->Prop)(h0:Iv 0 ρ)
  (turn:∀i x ρ',L[i]?=some x->Iv i ρ'->g (φ x) ρ' fun jc=>tb { D with nx:=Iv (i+1),ct:=Iv (i+1),bk:=D.nx } jc) (fin:∀ρ',Iv L.length ρ'->D.nx ρ'):mS wi g tb D ρ:=by
 refine LF (L.map φ) hw Iv h0 (fun i d ρ' hd iv=>?_) (fun ρ' iv=>fin ρ' (by simpa using iv));rw[aH] at hd;cases hx:L[i]? with
 | none=>rw[hx] at hd;cases hd
 | some x=>rw[hx] at hd;cases hd;exact turn i x ρ' hx iv
theorem xj{g:lX}{tb:TX}{D:DE}{ρ:Ev}{wi:oH}(n:Nat)(hw:∀Q':List L2.D->Prop,Q' ((List.range n).map fun(i:Nat)=>.int (0+i))->wi ρ Q')(Iv:Nat->Ev->Prop)(h0:Iv 0 ρ)
  (turn:∀(i:Nat) ρ',i<n->Iv i ρ'->g (.int i) ρ' fun jc=>tb { D with nx:=Iv (i+1),ct:=Iv (i+1),bk:=D.nx } jc) (fin:∀ρ',Iv n ρ'->D.nx ρ'):mS wi g tb D ρ:=by
 refine vV (List.range n) (fun(i:Nat)=>.int (0+i)) hw Iv h0 (fun i x ρ' hx iv=>?_) (fun ρ' iv=>fin ρ' (by simpa using iv));obtain⟨h1,h2⟩:=aB.mp hx;have h3:i<n:=by simpa using h1
 have h4:x=i:=by rw[<-h2];simp
 subst h4;rw[Int.zero_add];exact turn x ρ' h3 iv
theorem XI:(10:Int) ^ Int.toNat 24=1000000000000000000000000:=by decide
theorem XH:(10:Int) ^ Int.toNat 30=1000000000000000000000000000000:=by decide
theorem PQ:ur 10 24=True:=by simp only[ur,eq_iff_iff,iff_true];decide
theorem Qu:ur 10 30=True:=by simp only[ur,eq_iff_iff,iff_true];decide
theorem F6:100000<=sizeLine:=by decide
section
variable {X:Cx} {pos:Pos} {e:Expr} {te:TD} {es:List Expr} {ts:nE}
def tQ(t:TD):TD:=fun ρ Q=>t ρ fun r=>match r.val with
 | .int i=>Q (.fz (.int (-i)))
 | _=>False
theorem xY(h:PD X e te):PD X (.UnaryOp .USub e pos) (tQ te):=by
 obtain⟨t,p,q⟩:=h;refine⟨_,Pd Qe p,fun ρ σ G0 H0 G H Q P E h k=>q ρ σ G0 H0 G H _ _ E h fun v H' r G' x rr hq=>?_⟩;obtain⟨G2,x2,rv,_⟩:=rr.freeze x;split at hq
 ·rename_i i e1;rw[e1] at rv;simp only[Rep] at rv;exact⟨i,rv,k _ _ _ G2 x2 (j7 (nz _ _ _)) hq⟩
 ·exact hq.elim
def rB:iF:=fun ds Q=>match ds with
 | [.lst es]=>Q (.ow es)
 | [.tup es]=>Q (.ow es)
 | _=>False
theorem vj:tW X (.type "list") rB:=by
 refine⟨_,Vt,fun G H vs ds Q P s rs h k=>?_⟩;unfold rB at h;split at h
 ·obtain⟨v,rfl,rv⟩:=oC rs;simp only[Rep] at rv;obtain⟨a,xs,rfl,h1,h2⟩:=rv;exact⟨a,xs,rfl,.inl (s.jF h1).sq,vR s h2 h k⟩
 ·obtain⟨v,rfl,rv⟩:=oC rs;simp only[Rep] at rv;obtain⟨a,xs,rfl,h1,h2⟩:=rv;exact⟨a,xs,rfl,.inr (s.qt h1),vR s h2 h k⟩
 ·exact h.elim
def CV:iF:=fun ds Q=>match ds with
 | [.int i]=>Q (.fz (.int i))
 | [.bl b]=>Q (.fz (.int (if b then 1 else 0)))
 | _=>False
theorem Py:tW X (.type "int") CV:=by
 refine⟨_,UA,fun G H vs ds Q P s rs h k=>?_⟩;unfold CV at h;split at h
 ·obtain⟨v,rfl,rv⟩:=oC rs;simp only[Rep] at rv;subst rv;exact .inl ⟨_,rfl,k _ _ _ G (.refl s) (j7 (nz _ _ _)) h⟩
 ·obtain⟨v,rfl,rv⟩:=oC rs;simp only[Rep] at rv;subst rv;exact .inr ⟨_,rfl,k _ _ _ G (.refl s) (j7 (nz _ _ _)) h⟩
 ·exact h.elim
noncomputable def oP:List D->Option (List Int)
 | []=>some []
 | .int b::r=>(oP r).map (b::·)
 | _=>none
theorem yg:∀{ds:List D} {bs:List Int},oP ds=some bs->ds=bs.map D.int
 | [],bs,h=>by simp[oP] at h;subst h;rfl
 | .int b::r,bs,h=>by
  simp only[oP,cX] at h;obtain⟨Oy,h1,rfl⟩:=h;rw[yg h1];rfl
 | .non::r,bs,h=>by simp[oP] at h
 | .bl _::r,bs,h=>by simp[oP] at h
 | .str _::r,bs,h=>by simp[oP] at h
 | .tup _::r,bs,h=>by simp[oP] at h
 | .lst _::r,bs,h=>by simp[oP] at h
 | .obj _ _::r,bs,h=>by simp[oP] at h
 | .dic _::r,bs,h=>by simp[oP] at h
 | .dit _::r,bs,h=>by simp[oP] at h
 | .exc _::r,bs,h=>by simp[oP] at h
theorem zL(bs:List Int):oP (bs.map D.int)=some bs:=by
 induction bs with
 | nil=>rfl
 | cons b r ih=>simp[oP,ih]
theorem ye{K:Z9}{G:Hp}:∀{bs:List Int} {vs:List V},f9 K G vs (bs.map D.int)->vs=bs.map V.int
 | [],[],_=>rfl
 | b::bs,v::vs,h=>by
  simp only[ay,f9,Rep] at h;rw[h.1,ye h.2];rfl
 | [],_::_,h=>by simp only[bW,f9] at h
 | _::_,[],h=>by simp only[ay,f9] at h
theorem GF{vs:List Value}{ns:List Int}(hi:IntsAre vs ns):∃xs:Array (Int×Tok),vs.toArray=intItems xs/\ns=xs.toList.map (·.1):=by
 obtain⟨xs,e⟩:=hi.allInts.items;exact⟨xs,e,by rw[<-hi.numsOf,<-nums_intItems,<-e]⟩
theorem Tu(hc:X.calm=true):hJ X (.builtin "sum") (fun xs H Q=>∃(p:Addr) (ns:List Int),xs=[.ref p]/\iI X.K H p (ns.map V.int)/\Q (.int ns.sum) H):=by
 walk_at "1e";obtain⟨p,ns,rfl,hq,q⟩:=h;obtain⟨u,rfl,ru⟩:=oE r;cases ru;obtain⟨its,rv,pl,hz⟩:=I.list hq;obtain⟨ys,e,sM⟩:=GF (zM rv);have hl:=pl.isList;rw[e] at hl;refine sum_intListG (I.ok.hd hc) hl fun h' tk t' hk=>?_
 have e2:preSum (numAt ys) ys.size=ns.sum:=by
  rw[preSum_eq,bI (by simp),sM]
 rw[e2];exact⟨.int _,H,I.kept hk,⟨_,rfl⟩,q⟩
theorem Tt(hc:X.calm=true):hJ X (.builtin "min") (fun xs H Q=>∃(p:Addr) (ns:List Int),xs=[.ref p]/\iI X.K H p (ns.map V.int)/\ns≠[]/\∀M,M∈ns->(∀a∈ns,M<=a)->Q (.int M) H):=by
 intro Z8 s σ H xs us Q I r h;obtain⟨p,ns,rfl,hq,ij,q⟩:=h;obtain⟨u,rfl,ru⟩:=oE r;cases ru;obtain⟨its,rv,pl,hz⟩:=I.list hq;obtain⟨ys,e,sM⟩:=GF (zM rv);have hl:=pl.isList;rw[e] at hl;have ic:0<ys.size:=by
  cases Cb:ys.toList with
  | nil=>rw[sM,Cb] at ij;exact absurd rfl ij
  | cons a b=>have:ys.toList.length=b.length+1:=by rw[Cb];rfl
              rw[ag] at this;omega
 refine min_intList (I.ok.hd hc) hl ic fun v h' tk hv hk=>?_
 obtain⟨t,rfl⟩:=intItems_at hv;obtain⟨h1,h2⟩:=argBest_lt (numAt ys) (ys.size-1);refine⟨.int _,H,I.kept hk,⟨_,rfl⟩,q _ ?_ fun a ha=>?_⟩
 ·rw[sM,numAt_eq];exact getD_mem (by rw[ae,ag];omega)
 ·rw[sM] at ha;obtain⟨j,hj,rfl⟩:=mem_getD ha;rw[ae,ag] at hj;rw[<-numAt_eq];exact h2 j (by omega)
theorem Tq(hc:X.calm=true):hJ X (.builtin "max") (fun xs H Q=>∃(p:Addr) (ns:List Int),xs=[.ref p]/\iI X.K H p (ns.map V.int)/\ns≠[]/\∀M,M∈ns->(∀a∈ns,a<=M)->Q (.int M) H):=by
 intro Z8 s σ H xs us Q I r h;obtain⟨p,ns,rfl,hq,ij,q⟩:=h;obtain⟨u,rfl,ru⟩:=oE r;cases ru;obtain⟨its,rv,pl,hz⟩:=I.list hq;obtain⟨ys,e,sM⟩:=GF (zM rv);have hl:=pl.isList;rw[e] at hl;have ic:0<ys.size:=by
  cases Cb:ys.toList with
  | nil=>rw[sM,Cb] at ij;exact absurd rfl ij
  | cons a b=>have:ys.toList.length=b.length+1:=by rw[Cb];rfl
              rw[ag] at this;omega
 refine max_intList (I.ok.hd hc) hl ic fun v h' tk hv hk=>?_
 obtain⟨t,rfl⟩:=intItems_at hv;obtain⟨h1,h2⟩:=argBest_gt (numAt ys) (ys.size-1);refine⟨.int _,H,I.kept hk,⟨_,rfl⟩,q _ ?_ fun a ha=>?_⟩
 ·rw[sM,numAt_eq];exact getD_mem (by rw[ae,ag];omega)
 ·rw[sM] at ha;obtain⟨j,hj,rfl⟩:=mem_getD ha;rw[ae,ag] at hj;rw[<-numAt_eq];exact h2 j (by omega)
def xU:iF:=fun ds Q=>match ds with
 | [.lst es]=>match oP es with
  | some ns=>Q (.fz (.int ns.sum))
  | none=>False
 | _=>False
theorem C3(hc:X.calm=true):tW X (.builtin "sum") xU:=by
 refine⟨_,Tu hc,fun G H vs ds Q P s rs h k=>?_⟩;unfold xU at h;split at h
 ·split at h
  ·rename_i es bs hb;obtain⟨v,rfl,rv⟩:=oC rs;simp only[Rep] at rv;obtain⟨a,xs,rfl,h1,h2⟩:=rv;rw[yg hb] at h2;rw[ye h2] at h1;exact⟨a,bs,rfl,(s.jF h1).sq,k _ _ _ G (.refl s) (j7 (nz _ _ _)) h⟩
  ·exact h.elim
 ·exact h.elim
def uo:iF:=fun ds Q=>match ds with
 | [.lst es]=>match oP es with
  | some ns=>ns≠[]/\∀M,M∈ns->(∀a∈ns,M<=a)->Q (.fz (.int M))
  | none=>False
 | [.int i,.int j]=>Q (.fz (.int (if j<i then j else i)))
 | _=>False
def tV:iF:=fun ds Q=>match ds with
 | [.lst es]=>match oP es with
  | some ns=>ns≠[]/\∀M,M∈ns->(∀a∈ns,a<=M)->Q (.fz (.int M))
  | none=>False
 | [.int i,.int j]=>Q (.fz (.int (if j>i then j else i)))
 | _=>False
theorem C2(hc:X.calm=true):tW X (.builtin "min") uo:=by
 refine⟨_,(Tt hc).or (UB hc),fun G H vs ds Q P s rs h k=>?_⟩;unfold uo at h;split at h
 ·split at h
  ·rename_i es bs hb;obtain⟨v,rfl,rv⟩:=oC rs;simp only[Rep] at rv;obtain⟨a,xs,rfl,h1,h2⟩:=rv;rw[yg hb] at h2;rw[ye h2] at h1;exact .inl ⟨a,bs,rfl,(s.jF h1).sq,h.1,fun M h3 h4=>k _ _ _ G (.refl s) (j7 (nz _ _ _)) (h.2 M h3 h4)⟩
  ·exact h.elim
 ·obtain⟨v,u,rfl,rv,ru⟩:=AI rs;simp only[Rep] at rv ru;subst rv ru;exact .inr ⟨_,_,rfl,k _ _ _ G (.refl s) (j7 (nz _ _ _)) h⟩
 ·exact h.elim
theorem AG(hc:X.calm=true):tW X (.builtin "max") tV:=by
 refine⟨_,(Tq hc).or (UC hc),fun G H vs ds Q P s rs h k=>?_⟩;unfold tV at h;split at h
 ·split at h
  ·rename_i es bs hb;obtain⟨v,rfl,rv⟩:=oC rs;simp only[Rep] at rv;obtain⟨a,xs,rfl,h1,h2⟩:=rv;rw[yg hb] at h2;rw[ye h2] at h1;exact .inl ⟨a,bs,rfl,(s.jF h1).sq,h.1,fun M h3 h4=>k _ _ _ G (.refl s) (j7 (nz _ _ _)) (h.2 M h3 h4)⟩
  ·exact h.elim
 ·obtain⟨v,u,rfl,rv,ru⟩:=AI rs;simp only[Rep] at rv ru;subst rv ru;exact .inr ⟨_,_,rfl,k _ _ _ G (.refl s) (j7 (nz _ _ _)) h⟩
 ·exact h.elim
noncomputable def qi:List D->Option (List Str)
 | []=>some []
 | .str b::r=>(qi r).map (b::·)
 | _=>none
theorem GD:∀{ds:List D} {bs:List Str},qi ds=some bs->ds=bs.map D.str
 | [],bs,h=>by simp[qi] at h;subst h;rfl
 | .str b::r,bs,h=>by
  simp only[qi,cX] at h;obtain⟨Oy,h1,rfl⟩:=h;rw[GD h1];rfl
 | .non::r,bs,h=>by simp[qi] at h
 | .bl _::r,bs,h=>by simp[qi] at h
 | .int _::r,bs,h=>by simp[qi] at h
 | .tup _::r,bs,h=>by simp[qi] at h
 | .lst _::r,bs,h=>by simp[qi] at h
 | .obj _ _::r,bs,h=>by simp[qi] at h
 | .dic _::r,bs,h=>by simp[qi] at h
 | .dit _::r,bs,h=>by simp[qi] at h
 | .exc _::r,bs,h=>by simp[qi] at h
theorem zK(bs:List Str):qi (bs.map D.str)=some bs:=by
 induction bs with
 | nil=>rfl
 | cons b r ih=>simp[qi,ih]
theorem F5{K:Z9}{G:Hp}:∀{bs:List Str} {vs:List V},f9 K G vs (bs.map D.str)->vs=bs.map V.str
 | [],[],_=>rfl
 | b::bs,v::vs,h=>by
  simp only[ay,f9,Rep] at h;rw[h.1,F5 h.2];rfl
 | [],_::_,h=>by simp only[bW,f9] at h
 | _::_,[],h=>by simp only[ay,f9] at h
theorem MA{K:Z9}{G:Hp}(bs:List Str):f9 K G (bs.map V.str) (bs.map D.str):=by
 induction bs with
 | nil=>exact f9.nil
 | cons b r ih=>exact f9.cons (zE _ _ _) ih
theorem M3{ss:List Str}:∀{us:List Value},Vals (ss.map V.str) us->StrsAre us ss:=by
 induction ss with
 | nil=>
  intro us h;cases h;exact .nil
 | cons n r ih=>
  intro us h;cases h with
  | cons a b=>
   obtain⟨t,rfl⟩:=a;exact .cons _ _ (ih b)
theorem Gi:∀{vs:List Value} {ss:List Str},StrsAre vs ss->Vals (ss.map V.str) vs
 | _,_,.nil=>.nil
 | _,_,.cons _ _ h=>.cons ⟨_,rfl⟩ (Gi h)
theorem rO:hJ X (.builtin "sorted") (fun xs H Q=>∃(p:Addr) (ss:List Str),xs=[.ref p]/\iI X.K H p (ss.map V.str)/\ss.length<64/\∀nT:List Str,nT.Perm ss->sortedS nT=true->∀l,H l=none->Q (.ref l) (upd H l (.lst (nT.map V.str)))):=by
 walk_at "1e";obtain⟨p,ss,rfl,hq,An,q⟩:=h;obtain⟨u,rfl,ru⟩:=oE r;cases ru;obtain⟨its,rv,pl,hz⟩:=I.list hq;have hl:its.length=ss.length:=by rw[<-rv.length,ae]
 refine sorted_strs pl.isList (M3 rv) (by omega) fun out nT a1 a2 a3=>?_
 obtain⟨en,he⟩:=sortedAll_at s.heap its out;have hf:H (s.heap.objs.size+1)=none:=I.hV.fresh (bY _);refine⟨.ref (s.heap.objs.size+1),_,I.laid (a:=s.heap.objs.size+1) (o:=.lst (nT.map V.str)) (t':=s.toks) (fun b o e=>sortedAll_old e) (bY _) ?_,rfl,q nT a2 a3 _ hf⟩;refine⟨by rw[ae,a2.length_eq];have:=F6;omega,out.toList,en,Gi a1,?_⟩;rw[dr];exact he
theorem UW:hJ X (.builtin "sorted") (fun xs H Q=>∃(p:Addr) (ns:List Int),xs=[.ref p]/\iI X.K H p (ns.map V.int)/\ns.length<64/\∀yw:List Int,yw.Perm ns->yw.Pairwise (·<=·)->∀l,H l=none->Q (.ref l) (upd H l (.lst (yw.map V.int)))):=by
 walk_at "1e";obtain⟨p,ss,rfl,hq,An,q⟩:=h;obtain⟨u,rfl,ru⟩:=oE r;cases ru;obtain⟨its,rv,pl,hz⟩:=I.list hq;have hl:its.length=ss.length:=by rw[<-rv.length,ae]
 refine sorted_ints pl.isList (zM rv) (by omega) fun out nT a1 a2 a3=>?_
 obtain⟨en,he⟩:=sortedAll_at s.heap its out;have hf:H (s.heap.objs.size+1)=none:=I.hV.fresh (bY _);refine⟨.ref (s.heap.objs.size+1),_,I.laid (a:=s.heap.objs.size+1) (o:=.lst (nT.map V.int)) (t':=s.toks) (fun b o e=>sortedAll_old e) (bY _) ?_,rfl,q nT a2 a3 _ hf⟩;refine⟨by rw[ae,a2.length_eq];have:=F6;omega,out.toList,en,Gk a1,?_⟩;rw[dr];exact he
def x9:iF:=fun ds Q=>match ds with
 | [.lst es]=>match qi es with
  | some ss=>ss.length<64/\∀nT:List Str,nT.Perm ss->sortedS nT=true->Q (.ow (nT.map D.str))
  | none=>match oP es with
   | some ns=>ns.length<64/\∀yw:List Int,yw.Perm ns->yw.Pairwise (·<=·)->Q (.ow (yw.map D.int))
   | none=>False
 | _=>False
theorem To{K:Z9}{G:Hp}(bs:List Int):f9 K G (bs.map V.int) (bs.map D.int):=by
 induction bs with
 | nil=>exact f9.nil
 | cons b r ih=>exact f9.cons (nz _ _ _) ih
theorem LD(_:X.calm=true):tW X (.builtin "sorted") x9:=by
 refine⟨_,rO.or UW,fun G H vs ds Q P s rs h k=>?_⟩;unfold x9 at h;split at h
 ·split at h
  ·rename_i es bs hb;obtain⟨v,rfl,rv⟩:=oC rs;simp only[Rep] at rv;obtain⟨a,xs,rfl,h1,h2⟩:=rv;rw[GD hb] at h2;rw[F5 h2] at h1;exact .inl ⟨a,bs,rfl,(s.jF h1).sq,h.1,fun nT p1 p2=>vR s (MA nT) (h.2 nT p1 p2) k⟩
  ·split at h
   ·rename_i es _ bs hb;obtain⟨v,rfl,rv⟩:=oC rs;simp only[Rep] at rv;obtain⟨a,xs,rfl,h1,h2⟩:=rv;rw[yg hb] at h2;rw[ye h2] at h1;exact .inr ⟨a,bs,rfl,(s.jF h1).sq,h.1,fun nT p1 p2=>vR s (To nT) (h.2 nT p1 p2) k⟩
   ·exact h.elim
 ·exact h.elim
def OA(X:Cx)(id:String)(o:D->List D->(R->Prop)->Prop):Prop:=∃r,Jl X id r/\∀(G H:Hp) (x:V) (d:D) (vs:List V) (ds:List D) (Q:R->Prop) (P:VK),gz G H->Rep X.K G x d->f9 X.K G vs ds->o d ds Q->
 (∀v H' r' G',Ext G H G' H'->jl X.K G' H' H v r'->Q r'->P v H')->r x vs H P
def dM(T:String)(o:D->List D->(R->Prop)->Prop)(te:TD)(ts:nE):TD:=fun ρ Q=>te ρ fun r=>rn r.val=T/\ts ρ fun ds=>o r.val ds Q
theorem RV{K:Z9}{G H:Hp}{x:V}{d:D}{T:String}(s:gz G H)(r:Rep K G x d)(h:rn d=T)(hT:T="list"\/T="str"):Ee K T x H:=by
 cases d with
 | str z=>simp only[Rep] at r;subst r;exact h.symm
 | lst ds=>
  simp only[Rep] at r;obtain⟨a,xs,rfl,h1,_⟩:=r;exact .inl ⟨h.symm,xs,(s.jF h1).sq⟩
 | non=>subst h;rcases hT with h | h<;>simp[rn] at h
 | bl=>subst h;rcases hT with h | h<;>simp[rn] at h
 | int=>subst h;rcases hT with h | h<;>simp[rn] at h
 | tup=>subst h;rcases hT with h | h<;>simp[rn] at h
 | obj=>subst h;rcases hT with h | h<;>simp[rn] at h
 | dic=>subst h;rcases hT with h | h<;>simp[rn] at h
 | dit=>subst h;rcases hT with h | h<;>simp[rn] at h
 | exc=>subst h;rcases hT with h | h<;>simp[rn] at h
theorem RU{T id:String}{name:Str}{p':Pos}{e1:Expr}{o:D->List D->(R->Prop)->Prop}(hm:OA X id o)(hT:T="list"\/T="str")(pa:PlainAttrs T)(slot:Slot T name id)(Cc:typeOf (.builtin id)=pure (.type "method_descriptor"))
  (he:PD X e te) (ha:qL X (e1::es) ts) (qF:attributeBase e name X.env (eval e X.env)=eval e X.env:=by rfl)
  (yM:((backTo pos (starEach (e1::es) X.env)).all (fun x=>!x.1)&&(backToKw pos (keywordEach [] X.env)).all (fun x=>x.1.isSome)
   && decide ((e1::es).length+([]:List Keyword).length+(if ([]:List Keyword).isEmpty then 0 else 1)<30))=true:=by rfl)
  (qC:(p'.endLine==pos.line)=true:=by rfl) (hs:starEach (e1::es) X.env=(false,eval e1 X.env)::starEach es X.env:=by rfl) (rK:(backTo pos (starEach es X.env)).any (·.1)=false:=by rfl) :
  PD X (.Call (.Attribute e name p') (e1::es) [] pos) (dM T o te ts):=by
 obtain⟨r,hr,tK⟩:=hm;obtain⟨t1,p1,q1⟩:=he;obtain⟨t2,p2,q2⟩:=ha;refine⟨_,zh pa slot Cc hr p1 p2 qF yM qC hs rK,fun ρ σ G0 H0 G H Q P E h k=>q1 ρ σ G0 H0 G H _ _ E h fun v H' r1 G' x rr hq=>?_⟩;obtain⟨G2,x2,rv,_⟩:=rr.freeze x;refine⟨RV x2.s rv hq.1 hT,q2 ρ σ G0 H0 G2 H' _ _ (E.ext x2) hq.2 fun vs H3 ds G3 x3 rs kO=>?_⟩;exact tK G3 H3 v r1.val vs ds Q P x3.s (rv.mono x3.g) rs kO fun w' H4 r4 G4 x4 XE q4=>k w' H4 r4 G4 ((x2.trans x3).trans x4) (XE.lR (x2.trans x3).h) q4
noncomputable def tU(d:D)(ds:List D):Nat:=ds.countP fun e=>iq e d
def Dg:D->List D->(R->Prop)->Prop:=fun d ds Q=>match d,ds with
 | .lst es,[x]=>iE 8 x/\(∀e∈es,iE 8 e)/\Q (.fz (.int (tU x es)))
 | _,_=>False
theorem KQ{Z8:List (Addr×Obj)}{σ:St}{H:Hp}{s:Shared}(I:Inv X Z8 σ H s){d:D}:∀{es:List D} {vs:List V} {us:List Value},(∀e∈es,iE 8 e)->Vals vs us->f9 X.K H vs es->us.countP (p9 X H d)=tU d es
 | [],_,_,_,rv,re=>by
  cases rv
  ·rfl
  ·simp only[f9] at re
 | e::es,_,_,h,rv,re=>by
  cases rv with
  | nil=>simp only[f9] at re
  | cons r t=>
   simp only[f9] at re;unfold tU;rw[de,de,Fu I (h e (by simp)) r re.1,KQ I (fun x hx=>h x (by simp[hx])) t re.2];rfl
theorem RT(hu:X.A.units+64<cLine):OA X "list.count" Dg:=by
 refine⟨fun x vs H Q=>∃p d es ws y,x=.ref p/\vs=[y]/\iI X.K H p ws/\iE 8 d/\(∀e∈es,iE 8 e)/\Rep X.K H y d/\f9 X.K H ws es/\Q (.int (tU d es)) H,fun Z8 s σ H x xs v us Q I rx rs h=>?_,fun G H x d vs ds Q P s rx rs h k=>?_⟩
 ·obtain⟨p,d,es,ws,y,rfl,rfl,hq,hd,he,rd,re,q⟩:=h;cases rx;obtain⟨u,rfl,ru⟩:=oE rs;obtain⟨its,rv,pl,hz⟩:=I.list hq;obtain⟨⟨cls,dd,data,sl⟩,n,ho,hc,Yz,N6⟩:=id pl;simp only at hc N6;subst hc N6;refine fT PySem.F.slot_list_count ⟨_,ho,rfl⟩ PySem.F.entry_list_count (PySem.F.args_list_count_2 _ _) (SeqAt.list_countAt p its.toArray n dd sl u (p9 X H d)) ⟨ho,A2 (A:=X.A.in1) I hd (by show X.A.units+1+8<cLine;omega) rd ru he rv re,?_⟩;rw[show its.toArray.toList=its from rfl,KQ I he rv re];exact⟨.int _,H,I.tok _,⟨_,rfl⟩,q⟩
 ·unfold Dg at h;split at h
  ·obtain⟨y,rfl,ry⟩:=oC rs;simp only[Rep] at rx;obtain⟨a,xs,rfl,h1,h2⟩:=rx;exact⟨a,_,_,xs,y,rfl,rfl,(s.jF h1).sq,h.1,h.2.1,ry.mono s,h2.mono s,k _ _ _ G (.refl s) (j7 (nz _ _ _)) h.2.2⟩
  ·exact h.elim
end
theorem MZ{prog:Program}{w:World}{A:Around}{E:Value->Shared->Prop}{it l:Addr}{items:Array Value}(ij:l≠it) :
  ∀(n i:Nat) (s:Shared) (Q:List Value->Shared->Prop),s.heap.IsListIter it l i->s.heap.IsList l items->i+n<=items.size->
   (∀h':Heap,h'.IsListIter it l (i+n)->Heap.SameBut it s.heap h'->Q ((items.toList.drop i).take n) { s with heap:=h' })->wpAny (model prog w) A (draw (.ref it) n) Q E s
 | 0,i,s,Q,st,hl,hn,q=>by
  rw[draw.eq_1];exact ao (by have:=q s.heap st ⟨rfl,fun _ _=>rfl⟩;simpa using this)
 | n+1,i,s,Q,st,hl,hn,q=>by
  rw[draw.eq_2];have hi:i<items.size:=by omega
  refine aa (wpAny_pyNext_list_item st hl (x:=items[i]) (by simp[hi]) fun h1 wa sb=>?_);dsimp only;have uO:h1.IsList l items:=by
   obtain⟨o,e,c⟩:=hl;exact⟨o,(sb.2 l ij).trans e,c⟩
  refine aa (bN (MZ ij n (i+1) { s with heap:=h1 } _ wa uO (by omega) fun h2 gC yn=>ao ?_));have:=q h2 (by rw[show i+(n+1)=i+1+n by omega];exact gC) ⟨yn.1.trans sb.1,fun b hb=>(yn.2 b hb).trans (sb.2 b hb)⟩;have e:(items.toList.drop i).take (n+1)=items[i]::(items.toList.drop (i+1)).take n:=by
   rw[bS (by simpa using hi)];simp
  rw[e] at this;exact this
theorem W6{prog:Program}{w:World}{A:Around}{E:Value->Shared->Prop}{s:Shared}{l:Addr}{items:Array Value}{Q:List Value->Shared->Prop}(hd:A.handled=none)(hl:s.heap.IsList l items)
  (q:∀h':Heap,Heap.ExtBut s.heap.objs.size s.heap h'->Q items.toList { s with heap:=h' }):wpAny (model prog w) A (unpackItems (.ref l) items.size none) Q E s:=by
 unfold unpackItems;have gL:l<s.heap.objs.size:=by obtain⟨o,e,_⟩:=hl;exact aE e
 have ty:s.TypeIs (.ref l) "list":=by obtain⟨o,e,c,_⟩:=hl;exact⟨o,e,c⟩
 refine aa ?_;unfold notIterableAtAll;refine aa (wpAny_specialOf ty F.slot_list_iter.lookup ?_);rw[if_pos (show((some (Value.builtin "list.__iter__")).isSome=true) from rfl)];refine ao ?_;rw[if_neg aZ];refine aa (bN (eB hl ?_));dsimp only;have uO:(s.heap.push { cls:=Value.type "list_iterator",data:=Data.fields #[Value.ref l,Value.int 0 0] }).IsList l items:=by
  obtain⟨o,e,c⟩:=hl;exact⟨o,aj _ e,c⟩
 refine aa (bN (MZ (aJ gL) items.size 0 _ _ ⟨_,az _ rfl,rfl,rfl⟩ uO (by omega) fun h2 gC yn=>?_));have EA:h2.IsList l items:=by
  obtain⟨o,e,c⟩:=uO;exact⟨o,(yn.2 l (aJ gL)).trans e,c⟩
 have el:List.take items.size (List.drop 0 items.toList)=items.toList:=by rw[List.drop_zero,show items.size=items.toList.length by simp,bT]
 rw[el,if_neg (by simp)];refine aa (bN (wpAny_pyNext_list_end hd gC EA (by simp) fun h3 eb=>?_));rw[if_neg (by simp)];refine ao (q h3 fun b o hb e=>eb b o hb ?_);rw[yn.2 b hb];exact aj _ e
section
variable {X:Cx} {pos:Pos}
def O5(K:Z9)(n:Nat)(t:wR):TG:=fun v σ H Q=>∃a xs,v=.ref a/\iI K H a xs/\xs.length=n/\t xs σ H Q
theorem RS{es:List Expr}{k:Nat}{t:wR}{n:Nat}(hc:X.calm=true)(h:Au X es t)
  (hn:(assignEach es X.env).length=n:=by rfl) (jW:(assignEach es X.env).findIdx? (·.1)=none:=by rfl):PG X (.Tuple es k pos) (O5 X.K n t):=by
 intro Z8 s σ H v u Q I r hw;obtain⟨a,xs,e1,hq,hl,hw⟩:=hw;subst e1;cases r;obtain⟨its,rv,pl,hz⟩:=I.list hq;rw[assign_Tuple];refine aa (fY ?_);unfold unpack;have hlen:(assignEach es X.env).length=its.toArray.size:=by rw[hn,<-hl,rv.length];simp
 rw[hlen,jW];refine aa (bN (W6 (I.ok.hd hc) pl.isList fun h' hx=>?_));have I1:Inv X Z8 σ H { s with heap:=h' }:=I.kept (t':=s.toks) fun b o e=>hx b o (aJ (aE e)) e
 exact h Z8 _ σ H xs _ Q I1 (by simpa using rv) hw
def zb(n:Nat)(t:sW):lX:=fun d ρ Q=>match d with
 | .lst ds=>ds.length=n/\t ds ρ Q
 | _=>False
theorem FP{es:List Expr}{k:Nat}{t:sW}{n:Nat}(hc:X.calm=true)(h:Aw X es t)(hn:(assignEach es X.env).length=n:=by rfl)(jW:(assignEach es X.env).findIdx? (·.1)=none:=by rfl):u5 X (.Tuple es k pos) (zb n t):=by
 obtain⟨t1,p1,q1⟩:=h;refine⟨_,RS hc p1 hn jW,fun ρ σ G0 H0 G H d v Q P E r h k=>?_⟩;unfold zb at h;split at h
 ·simp only[Rep] at r;obtain⟨a,xs,rfl,hq,rs⟩:=r;exact⟨a,xs,rfl,(E.e.s.jF hq).sq,by rw[rs.length];exact h.1,q1 ρ σ G0 H0 G H _ xs Q P E rs h.2 k⟩
 ·exact h.elim
end
theorem Se{acc:List Int}{k:Int}:∀a,a∈step_dedup acc k↔a∈acc\/a=k:=by
 intro a;unfold step_dedup;split
 ·rename_i h;constructor
  ·exact .inl
  ·rintro(h' | rfl)
   ·exact h'
   ·simpa using h
 ·simp
theorem UU{acc:List Int}{k:Int}(h:acc.Nodup):(step_dedup acc k).Nodup:=by
 unfold step_dedup;split
 ·exact h
 ·rename_i hn;rw[fL];refine⟨h,by simp,fun a ha b hb=>?_⟩;have:b=k:=by simpa using hb
  subst this;rintro rfl;exact hn (by simpa using ha)
theorem UT(l acc:List Int)(h:acc.Nodup):(l.foldl step_dedup acc).Nodup/\∀a,a∈l.foldl step_dedup acc↔a∈acc\/a∈l:=by
 induction l generalizing acc with
 | nil=>exact⟨h,fun a=>by simp⟩
 | cons k r ih=>
  obtain⟨h1,h2⟩:=ih (step_dedup acc k) (UU h);refine⟨h1,fun a=>?_⟩;rw[List.foldl_cons,h2 a,Se a,ar,or_assoc]
theorem VC(ns:List Int):firstMet (fun i=>ns.getD i 0) ns.length=ns.foldl step_dedup []:=by
 unfold firstMet;congr 1
 apply fU
 ·simp
 ·intro i h1 h2;simp[List.getD,h2]
section
variable {X:Cx} {pos:Pos} {e:Expr} {te:TD} {es:List Expr} {ts:nE}
noncomputable def Fq(ns:List Int):List Int:=ns.foldl step_dedup []
theorem Tn(hc:X.calm=true):hJ X (.type "set") (fun xs H Q=>∃(p:Addr) (ns:List Int),xs=[.ref p]/\iI X.K H p (ns.map V.int)/\ns.length<4000/\∀q,H q=none->∀S:Int->Bool,Q (.ref q) (upd H q (.set S (Fq ns).length))):=by
 walk_at "1e";obtain⟨p,ns,rfl,hq,ic,q⟩:=h;obtain⟨u,rfl,ru⟩:=oE r;cases ru;obtain⟨its,rv,pl,hz⟩:=I.list hq;have hl:its.toArray.size=ns.length:=by rw[ax,<-rv.length,ae]
 refine call_set_list (I.ok.hd hc) pl.isList (by simpa using zM rv) (by rw[hl];have:scanBound=4096:=(by decide);omega) fun h' tk hs hk=>?_
 have hf:H s.heap.objs.size=none:=I.hV.fresh (aA _);rw[hl] at hs;refine⟨.ref s.heap.objs.size,_,I.laid (a:=s.heap.objs.size) (t':=tk) (fun b o e=>hk b o (aE e) e) (aA _) (o:=.set _ _) hs,rfl,?_⟩;rw[VC];exact q _ hf _
theorem TZ:hJ X (.builtin "len") (fun xs H Q=>∃(p:Addr) (S:Int->Bool) (n:Nat),xs=[.ref p]/\H p=some (.set S n)/\Q (.int n) H):=by
 walk_at "1e";obtain⟨p,S,n,rfl,hp,q⟩:=h;obtain⟨u,rfl,ru⟩:=oE r;cases ru;obtain⟨o,es,ep,t,h1,h2,h3,h4,h5,h6,h7,rfl⟩:=(show s.heap.SetOf (intKind X.prog X.w) p S n from I.hV p _ hp)
 refine call_len_set h1 h2 h3 h7 ?_ ⟨.int _,H,I.tok _,⟨_,rfl⟩,q⟩;have:scanBound=4096:=by decide
 have h8:es.size<4096:=by omega
 exact Int.ofNat_lt.mpr (Nat.lt_trans h8 (by decide))
theorem Mz:bootBuiltins "set"=some (.type "set"):=by rfl
def Dx:iF:=fun ds Q=>match ds with
 | [.lst es]=>match oP es with
  | some ns=>ns.length<4000/\∀l:List Int,l.Nodup->(∀k,k∈l↔k∈ns)->Q (.fz (.int l.length))
  | none=>False
 | _=>False
theorem TY{p1 p2 mX:Pos}(hc:X.calm=true)(ud:X.mg "len"=none)(oW:X.mg "set"=none)(ha:qL X [e] ts)(Ct:Gl X "len":=by rfl)(wC:Gl X "set":=by rfl)
  (he:starEach [e] X.env=(false,eval e X.env)::starEach [] X.env:=by rfl) (yN:starEach [.Call (.Name "set" p2) [e] [] mX] X.env=(false,eval (.Call (.Name "set" p2) [e] [] mX) X.env)::starEach [] X.env:=by rfl):PD X (.Call (.Name "len" p1) [.Call (.Name "set" p2) [e] [] mX] [] pos) (iQ Dx ts):=by
 obtain⟨t,pp,q⟩:=ha;refine⟨_,A8 TZ Ct ud du (tq (D9 (Tn hc) wC oW Mz pp (by decide) (by decide) he rfl) tY yN) (by decide) (by decide) yN rfl,fun ρ σ G0 H0 G H Q P E h k=>?_⟩;refine q ρ σ G0 H0 G H _ _ E h fun vs H' ds G' x rs hq=>?_
 unfold Dx at hq;split at hq
 ·split at hq
  ·rename_i es ns hn;obtain⟨v,rfl,rv⟩:=oC rs;simp only[Rep] at rv;obtain⟨a,xs,rfl,h1,h2⟩:=rv;rw[yg hn] at h2;rw[ye h2] at h1;refine⟨a,ns,rfl,(x.s.jF h1).sq,hq.1,fun q' sL S=>⟨q',S,_,rfl,lA,?_⟩⟩;obtain⟨f1,f2⟩:=UT ns [] List.nodup_nil;exact k _ _ _ G' (x.trans (.own x.s sL)) (j7 (nz _ _ _)) (hq.2 (Fq ns) f1 fun k=>by rw[Fq,f2];simp)
  ·exact hq.elim
 ·exact hq.elim
theorem g7.look{K:Z9}{H:Hp}{f:Str}:∀{gs:List (Str×V)} {fs:List (Str×D)} {d:D},g7 K H gs fs->fs.lookup f=some d->∃v,gs.lookup f=some v/\Rep K H v d
 | [],[],d,_,h=>by simp at h
 | (x,v)::gs,(y,d')::fs,d,r,h=>by
  simp only[g7] at r;obtain⟨⟨rfl,r1⟩,r2⟩:=r;rw[c8] at h ⊢;cases hb:f==x with
  | true=>rw[hb] at h;cases h;exact⟨v,rfl,r1⟩
  | false=>rw[hb] at h;exact g7.look r2 h
 | [],_::_,_,r,_=>by simp only[g7] at r
 | _::_,[],_,r,_=>by simp only[g7] at r
theorem LC{f:Str}:∀{fs:List (Str×D)} {d:D},fs.lookup f=some d->∃p∈fs,p.1=f
 | [],d,h=>by simp at h
 | (y,d')::fs,d,h=>by
  rw[c8] at h;cases hb:f==y with
  | true=>exact⟨(y,d'),by simp,(ef.mp hb).symm⟩
  | false=>
   rw[hb] at h;obtain⟨p,h1,h2⟩:=LC h;exact⟨p,by simp[h1],h2⟩
def jL(f:Str)(te:TD):TD:=fun ρ Q=>te ρ fun r=>match r.val with
 | .obj _ fs=>∃d,fs.lookup f=some d/\Q (.fz d)
 | _=>False
theorem kZ{f:Str}(he:PD X e te)(hb:attributeBase e f X.env (eval e X.env)=eval e X.env:=by rfl):PD X (.Attribute e f pos) (jL f te):=by
 obtain⟨t,p,q⟩:=he;refine⟨_,Qc p hb,fun ρ σ G0 H0 G H Q P E h k=>q ρ σ G0 H0 G H _ _ E h fun v H' r G' x rr hq=>?_⟩;obtain⟨G2,x2,rv,_⟩:=rr.freeze x;split at hq
 ·rename_i cn fs e1;rw[e1] at rv;simp only[Rep] at rv;obtain⟨a,C,dx,gs,rfl,h1,h2,h3,h4⟩:=rv;obtain⟨d,hd,hq⟩:=hq;obtain⟨v,hv,rv⟩:=h4.look hd;obtain⟨pr,hp,rfl⟩:=LC hd;exact⟨a,C,dx,gs,v,rfl,x2.s _ _ h1,h2.cls,h3 pr hp,hv,k _ _ _ G2 x2 (j7 rv) hq⟩
 ·exact hq.elim
noncomputable def za(f:Str)(v:D):List (Str×D)->List (Str×D)
 | []=>[(f,v)]
 | (g,x)::r=>if g=f then(g,v)::r else(g,x)::za f v r
theorem g7.put{K:Z9}{H:Hp}{f:Str}{v:V}{d:D}(rv:Rep K H v d):∀{gs:List (Str×V)} {fs:List (Str×D)},g7 K H gs fs->g7 K H (o8 f v gs) (za f d fs)
 | [],[],_=>by simp only[o8,za,g7,and_true,true_and];exact rv
 | (x,u)::gs,(y,d')::fs,r=>by
  simp only[g7] at r;obtain⟨⟨rfl,r1⟩,r2⟩:=r;simp only[o8,za];split
  ·simp only[g7,true_and];exact⟨rv,r2⟩
  ·simp only[g7,true_and];exact⟨r1,g7.put rv r2⟩
 | [],_::_,r=>by simp only[g7] at r
 | _::_,[],r=>by simp only[g7] at r
theorem g7.length{K:Z9}{H:Hp}:∀{gs:List (Str×V)} {fs:List (Str×D)},g7 K H gs fs->gs.length=fs.length
 | [],[],_=>rfl
 | (x,u)::gs,(y,d')::fs,r=>by
  simp only[g7] at r;simp[g7.length r.2]
 | [],_::_,r=>by simp only[g7] at r
 | _::_,[],r=>by simp only[g7] at r
structure Making (K:Z9) (C:Addr) (x dx:Addr) (G0 H0:Hp) (ρ:Ev) (σ:St) (G H:Hp) (fs:List (Str×D)) (gs:List (Str×V)):Prop where
 e:ie K G0 H0 ρ σ G H
 sl:σ[0]?=some (some (.ref x))
 hx:H x=some (.ins C dx gs)
 uP:H dx=some (.own x)
 gx:G x=none
 CB:G dx=none
 r:g7 K G gs fs
theorem Making.ext{K:Z9}{C x dx:Addr}{G0 H0:Hp}{ρ:Ev}{σ:St}{G H G' H':Hp}{fs:List (Str×D)}{gs:List (Str×V)}(M:Making K C x dx G0 H0 ρ σ G H fs gs)(y:Ext G H G' H'):Making K C x dx G0 H0 ρ σ G' H' fs gs:=
 ⟨M.e.ext y,M.sl,y.h _ _ M.hx,y.h _ _ M.uP,y.n _ M.gx (by rw[M.hx];exact nofun),y.n _ M.CB (by rw[M.uP];exact nofun),g7.mono y.g _ _ M.r⟩
noncomputable abbrev xJ:=Ev->List (Str×D)->(List (Str×D)->Prop)->Prop
def EK(X:Cx)(C:Addr)(vp:List Stmt)(t:xJ):Prop:=∃tt,rR X vp tt/\∀(x dx:Addr) (ρ:Ev) (σ:St) (G0 H0 G H:Hp) (fs:List (Str×D)) (gs:List (Str×V)) (Q:List (Str×D)->Prop) (E:Ends),H0 x=none->H0 dx=none->dx≠x->(∀i o,gt ρ i≠.ov o)->
 Making X.K C x dx G0 H0 ρ σ G H fs gs->t ρ fs Q->(∀gK G' H' EE xG,Making X.K C x dx G0 H0 ρ gK G' H' EE xG->Q EE->E.nx gK H')->tt E σ H
def AB:xJ:=fun _ fs Q=>Q fs
def qZ(f:Str)(te:TD)(u:xJ):xJ:=fun ρ fs Q=>te ρ fun r=>fs.length<1000/\u ρ (za f r.val fs) Q
theorem Lc{C:Addr}:EK X C [] AB:=⟨_,Ll,fun x dx ρ σ G0 H0 G H fs gs Q E _ _ _ _ M h k=>k σ G H fs gs M h⟩
theorem tw{C:Addr}{f x:Str}{p1 p2:Pos}{vp:List Stmt}{u:xJ}(c:xP X.K C)(n:gP X.K C f)(he:PD X e te)(hr:EK X C vp u)(hN:X.N[0]?=some x:=by rfl)(hv:qK X.env.scope x:=by first | exact Or.inl rfl | exact Or.inr (Or.inl rfl) | exact Or.inr (Or.inr rfl))
  (hs:swapsWith e (some (.Attribute (.Name x p1) f p2)) pos.line X.env=pure false:=by rfl) (hd:(x==("__debug__":Str))=false:=by decide) (kP:(x==("__classdict__":Str))=false:=by decide) :
  EK X C (.Assign [.Attribute (.Name x p1) f p2] e pos::vp) (qZ f te u):=by
 obtain⟨t1,h1,q1⟩:=he;obtain⟨t2,h2,q2⟩:=hr;refine⟨_,Mj (Qb (sg hN hv hd kP) h1 hs) h2,fun x dx ρ σ G0 H0 G H fs gs Q E z1 z2 z3 z4 M h k=>?_⟩;refine q1 ρ σ G0 H0 G H _ _ M.e h fun v H' r G' y rr hq=>?_
 obtain⟨G2,y2,rv,_⟩:=rr.freeze y;have M2:=M.ext y2;refine⟨_,M.sl,x,C,dx,gs,rfl,M2.hx,c,n,by rw[M.r.length];exact hq.1,?_⟩;refine q2 x dx ρ σ G0 H0 G2 _ (za f r.val fs) (o8 f v gs) Q E z1 z2 z3 z4 ?_ hq.2 k;refine⟨⟨⟨M2.e.e.g,fun b o e=>by rw[iy (nQ e z1)];exact M2.e.e.h b o e,fun b o e=>by rw[iy (nQ e M2.gx)];exact M2.e.e.s b o e,M2.e.e.n⟩,M2.e.len,M2.e.fz,fun i ds h=>?_,M2.e.dj,?_⟩,M2.sl,lA,by rw[iy z3];exact M2.uP,M2.gx,M2.CB,M2.r.put rv⟩
 ·obtain⟨p,xs,b1,b2,b3,b4,b5⟩:=M2.e.ow i ds h;exact⟨p,xs,b1,by rw[iy (Po b2 M2.hx (by simp))];exact b2,b3,b4,b5⟩
 ·obtain⟨own,o1,o2⟩:=M2.e.on;exact⟨own,o1,fun i o h=>(z4 i o h).elim⟩
end
def OB(K:Z9)(C:Addr)(n:Nat)(t:iF):Sp:=fun vs H Q _=>∃x dx H1 G ds BC Qr,vs=.ref x::BC/\H=upd (upd H1 dx (.own x)) x (.ins C dx [])/\H1 x=none/\H1 dx=none/\dx≠x/\gz G H1/\f9 K G BC ds/\ds.length=n/\t ds Qr/\
 ∀H' r G',Ext G H1 G' H'->jl K G' H' H1 (.ref x) r->Qr r->Q .non H'
section
variable {P:Program} {w:World} {K:Z9} {mg:Str->Option Value} {base:Heap}
noncomputable def vM(N:List Str)(ds:List D):Ev:=.un::(ds.map Sl.fz++List.replicate (N.length-1-ds.length) .un)
theorem TV{G H:Hp}{N:List Str}{x:V}{vs:List V}{ds:List D}(s:gz G H)(r:f9 K G vs ds):ie K G H (vM N ds) (oO N (x::vs)) G H:=by
 have E:=LG (N:=N.drop 1) s r;have hl:=r.length;have e1:vM N ds=.un::vN (N.drop 1) ds:=by simp[vM,vN]
 have e2:oO N (x::vs)=some x::oO (N.drop 1) vs:=by simp[oO,Nat.sub_sub,Nat.add_comm]
 rw[e1,e2];refine⟨E.e,eG (·+1) E.len,fun i d h=>?_,fun i d h=>?_,fun i j d d' jX h h'=>?_,?_⟩
 ·cases i with
  | zero=>cases h
  | succ i=>exact E.fz i d h
 ·cases i with
  | zero=>cases h
  | succ i=>exact E.ow i d h
 ·cases i with
  | zero=>cases h
  | succ i=>
   cases j with
   | zero=>cases h'
   | succ j=>exact E.dj i j d d' (fun z=>jX (by rw[z])) h h'
 ·obtain⟨own,o1,o2⟩:=E.on;refine⟨fun q=>(own q).map (·+1),fun i ds p h hp=>?_,fun i o h=>?_⟩
  ·cases i with
   | zero=>cases h
   | succ i=>
    dsimp only;rw[o1 i ds p h hp];rfl
  ·cases i with
   | zero=>cases h
   | succ i=>
    obtain⟨p,fp,b1,b2,b3,b4⟩:=o2 i o h;refine⟨p,fp,b1,b2,b3,fun q hq=>⟨(b4 q hq).1,(b4 q hq).2.1,?_⟩⟩;dsimp only;rw[(b4 q hq).2.2];rfl
theorem Vf(N:List Str)(ds:List D):∀i o,gt (vM N ds) i≠.ov o:=by
 have key:∀(l:List Sl),(∀s∈l,∀o,s≠.ov o)->∀i o,gt l i≠.ov o:=by
  intro l;induction l with
  | nil=>intro _ i o h;cases h
  | cons a r ih=>
   intro h i o;cases i with
   | zero=>exact h a (by simp) o
   | succ i=>exact ih (fun s hs=>h s (by simp[hs])) i o
 refine key _ fun s hs o e=>?_
 subst e;unfold vM at hs;simp at hs
theorem My{x qual cn:Str}{st:Stmt}{f C:Addr}{fd:FuncData}{N ps:List Str}{k:Nat}{t:iF}{T:xJ}(F:EU K x qual st f fd)(S:gn N ("self"::ps) (gf st))(hC:ClsAt K cn C)
  (body:∀(gN:Value) (A:Around) (outer:List Env) (s:Shared) (H:Hp) (E:XK),iL k (A.deeper (envOfC qual (gf st) s.heap.objs.size f gN))->EK (tS qd P w K mg base N qual (gf st) f gN A outer s H E).vv C (gZ st) T)
  (spec:∀(ds:List D) (Qr:R->Prop),ds.length=ps.length->t ds Qr->T (vM N ds) [] fun fs=>(∀p∈fs,gP K C p.1)/\Qr (.fz (.obj cn fs))):lH P w K mg base qd (k+1) f fd ("self"::ps) (OB K C ps.length t):=by
 refine F.ok S (fun vs H Q E h=>?_) (fun gN A outer s H vs Q E hr h=>?_)
 ·obtain⟨x,dx,H1,G,ds,BC,Qr,rfl,_,_,_,_,_,r,hl,_⟩:=h;simp[r.length,hl]
 ·obtain⟨x,dx,H1,G,ds,BC,Qr,rfl,rfl,hx,uP,ij,s0,r,hl,ht,k0⟩:=h;obtain⟨tt,p,q⟩:=body gN A outer s _ E hr;have E0:=TV (N:=N) (x:=.ref x) s0 r;have gx:=s0.free hx;have CB:=s0.free uP;have sH:gz H1 (upd (upd H1 dx (.own x)) x (.ins C dx [])):=fun b o e=>by rw[iy (nQ e hx),iy (nQ e uP)];exact e
  have M0:Making K C x dx G H1 (vM N ds) (oO N (.ref x::BC)) G (upd (upd H1 dx (.own x)) x (.ins C dx [])) [] []:=
   ⟨⟨⟨gz.refl _,sH,s0.trans sH,fun _ h _=>h⟩,E0.len,E0.fz,fun i ds h=>let⟨p,xs,b1,b2,b3,b4,b5⟩:=E0.ow i ds h;⟨p,xs,b1,sH _ _ b2,b3,b4,b5⟩,E0.dj,let⟨own,o1,o2⟩:=E0.on;⟨own,o1,fun i o h=>let⟨p,fp,b1,b2,b3,b4⟩:=o2 i o h;⟨p,fp,b1,b2,b3.mono (gz.refl _) fun q _ u e=>sH q u e,b4⟩⟩⟩,by simp[oO],lA,by rw[iy ij];exact lA,gx,CB,by simp only[g7]⟩
  refine⟨tt,p,q x dx _ _ G H1 G _ [] [] _ _ hx uP ij (Vf _ _) M0 (spec ds Qr hl ht) fun gK G' H' fs gs M hq=>?_⟩;have y:=M.e.e;have ne':dx≠x:=ij;have sG:gz G' (upd (upd G' dx (.own x)) x (.ins C dx gs)):=fun b o e=>by rw[iy (nQ e M.gx),iy (nQ e M.CB)];exact e
  refine k0 H' (.fz (.obj cn fs)) (upd (upd G' dx (.own x)) x (.ins C dx gs)) ⟨y.g.trans sG,y.h,fun b o e=>?_,fun b h1 h2=>?_⟩ ?_ hq.2
  ·by_cases hb:b=x
   ·subst hb;rw[lA] at e;rw[M.hx];exact e
   ·rw[iy hb] at e;by_cases EC:b=dx
    ·subst EC;rw[lA] at e;rw[M.uP];exact e
    ·rw[iy EC] at e;exact y.s b o e
  ·rw[iy (fun z=>h2 (by rw[z];exact hx)),iy (fun z=>h2 (by rw[z];exact uP))];exact y.n b h1 h2
  ·show Rep K _ _ (.obj cn fs);simp only[Rep];exact⟨x,C,dx,gs,rfl,lA,hC,hq.1,g7.mono sG _ _ M.r⟩
structure lZ (P:Program) (w:World) (K:Z9) (mg:Str->Option Value) (base:Heap) (k:Nat) (x:Str) (n:Nat) (t:iF):Prop where
 ex:∃(C f:Addr) (fd:FuncData) (ps:List Str),Mk K C f/\lH P w K mg base qd k f fd ps (OB K C n t)/\mg x=some (.ref C)/\Binds K fd ps []
end
section
variable {X:Cx} {k k' n:Nat} {t:iF} {x:Str} {p pos:Pos} {e:Expr} {es:List Expr} {ts:nE}
theorem LB(C:lZ X.prog X.w X.K X.mg X.base k x n t)(hr:iL k' X.A)(ha:qL X (e::es) ts)(hk:k+1<=k':=by decide)(hg:Gl X x:=by rfl)(qE:(x==("__debug__":Str))=false:=by decide)
  (he:starEach (e::es) X.env=(false,eval e X.env)::starEach es X.env:=by rfl) (kS:(backTo pos (starEach es X.env)).any (·.1)=false:=by rfl):PD X (.Call (.Name x p) (e::es) [] pos) (iN n t ts):=by
 obtain⟨C,f,fd,ps,M,F,hm,hb⟩:=C.ex;obtain⟨tt,pp,q⟩:=ha;refine⟨_,RE M F (hr.mono hk) hg hm hb .nil JL pp qE he kS,fun ρ σ G0 H0 G H Q P E h k=>q ρ σ G0 H0 G H _ _ E h fun vs H' ds G' y rs hq=>?_⟩;intro a dx ha uP ij;rw[ba];exact⟨a,dx,H',G',ds,vs,Q,rfl,rfl,ha,uP,ij,y.s,rs,hq.1,hq.2,fun H2 r G2 x2 rr q2=>⟨rfl,k _ H2 r G2 (y.trans x2) (rr.lR y.h) q2⟩⟩
end
def lE(K:Z9)(C:Addr):List Str->Prop
 | []=>True
 | x::r=>gP K C x/\lE K C r
theorem lE.all{K:Z9}{C:Addr}:∀{l:List Str},lE K C l->∀x∈l,gP K C x
 | [],_,x,h=>by cases h
 | y::r,n,x,h=>by
  rcases ar.mp h with rfl | h
  ·exact n.1
  ·exact lE.all n.2 x h
structure y8 (K:Z9) (mg:Str->Option Value) (cn qual:Str) (st:Stmt) (fields:List Str):Prop where
 ex:∃(C f:Addr) (fd:FuncData),ClsAt K cn C/\Mk K C f/\EU K "__init__" qual st f fd/\mg cn=some (.ref C)/\lE K C fields
theorem uZ{K:Z9}{mg:Str->Option Value}{h:Heap}{cn qual:Str}{st:Stmt}{fields:List Str}{C f:Addr}{oc:Value}{od an:Option Addr}{rq:Array (Option Value)}{kV doc pm gN ct:Value}(X:K.In h)(G:h.Ns mainGlobals mg)
  (aC:PySem.W.nsIn K mainGlobals cn=some (some (.ref C))) (a1:PySem.W.findIn K (.ref C) "__init__"=some (some (.ref f))) (i1:PySem.W.isFn K (.ref f)=true)
  (l1:K.lookup f=some ⟨oc,od,.func (PySem.W.fnOf "__init__" qual (jf st) (gZ st) (gf st) .none kV doc pm an gN ct),rq⟩) (c1:PySem.W.codeIn K gN qual=true) (k1:PySem.W.keepIn K (.ref f)=true)
  (pg:PySem.W.plainGet K C Str.empty=true) (hd:PySem.W.hasDictIn K C=true) (po:PySem.W.plainOver K C=true) (sa:PySem.W.findIn K (.ref C) "__setattr__"=some (some (.builtin "object.__setattr__"))) (mk:PySem.W.makesIn K C=true) (kc:PySem.W.keepIn K (.ref C)=true)
  (nf:lE K C fields):y8 K mg cn qual st fields:=
 ⟨C,f,_,⟨aC,⟨pg,hd,po,sa⟩⟩,⟨mk,a1,i1,kc⟩,FD l1 c1 k1,PySem.W.mg_of X G aC,nf⟩
noncomputable def vf:D->Bool
 | .non=>true
 | .bl _=>true
 | .int _=>true
 | .str _=>true
 | _=>false
def C1(i:Nat)(te:TD):TD:=fun ρ Q=>te (oY i ρ) fun r=>match r with
 | .fz d=>vf d=true/\Q (.fz d)
 | _=>False
theorem DO{K:Z9}{G G':Hp}{v:V}{d:D}(h:vf d=true)(r:Rep K G v d):Rep K G' v d:=by
 cases d<;>first | (simp only[Rep] at r ⊢;exact r) | cases h
noncomputable def xT(G:Hp)(L:List Addr):Hp:=fun a=>if a∈L then none else G a
theorem LA{G H G' H':Hp}{L:List Addr}(gp:∀q∈L,G q=none)(x:Ext (sZ G H L) H G' H'):Ext G H (xT G' L) H':=by
 refine⟨fun b u e=>?_,x.h,fun b u e=>?_,fun q h1 h2=>?_⟩
 ·have hb:b∉L:=fun z=>by rw[gp b z] at e;cases e
  unfold xT;rw[if_neg hb];exact x.g b u (by rw[uz hb];exact e)
 ·unfold xT at e;split at e
  ·cases e
  ·exact x.s b u e
 ·unfold xT;split
  ·rfl
  ·rename_i hq;exact x.n q (by rw[uz hq];exact h1) h2
section
variable {X:Cx} {e:Expr} {te:TD} {t:mT}
theorem ie.HU{K:Z9}{G0 H0 G H:Hp}{ρ:Ev}{σ:St}(i:Nat)(E:ie K G0 H0 ρ σ G H):∃G1,ie K G0 H0 (oY i ρ) σ G1 H/\∀G' H',Ext G1 H G' H'->∃G2,Ext G H G2 H':=
 let⟨L,hL,E',_⟩:=E.pI i
 ⟨_,E',fun G' H' x=>⟨_,LA hL x⟩⟩
theorem Lb(i:Nat)(h:PD X e te):PD X e (C1 i te):=by
 obtain⟨tt,p,q⟩:=h;refine⟨tt,p,fun ρ σ G0 H0 G H Q P E h k=>?_⟩;obtain⟨G1,E1,back⟩:=E.HU i;refine q _ σ G0 H0 G1 H _ _ E1 h fun v H' r G' x rr hq=>?_
 split at hq
 ·rename_i d;obtain⟨G2,x2⟩:=back G' H' x;exact k v H' (.fz d) G2 x2 (DO hq.1 rr) hq.2
 ·exact hq.elim
end
def xi:iF:=fun ds Q=>match ds with
 | [.lst es]=>match qi es with
  | some ss=>ss.length<4000/\(∀l:List Str,l.Nodup->(∀w∈l,w∈ss)->l.length<64)/\∀l:List Str,l.Nodup->(∀w,w∈l↔w∈ss)->sortedS l=true->Q (.ow (l.map D.str))
  | none=>False
 | _=>False
theorem VB(t:SetTable)(n:Nat):(t.orStandIn n).led=t.led:=by
 unfold SetTable.orStandIn;split<;>rfl
theorem Ut(t:SetTable)(es:Array (Int×Value))(h:Int)(x:Value):(layNew t es h x).2.1.led=t.led:=by
 unfold layNew;split
 ·exact VB _ _
 ·rfl
theorem Vr{t t':SetTable}{hs:Array Int}{wanted:Nat}{order:Array Nat}(h:t.relaid hs wanted=some (t',order)):t'.led=t.led/\t'.plain=t.plain:=by
 unfold SetTable.relaid SetTable.laid at h;cases hc:SetTable.layClean (SetTable.sizeAbove wanted-1) hs with
 | none=>rw[hc] at h;cases h
 | some owner=>
  rw[hc] at h;cases h;exact⟨rfl,rfl⟩
theorem Wf(t:SetTable)(es:Array (Int×Value))(wanted:Nat)(hp:t.plain=false):(relayAll t es wanted).2.1.led=t.led/\(relayAll t es wanted).2.1.plain=false:=by
 unfold relayAll;split
 ·rename_i t' order hr;obtain⟨h1,h2⟩:=Vr hr;dsimp only;split
  ·exact⟨h1,h2.trans hp⟩
  ·exact⟨rfl,rfl⟩
 ·exact⟨rfl,rfl⟩
section
variable {prog:Program} {w:World} {A:Around} {E:Value->Shared->Prop} {s:Shared}
structure CP (w:World) (es:Array (Int×Value)) (t:SetTable):Prop where
 led:t.led=!(w.params.followText "set-order")
 plain:es.size=0\/t.plain=false
structure g8 (prog:Program) (w:World) (h:Heap) (a:Addr) (es:Array (Int×Value)) (ep:Nat) (t:SetTable):Prop where
 at_:h.get? a=some { cls:=.type "set",dict:=none,data:=.set es ep t,slots:=#[] }
 el:ElemsOf (strKind prog w) es.toList
 small:es.size<scanBound
 fits:t.fits es.size=true
 marks:CP w es t
def Mem(prog:Program)(w:World)(es:Array (Int×Value))(k:Str):Prop:=∃e∈es.toList,(strKind prog w).is k e.2=true
theorem Mx{a:Addr}{es lD:Array (Int×Value)}{ep:Nat}{t t':SetTable}{Q:Unit->Shared->Prop}(ho:s.heap.get? a=some { cls:=.type "set",dict:=none,data:=.set es ep t,slots:=#[] })(hb:lD.size<scanBound)
  (h:∀h',Heap.SameBut a s.heap h'->h'.get? a=some { cls:=.type "set",dict:=none,data:=.set lD (ep+1) t',slots:=#[] }->Q () { s with heap:=h' }):wpAny (model prog w) A (storeSet a lD t') Q E s:=by
 refine wpAny_storeSet_of ho rfl ?_ (fM hb);refine h _ (Heap.SameBut.update s.heap a (Obj.putSet lD t')) ?_;have:=c6 (Obj.putSet lD t') ho (by rw[putSet_of lD t' (ep:=ep) (t:=t) (es:=es) rfl];rfl);rw[putSet_of lD t' (ep:=ep) (t:=t) (es:=es) rfl] at this;exact this
theorem QV{a:Addr}{es:Array (Int×Value)}{ep:Nat}{t:SetTable}{x:Str}{tk:Tok}{Q:Bool->Shared->Prop}(S:g8 prog w s.heap a es ep t)(room:es.size+1<scanBound)
  (h:∀h' lD wI t',Heap.SameBut a s.heap h'->g8 prog w h' a lD wI t'->((lD=es/\Mem prog w es x)\/(¬Mem prog w es x/\List.Perm lD.toList (es.toList++[(hashStr w x,.str x tk)])))->∀b,Q b { s with heap:=h' }) :
  wpAny (model prog w) A (setAddHashed a (.str x tk) ((strKind prog w).hash x)) Q E s:=by
 have wB:(strKind prog w).is x (.str x tk)=true:=by show Value.isStrOf x (.str x tk)=true;simp[Value.isStrOf]
 have Ip:(Value.str x tk).scannable=true:=rfl;have ho:=S.at_;unfold setAddHashed setAddHashedIn;refine bN (aa (dH ho rfl S.fits ?_));dsimp only;rw[byScan_of Ip S.small S.el];simp only[↓reduceIte];unfold setAddByScan;refine aa (aa (fF (aa (wpAny_setScan_of wB ho rfl S.fits S.el ?_))));cases hr:List.findIdx? (fun e=>(strKind prog w).is x e.2) es.toList with
 | some j=>
  dsimp only;obtain⟨hj,Yh,_⟩:=List.findIdx?_eq_some_iff_getElem.mp hr;refine ao (ao ?_);exact h s.heap es ep t (Heap.SameBut.refl a s.heap) S (.inl ⟨rfl,es.toList[j],cq hj,Yh⟩) _
 | none=>
  dsimp only;have uN:¬Mem prog w es x:=fun⟨e,he,hp⟩=>by
   have:=List.findIdx?_eq_none_iff.mp hr e he;rw[hp] at this;cases this
  have way:∀(b:Bool) {s1:Shared} {Q':Unit->Shared->Prop},Q' () s1->wpAny (model prog w) A (match b with | true=>rule "set.scan.the-table-gave-way" | false=>pure ()) Q' E s1:=fun b s1 Q' q=>by
   cases b
   ·exact ao q
   ·exact fF q
  have mJ:=layNew_perm t es ((strKind prog w).hash x) (.str x tk);have sP:=layNew_fits t es ((strKind prog w).hash x) (.str x tk);have wz:=Ut t es ((strKind prog w).hash x) (.str x tk);generalize layNew t es ((strKind prog w).hash x) (.str x tk)=L at mJ sP wz ⊢;obtain⟨oZ,t1,Y2,YU⟩:=L;dsimp only at mJ sP wz ⊢;rw[aF] at mJ;have Cy:ElemsOf (strKind prog w) oZ.toList:=(S.el.push wB Ip).perm mJ;have ic:oZ.size=es.size+1:=by rw[<-ag,mJ.length_eq,au,ag];rfl
  have ED:oZ.size<scanBound:=by omega
  refine aa (way _ ?_)
  -- t8 table,not plain any more
  have tail:∀(g:Bool->Sem Unit),(∀(b:Bool) (s1:Shared) (Q':Unit->Shared->Prop),Q' () s1->wpAny (model prog w) A (g b) Q' E s1)->∀t2:SetTable,t2.fits oZ.size=true->t2.led=t.led->t2.plain=false->wpAny (model prog w) A (do
    storeSet a oZ t2
    if (!Y2&&t2.tooFull)=true then do
        g (relayAll t2 oZ (SetTable.grown oZ.size)).2.2
        storeSet a (relayAll t2 oZ (SetTable.grown oZ.size)).1 (relayAll t2 oZ (SetTable.grown oZ.size)).2.1
        pure (some true)
     else pure (some true)) (fun r s'=>wpAny (model prog w) A (match r with | some added=>pure added | none=>setAddHashedIn a (Value.str x tk) ((strKind prog w).hash x) 99999) Q E s') E s:=by
   intro g hg t2 f2 l2 p2;refine aa (Mx ho ED fun h1 Ny g1=>?_);have Jf:∀b,Q b { s with heap:=h1 }:=h h1 oZ _ t2 Ny ⟨g1,Cy,ED,f2,⟨l2.trans S.marks.led,.inr p2⟩⟩ (.inr ⟨uN,mJ⟩)
   split
   ·have hp:=relayAll_perm t2 oZ (SetTable.grown oZ.size);have wD:=relayAll_fits t2 oZ (SetTable.grown oZ.size);have Af:=Wf t2 oZ (SetTable.grown oZ.size) p2;generalize relayAll t2 oZ (SetTable.grown oZ.size)=Rl at hp wD Af ⊢;obtain⟨EG,t3,Oj⟩:=Rl;dsimp only at hp wD Af ⊢;have uc:EG.size=oZ.size:=by rw[<-ag,hp.length_eq,ag]
    refine aa (hg _ _ _ ?_);refine aa (Mx (s:={ s with heap:=h1 }) g1 (by rw[uc];exact ED) fun h2 yn g2=>ao (ao ?_));exact h h2 EG _ t3 (Ny.trans yn) ⟨g2,Cy.perm hp,by rw[uc];exact ED,wD,⟨(Af.1.trans l2).trans S.marks.led,.inr Af.2⟩⟩ (.inr ⟨uN,hp.trans mJ⟩) _
   ·exact ao (ao (Jf _))
  by_cases kS:t1.plain=true
  ·rw[if_pos kS];refine aa ?_;rw[hashByValue_scannable 8 Ip];refine ao ?_;have hk:plainKind (.str x tk)=false:=rfl;rw[hk];simp only[aq,aP];exact tail _ (fun b s1 Q' q=>by cases b<;>first | exact ao q | exact fF q) { t1 with plain:=false } (SetTable.fits_plain_off sP) wz rfl
  ·rw[if_neg kS];refine aa (ao ?_);simp only[aR];exact tail _ (fun b s1 Q' q=>by cases b<;>first | exact ao q | exact fF q) t1 sP wz (by simpa using kS)
noncomputable def keysOf(es:Array (Int×Value)):List Str:=es.toList.map fun e=>strOf e.2
theorem Lz{es:Array (Int×Value)}(el:ElemsOf (strKind prog w) es.toList)(k:Str):Mem prog w es k↔k∈keysOf es:=by
 unfold Mem keysOf;rw[aO];constructor
 ·rintro⟨e,he,hk⟩;obtain⟨t,ht⟩:=fi hk;exact⟨e,he,by rw[ht];rfl⟩
 ·rintro⟨e,he,rfl⟩;obtain⟨⟨k,hk,_⟩,_⟩:=el e he;obtain⟨t,ht⟩:=fi hk;refine⟨e,he,?_⟩;rw[ht];show Value.isStrOf k (.str k t)=true;simp[Value.isStrOf]
theorem TU{es lD:Array (Int×Value)}{x:Str}{tk:Tok}{hs:Int}(p:List.Perm lD.toList (es.toList++[(hs,.str x tk)])):List.Perm (keysOf lD) (keysOf es++[x]):=by
 have:=p.map fun e=>strOf e.2
 rw[aI] at this;exact this
structure Holds (es:Array (Int×Value)) (xs:List Str):Prop where
 nd:(keysOf es).Nodup
 mem:∀x,x∈keysOf es↔x∈xs
 len:es.size<=xs.length
theorem Holds.put{es lD:Array (Int×Value)}{xs:List Str}{x:Str}{tk:Tok}(H:Holds es xs)(el:ElemsOf (strKind prog w) es.toList)
  (h:(lD=es/\Mem prog w es x)\/(¬Mem prog w es x/\List.Perm lD.toList (es.toList++[(hashStr w x,.str x tk)]))):Holds lD (xs++[x]):=by
 rcases h with⟨rfl,hm⟩ | ⟨hm,hp⟩
 ·refine⟨H.nd,fun y=>?_,by simp;have:=H.len;omega⟩;rw[av,<-H.mem,bH];constructor
  ·exact .inl
  ·rintro(h | rfl)
   ·exact h
   ·exact(Lz el _).mp hm
 ·have hk:=TU hp;refine⟨hk.nodup_iff.mpr ?_,fun y=>?_,?_⟩
  ·rw[fL];refine⟨H.nd,by simp,fun a ha b hb=>?_⟩;rw[bH.mp hb];rintro rfl;exact hm ((Lz el _).mpr ha)
  ·rw[hk.mem_iff,av,av,H.mem]
  ·have e1:=hk.length_eq;have e2:(keysOf lD).length=lD.size:=by simp[keysOf]
   have e3:(keysOf es).length=es.size:=by simp[keysOf]
   have:=H.len;simp only[au,aG,cD] at e1 ⊢;omega
theorem g8.kept{h h':Heap}{a:Addr}{es:Array (Int×Value)}{ep:Nat}{t:SetTable}(S:g8 prog w h a es ep t)(k:∀o,h.get? a=some o->h'.get? a=some o):g8 prog w h' a es ep t:=⟨k _ S.at_,S.el,S.small,S.fits,S.marks⟩
end
section
variable {prog:Program} {w:World} {A:Around} {R:Result->Shared->Prop} {I:Addr} {fp wr:List Addr} {G:Array GenState->Array GenState->Prop} {n:Nat} {P:Nat->Value->Prop} {St:Nat->Shared->Prop}
theorem TR(W:WalksS prog w A.in1 I fp wr G n P St)(S:Addr)(yQ:S∉fp)(xs:List Str)(hx:xs.length=n)(yF:∀i v,P i v->∃x t,xs[i]?=some x/\v=.str x t)(hb:n+1<scanBound) :
  ∀(k i:Nat) (s:Shared) (es:Array (Int×Value)) (ep:Nat) (t:SetTable),n-i=k->i<=n->St i s->g8 prog w s.heap S es ep t->Holds es (xs.take i)->
   (∀s' lD wI t',Moved (S::wr) G s s'->g8 prog w s'.heap S lD wI t'->Holds lD xs->R (.ok (.ret .none)) s')->codeAny (model prog w) A (.builtin "set.update.loop" ⟨[.ref S,.ref I],[]⟩) R s:=by
 have BS:S∉wr:=fun h=>yQ (W.sub _ h)
 have more:∀b∈wr,b∈S::wr:=fun b hb=>aD _ hb
 intro k;induction k with
 | zero=>
  intro i s es ep t hk hi st T H q;have e:i=n:=by omega
  subst e;refine b8 PyProof.Rows.F.entry_set_update_loop ?_;rw[bJ dR _];show wpAny _ A.in1 (pyNext (.ref I) >>= _) _ _ s;refine aa (W.done s _ _ st fun s' hm=>?_);show wpAny _ A.in1 (ret Value.none) _ _ s';rw[<-hx,bT] at H;exact ao (q s' es ep t (hm.mono more) (T.kept fun o e=>hm.heap S _ BS e) H)
 | succ k ih=>
  intro i s es ep t hk hi st T H q;have gL:i<n:=by omega
  refine b8 PyProof.Rows.F.entry_set_update_loop ?_;rw[bJ dR _];show wpAny _ A.in1 (pyNext (.ref I) >>= _) _ _ s;refine aa (W.item i s _ _ gL st fun v s' hP gm hm=>?_);obtain⟨x,tk,X0,rfl⟩:=yF i v hP;have T':g8 prog w s'.heap S es ep t:=T.kept fun o e=>hm.heap S _ BS e
  show wpAny _ A.in1 (holding [Value.str x tk] (setAdd S (.str x tk)) >>= _) _ _ s';refine aa (bN ?_);unfold setAdd;refine bN (aa ((strKind prog w).pyHash (k:=x) (by show Value.isStrOf x (.str x tk)=true;simp[Value.isStrOf]) ?_));have hl:=H.len;rw[aN] at hl;refine QV (s:={ s' with toks:=s'.toks+1 }) T' (by omega) fun h' lD wI t' sb T2 Iu b=>?_
  have Ef:xs.take (i+1)=xs.take i++[x]:=by rw[bL,X0];rfl
  have H2:Holds lD (xs.take (i+1)):=by rw[Ef];exact H.put T.el Iu
  refine ao ⟨cP dR _,ih (i+1) _ lD wI t' (by omega) gL (W.frame _ s' _ _ gm (bY _) fun b hb o e=>?_) T2 H2 fun s2 EG Y1 t2 oW T3 H3=>?_⟩
  ·rw[sb.2 b (fun z:b=S=>yQ (by rw[<-z];exact hb))];exact e
  ·refine q s2 EG Y1 t2 (Moved.trans W.gtrans ((hm.mono more).then_heap (bY _) fun b o hb e=>?_) oW) T3 H3;rw[sb.2 b (fun z:b=S=>hb (by rw[z];exact bj))];exact e
end
section
variable {prog:Program} {w:World} {A:Around} {E:Value->Shared->Prop} {s:Shared}
noncomputable abbrev uv(w:World):Obj:={ cls:=.type "set",dict:=none,data:=.set #[] 0 (.fresh 0 0 (!(w.params.followText "set-order"))) }
theorem Sd(a:Value){Q1:Value->Shared->Prop}(h:Q1 (.ref s.heap.objs.size) { s with heap:=s.heap.push (uv w) }) :
  codeAny (model prog w) A (.call (.builtin "set.__new__") ⟨[.type "set",a],[]⟩) (wants Q1 E) s:=by
 refine codeAny_of_tree ?_;show wpAny _ A.in1 (do checkBuiltinCall "set.__new__" ⟨[.type "set",a],[]⟩;again (.builtin "set.__new__" ⟨[.type "set",a],[]⟩)) _ _ s;refine aa (wpAny_of_eq (PySem.F.newCall_set_1 a) (ao ⟨cP PySem.F.plain_set_new _,b8 PySem.F.entry_set_new ?_⟩));rw[bJ PySem.F.plain_set_new _];unfold Builtin.«set.__new__» Builtin.Frozenset.newClass;have Ik:=PySem.sub_set_self;obtain⟨hp,g,d,tk,os⟩:=s;dsimp only;wp_walk
 refine eH (ao ?_);dsimp only;simp only[newObj];refine aa (wpAny_alloc (ao ?_));exact ao h
theorem QU{h:Heap}{a:Addr}(e:h.get? a=some (uv w)):g8 prog w h a #[] 0 (.fresh 0 0 (!(w.params.followText "set-order"))):=
 ⟨e,fun x hx=>by simp at hx,by show 0<4096;decide,by simp[SetTable.fits,SetTable.fresh,SetTable.fill],⟨rfl,.inl rfl⟩⟩
theorem TQ{l:Addr}{items:List Value}{xs:List Str}{Q:Value->Shared->Prop}(hh:A.handled=none)(hl:s.heap.IsList l items.toArray)(hi:StrsAre items xs)(hb:xs.length+1<scanBound)
  (h:∀(h':Heap) (tk:Nat) es ep t,g8 prog w h' s.heap.objs.size es ep t->L2.Holds es xs->(∀b o,b<s.heap.objs.size->s.heap.get? b=some o->h'.get? b=some o)->Q (.ref s.heap.objs.size) { s with heap:=h',toks:=tk }) :
  wpAny (model prog w) A (call (.type "set") [.ref l]) Q E s:=by
 obtain⟨c,tl,Ym⟩:=PySem.F.called_set.mro;have NZ:=PySem.F.called_set.made;have Ik:=PySem.F.called_set.sub;refine wpAny_call (codeAny_of_tree ?_);show wpAny _ _ (callAny (.type "set") _) _ _ _;refine ao ⟨Code.quiet_builtin _ (by decide +kernel),b8 PySem.F.entry_type_call ?_⟩;rw[Around.under_plain (weight_type_call_type "set" [.ref l] []) rfl];have h1:=PySem.F.called_set.notType;have h2:=PySem.F.called_set.canCreate;have ZG:=PySem.F.typeCall_set_1 (.ref l);repeat(any_goals (first | assumption | wp_step))
 refine fb (Sd (.ref l) (E:=E) (Q1:=fun obj s1=>obj=.ref s.heap.objs.size/\s1={ s with heap:=s.heap.push (uv w) }) ⟨rfl,rfl⟩) fun r s1 hr=>?_
 cases r with
 | error e=>exact hr
 | ok fl=>
  cases fl with
  | ret obj=>
   obtain⟨rfl,rfl⟩:=hr;have hS:(s.heap.push (uv w)).get? s.heap.objs.size=some (uv w):=az _ rfl;have hT:Shared.TypeIs { s with heap:=s.heap.push (uv w) } (.ref s.heap.objs.size) "set":=⟨_,hS,rfl⟩
   have ZA:=PySem.F.called_set.init.lookup;have ZI:=PySem.F.called_set.init.bind (.ref s.heap.objs.size);repeat(any_goals (first | assumption | wp_step))
   refine fb (codeAny_call_builtin (R:=wants (fun r s2=>r=.none/\∃h' tk es ep t,s2={ s with heap:=h',toks:=tk }/\g8 prog w h' s.heap.objs.size es ep t/\L2.Holds es xs/\
     (∀b o,b<s.heap.objs.size->s.heap.get? b=some o->h'.get? b=some o)) E) PySem.F.called_set.init.plain PySem.F.entry_set_init (check_set_init_1 hT ?_)) fun r2 s2 Ir=>?_
   ·obtain⟨ol,Ey,yO,nl,N7⟩:=hl;obtain⟨XJ,BU,NF,yt⟩:=ol;simp only at yO N7;subst yO N7;have yJ:(s.heap.push (uv w)).get? l=some { cls:=.type "list",dict:=BU,data:=.seq items.toArray nl,slots:=yt }:=aj _ Ey;have Ya:=PySem.F.sub_list_set;have Yb:=PySem.F.sub_list_frozenset;have ij:(Value.type "list"==Value.type "dict")=false:=by decide
    have uO:(s.heap.push (uv w)).IsList l items.toArray:=⟨_,yJ,rfl,nl,rfl⟩
    unfold Builtin.«set.__init__» noKeywords Builtin.Frozenset.updateFrom;generalize YI:pyIter=PI;wp_walk
    subst YI;refine eB uO (aa (wpAny_runValue ?_));have N1:l<s.heap.objs.size:=aE Ey;have Yu:A.in1.in1.in1.handled=none:=by simp[hh]
    have ic:(s.heap.push (uv w)).objs.size=s.heap.objs.size+1:=cV ..;have IC:l≠(s.heap.push (uv w)).objs.size:=by rw[ic];exact aJ (cv N1)
    have yQ:s.heap.objs.size∉[(s.heap.push (uv w)).objs.size,l]:=by
     rw[ic];simp only[ar,bK,eC,not_or];exact⟨aJ (e8 _),e7 N1⟩
    have uJ:xs.length=items.toArray.size:=by
     rw[ax];clear Ey yJ uO h hb;induction hi with
     | nil=>rfl
     | cons _ _ _ ih=>simp[ih]
    have yF:∀(i:Nat) (v:Value),items.toArray[i]?=some v->∃x t,xs[i]?=some x/\v=.str x t:=fun i v hv=>by
     rw[List.getElem?_toArray] at hv;clear Ey yJ uO h hb uJ;induction hi generalizing i with
     | nil=>simp at hv
     | cons x t hr ih=>
      cases i with
      | zero=>simp at hv;exact⟨x,t,rfl,hv.symm⟩
      | succ i=>simp only[cj] at hv ⊢;exact ih i hv
    refine TR ((Walks.list Yu _ l IC items.toArray).toS) s.heap.objs.size yQ xs uJ yF (by omega) (items.toArray.size-0) 0 _ #[] 0 _ (by omega) (a9 _)
     ⟨⟨_,az _ rfl,rfl,rfl⟩,(uO.push _)⟩ (QU (aj _ hS)) ⟨by simp[keysOf],by simp[keysOf],by simp⟩ ?hR
    case hR=>
     intro s' es ep t hm T H;obtain⟨h',g',d',Xm,HJ⟩:=s';have eg:g'=s.gens:=hm.gens;have ed:d'=s.drawn:=hm.drawn;have eo:HJ=s.os:=hm.os;subst eg ed eo;show wpAny _ _ _ _ _ _;refine ao ?_;show wpAny _ _ (ret Value.none) _ _ _;refine ao ⟨rfl,h',Xm,es,ep,t,rfl,T,H,fun b o hb e=>?_⟩;refine hm.heap b o ?_ (aj _ (aj _ e));rw[ic];simp only[ar,bK,eC,not_or];exact⟨aJ hb,aJ (cv hb)⟩
   ·cases r2 with
    | error e=>exact Ir
    | ok YZ=>
     cases YZ with
     | ret r=>
      obtain⟨rfl,h',tk,es,ep,t,rfl,T,H,xA⟩:=Ir;repeat(any_goals (first | assumption | wp_step))
      exact h _ _ es ep t T H xA
     | _=>exact Ir.elim
  | _=>exact hr.elim
end
theorem kd:Slot "set_iterator" "__next__" "set_iterator.__next__":=
 .of (owner:="set_iterator") (n:="__next__") (by rw[typeLookup_type,builtinLookup_eq_fast];kernel_rfl) (by decide +kernel) (by decide +kernel) (by decide +kernel) (by first | exact .inl (by decide +kernel) | exact .inr (by decide +kernel)) (by rw[isSubtype_type];kernel_rfl)
theorem La:Slot "set_iterator" "__iter__" "set_iterator.__iter__":=
 .of (owner:="set_iterator") (n:="__iter__") (by rw[typeLookup_type,builtinLookup_eq_fast];kernel_rfl) (by decide +kernel) (by decide +kernel) (by decide +kernel) (by first | exact .inl (by decide +kernel) | exact .inr (by decide +kernel)) (by rw[isSubtype_type];kernel_rfl)
theorem K9:entryFor table "set_iterator.__next__"=some Builtin.«set_iterator.__next__»:=entryFor_of_fast (by kernel_rfl)
theorem QT:entryFor table "set_iterator.__iter__"=some Builtin.«dict_keyiterator.__iter__»:=entryFor_alias (id':="dict_keyiterator.__iter__") (by kernel_rfl) rfl (by decide +kernel) (by kernel_rfl)
theorem Sb:entryFor table "set.__iter__"=some Builtin.«frozenset.__iter__»:=entryFor_alias (id':="frozenset.__iter__") (by kernel_rfl) rfl (by decide +kernel) (by kernel_rfl)
theorem K8(a:Value):argsOk "set_iterator.__next__" ⟨[a],[]⟩:=by unfold argsOk;kernel_rfl
theorem QS(a:Value):argsOk "set_iterator.__iter__" ⟨[a],[]⟩:=by unfold argsOk;kernel_rfl
section
variable {prog:Program} {w:World} {A:Around} {E:Value->Shared->Prop} {s:Shared}
theorem GC{α:Type}:∀{l:List α} {i:Nat} (h:i<l.length),(l[i]::l.eraseIdx i).Perm l
 | a::r,0,_=>.refl _
 | a::r,i+1,h=>by
  simp only[List.getElem_cons_succ,dD];exact(List.Perm.swap _ _ _).trans ((GC (by simpa using h)).cons a)
theorem Us{M:Model}{src:Source}{n:Nat}{Q:Nat->Shared->Prop}(hn:n≠0)(h:∀i d,i<n->Q i { s with drawn:=d }):wpAny M A (choose src n) Q E s:=fun Γ p _=>by
 show Sem.wp M Γ (.choose src n .pure) _ _ p s;rw[Sem.wp_choose];exact⟨hn,h _ _ (Nat.mod_lt _ (Nat.pos_of_ne_zero hn))⟩
theorem Mu{M:Model}{α:Type}:∀(n:Nat) (xs:List α) (s:Shared) (Q:List α->Shared->Prop),xs.length<=n->(∀ys d,ys.Perm xs->Q ys { s with drawn:=d })->wpAny M A (drawOrder n xs) Q E s
 | 0,xs,s,Q,hl,q=>by
  have:xs=[]:=bR (by omega);subst this;unfold drawOrder;exact ao (q [] s.drawn (.refl _))
 | n+1,[],s,Q,hl,q=>by
  unfold drawOrder;exact ao (q [] s.drawn (.refl _))
 | n+1,x::r,s,Q,hl,q=>by
  unfold drawOrder;refine aa (Us (by simp) fun i d hi=>?_);rw[ai hi];dsimp only;refine aa (Mu n _ _ _ (by rw[List.length_eraseIdx];split<;>simp at hl ⊢<;>omega) fun ys d' hp=>ao ?_);exact q _ d' ((hp.cons _).trans (GC hi))
theorem K7{α:Type}(f:Nat->Nat):∀(n k:Nat) (left:List α) (out:Array α),left.length=n->(pickOrder.go f n k left out).toList.Perm (out.toList++left)
 | 0,k,left,out,h=>by
  have:left=[]:=bR h;subst this;simp[pickOrder.go]
 | n+1,k,left,out,h=>by
  unfold pickOrder.go;have gL:f k%left.length<left.length:=Nat.mod_lt _ (by omega);rw[ai gL];dsimp only;refine(K7 f n (k+1) _ _ (by rw[List.length_eraseIdx,if_pos gL];omega)).trans ?_;rw[aF,aM];exact(List.Perm.refl _).append (GC gL)
theorem Mt{α:Type}(f:Nat->Nat)(xs:Array α):(pickOrder f xs).toList.Perm xs.toList:=by
 have:=K7 f xs.size 0 xs.toList #[] (by simp);simpa[pickOrder] using this
noncomputable abbrev ve(first:Value)(i:Nat)(S:Addr)(n ep:Nat):Obj:={ cls:=.type "set_iterator",data:=.fields #[first,.int i 0,.ref S,.int n 0,.int ep 0] }
theorem GB{a:Addr}{es:Array (Int×Value)}{ep:Nat}{t:SetTable}{Q:Array (Int×Value)->Shared->Prop}(S:g8 prog w s.heap a es ep t)(h:Q es s):wpAny (model prog w) A (setEntries a) Q E s:=by
 unfold setEntries;exact aa (dH S.at_ rfl S.fits (ao h))
theorem Ly{I:Addr}{o:Obj}{vs:Array Value}{Q:Option Value->Shared->Prop}{K:Fin->Shared->Prop}(hh:A.handled=none)(ho:s.heap.get? I=some o)(hd:o.data=.fields vs)(hv:2<vs.size)
  (hQ:∀h',Heap.ExtBut I s.heap h'->Q none { s with heap:=h' }) :
  wpAny (model prog w) A.in1 (do setField (.ref I) 2 .none;raiseNew (<-newExc (.type "StopIteration") []):Sem Fin) K (fun e s'=>wpAny (model prog w) A (do if <-isInstance e (.type "StopIteration") then pure none else throw e:Sem (Option Value)) Q E s') s:=by
 refine aa (wpAny_setField ho hd hv ?_);show wpAny _ _ (newExc (.type "StopIteration") [] >>= _) _ _ _;refine aa ?_;simp only[newExc,newTuple];refine aa (cA ?_ (by size_fits));refine aa (m:=firstArgMember _ _) (wpAny_of_eq (a:=Value.none) (by first | rfl | (simp only[firstArgMember];rfl)) ?_);refine cA ?_ (by size_fits);simp only[raiseNew];refine aa (wpAny_handled ?_);rw[show A.in1.handled=none from hh];refine aa (ao (wpAny_throw ?_));refine aa (wpAny_isInstance (T:="StopIteration") (b:=true) ⟨_,az _ rfl,rfl⟩ isSubtype_stop ?_);exact ao (hQ _ (((Heap.SameBut.update ..).extBut.push _).push _))
end
section
variable {prog:Program} {w:World} {A:Around} {E:Value->Shared->Prop} {s:Shared}
theorem DN{I S:Addr}{es:Array (Int×Value)}{ep:Nat}{t:SetTable}{sl i:Nat}{Q:Option Value->Shared->Prop}(hh:A.handled=none)(hI:s.heap.get? I=some (ve (.int sl 0) i S es.size ep))(T:g8 prog w s.heap S es ep t)(r:Option (Value×Nat))
  (hN:∀(Q':Option (Value×Nat)->Shared->Prop) (E':Value->Shared->Prop),Q' r s->wpAny (model prog w) A.in1 (setNext S sl i ep) Q' E' s)
  (hs:∀x j,r=some (x,j)->∀h',Heap.SameBut I s.heap h'->h'.get? I=some (ve (.int j 0) (i+1) S es.size ep)->Q (some x) { s with heap:=h' })
  (hn:r=none->∀h',Heap.ExtBut I s.heap h'->Q none { s with heap:=h' }):wpAny (model prog w) A (pyNext (.ref I)) Q E s:=by
 have hT:s.TypeIs (.ref I) "set_iterator":=⟨_,hI,rfl⟩
 unfold pyNext;refine aa (wpAny_attempt (fH (name:=Str.ofString "__next__") hT kd (dY kd hT K9 ?_ (K8 _))));show wpAny _ _ (fieldsOf (.ref I) >>= _) _ _ s;refine aa (wpAny_fieldsOf hI rfl ?_);dsimp only;refine aa (GB T ?_);simp only[eD,aq,aP];simp only[eT];refine aa (hN _ _ ?_);cases r with
 | none=>exact Ly hh hI rfl (by simp) (hn rfl)
 | some p=>
  obtain⟨x,j⟩:=p;dsimp only;refine aa (wpAny_setField_rec hI (by simp) fun h1 g1 b1=>?_);refine aa (wpAny_setField_rec (s:={ s with heap:=h1 }) g1 (by simp) fun h2 g2 b2=>?_);refine ao ⟨x,rfl,ao (hs x j rfl h2 (b1.trans b2) ?_)⟩;rw[g2];simp[rawInt]
theorem Lx{I S Tp:Addr}{es:Array (Int×Value)}{ep:Nat}{t:SetTable}{ps:List Nat}{i:Nat}{Q:Option Value->Shared->Prop}(hh:A.handled=none)(hI:s.heap.get? I=some (ve (.ref Tp) i S es.size ep))(T:g8 prog w s.heap S es ep t)
  (YG:s.heap.get? Tp=some { cls:=.type "tuple",data:=.seq (ps.map fun(p:Nat)=>rawInt p).toArray })
  (hs:∀p e,ps[i]?=some p->es[p]?=some e->∀h',Heap.SameBut I s.heap h'->h'.get? I=some (ve (.ref Tp) (i+1) S es.size ep)->Q (some e.2) { s with heap:=h' })
  (rL:∀p∈ps,p<es.size) (hn:ps[i]?=none->∀h',Heap.ExtBut I s.heap h'->Q none { s with heap:=h' }):wpAny (model prog w) A (pyNext (.ref I)) Q E s:=by
 have hT:s.TypeIs (.ref I) "set_iterator":=⟨_,hI,rfl⟩
 unfold pyNext;refine aa (wpAny_attempt (fH (name:=Str.ofString "__next__") hT kd (dY kd hT K9 ?_ (K8 _))));show wpAny _ _ (fieldsOf (.ref I) >>= _) _ _ s;refine aa (wpAny_fieldsOf hI rfl ?_);dsimp only;refine aa (GB T ?_);simp only[eD,aq,aP];refine aa (fN YG rfl ?_);dsimp only;simp only[eT,List.getElem?_toArray,aH];cases hp:ps[i]? with
 | none=>
  simp only[Option.map_none];refine aa (wpAny_setField_rec hI (by simp) fun h1 g1 b1=>?_);exact Ly (s:={ s with heap:=h1 }) hh g1 rfl (by simp) fun h' x=>hn hp h' (b1.extBut.trans x)
 | some p=>
  simp only[ez,rawInt,eT];have gL:=rL p (aU hp);have he:es[p]?=some es[p]:=by simp[gL]
  unfold setNextDrawn;refine aa (aa (dH T.at_ rfl T.fits ?_));simp only[eD,aq,aP,he];refine ao ?_;refine aa (wpAny_setField_rec hI (by simp) fun h1 g1 b1=>?_);refine ao ⟨_,rfl,ao (hs p es[p] hp he h1 b1 ?_)⟩;rw[g1];simp
theorem Ms{S:Addr}{es:Array (Int×Value)}{ep:Nat}{t:SetTable}(T:g8 prog w s.heap S es ep t)(sl i:Nat)(hf:w.params.followText "set-order"=true)(Q:Option (Value×Nat)->Shared->Prop)
  (q:Q (((pickOrder (w.params.setOrder S ep) es)[i]?).map fun e=>(e.2,sl)) s):wpAny (model prog w) A (setNext S sl i ep) Q E s:=by
 unfold setNext;refine aa (dH T.at_ rfl T.fits ?_);dsimp only;unfold setsByText;refine aa (aa (eH (ao ?_)));rw[show(model prog w).w.params.followText "set-order"=true from hf];simp only[eD,aq,aP,aR];unfold setWalk;refine aa (aa (dH T.at_ rfl T.fits ?_));dsimp only;unfold setsByText;refine aa (aa (eH (ao ?_)));rw[show(model prog w).w.params.followText "set-order"=true from hf];simp only[aR];exact aa (eH (ao (ao q)))
theorem MY{S:Addr}{es:Array (Int×Value)}{ep:Nat}{t:SetTable}(T:g8 prog w s.heap S es ep t)(sl i:Nat)(hf:w.params.followText "set-order"=false)(h1:es.size<=1)(Q:Option (Value×Nat)->Shared->Prop)
  (q:Q (match es[SetTable.below t.place sl]?,t.place[SetTable.below t.place sl]? with | some (_,x),some j=>some (x,j+1) | _,_=>none) s):wpAny (model prog w) A (setNext S sl i ep) Q E s:=by
 unfold setNext;refine aa (dH T.at_ rfl T.fits ?_);dsimp only;unfold setsByText;refine aa (aa (eH (ao ?_)));rw[show(model prog w).w.params.followText "set-order"=false from hf];simp only[aq,aP];have hl:t.led=true:=by rw[T.marks.led,hf];rfl
 have hd:(!t.plain&&decide (es.size>1))=false:=by
  rw[aX (by omega)];simp
 refine fv (fun h=>absurd (show(!t.plain&&decide (es.size>1))=true from h) (by rw[hd];simp)) fun _=>?_
 refine aa ?_;show wpAny _ _ (ite ((!t.led&&!es.isEmpty)=true) _ _) _ _ _;rw[hl];simp only[eF,Bool.false_and,aq,aP];exact ao (ao q)
theorem F4{I S:Addr}{h h':Heap}{es:Array (Int×Value)}{ep:Nat}{t:SetTable}(T:g8 prog w h S es ep t)(ij:S≠I)(b:Heap.SameBut I h h'):g8 prog w h' S es ep t:=T.kept fun o e=>by rw[b.2 S ij];exact e
abbrev EV(vals:List Value):Nat->Value->Prop:=fun i v=>vals[i]?=some v
theorem FO{I S:Addr}{first:Value}{i n ep:Nat}{Q:Value->Shared->Prop}(hI:s.heap.get? I=some (ve first i S n ep))(q:Q (.ref I) s):wpAny (model prog w) A (pyIter (.ref I)) Q E s:=by
 have hT:s.TypeIs (.ref I) "set_iterator":=⟨_,hI,rfl⟩
 refine wpAny_pyIter_slot hT La (dY La hT QT ?_ (QS _));show wpAny _ _ (ret (.ref I)) _ _ s;exact ao ⟨_,rfl,"set_iterator",_,hT,kd.lookup,q⟩
theorem TM{I S:Addr}{es:Array (Int×Value)}{ep:Nat}{t:SetTable}(ij:S≠I)(hf:w.params.followText "set-order"=true)(hh:A.handled=none) :
  Walks prog w A I [I,S] [I] es.size (EV ((pickOrder (w.params.setOrder S ep) es).toList.map (·.2))) (fun i h=>h.get? I=some (ve (.int 0 0) i S es.size ep)/\g8 prog w h S es ep t):=by
 have hp:=Mt (w.params.setOrder S ep) es;have hl:(pickOrder (w.params.setOrder S ep) es).size=es.size:=by rw[<-ag,hp.length_eq,ag]
 refine⟨fun b hb=>by simp at hb;simp[hb],fun i h h' st k=>⟨k I (by simp) _ st.1,st.2.kept (k S (by simp))⟩,fun i s Q E hi st q=>?_,fun s Q E st q=>?_,fun i s Q E st q=>FO st.1 q⟩
 ·have Cp:i<(pickOrder (w.params.setOrder S ep) es).size:=by omega
  refine DN (sl:=0) hh st.1 st.2 _ (fun Q' E' q'=>Ms st.2 0 i hf Q' q') (fun x j e h' b g=>?_) (fun e=>?_)
  ·rw[cF Cp] at e;simp only[ez,aW,Prod.mk.injEq] at e;obtain⟨rfl,rfl⟩:=e;exact q _ h' s.toks (by show(List.map _ _)[i]?=_;rw[aH,cL,cF Cp];rfl) ⟨g,F4 st.2 ij b⟩ fun c o hc e=>by rw[b.2 c (by simpa using hc)];exact e
  ·rw[cF Cp] at e;cases e
 ·refine DN (sl:=0) hh st.1 st.2 _ (fun Q' E' q'=>Ms st.2 0 _ hf Q' q') (fun x j e=>?_) (fun _ h' b=>q h' s.toks fun c o hc e=>b c o (by simpa using hc) e);rw[Array.getElem?_eq_none (by omega)] at e;cases e
theorem Kk(p j:Nat):SetTable.below #[p] j=if p<j then 1 else 0:=by
 unfold SetTable.below;simp only[ax,aG,cD,fc];unfold SetTable.below.go;simp;split<;>unfold SetTable.below.go<;>rfl
theorem Ur{I S:Addr}{es:Array (Int×Value)}{ep:Nat}{t:SetTable}(ij:S≠I)(hf:w.params.followText "set-order"=false)(h1:es.size<=1)(hh:A.handled=none) :
  Walks prog w A I [I,S] [I] es.size (EV (es.toList.map (·.2))) (fun i h=>∃sl:Nat,h.get? I=some (ve (.int sl 0) i S es.size ep)/\g8 prog w h S es ep t/\(i=0->sl=0)/\(1<=i->∃p,t.place=#[p]/\sl=p+1)):=by
 refine⟨fun b hb=>by simp at hb;simp[hb],fun i h h' st k=>?_,fun i s Q E hi st q=>?_,fun s Q E st q=>?_,fun i s Q E st q=>?_⟩
 ·obtain⟨sl,a,T,b,c⟩:=st;exact⟨sl,k I (by simp) _ a,T.kept (k S (by simp)),b,c⟩
 ·obtain⟨sl,a,T,b,c⟩:=st;have Ye:es.size=1:=by omega
  have Yt:i=0:=by omega
  subst Yt;have Im:=b rfl;subst Im;obtain⟨e,rfl⟩:∃e,es=#[e]:=by
   obtain⟨l⟩:=es;match l,Ye with
   | [e],_=>exact⟨e,rfl⟩
  obtain⟨p,hp⟩:∃p,t.place=#[p]:=by
   have Cv:=T.fits;simp only[SetTable.fits,cx,ef] at Cv;have Ce:t.place.size=1:=Cv.1;generalize t.place=pl at Ce ⊢;obtain⟨l⟩:=pl;match l,Ce with
   | [p],_=>exact⟨p,rfl⟩
  refine DN hh a T (some (e.2,p+1)) (fun Q' E' q'=>MY T _ _ hf h1 Q' ?_) (fun x j ej h' bb g=>?_) (fun z=>nomatch z)
  ·rw[hp,Kk,if_neg (Nat.not_lt_zero _)];exact q'
  ·cases ej;exact q _ h' s.toks rfl ⟨p+1,g,F4 T ij bb,fun z=>by omega,fun _=>⟨p,hp,rfl⟩⟩ fun c o hc e=>by rw[bb.2 c (by simpa using hc)];exact e
 ·obtain⟨sl,a,T,b,c⟩:=st;refine DN hh a T none (fun Q' E' q'=>MY T _ _ hf h1 Q' ?_) (fun x j e=>nomatch e) (fun _ h' b=>q h' s.toks fun c o hc e=>b c o (by simpa using hc) e);have he:es[SetTable.below t.place sl]?=none:=by
   by_cases h0:es.size=0
   ·exact Array.getElem?_eq_none (by omega)
   ·obtain⟨p,hp,Im⟩:=c (by omega);rw[hp,Im,Kk,if_pos (e8 _)];exact Array.getElem?_eq_none (by omega)
  rw[he];exact q'
 ·obtain⟨sl,a,T,b,c⟩:=st;exact FO a q
theorem Uq{I S Tp:Addr}{es:Array (Int×Value)}{ep:Nat}{t:SetTable}{ps:List Nat}(ij:S≠I)(ID:Tp≠I)(hp:ps.Perm (List.range es.size))(hh:A.handled=none) :
  Walks prog w A I [I,Tp,S] [I] es.size (EV (ps.map fun p=>(es.getD p (0,.none)).2)) (fun i h=>h.get? I=some (ve (.ref Tp) i S es.size ep)/\g8 prog w h S es ep t/\h.get? Tp=some { cls:=.type "tuple",data:=.seq (ps.map fun(p:Nat)=>rawInt p).toArray }):=by
 have rL:∀p∈ps,p<es.size:=fun p h=>bU.mp (hp.mem_iff.mp h)
 have hl:ps.length=es.size:=by rw[hp.length_eq,cW]
 refine⟨fun b hb=>by simp at hb;simp[hb],fun i h h' st k=>⟨k I (by simp) _ st.1,st.2.1.kept (k S (by simp)),k Tp (by simp) _ st.2.2⟩,fun i s Q E hi st q=>?_,fun s Q E st q=>?_,fun i s Q E st q=>FO st.1 q⟩
 ·have Cp:i<ps.length:=by omega
  refine Lx hh st.1 st.2.1 st.2.2 (fun p e h1 h2 h' b g=>?_) rL (fun z=>by rw[ai Cp] at z;cases z);refine q _ h' s.toks ?_ ⟨g,F4 st.2.1 ij b,by rw[b.2 Tp ID];exact st.2.2⟩ fun c o hc e=>by rw[b.2 c (by simpa using hc)];exact e
  show(List.map _ _)[i]?=_;rw[aH,h1];simp[h2]
 ·refine Lx hh st.1 st.2.1 st.2.2 (fun p e h1=>?_) rL (fun _ h' b=>q h' s.toks fun c o hc e=>b c o (by simpa using hc) e);rw[eQ (by omega)] at h1;cases h1
end
section
variable {prog:Program} {w:World} {A:Around} {E:Value->Shared->Prop} {s:Shared}
structure Laid (prog:Program) (w:World) (h:Heap) (a:Addr) (es:Array (Int×Value)) (I:Addr) (h':Heap):Prop where
 ex:∃(fp:List Addr) (vals:List Value) (St:Nat->Heap->Prop),vals.Perm (es.toList.map (·.2))/\(∀A:Around,A.handled=none->Walks prog w A I fp [I] es.size (EV vals) St)/\St 0 h'/\∀b∈fp,b=a\/h.objs.size<=b
 old:∀b o,h.get? b=some o->h'.get? b=some o
 new:h.objs.size<=I
 type:∃o,h'.get? I=some o/\o.cls=.type "set_iterator"
theorem TL{es:Array (Int×Value)}{ps:List Nat}(hp:ps.Perm (List.range es.size)):(ps.map fun p=>(es.getD p (0,.none)).2).Perm (es.toList.map (·.2)):=by
 refine(hp.map _).trans ?_;have e:(List.range es.size).map (fun p=>(es.getD p (0,.none)).2)=es.toList.map (·.2):=by
  apply fU
  ·simp
  ·intro i h1 h2;have hi:i<es.size:=by simpa using h1
   simp[Array.getD,hi]
 rw[e]
theorem Sa{a:Addr}{es:Array (Int×Value)}{ep:Nat}{t:SetTable}{Q:Value->Shared->Prop}(T:g8 prog w s.heap a es ep t)
  (q:∀(I:Addr) (h':Heap) (d:Drawn),Laid prog w s.heap a es I h'->Q (.ref I) { s with heap:=h',drawn:=d }):wpAny (model prog w) A (pyIter (.ref a)) Q E s:=by
 have hT:s.TypeIs (.ref a) "set":=⟨_,T.at_,rfl⟩
 have gL:a<s.heap.objs.size:=aE T.at_;refine wpAny_pyIter_slot hT PySem.F.slot_set_iter (dY PySem.F.slot_set_iter hT Sb ?_ (PySem.F.args_set_iter_1 _));show wpAny _ _ (Builtin.Frozenset.sizeOf a >>= _) _ _ s;unfold Builtin.Frozenset.sizeOf;refine aa (aa (GB T (ao ?_)));unfold setDrawn;refine aa (aa (dH T.at_ rfl T.fits ?_));dsimp only;unfold setsByText;refine aa (aa (eH (ao ?_)));refine ao ?_;have here:∀(first:Value) (s1:Shared) (Q1:Fin->Shared->Prop) (T1:g8 prog w s1.heap a es ep t),(∀o,o=ve first 0 a es.size ep->Q1 (.done (.ret (.ref s1.heap.objs.size))) { s1 with heap:=s1.heap.push o })->wpAny (model prog w) A.in1 (do
   let e <-setEpoch a
   let v <-newFields "set_iterator" [first,rawInt 0,Value.ref a,rawInt es.size,rawInt e]
   ret v) Q1 E s1:=by
  intro first s1 Q1 T1 q1;refine aa (wpAny_setEpoch_of T1.at_ rfl T1.fits ?_);refine aa (cA (ao (q1 _ rfl)) (by size_fits))
 refine fv (fun hc=>?_) fun hc=>?_
 ·refine aa (Mu es.size _ _ _ (by simp) fun ps d hp=>?_);have Ce:ps.length<=sizeLine:=by rw[hp.length_eq,cW];exact fM T.small
  refine aa (wpAny_newTuple ?_ (by rw[ae];exact Ce));have T1:g8 prog w (s.heap.push { cls:=.type "tuple",data:=.seq (ps.map fun(p:Nat)=>rawInt p).toArray }) a es ep t:=T.kept fun o e=>aj _ e
  refine here _ _ _ T1 fun o ho=>?_
  subst ho;refine⟨_,rfl,"set_iterator",_,⟨_,az _ rfl,rfl⟩,kd.lookup,?_⟩;have ic:(s.heap.push { cls:=.type "tuple",data:=.seq (ps.map fun(p:Nat)=>rawInt p).toArray }).objs.size=s.heap.objs.size+1:=cV ..
  refine q _ _ d ⟨⟨[_,s.heap.objs.size,a],_,_,TL hp,fun A hh=>Uq (t:=t) (by rw[ic];exact aJ (cv gL)) (by rw[ic];exact aJ (e8 _)) hp hh,
   ⟨az _ rfl,T1.kept fun o e=>aj _ e,aj _ (az _ rfl)⟩,fun b hb=>?_⟩,fun b o e=>aj _ (aj _ e),by rw[ic];exact bY _,⟨_,az _ rfl,rfl⟩⟩
  simp only[ar,bK,eC] at hb;rcases hb with rfl | rfl | rfl
  ·right;rw[ic];exact bY _
  ·right;exact aA _
  ·left;rfl
 ·refine aa (ao ?_);refine here _ _ _ T fun o ho=>?_
  subst ho;refine⟨_,rfl,"set_iterator",_,⟨_,az _ rfl,rfl⟩,kd.lookup,?_⟩;have Om:∀b∈[s.heap.objs.size,a],b=a\/s.heap.objs.size<=b:=fun b hb=>by
   simp only[ar,bK,eC] at hb;rcases hb with rfl | rfl
   ·right;exact aA _
   ·left;rfl
  have ij:a≠s.heap.objs.size:=aJ gL;have T1:g8 prog w (s.heap.push (ve (rawInt 0) 0 a es.size ep)) a es ep t:=T.kept fun o e=>aj _ e
  cases hf:w.params.followText "set-order" with
  | true=>
   exact q _ _ s.drawn ⟨⟨_,_,_,(Mt (w.params.setOrder a ep) es).map _,fun A hh=>TM (t:=t) ij hf hh,⟨az _ rfl,T1⟩,Om⟩,fun b o e=>aj _ e,aA _,⟨_,az _ rfl,rfl⟩⟩
  | false=>
   have IU:¬((!t.plain&&decide (es.size>1))=true):=fun z=>hc (by
    show(!(w.params.followText "set-order")&&(!t.plain&&decide (es.size>1)))=true;rw[hf,z];rfl)
   have h1:es.size<=1:=by
    rcases T.marks.plain with h | h
    ·omega
    ·rw[h] at IU;simp at IU;exact IU
   exact q _ _ s.drawn ⟨⟨_,_,_,.refl _,fun A hh=>Ur (t:=t) ij hf h1 hh,⟨0,az _ rfl,T1,fun _=>rfl,fun z=>by omega⟩,Om⟩,fun b o e=>aj _ e,aA _,⟨_,az _ rfl,rfl⟩⟩
theorem R9{a:Addr}{Q:Bool->Shared->Prop}(hT:s.TypeIs (.ref a) "set")(h:Q false s):wpAny (model prog w) A (Builtin.List.listLengthHint (.ref a)) Q E s:=by
 unfold Builtin.List.listLengthHint;refine aa (wpAny_specialOf hT PySem.F.slot_set_len.lookup ?_);generalize N3:("set.__len__":String)=XY;wp_delta
 rw[show splitId XY=some ("set","__len__") from by subst N3;decide +kernel];subst N3;refine aa (wpAny_isInstance (T:="set") (b:=true) hT (by rw[isSubtype_type];kernel_rfl) ?_);refine fv (fun kU=>absurd kU (by decide)) (fun _=>fv (fun _=>?_) (fun kU=>absurd (by decide +kernel) kU));exact aa (wpAny_typeOf hT (ao h))
theorem Up{R:Result->Shared->Prop}{a:Addr}{es:Array (Int×Value)}{ep:Nat}{t:SetTable}(T:g8 prog w s.heap a es ep t)(hh:A.handled=none)(S:Addr)(Of:S≠a)(res:Value)(c0:Nat)(hS:s.heap.get? S=some { cls:=.type "list",data:=.seq #[] c0 })
  (hR:∀h' d tk (acc:Array Value) c',(∀b o,b≠S->s.heap.get? b=some o->h'.get? b=some o)->h'.get? S=some { cls:=.type "list",dict:=none,data:=.seq acc c',slots:=#[] }->acc.toList.Perm (es.toList.map (·.2))->R (.ok (.ret res)) { s with heap:=h',drawn:=d,toks:=tk }) :
  wpAny (model prog w) A.in1 (Builtin.List.listExtendWith (.ref S) (.ref a) res) (fun fin s'=>match fin with | .done f=>R (.ok f) s' | .again c'=>c'.quiet=true/\codeAny (model prog w) A c' R s') (fun e s'=>R (.error e) s') s:=by
 have hT:s.TypeIs (.ref a) "set":=⟨_,T.at_,rfl⟩
 have Oe:S<s.heap.objs.size:=aE hS;unfold Builtin.List.listExtendWith;refine aa (wpAny_typeOf (T:="set") hT ?_);have h1:Builtin.List.listSameRef (.ref S) (.ref a)=false:=by simp[Builtin.List.listSameRef,Of]
 have h2:(Value.type "set"==Value.type "list")=false:=by decide
 have h3:(Value.type "set"==Value.type "tuple")=false:=by decide
 simp only[h1,h2,h3,Bool.or_false,aq,aP];refine aa (Sa T fun I h0 d L=>?_);obtain⟨fp,vals,St,hv,W,st,Yv⟩:=L.ex;have yQ:S∉fp:=fun z=>by
  rcases Yv S z with e | e
  ·exact Of e
  ·exact cO _ (aV Oe e)
 have ZK:S≠I:=fun z=>cO _ (aV Oe (z▸L.new))
 have go:∀(h:Heap) (c1 tk:Nat),St 0 h->(∀b o,b≠S->s.heap.get? b=some o->h.get? b=some o)->h.get? S=some { cls:=.type "list",data:=.seq #[] c1 }->
   codeAny (model prog w) A (.builtin "list.extend.loop" ⟨[.ref S,.ref I,res],[]⟩) R { s with heap:=h,drawn:=d,toks:=tk }:=by
  intro h c1 tk jW hk IY;refine codeAny_extend_loopS (W A.in1 hh).toS (fM T.small) S yQ res es.size 0 _ #[] c1 rfl (a9 _) jW IY (ItemsOf.nil _) fun s' nD c' hm wH nB=>?_
  rw[Moved.eq_with hm];refine hR s'.heap d s'.toks nD c' (fun b o hb e=>hm.heap b o (fun tL=>?_) (hk b o hb e)) wH ?_
  ·rcases ar.mp tL with e' | tL
   ·exact hb e'
   ·exact absurd (aE e) (by rw[bH.mp tL];exact Nat.not_lt.mpr L.new)
  ·have e:nD.toList=vals:=by
    apply eU;intro j;by_cases hj:j<nD.size
    ·have:=nB.2 j nD[j] (by simp[hj]);rw[this];simp[hj]
    ·have NS:vals.length=es.size:=by rw[hv.length_eq];simp
     have:=nB.1;rw[eQ (by simp;omega),eQ (by omega)]
   rw[e];exact hv
 have IZ:=L.old _ _ hS;refine aa (bN (R9 (s:={ s with heap:=h0,drawn:=d }) ⟨_,L.old _ _ T.at_,rfl⟩ ?_));refine fv (fun _=>?_) (fun _=>ao ⟨cP PySem.F.plain_extend_loop _,go _ c0 _ st (fun b o _ e=>L.old b o e) IZ⟩);refine aa (fF (aa ?_));show wpAny _ _ (updateSeq S (·.push .none) >>= fun _=>updateSeq S (·.pop)) _ _ _;refine aa (fw IZ rfl ?_);have Og:=c6 (Obj.mapSeq (·.push Value.none)) IZ rfl;refine fw (hz:=by seq_fits) Og rfl ?_;have YH:=c6 (Obj.mapSeq (·.pop)) Og rfl;refine ao ⟨cP PySem.F.plain_extend_loop _,go _ _ _ ?_ (fun b o hb e=>?_) YH⟩
 ·refine(W A.in1 hh).frame 0 _ _ st fun b hb o e=>?_
  have Oa:b≠S:=fun h=>yQ (h▸hb)
  exact(bA _ _ (Ne.symm Oa)).trans ((bA _ _ (Ne.symm Oa)).trans e)
 ·exact(bA _ _ (Ne.symm hb)).trans ((bA _ _ (Ne.symm hb)).trans (L.old _ _ e))
end
section
variable {prog:Program} {w:World} {A:Around} {E:Value->Shared->Prop} {s:Shared}
theorem Ve{R:List Value->Shared->Prop}{a:Addr}{es:Array (Int×Value)}{ep:Nat}{t:SetTable}(T:g8 prog w s.heap a es ep t)(hh:A.handled=none)
  (h:∀(h':Heap) (d:Drawn) (tk:Nat) (vs:List Value),s.heap.objs.size<h'.objs.size->(∀b o,s.heap.get? b=some o->h'.get? b=some o)->vs.Perm (es.toList.map (·.2))->R vs { s with heap:=h',drawn:=d,toks:=tk }):wpAny (model prog w) A (collect (.ref a)) R E s:=by
 have gL:a<s.heap.objs.size:=aE T.at_;unfold collect;refine aa (wpAny_runValue (b8 entry_proto_collect' ?_));rw[bJ PySem.F.plain_proto_collect _];show wpAny _ A.in1 (newList [] >>= fun l=>again (.builtin "list.__iadd__" ⟨[l,.ref a],[]⟩)) _ _ s;refine aa (cA (ao ⟨cP PySem.F.plain_list_iadd _,b8 entry_list_iadd' ?_⟩));rw[bJ PySem.F.plain_list_iadd _];have IY:(s.heap.push { cls:=.type "list",data:=.seq ([]:List Value).toArray }).get? s.heap.objs.size=some { cls:=.type "list",data:=.seq #[] }:=az _ rfl;show wpAny _ A.in1 (Builtin.List.listExtendWith (.ref s.heap.objs.size) (.ref a) (.ref s.heap.objs.size)) _ _ _;have key:=Up (A:=A) (s:={ s with heap:=s.heap.push { cls:=.type "list",data:=.seq ([]:List Value).toArray } })
  (R:=fun(q:Result) (s':Shared)=>∃(h':Heap) (d:Drawn) (tk:Nat) (acc:Array Value) (c':Nat),q=.ok (.ret (.ref s.heap.objs.size))/\s'={ s with heap:=h',drawn:=d,toks:=tk }/\
   (∀b o,s.heap.get? b=some o->h'.get? b=some o)/\h'.get? s.heap.objs.size=some { cls:=.type "list",dict:=none,data:=.seq acc c',slots:=#[] }/\acc.toList.Perm (es.toList.map (·.2)))
  (T.kept fun o e=>aj _ e) hh s.heap.objs.size (e7 gL) (.ref s.heap.objs.size) 0 IY
  (fun h' d tk acc c' hk wH nB=>⟨h',d,tk,acc,c',rfl,rfl,fun b o e=>hk b o (aJ (aE e)) (aj _ e),wH,nB⟩)
 refine dQ key (fun fin s' x=>?_) fun e s' x=>?_
 ·cases fin with
  | done f=>
   obtain⟨h',d,tk,acc,c',e,rfl,hk,wH,nB⟩:=x;cases e;show wpAny _ A (load s.heap.objs.size >>= _) _ _ _;exact aa (wpAny_load wH (ao (h h' d tk acc.toList (aE wH) hk nB)))
  | again c1=>
   refine⟨x.1,fb x.2 fun q s2 y=>?_⟩;obtain⟨h',d,tk,acc,c',rfl,rfl,hk,wH,nB⟩:=y;show wpAny _ A (load s.heap.objs.size >>= _) _ _ _;exact aa (wpAny_load wH (ao (h h' d tk acc.toList (aE wH) hk nB)))
 ·obtain⟨_,_,_,_,_,e',_⟩:=x;cases e'
theorem Mr:∀{vs:List Value},(∀v∈vs,∃x t,v=.str x t)->StrsAre vs (vs.map strOf)
 | [],_=>.nil
 | v::r,h=>by
  obtain⟨x,t,rfl⟩:=h v (by simp);exact .cons x t (Mr fun u hu=>h u (by simp[hu]))
theorem Uo{a:Addr}{es:Array (Int×Value)}{ep:Nat}{t:SetTable}{Q:Value->Shared->Prop}(T:g8 prog w s.heap a es ep t)(hh:A.handled=none)(An:es.size<64)
  (h:∀(p:Addr) (h':Heap) (d:Drawn) (tk:Nat) (out:Array Value) (e:Nat) (ss:List Str),s.heap.objs.size<=p->(∀b o,s.heap.get? b=some o->h'.get? b=some o)->h'.get? p=some (seqObj "list" out e)->StrsAre out.toList ss->ss.Perm (keysOf es)->sortedS ss=true->Q (.ref p) { s with heap:=h',drawn:=d,toks:=tk }) :
  wpAny (model prog w) A (call (.builtin "sorted") [.ref a]) Q E s:=by
 refine Calls.call_function_entry kind_sorted plain_sorted entry_sorted (args_sorted1 _) ?_;unfold Builtin.«sorted»;refine aa (m:=checkCount "sorted" 1 1 _) (ao (aa (Ve (A:=A.in1) T hh fun h' d tk vs gL hk hp=>?_)));have NS:vs.length=es.size:=by rw[hp.length_eq];simp
 have X2:∀v∈vs,∃x t,v=.str x t:=fun v hv=>by
  obtain⟨e,he,rfl⟩:=aO.mp (hp.mem_iff.mp hv);obtain⟨⟨k,hk,_⟩,_⟩:=T.el e he;obtain⟨t,ht⟩:=fi hk;exact⟨k,t,ht⟩
 have hS:=Mr X2;refine aa (wpAny_newList ?_ (by rw[NS];exact fM T.small));have xy:(h'.push (seqObj "list" vs.toArray 0)).get? h'.objs.size=some (seqObj "list" vs.toArray 0):=az _ rfl;refine aa (bN (dY slot_list_sort ⟨_,xy,rfl⟩ entry_list_sort (list_sort_treeK (s:={ s with heap:=h'.push (seqObj "list" vs.toArray 0),drawn:=d,toks:=tk }) strKind_oneLt xy hS.keysOf (fun v1 v2 oB e=>keyKind_strs (by rw[<-e];exact hS)) (by omega) fun gm a1 a2=>⟨_,rfl,?_⟩) (args_list_sort _)));obtain⟨nT,b1,b2,b3⟩:=sorted_out_str hS a1 a2;obtain⟨en,Yx⟩:=sortedHeap_at (out:=(arrOf gm).map (·.2)) xy;have hle:s.heap.objs.size<=h'.objs.size:=Nat.le_of_lt gL;refine ao ⟨_,rfl,h _ _ d tk _ en nT hle (fun b o e=>?_) Yx b1 (b2.trans ?_) b3⟩
 ·have e1:=hk b o e;have hb:b<h'.objs.size:=aE e1;rw[sortedHeap_old (aJ hb) (by rw[size_push'];exact cv hb)];exact aj _ e1
 ·have:=hp.map strOf;rw[aL] at this;exact this
theorem Inv.draw{X:Cx}{Z8:List (Addr×Obj)}{σ:St}{H:Hp}{s:Shared}(I:Inv X Z8 σ H s)(d:Drawn):Inv X Z8 σ H { s with drawn:=d }:=
 ⟨I.ok,I.os,I.bare,I.base,I.loc,I.cell,I.free,I.lg,I.pin,I.hV,I.len⟩
end
section
variable {X:Cx} {pos:Pos} {e:Expr} {te:TD} {ts:nE} {t:TA}
def R8(K:Z9)(t:TA):TE:=fun σ H Q=>t σ H fun vs H1=>∃(p:Addr) (ss:List Str),vs=[.ref p]/\iI K H1 p (ss.map V.str)/\ss.length<4000/\(∀l:List Str,l.Nodup->(∀x∈l,x∈ss)->l.length<64)/\
 ∀l:List Str,l.Nodup->(∀x,x∈l↔x∈ss)->sortedS l=true->∀q,H1 q=none->Q (.ref q) (upd H1 q (.lst (l.map V.str)))
theorem Um{p1 p2 mX:Pos}(hc:X.calm=true)(ud:X.mg "sorted"=none)(oW:X.mg "set"=none)(ha:PA X [e] t)(Ct:Gl X "sorted":=by rfl)(wC:Gl X "set":=by rfl)
  (he:starEach [e] X.env=(false,eval e X.env)::starEach [] X.env:=by rfl) (yN:starEach [.Call (.Name "set" p2) [e] [] mX] X.env=(false,eval (.Call (.Name "set" p2) [e] [] mX) X.env)::starEach [] X.env:=by rfl) :
  PE X (.Call (.Name "sorted" p1) [.Call (.Name "set" p2) [e] [] mX] [] pos) (R8 X.K t):=by
 intro Z8 s σ H Q I h;refine c7 (vP I Ct ud fI ?_ (by decide) (by decide));refine PyProof.Rows.callWith_builtin1 ?_ yN rfl;rw[yN];show wpAny _ _ (spliced ((false,eval (.Call (.Name "set" p2) [e] [] mX) X.env)::backTo pos (starEach [] X.env))) _ _ s;refine Calls.spliced_cons ?_;refine c7 (vP I wC oW Mz ?_ (by decide) (by decide));refine cT (hE (ha mX Z8 s σ H _ I h) fun us s1 gD=>?_) he rfl;obtain⟨vs,H1,I1,r1,q1⟩:=gD;obtain⟨p,ss,rfl,hq,hn,An,q⟩:=q1;obtain⟨u,rfl,ru⟩:=oE r1;cases ru;obtain⟨its,rv,pl,hz⟩:=I1.list hq;have hS:=M3 rv;refine TQ (I1.ok.hd hc) pl.isList hS (by have:scanBound=4096:=rfl;omega) fun h1 Ef es ep tb T Hd N2=>?_
 have I2:Inv X Z8 σ H1 { s1 with heap:=h1,toks:=Ef }:=I1.kept fun b o e=>N2 b o (aE e) e
 refine Calls.spliced_nil ?_;have ic:es.size<64:=by
  have:=An (keysOf es) Hd.nd fun x hx=>(Hd.mem x).mp hx
  simpa[keysOf] using this
 refine Uo (s:={ s1 with heap:=h1,toks:=Ef }) T (I1.ok.hd hc) ic fun pp h2 d yi out en BL hp Ai qG X8 qB X9=>?_
 have Ae:BL.Nodup:=qB.nodup_iff.mpr Hd.nd;have EA:BL.length<64:=by rw[qB.length_eq];simpa[keysOf] using ic
 have hf:H1 pp=none:=I2.hV.fresh hp;refine⟨.ref pp,upd H1 pp (.lst (BL.map V.str)),?_,rfl,q BL Ae (fun x=>by rw[qB.mem_iff];exact Hd.mem x) X9 pp hf⟩;have I3:=Inv.laid (t':=yi) (Inv.draw I2 d) (h':=h2) (a:=pp) (o:=.lst (BL.map V.str)) Ai hp ?_
 ·exact I3
 ·refine⟨by rw[ae];have:=F6;omega,out.toList,en,Gi X8,?_⟩;rw[dr];exact qG
theorem GP{p1 p2 mX:Pos}(hc:X.calm=true)(ud:X.mg "sorted"=none)(oW:X.mg "set"=none)(ha:qL X [e] ts)(Ct:Gl X "sorted":=by rfl)(wC:Gl X "set":=by rfl)
  (he:starEach [e] X.env=(false,eval e X.env)::starEach [] X.env:=by rfl) (yN:starEach [.Call (.Name "set" p2) [e] [] mX] X.env=(false,eval (.Call (.Name "set" p2) [e] [] mX) X.env)::starEach [] X.env:=by rfl) :
  PD X (.Call (.Name "sorted" p1) [.Call (.Name "set" p2) [e] [] mX] [] pos) (iQ xi ts):=by
 obtain⟨t,pp,q⟩:=ha;refine⟨_,Um hc ud oW pp Ct wC he yN,fun ρ σ G0 H0 G H Q P E h k=>q ρ σ G0 H0 G H _ _ E h fun vs H' ds G' x rs hq=>?_⟩;unfold xi at hq;split at hq
 ·split at hq
  ·rename_i es ss hs;obtain⟨v,rfl,rv⟩:=oC rs;simp only[Rep] at rv;obtain⟨a,xs,rfl,h1,h2⟩:=rv;rw[GD hs] at h2;rw[F5 h2] at h1;refine⟨a,ss,rfl,(x.s.jF h1).sq,hq.1,hq.2.1,fun l nd hm so=>?_⟩;exact vR x.s (MA l) (hq.2.2 l nd hm so) fun v H2 r G2 x2 rr qq=>k v H2 r G2 (x.trans x2) (rr.lR x.h) qq
  ·exact hq.elim
 ·exact hq.elim
end
section
variable {X:Cx} {pos:Pos} {e i':Expr} {te ti:TD}
def Zj(i:Nat):TX:=fun D ρ=>match gt ρ i with
 | .ow _=>D.nx (ρ.set i (.ow []))
 | _=>False
def xR(i:Nat)(te:TD):TX:=fun D ρ=>match gt ρ i with
 | .ow ds=>te ρ fun r=>match r with
  | .ow es=>ds.length+es.length<=sizeLine/\D.nx (ρ.set i (.ow (ds++es)))
  | _=>False
 | _=>False
theorem Fw(i:Nat){x:Str}{p1 p2 pos':Pos}(he:PD X e te)(hN:X.N[i]?=some x:=by rfl)(hv:qK X.env.scope x:=by first | exact Or.inl rfl | exact Or.inr (Or.inl rfl) | exact Or.inr (Or.inr rfl))(hd:(x==("__debug__":Str))=false:=by decide)(kP:(x==("__classdict__":Str))=false:=by decide)
  (jW:starEach [e] X.env=(false,eval e X.env)::starEach [] X.env:=by rfl)
  (hb:∀{ta:TE} {t:TA},PE X (.Name x p1) ta->PA X [e] t->PE X (.Call (.Attribute (.Name x p1) "extend" p2) [e] [] pos') (zV X.K "list" Lg ta t):=by intro ta t h1 h2;exact zh cB PySem.F.slot_list_extend PySem.F.type_list_extend Uw h1 h2) :
  PX X (.Expr (.Call (.Attribute (.Name x p1) "extend" p2) [e] [] pos') pos) (xR i te):=by
 obtain⟨t,p,q⟩:=he;refine⟨_,zF (hb (sg hN hv hd kP) (tq p tY jW)),fun ρ σ G0 H0 G H D E k h g=>?_⟩;unfold xR at h;split at h
 ·rename_i ds hg;obtain⟨a,xs,h1,h2,h3,h4,h5⟩:=k.ow i ds hg;refine⟨_,h1,.inl ⟨rfl,xs,iI.of h2⟩,q ρ σ G0 H0 G H _ _ k h fun v H' r G' x1 rr hq=>?_⟩;split at hq
  ·rename_i es;obtain⟨b,zs,rfl,b1,b2,b3,b4⟩:=rr;have k2:=k.ext x1;refine⟨a,b,xs,zs,rfl,rfl,x1.h _ _ h2,b3,by rw[h5.length,b4.length];exact hq.1,?_⟩;exact g.nx _ _ G' _ x1.g (k2.change hg h1 ((h5.mono x1.g).append b4)) hq.2
  ·exact hq.elim
 ·exact h.elim
def zm(i:Nat)(ti te:TD):TX:=fun D ρ=>match gt ρ i with
 | .ow ds=>te ρ fun r=>ti ρ fun rk=>match rk.val with
  | .int k=>∃j,rA ds.length k=some j/\D.nx (ρ.set i (.ow (ds.set j r.val)))
  | _=>False
 | _=>False
theorem R7(i:Nat){x:Str}{p1 p2:Pos}(hi:PD X i' ti)(he:PD X e te)(hN:X.N[i]?=some x:=by rfl)(hv:qK X.env.scope x:=by first | exact Or.inl rfl | exact Or.inr (Or.inl rfl) | exact Or.inr (Or.inr rfl))(hd:(x==("__debug__":Str))=false:=by decide)(kP:(x==("__classdict__":Str))=false:=by decide)
  (ha:∀v,assign (.Subscript (.Name x p1) i' p2) X.env v=(do
   let ov <-holding [v] (eval (.Name x p1) X.env)
   let iv <-holding [v,ov] (eval i' X.env)
   standAt p2
   holding [v,ov,iv] (setItem ov iv v)
   release [v,ov,iv] []):=by intro _;rfl)
  (hs:swapsWithSole [.Subscript (.Name x p1) i' p2] e pos.line X.env=pure false:=by rfl) (hw:swappedStores [.Subscript (.Name x p1) i' p2] e X.env=pure none:=by rfl)
  (h1:(assignEach [.Subscript (.Name x p1) i' p2] X.env).map (·.2)=[assign (.Subscript (.Name x p1) i' p2) X.env]:=by rfl) :
  PX X (.Assign [.Subscript (.Name x p1) i' p2] e pos) (zm i ti te):=by
 obtain⟨t,p,q⟩:=he;obtain⟨t2,HI,q2⟩:=hi;refine⟨_,Kv p (Rn (sg hN hv hd kP) HI SU ha) hs hw h1,fun ρ σ G0 H0 G H D E k h g=>?_⟩;unfold zm at h;split at h
 ·rename_i ds hg;obtain⟨a,xs,h1,h2,h3,h4,h5⟩:=k.ow i ds hg;refine q ρ σ G0 H0 G H _ _ k h fun v H' r G' x1 rr hq=>?_
  obtain⟨G2,x2,rv,_⟩:=rr.freeze x1;refine⟨_,h1,q2 ρ σ G0 H0 G2 H' _ _ (k.ext x2) hq fun u H3 rk G3 x3 yp kO=>?_⟩;obtain⟨G4,x4,yo,_⟩:=yp.freeze x3;split at kO
  ·rename_i kk e1;obtain⟨j,hj,kO⟩:=kO;rw[e1] at yo;simp only[Rep] at yo;have oS:=x2.trans x4;refine⟨a,xs,kk,j,rfl,yo,oS.h _ _ h2,by rw[h5.length];exact hj,?_⟩;exact g.nx _ _ G4 _ oS.g ((k.ext oS).change hg h1 ((h5.mono oS.g).set j (rv.mono x4.g))) kO
  ·exact kO.elim
 ·exact h.elim
end
structure M2 (X:Cx) (o:Expr) (m:Str) (apos:Pos) (e f:Expr) (kj:Pos):Prop where
 base:attributeBase o m X.env (eval o X.env)=eval o X.env
 CC:((backTo kj (starEach [e,f] X.env)).all (fun x=>!x.1)&&(backToKw kj (keywordEach [] X.env)).all (fun x=>x.1.isSome)
  && decide (([e,f]:List Expr).length+([]:List Keyword).length+(if ([]:List Keyword).isEmpty then 0 else 1)<30))=true
 line:(apos.endLine==kj.line)=true
 trees:backTo kj (starEach [e,f] X.env)=[(false,eval e X.env),(false,eval f X.env)]
end L2
namespace PySem
open Sem (wp)
end PySem
namespace L2
open PySem PySem.Spec PyProof.Rows
noncomputable def JE:D->Option Key
 | .int i=>some (.inl i)
 | .str x=>some (.inr x)
 | _=>none
section
variable {K:Z9} {G:Hp}
theorem iJ.nil:iJ K G [] []:=by simp only[iJ]
end
section
variable {K:Z9} {G H:Hp}
theorem gw.length:∀{qs:List Addr} {g6:List (List D)},gw K G H qs g6->qs.length=g6.length
 | [],[],_=>rfl
 | q::qs,ds::g6,h=>by
  simp only[gw] at h;simp only[aG,gw.length h.2]
 | [],_::_,h=>by simp only[gw] at h
 | _::_,[],h=>by simp only[gw] at h
theorem gw.snoc{p:Addr}{ds:List D}{zs:List V}:∀{qs:List Addr} {g6:List (List D)},gw K G H qs g6->H p=some (.lst zs)->f9 K G zs ds->gw K G H (qs++[p]) (g6++[ds])
 | [],[],_,h1,h2=>by simp only[fA,gw];exact⟨⟨zs,h1,h2⟩,trivial⟩
 | q::qs,es::g6,h,h1,h2=>by
  simp only[gw] at h;simp only[c9,gw];exact⟨h.1,gw.snoc h.2 h1 h2⟩
 | [],_::_,h,_,_=>by simp only[gw] at h
 | _::_,[],h,_,_=>by simp only[gw] at h
theorem gw.get:∀{qs:List Addr} {g6:List (List D)} {j:Nat} {ds:List D},gw K G H qs g6->g6[j]?=some ds->∃q xs,qs[j]?=some q/\H q=some (.lst xs)/\f9 K G xs ds
 | [],[],j,ds,_,e=>by simp at e
 | q::qs,es::g6,0,ds,h,e=>by
  simp only[gw] at h;simp only[dF,aW] at e;subst e;obtain⟨⟨xs,h1,h2⟩,_⟩:=h;exact⟨q,xs,rfl,h1,h2⟩
 | q::qs,es::g6,j+1,ds,h,e=>by
  simp only[gw] at h;simp only[cj] at e ⊢;exact gw.get h.2 e
 | [],_::_,_,_,h,_=>by simp only[gw] at h
 | _::_,[],_,_,h,_=>by simp only[gw] at h
theorem gw.set{q:Addr}{ys:List V}{es:List D}(hy:f9 K G ys es):∀{qs:List Addr} {g6:List (List D)} {j:Nat},gw K G H qs g6->qs.Nodup->qs[j]?=some q->gw K G (upd H q (.lst ys)) qs (g6.set j es)
 | [],[],j,_,_,e=>by simp at e
 | r::qs,ds::g6,0,h,nd,e=>by
  simp only[gw] at h;simp only[dF,aW] at e;subst e;simp only[List.set_cons_zero,gw];refine⟨⟨ys,lA,hy⟩,h.2.mono (gz.refl _) fun p hp xs e=>?_⟩;rw[iy (fun z:p=r=>(bO.mp nd).1 (z▸hp))];exact e
 | r::qs,ds::g6,j+1,h,nd,e=>by
  simp only[gw] at h;simp only[cj] at e;simp only[List.set_cons_succ,gw];refine⟨?_,gw.set hy h.2 (bO.mp nd).2 e⟩;obtain⟨⟨xs,h1,h2⟩,_⟩:=h;refine⟨xs,?_,h2⟩;rw[iy (fun z:r=q=>(bO.mp nd).1 (z▸aU e))];exact h1
 | [],_::_,_,h,_,_=>by simp only[gw] at h
 | _::_,[],_,h,_,_=>by simp only[gw] at h
end
def vi(wi:oH)(m:List (Option Nat))(g:lX)(tc:mT)(te:TD):TD:=fun ρ Q=>wi ρ fun ds=>∃Iv:Nat->List (List D)->Prop,Iv 0 []/\
 (∀i d acc,ds[i]?=some d->Iv i acc->g d (j9 m ρ) fun jc=>tc jc fun b=>if b=true then te jc fun r=>match r with
  | .ow es=>acc.length<sizeLine/\Iv (i+1) (acc++[es])
  | _=>False
  else Iv (i+1) acc)/\∀acc,Iv ds.length acc->Q (.ov (.ll acc))
section
variable {X:Cx} {elt iter tg:Expr} {ifs:List Expr} {scope:Scope} {pos:Pos} {N':List Str} {m:List (Option Nat)} {wi:oH} {g:lX} {tc:mT} {te:TD}
theorem R6(cs:gT X N' m scope)(hk:tX m g){ww:TI}{gg:uj TG}{BG:uj TT}{tee:uj TE}
  (q1:∀(ρ:Ev) (σ:St) (G0 H0 G H:Hp) (Q:List D->Prop) (P:It->Hp->Prop),ie X.K G0 H0 ρ σ G H->wi ρ Q->(∀J H' ds G',Ext G H G' H'->vE X.K J G' ds->Q ds->P J H')->ww σ H P)
  (q2:∀s3 H3 ex (ρ:Ev) (σ:St) (G0 H0 G H:Hp) (d:D) (v:V) (Q:Ev->Prop) (P:St->Hp->Prop),ie X.K G0 H0 ρ σ G H->Rep X.K G v d->g d ρ Q->(∀ρ' gK G' H',ie X.K G0 H0 ρ' gK G' H'->Ext G H G' H'->Q ρ'->P gK H')->gg s3 H3 ex v σ H P)
  (q3:∀s3 H3 ex (ρ:Ev) (σ:St) (G0 H0 G H:Hp) (Q:Bool->Prop) (P:Bool->Hp->Prop),ie X.K G0 H0 ρ σ G H->tc ρ Q->(∀b H' G',Ext G H G' H'->Q b->P b H')->BG s3 H3 ex σ H P)
  (q4:∀s3 H3 ex,sT X.K te (tee s3 H3 ex)):sT X.K (vi wi m g tc te) (AM ww m gg BG tee):=by
 refine fun ρ σ G0 H0 G H Q P E h k=>q1 ρ σ G0 H0 G H _ _ E h fun J H1 ds G1 x1 wk hq=>?_
 obtain⟨Iv,i0,turn,fin⟩:=hq;intro D hD s3 ex;have E1:=E.ext x1;have Jb:G1 D=none:=x1.s.free hD;have mY:∀{i:Nat} {es:List L2.D},gt (j9 m ρ) i=.ow es->False:=fun{i es} h=>by
  unfold j9 at h;rw[vk] at h;split at h
  ·rename_i o _;unfold tR at h;split at h
   ·cases h
   ·split at h<;>cases h
  ·cases h
 have uE:∀{i:Nat} {o:OV},gt (j9 m ρ) i=.ov o->False:=fun{i o} h=>by
  unfold j9 at h;rw[vk] at h;split at h
  ·rename_i o _;unfold tR at h;split at h
   ·cases h
   ·split at h<;>cases h
  ·cases h
 have oO:ie X.K G1 H1 (j9 m ρ) (uI m σ) G1 (upd H1 D (.lst [])):=by
  refine⟨.own x1.s hD,by simp[uI,j9],fun i d h=>?_,fun i es h=>(mY h).elim,fun i j es fs _ h=>(mY h).elim,fun _=>none,fun i es _ h=>(mY h).elim,fun i o h=>(uE h).elim⟩;unfold j9 at h;rw[vk] at h;split at h
  ·rename_i o ho;unfold tR at h;split at h
   ·cases h
   ·rename_i j;split at h
    ·rename_i d' wF;cases h;obtain⟨v,hv,rv⟩:=E1.fz j d wF;refine⟨v,?_,rv⟩;unfold uI;rw[aH,ho];simp[hv]
    ·cases h
  ·cases h
 refine⟨fun i n gK H'=>n=ds.length-i/\i<=ds.length/\∃acc fp G',ie X.K G1 H1 (j9 m ρ) gK G' H'/\H' D=some (.lst (fp.map V.ref))/\G' D=none/\gw X.K G' H' fp acc/\(D::fp).Nodup/\(∀q∈fp,H1 q=none/\G' q=none)/\Iv i acc,
  ⟨ds.length,by simp,a9 _,[],[],G1,oO,lA,Jb,by simp only[gw],by simp,fun q hq=>(by cases hq),i0⟩,?_⟩
 rintro i n gK H' ⟨rfl,hi,acc,fp,G',E',hx,Cu,rx,nd,fr,iv⟩;by_cases gL:i<ds.length
 ·obtain⟨w1,w2⟩:=wk;obtain⟨go,yl⟩:=w1 i ds[i] G' H' (ai gL) E'.e.g E'.e.s;refine .inr ⟨go,fun oJ H2=>∃acc fp G',ie X.K G1 H1 (j9 m ρ) oJ G' H2/\H2 D=some (.lst (fp.map V.ref))/\G' D=none/\gw X.K G' H2 fp acc/\(D::fp).Nodup/\(∀q∈fp,H1 q=none/\G' q=none)/\Iv (i+1) acc,fun oJ H2 h2=>⟨ds.length-(i+1),by omega,rfl,gL,h2⟩,fun v H2 hy=>?_⟩;obtain⟨G2,x2,rv⟩:=yl v H2 hy;refine q2 _ _ _ (j9 m ρ) gK G1 H1 G2 H2 ds[i] v _ _ (E'.ext x2) rv (hk _ _ _ (turn i ds[i] acc (ai gL) iv)) fun vD pw G3 H3 E3 x3 kO=>?_
  obtain⟨kO,IH,IJ⟩:=kO;have weak:∀j,gt (j9 m ρ) j=.un\/gt (j9 m ρ) j=gt vD j:=fun j=>by
   cases hm:m[j]? with
   | none=>left;unfold j9;rw[vk,hm]
   | some o=>
    cases o with
    | none=>left;unfold j9;rw[vk,hm];rfl
    | some c=>right;exact(IJ j c hm).symm
  have Ht:=x2.trans x3;refine q3 _ _ _ vD pw G1 H1 G3 H3 _ _ E3 kO fun b H4 G4 x4 wt=>?_
  have oS:=Ht.trans x4;have E4:=(E3.ext x4).weak (ρ':=j9 m ρ) (IH.symm) weak;have xw:H4 D=some (.lst (fp.map V.ref)):=oS.h _ _ hx;have Cs:G4 D=none:=oS.n D Cu (by rw[hx];exact nofun);have r4:gw X.K G4 H4 fp acc:=rx.mono oS.g fun q _ zs e=>oS.h _ _ e
  have Ap:∀q∈fp,H1 q=none/\G4 q=none:=fun q hq=>⟨(fr q hq).1,oS.n q (fr q hq).2 (rx.here q hq)⟩
  cases b with
  | false=>
   rw[if_neg aZ] at wt ⊢;exact⟨acc,fp,G4,E4,xw,Cs,r4,nd,Ap,wt⟩
  | true=>
   rw[if_pos rfl] at wt ⊢;refine q4 _ _ _ vD pw G1 H1 G4 H4 _ _ (E3.ext x4) wt fun v5 H5 r5 G5 x5 HE yH=>?_
   split at yH
   ·rename_i es;obtain⟨p,zs,rfl,c1,c2,c3,c4⟩:=HE;have E6:=E4.ext x5;have Ig:H5 D=some (.lst (fp.map V.ref)):=x5.h _ _ xw;have Cr:G5 D=none:=x5.n D Cs (by rw[xw];exact nofun);have NX:p≠D:=fun z=>by rw[z,xw] at c1;cases c1
    have Iw:p∉fp:=fun z=>r4.here p z c1
    have YJ:D∉fp:=fun z=>(bO.mp nd).1 z
    have r6:gw X.K G5 (upd H5 D (.lst ((fp++[p]).map V.ref))) (fp++[p]) (acc++[es]):=by
     refine gw.snoc (r4.mono x5.g fun q hq ys e=>?_) ?_ c4
     ·rw[iy (fun z:q=D=>YJ (z▸hq))];exact x5.h _ _ e
     ·rw[iy NX];exact c3
    refine⟨fp.map V.ref,Ig,by rw[ae,r4.length];exact yH.1,acc++[es],fp++[p],G5,?_,by rw[show fp.map V.ref++[V.ref p]=(fp++[p]).map V.ref by simp];exact lA,Cr,by rw[show fp.map V.ref++[V.ref p]=(fp++[p]).map V.ref by simp];exact r6,?_,fun q hq=>?_,yH.2⟩
    ·refine⟨⟨E6.e.g,fun b o e=>by rw[iy (nQ e hD)];exact E6.e.h b o e,fun b o e=>by rw[iy (nQ e Cr)];exact E6.e.s b o e,E6.e.n⟩,E6.len,E6.fz,fun i es h=>(mY h).elim,fun i j es fs _ h=>(mY h).elim,fun _=>none,fun i es _ h=>(mY h).elim,fun i o h=>(uE h).elim⟩
    ·rw[bO] at nd ⊢;refine⟨fun z=>?_,?_⟩
     ·rcases av.mp z with z | z
      ·exact nd.1 z
      ·simp at z;exact NX z.symm
     ·rw[fL];refine⟨nd.2,by simp,fun a ha b hb=>?_⟩;simp at hb;subst hb;exact fun z=>Iw (z▸ha)
    ·rcases av.mp hq with hq | hq
     ·exact⟨(Ap q hq).1,x5.n q (Ap q hq).2 (r4.here q hq)⟩
     ·simp at hq;subst hq;exact⟨E4.e.h.free c1,c2⟩
   ·exact yH.elim
 ·have e:i=ds.length:=by omega
  subst e;refine .inl ⟨wk.2 G' H' E'.e.g E'.e.s,k _ H' (.ov (.ll acc)) G' (x1.trans E'.e) ⟨D,fp,rfl,nd,⟨hx,rx⟩,fun q hq=>?_⟩ (fin acc iv)⟩;rcases ar.mp hq with rfl | hq
  ·exact⟨x1.h.free hD,Cu⟩
  ·exact⟨x1.h.free (fr q hq).1,(fr q hq).2⟩
theorem F3(hc:X.calm=true)(cs:gT X N' m scope)(hk:tX m g)(hi:PId X tg iter wi)(hg:∀s3 H3 ex,u5 (lW X N' scope s3 H3 ex) tg g)(ht:∀s3 H3 ex,yZ (lW X N' scope s3 H3 ex) ifs tc)
  (he:∀s3 H3 ex,PD (lW X N' scope s3 H3 ex) elt te) (hs:∀x,foldedSetIterable iter X.env x=pure x:=by intro _;rfl):PD X (.ListComp elt [⟨tg,iter,ifs,0⟩] scope pos) (vi wi m g tc te):=by
 obtain⟨ww,p1,q1⟩:=hi;exact⟨_,Lq (g:=fun s3 H3 ex=>(hg s3 H3 ex).choose) (tc:=fun s3 H3 ex=>(ht s3 H3 ex).choose) (te:=fun s3 H3 ex=>(he s3 H3 ex).choose) hc cs p1 (fun s3 H3 ex=>(hg s3 H3 ex).choose_spec.1) (fun s3 H3 ex=>(ht s3 H3 ex).choose_spec.1) (fun s3 H3 ex=>(he s3 H3 ex).choose_spec.1) hs,
  R6 cs hk q1 (fun s3 H3 ex=>(hg s3 H3 ex).choose_spec.2) (fun s3 H3 ex=>(ht s3 H3 ex).choose_spec.2) (fun s3 H3 ex=>(he s3 H3 ex).choose_spec.2)⟩
end
section
variable {X:Cx} {pos:Pos} {e i':Expr} {te ti:TD}
def AJ(i:Nat)(ti te:TD):TX:=fun D ρ=>match gt ρ i with
 | .ov (.ll g6)=>ti ρ fun rk=>match rk.val with
  | .int k=>∃j ds,rA g6.length k=some j/\g6[j]?=some ds/\te ρ fun r=>ds.length<sizeLine/\D.nx (ρ.set i (.ov (.ll (g6.set j (ds++[r.val])))))
  | _=>False
 | _=>False
theorem QR(i:Nat){x:Str}{p1 p2 p3 pos':Pos}(hi:PD X i' ti)(he:PD X e te)(hN:X.N[i]?=some x:=by rfl)(hv:qK X.env.scope x:=by first | exact Or.inl rfl | exact Or.inr (Or.inl rfl) | exact Or.inr (Or.inr rfl))(hd:(x==("__debug__":Str))=false:=by decide)
  (kP:(x==("__classdict__":Str))=false:=by decide) (Yi:DH i':=by intro _ _;rfl) (jW:starEach [e] X.env=(false,eval e X.env)::starEach [] X.env:=by rfl)
  (hb:∀{ta:TE} {t:TA},PE X (.Subscript (.Name x p1) i' p2) ta->PA X [e] t->PE X (.Call (.Attribute (.Subscript (.Name x p1) i' p2) "append" p3) [e] [] pos') (zV X.K "list" DG ta t):=by intro ta t h1 h2;exact zh cB fk fm D8 h1 h2) :
  PX X (.Expr (.Call (.Attribute (.Subscript (.Name x p1) i' p2) "append" p3) [e] [] pos') pos) (AJ i ti te):=by
 obtain⟨t,p,q⟩:=he;obtain⟨t2,HI,q2⟩:=hi;refine⟨_,zF (hb (Fe sF (sg hN hv hd kP) HI Yi) (tq p tY jW)),fun ρ σ G0 H0 G H D E k h g=>?_⟩;unfold AJ at h;split at h
 ·rename_i g6 hg;obtain⟨own,o1,o2⟩:=k.on;obtain⟨a,fp,b1,b2,⟨ha,hr⟩,b4⟩:=o2 i _ hg;refine⟨_,b1,q2 ρ σ G0 H0 G H _ _ k h fun u H1 rk G1 x1 HF rJ=>?_⟩;obtain⟨G2,x2,ua,_⟩:=HF.freeze x1;split at rJ
  ·rename_i kk e1;obtain⟨j,ds,hj,Al,rJ⟩:=rJ;rw[e1] at ua;simp only[Rep] at ua;obtain⟨qa,xs,c1,c2,c3⟩:=hr.get Al;have qG:iR (fp.map V.ref) kk=some (.ref qa):=by
    unfold iR;rw[ae,hr.length,hj];simp[c1]
   refine⟨a,fp.map V.ref,kk,_,rfl,ua,iI.of (x2.h _ _ ha),qG,.inl ⟨rfl,xs,iI.of (x2.h _ _ c2)⟩,?_⟩;refine q ρ σ G0 H0 G2 H1 _ _ (k.ext x2) rJ fun v H3 r G3 x3 yp kO=>?_
   obtain⟨G4,x4,yo,_⟩:=yp.freeze x3;have oS:=x2.trans x4;refine⟨qa,xs,v,rfl,rfl,oS.h _ _ c2,by rw[c3.length];exact kO.1,?_⟩;refine g.nx _ _ G4 _ oS.g ((k.ext oS).sR hg b1 fun sQ nd ow=>?_) kO.2;obtain⟨Od,tK⟩:=ow;have e3:sQ=fp:=by
    have:=(oS.h _ _ ha).symm.trans Od;injection this with this
    injection this with this
    exact((List.map_inj_right fun a b h=>by cases h;rfl).mp this).symm
   subst e3;have HN:=bO.mp nd;refine⟨sQ,nd,⟨?_,tK.set ((c3.mono oS.g).append (f9.cons yo f9.nil)) HN.2 c1⟩,fun q hq=>.inl hq,fun b hb _=>iy fun z=>hb (by rw[z];exact aD _ (aU c1))⟩;rw[iy (fun z:a=qa=>HN.1 (z▸aU c1))];exact Od
  ·exact rJ.elim
 ·exact h.elim
end
noncomputable def JU:R->Bool
 | .fz d=>vf d
 | .ow ds=>ds.all vf
 | .ov (.dc g5)=>g5.all fun p=>vf p.2
 | _=>false
def Df(i:Nat)(te:TD):TD:=fun ρ Q=>te (oY i ρ) fun r=>JU r=true/\Q r
theorem Mq{K:Z9}{G G':Hp}:∀{vs:List V} {ds:List D},ds.all vf=true->f9 K G vs ds->f9 K G' vs ds
 | [],[],_,_=>f9.nil
 | v::vs,d::ds,h,r=>by
  simp only[f9] at r;rw[List.all_cons,cx] at h;exact f9.cons (DO h.1 r.1) (Mq h.2 r.2)
 | [],_::_,_,r=>by simp only[f9] at r
 | _::_,[],_,r=>by simp only[f9] at r
theorem MO{K:Z9}{G G':Hp}:∀{ks:List (Key×V)} {g5:List (Key×D)},(g5.all fun p=>vf p.2)=true->iJ K G ks g5->iJ K G' ks g5
 | [],[],_,_=>iJ.nil
 | v::vs,d::ds,h,r=>by
  simp only[iJ] at r ⊢;rw[List.all_cons,cx] at h;exact⟨⟨r.1.1,DO h.1 r.1.2⟩,MO h.2 r.2⟩
 | [],_::_,_,r=>by simp only[iJ] at r
 | _::_,[],_,r=>by simp only[iJ] at r
theorem QQ{K:Z9}{te:TD}{tt:TE}(i:Nat)(q:sT K te tt):sT K (Df i te) tt:=by
 intro ρ σ G0 H0 G H Q P E h k;obtain⟨L,hL,E1,_⟩:=E.pI i;refine q _ σ G0 H0 _ H _ _ E1 h fun v H' r G' x rr hq=>?_
 have x2:=LA hL x;refine k v H' r (xT G' L) x2 ?_ hq.2;have hs:=hq.1;cases r with
 | fz d=>exact DO hs rr
 | ow ds=>
  obtain⟨p,xs,rfl,c1,c2,c3,c4⟩:=rr;refine⟨p,xs,rfl,c1,?_,c3,Mq hs c4⟩;unfold xT;split
  ·rfl
  ·exact c2
 | ov o=>
  cases o with
  | dc g5=>
   obtain⟨p,fp,rfl,c1,⟨rfl,ks,ep,c2,c3⟩,c4⟩:=rr;refine⟨p,[],rfl,c1,⟨rfl,ks,ep,c2,MO hs c3⟩,fun q hq=>⟨(c4 q hq).1,?_⟩⟩;unfold xT;split
   ·rfl
   ·exact(c4 q hq).2
  | ll=>cases hs
  | dl=>cases hs
  | tl=>cases hs
  | ld=>cases hs
  | dt=>cases hs
  | tp=>cases hs
  | ob=>cases hs
  | dq=>cases hs
section
variable {X:Cx} {elt iter tg:Expr} {ifs:List Expr} {scope:Scope} {pos:Pos} {N':List Str} {m:List (Option Nat)} {wi:oH} {g:lX} {tc:mT} {te:TD}
theorem R5(j i:Nat){x:Str}{pos' nX:Pos}(hc:X.calm=true)(cs:gT X N' m scope)(hk:tX m g)(hi:PId X tg iter wi)(hg:∀s3 H3 ex,u5 (lW X N' scope s3 H3 ex) tg g)(ht:∀s3 H3 ex,yZ (lW X N' scope s3 H3 ex) ifs tc)
  (he:∀s3 H3 ex,PD (lW X N' scope s3 H3 ex) elt te) (hN:X.N.Nodup:=by assumption) (yL:X.N[i]?=some x:=by rfl) (hx:Loc X.env.scope x:=by first | exact Or.inl rfl | exact Or.inr rfl) (hs:∀x,foldedSetIterable iter X.env x=pure x:=by intro _;rfl)
  (yG:swapsWith (.ListComp elt [⟨tg,iter,ifs,0⟩] scope pos) (some (.Name x pos')) nX.line X.env=pure true:=by rfl)
  (hf:X.fn x=true\/X.env.scope.names.lookup x=some .local:=by first | exact .inl rfl | exact .inr rfl | assumption) :
  PX X (.Assign [.Name x pos'] (.ListComp elt [⟨tg,iter,ifs,0⟩] scope pos) nX) (oA i (Df j (jG wi m g tc te))):=by
 obtain⟨ww,p1,q1⟩:=hi;refine⟨_,FE (g:=fun s3 H3 ex=>(hg s3 H3 ex).choose) (tc:=fun s3 H3 ex=>(ht s3 H3 ex).choose) (te:=fun s3 H3 ex=>(he s3 H3 ex).choose) hN yL hx hc cs p1 (fun s3 H3 ex=>(hg s3 H3 ex).choose_spec.1) (fun s3 H3 ex=>(ht s3 H3 ex).choose_spec.1) (fun s3 H3 ex=>(he s3 H3 ex).choose_spec.1) hs yG hf,fun ρ σ G0 H0 G H D E k h gg=>?_⟩;exact QQ j (Dy cs hk q1 (fun s3 H3 ex=>(hg s3 H3 ex).choose_spec.2) (fun s3 H3 ex=>(ht s3 H3 ex).choose_spec.2) (fun s3 H3 ex=>(he s3 H3 ex).choose_spec.2)) ρ σ G0 H0 G H _ _ k h fun v H' r G' x rr hq=>gg.nx _ _ G' H' x.g (k.put x rr) hq
end
section
variable {X:Cx} {pos:Pos} {e i':Expr} {te ti:TD}
noncomputable def pairsOf:List D->Option (List (Key×D))
 | []=>some []
 | .tup [k,v]::r=>match JE k with
  | some key=>(pairsOf r).map ((key,v)::·)
  | none=>none
 | _=>none
end
end L2
namespace HT
open PySem PyProof.Rows
noncomputable def gI:List Int->List Int->Bool
 | [],[]=>false
 | [],_::_=>false
 | _::_,[]=>true
 | x::xs,y::ys=>if x=y then gI xs ys else decide (y<x)
end HT
namespace L2
open PySem PySem.Spec PyProof.Rows
section
variable {prog:Program} {w:World} {A:Around} {Rz:Result->Shared->Prop} {I:Addr} {fp wr:List Addr} {n:Nat} {P:Nat->Value->Prop} {St:Nat->Heap->Prop} {Hk:Heap->Prop}
theorem Dw:(toString "max"++toString ".loop":String)="max.loop":=by decide
theorem QP(W:Walks prog w A.in1 I fp wr 0 P St)(S:Addr)(off:S∉fp)(d:Value){z:Shared}{c:Nat}(st:St 0 z.heap)(gS:z.heap.get? S=some { cls:=.type "list",dict:=none,data:=.seq #[] c,slots:=#[] })
  (fin:∀h' tk,(∀b o,b∉wr->z.heap.get? b=some o->h'.get? b=some o)->Rz (.ok (.ret d)) { z with heap:=h',toks:=tk }) :
  codeAny (model prog w) A (.builtin "max.loop" ⟨[.ref I,.none,.ref S],[("default",d)]⟩) Rz z:=by
 refine b8 fV ?_;rw[bJ df _];show wpAny _ A.in1 (seqItems? (.ref S) >>= _) _ _ z;refine aa (fN gS rfl ?_);show wpAny _ A.in1 (tryCatch (pyNext (.ref I)) _ >>= _) _ _ z;refine aa (fO (W.done z _ _ st fun h1 tk kp=>?_));exact aa (fF (ao (fin h1 tk kp)))
end
section
variable {prog:Program} {w:World} {A:Around} {E:Value->Shared->Prop} {s:Shared}
theorem Vz{id:String}{b:Builtin}{args:List Value}{kw:List (Str×Value)}{Q:Value->Shared->Prop}(hk:builtinKind id=none)(hp:plainId id=true)(hb:entryFor table id=some b)(ha:argsOk id ⟨args,kw⟩)
  (hc:wpAny (model prog w) A.in1 (b ⟨args,kw⟩) (fun fin s'=>match fin with
   | .done f=>(match (Except.ok f:Result) with | .ok (.ret v)=>Q v s' | .ok _=>False | .error e=>E e s')
   | .again c'=>c'.quiet=true/\codeAny (model prog w) A c' (fun r s'=>match r with | .ok (.ret v)=>Q v s' | .ok _=>False | .error e=>E e s') s') E s) :
  wpAny (model prog w) A (call (.builtin id) args kw) Q E s:=by
 refine wpAny_call (codeAny_call_builtin hp hb ?_);simp only[checkBuiltinCall,hk];cases Io:Manifest.signature? id with
 | none=>exact ao hc
 | some sig=>
  have h2:Bind.checkArgs id sig ⟨args,kw⟩=pure ():=by simpa only[argsOk,Io] using ha
  simp only[h2];exact ao hc
theorem Ul(x d:Value):argsOk "max" ⟨[x],[("default",d)]⟩:=by unfold argsOk;kernel_rfl
end
end L2
namespace HT
theorem pq:∀t:List Int,gI t t=false
 | []=>rfl
 | a::t=>by unfold gI;simp[pq t]
theorem qA:∀a b:List Int,gI a b=true->gI b a=false
 | [],[],h=>rfl
 | [],_::_,h=>by unfold gI at h;cases h
 | _::_,[],h=>by unfold gI;rfl
 | x::xs,y::ys,h=>by
  unfold gI at h ⊢;by_cases e:x=y
  ·subst e;simp only[aR] at h ⊢;simpa using qA xs ys (by simpa using h)
  ·have e2:¬y=x:=fun x=>e x.symm
   simp[e,e2] at h ⊢;omega
theorem nZ:∀a b c:List Int,gI a b=false->gI b c=false->gI a c=false
 | [],[],c,h,h2=>h2
 | [],_::_,[],h,h2=>by unfold gI;rfl
 | [],_::_,_::_,h,h2=>by unfold gI;rfl
 | _::_,[],_,h,_=>by unfold gI at h;cases h
 | x::xs,y::ys,[],h,h2=>by unfold gI at h2;cases h2
 | x::xs,y::ys,z::zs,h,h2=>by
  unfold gI at h h2 ⊢;have ih:=nZ xs ys zs;by_cases e:x=y
  ·subst e;by_cases e2:x=z
   ·subst e2;simp at h h2 ⊢;exact ih h h2
   ·simp[e2] at h h2 ⊢;omega
  ·by_cases e2:y=z
   ·subst e2;simp[e] at h h2 ⊢;omega
   ·simp[e,e2] at h h2;have e3:¬x=z:=by omega
    simp[e3];omega
end HT
namespace L2
open PySem PySem.Spec PyProof.Rows
section
variable {X:Cx} {pos p kp:Pos} {e e2:Expr} {te te2:TD}
def CU(P:V->Hp->Prop):List V->Hp->Prop:=fun vs H=>match vs with
 | [x]=>P x H
 | _=>False
theorem K6{P:V->Hp->Prop}{vs:List V}{H:Hp}(h:CU P vs H):∃x,vs=[x]:=by
 unfold CU at h;split at h
 ·exact⟨_,rfl⟩
 ·exact h.elim
noncomputable def qf:List D->Option (List (List Int))
 | []=>some []
 | .tup es::r=>match oP es,qf r with
  | some a,some b=>some (a::b)
  | _,_=>none
 | _=>none
theorem Lw{K:Z9}{G:Hp}:∀{es:List D} {lI:List (List Int)} {vs:List V},qf es=some lI->f9 K G vs es->vs.length=lI.length/\∀(i:Nat) x t,vs[i]?=some x->lI[i]?=some t->Rep K G x (.tup (t.map D.int))/\∃b,x=.ref b/\jE K G b (t.map V.int)
 | [],lI,[],h,_=>by simp only[qf,aW] at h;subst h;exact⟨rfl,fun i x t e=>by simp at e⟩
 | .tup es::r,lI,v::vs,h,rs=>by
  simp only[f9] at rs;simp only[qf] at h;split at h
  ·rename_i a b ha hb;simp only[aW] at h;subst h;obtain⟨h1,h2⟩:=Lw hb rs.2;refine⟨by simp[h1],fun i x t e1 e2=>?_⟩;cases i with
   | zero=>
    simp only[dF,aW] at e1 e2;subst e1 e2;have r1:=rs.1;rw[yg ha] at r1;refine⟨r1,?_⟩;simp only[Rep] at r1;obtain⟨p,xs,rfl,q1,q2⟩:=r1;rw[ye q2] at q1;exact⟨p,rfl,jE.of q1⟩
   | succ i=>
    simp only[cj] at e1 e2;exact h2 i x t e1 e2
  ·cases h
 | [],_,_::_,_,rs=>by simp only[f9] at rs
 | _::_,_,[],_,rs=>by simp only[f9] at rs
 | .int _::_,_,_::_,h,_=>by simp[qf] at h
 | .str _::_,_,_::_,h,_=>by simp[qf] at h
 | .lst _::_,_,_::_,h,_=>by simp[qf] at h
 | .non::_,_,_::_,h,_=>by simp[qf] at h
 | .bl _::_,_,_::_,h,_=>by simp[qf] at h
 | .obj _ _::_,_,_::_,h,_=>by simp[qf] at h
 | .dic _::_,_,_::_,h,_=>by simp[qf] at h
 | .dit _::_,_,_::_,h,_=>by simp[qf] at h
 | .exc _::_,_,_::_,h,_=>by simp[qf] at h
end
end L2
namespace Ts
open PySem PyProof.Rows
noncomputable def xb:Bool->Keyed->Array Keyed->Nat->Nat->Nat->StateT SortSt Sem (Option Nat):=sortPriv% PySem.Builtin.gallop
noncomputable def F2:Array Keyed->Array Keyed->StateT SortSt Sem (Array Keyed):=sortPriv% PySem.Builtin.mergeLo
noncomputable def F1:Array Keyed->Array Keyed->StateT SortSt Sem (Array Keyed):=sortPriv% PySem.Builtin.mergeHi
noncomputable def xX(left:Bool)(key:Keyed)(arr:Array Keyed)(base i:Nat):StateT SortSt Sem (Option Bool):=do
 let x <-elem' arr (base+i)
 if left then lt' x key else return (<-lt' key x).map (!·)
theorem Uk(left:Bool)(key:Keyed)(arr:Array Keyed)(base n hint:Nat):xb left key arr base n hint=(do
 let mut nK:=0
 let mut ub:=1
 let mut lo:=0
 let mut hi:=0
 let some right <-xX left key arr base hint | return none
 if right then
  let nY:=n-hint
  for _ in [0:n] do
   if ub>=nY then break
   let some more <-xX left key arr base (hint+ub) | return none
   if !more then break
   nK:=ub
   ub:=2*ub+1
  lo:=hint+nK+1
  hi:=hint+min ub nY
 else
  let nY:=hint+1
  for _ in [0:n] do
   if ub>=nY then break
   let some found <-xX left key arr base (hint-ub) | return none
   if found then break
   nK:=ub
   ub:=2*ub+1
  lo:=hint+1-min ub nY
  hi:=hint-nK
 for _ in [0:n] do
  if lo>=hi then break
  let m:=lo+(hi-lo)/2
  let some more <-xX left key arr base m | return none
  if more then lo:=m+1 else hi:=m
 return some hi):=rfl
variable {M:Model} {A:Around} {E:Value->Shared->Prop} {s:Shared}
structure Rk (M:Model) (A:Around) (E:Value->Shared->Prop) (s:Shared) (κ:SortKind) (ok:Keyed->Prop) (rk:Keyed->Int):Prop where
 lt:∀x y (st:SortSt) (Q:Option Bool->SortSt->Prop),ok x->ok y->kindOf st=κ->Q (some (decide (rk x<rk y))) st->wpS M A E s (lt' x y) Q st
theorem jo{arr:Array Keyed}{i:Nat}{Q:Keyed->SortSt->Prop}{st:SortSt}(h:i<arr.size)(q:Q arr[i] st):wpS M A E s (elem' arr i) Q st:=by
 rw[elem'_eq,cF h];exact af q
theorem Uj{κ:SortKind}{ok:Keyed->Prop}{rk:Keyed->Int}(R:Rk M A E s κ ok rk){left:Bool}{key:Keyed}{arr:Array Keyed}{base i:Nat}{Q:Option Bool->SortSt->Prop}{st:SortSt}(hk:kindOf st=κ)(oa:∀x∈arr,ok x)(Ep:ok key)(h:base+i<arr.size)
  (q:Q (some (if left=true then decide (rk arr[base+i]<rk key) else !decide (rk key<rk arr[base+i]))) st):wpS M A E s (xX left key arr base i) Q st:=by
 unfold xX;refine ah (jo h ?_);cases left with
 | true=>exact R.lt _ _ st _ (oa _ (aQ h)) Ep hk q
 | false=>exact ah (R.lt _ _ st _ Ep (oa _ (aQ h)) hk (af q))
def Cut(b:Nat->Bool)(n k:Nat):Prop:=k<=n/\∀i,i<n->(b i=true↔i<k)
theorem su{κ:SortKind}{ok:Keyed->Prop}{rk:Keyed->Int}(R:Rk M A E s κ ok rk){left:Bool}{key:Keyed}{arr:Array Keyed}{base n hint k:Nat}{Q:Option Nat->SortSt->Prop}{st:SortSt}(hk:kindOf st=κ)(oa:∀x∈arr,ok x)(Ep:ok key)(hn:base+n<=arr.size)(hh:hint<n)
  (hc:Cut (fun i=>if left=true then decide (rk (arr.getD (base+i) (Value.none,Value.none))<rk key) else !decide (rk key<rk (arr.getD (base+i) (Value.none,Value.none)))) n k) (q:Q (some k) st):wpS M A E s (xb left key arr base n hint) Q st:=by
 have CJ:∀i,i<n->∀{Q':Option Bool->SortSt->Prop},Q' (some (decide (i<k))) st->wpS M A E s (xX left key arr base i) Q' st:=fun i hi Q' h=>by
  refine Uj R hk oa Ep (by omega) ?_;have h2:=hc.2 i hi;have e:arr.getD (base+i) (Value.none,Value.none)=arr[base+i]'(by omega):=by simp[Array.getD,show base+i<arr.size by omega]
  dsimp only at h2;rw[e] at h2;rw[show(if left=true then decide (rk (arr[base+i]'(by omega))<rk key) else !decide (rk key<rk (arr[base+i]'(by omega))))=decide (i<k) by rw[fu,h2,aS]];exact h
 have Yp:=hc.1;rw[Uk];refine ah (CJ hint hh ?_);dsimp only;by_cases h0:hint<k
 ·simp only[h0,cy,aR];refine ah (cG (bG (Q:=fun c gm=>gm=st/\c.1=none/\hint+c.2.1<k/\k<=hint+min c.2.2 (n-hint)) (fun i c gm=>gm=st/\c.1=none/\hint+c.2.1<k/\i+1<=c.2.2) ?_ ?_ ⟨rfl,rfl,by show hint+0<k;omega,by show 0+1<=1;omega⟩) ?_)
  ·rintro i ⟨c1,la,of⟩ gm _ rL ⟨rfl,iz,h1,h2⟩;dsimp only at iz h1 h2 ⊢;subst iz;by_cases hd:of>=n-hint
   ·rw[if_pos hd];exact af ⟨rfl,rfl,h1,by dsimp only;omega⟩
   ·rw[if_neg hd];refine ah (CJ _ (by omega) ?_);dsimp only;by_cases hm:hint+of<k
    ·simp only[hm,cy,eF,aq,aP];exact af ⟨rfl,rfl,hm,by dsimp only;omega⟩
    ·simp only[hm,cE,Bool.not_false,aR];exact af ⟨rfl,rfl,h1,by dsimp only;omega⟩
  ·rintro⟨c1,la,of⟩ gm ⟨rfl,iz,h1,h2⟩;dsimp only at iz h1 h2 ⊢;exact⟨rfl,iz,h1,by rw[cR (a9 n)] at h2;omega⟩
  ·rintro⟨c1,la,of⟩ gm ⟨rfl,iz,h1,h2⟩;dsimp only at iz h1 h2 ⊢;subst iz;dsimp only;refine ah (cG (bG (Q:=fun c gC=>gC=gm/\c.1=none/\c.2.2=k) (fun i c gC=>gC=gm/\c.1=none/\c.2.1<=k/\k<=c.2.2/\c.2.2<=n/\c.2.2-c.2.1+i<=n) ?_ ?_ ⟨rfl,rfl,by dsimp only;omega,by dsimp only;omega,by dsimp only;omega,by dsimp only;omega⟩) ?_)
   ·rintro i ⟨c1,lo,hi⟩ gC _ rL ⟨rfl,iz,h1,h2,h3,h4⟩;dsimp only at iz h1 h2 h3 h4 ⊢;subst iz;by_cases hd:lo>=hi
    ·rw[if_pos hd];exact af ⟨rfl,rfl,by dsimp only;omega⟩
    ·rw[if_neg hd];refine ah (CJ _ (by omega) ?_);dsimp only;by_cases hm:lo+(hi-lo)/2<k
     ·simp only[hm,cy,aR];exact af ⟨rfl,rfl,by dsimp only;omega,h2,h3,by dsimp only;omega⟩
     ·simp only[hm,cE,aq,aP];exact af ⟨rfl,rfl,h1,by dsimp only;omega,by dsimp only;omega,by dsimp only;omega⟩
   ·rintro⟨c1,lo,hi⟩ gC ⟨rfl,iz,h1,h2,h3,h4⟩;dsimp only at iz h1 h2 h3 h4 ⊢;exact⟨rfl,iz,by omega⟩
   ·rintro⟨c1,lo,hi⟩ gC ⟨rfl,iz,h1⟩;dsimp only at iz h1 ⊢;subst iz h1;exact af q
 ·simp only[h0,cE,aq,aP];refine ah (cG (bG (Q:=fun c gm=>gm=st/\c.1=none/\k<=hint-c.2.1/\c.2.1<=hint/\hint+1-min c.2.2 (hint+1)<=k) (fun i c gm=>gm=st/\c.1=none/\k<=hint-c.2.1/\c.2.1<=hint/\i+1<=c.2.2) ?_ ?_ ⟨rfl,rfl,by show k<=hint-0;omega,a9 _,by show 0+1<=1;omega⟩) ?_)
  ·rintro i ⟨c1,la,of⟩ gm _ rL ⟨rfl,iz,h1,h2,h3⟩;dsimp only at iz h1 h2 h3 ⊢;subst iz;by_cases hd:of>=hint+1
   ·rw[if_pos hd];exact af ⟨rfl,rfl,h1,h2,by dsimp only;omega⟩
   ·rw[if_neg hd];refine ah (CJ _ (by omega) ?_);dsimp only;by_cases hm:hint-of<k
    ·simp only[hm,cy,aR];exact af ⟨rfl,rfl,h1,h2,by dsimp only;omega⟩
    ·simp only[hm,cE,aq,aP];exact af ⟨rfl,rfl,by dsimp only;omega,by dsimp only;omega,by dsimp only;omega⟩
  ·rintro⟨c1,la,of⟩ gm ⟨rfl,iz,h1,h2,h3⟩;dsimp only at iz h1 h2 h3 ⊢;exact⟨rfl,iz,h1,h2,by rw[cR (a9 n)] at h3;omega⟩
  ·rintro⟨c1,la,of⟩ gm ⟨rfl,iz,h1,h2,h3⟩;dsimp only at iz h1 h2 h3 ⊢;subst iz;dsimp only;refine ah (cG (bG (Q:=fun c gC=>gC=gm/\c.1=none/\c.2.2=k) (fun i c gC=>gC=gm/\c.1=none/\c.2.1<=k/\k<=c.2.2/\c.2.2<=n/\c.2.2-c.2.1+i<=n) ?_ ?_ ⟨rfl,rfl,by dsimp only;omega,by dsimp only;omega,by dsimp only;omega,by dsimp only;omega⟩) ?_)
   ·rintro i ⟨c1,lo,hi⟩ gC _ rL ⟨rfl,iz,h1,h2,h3,h4⟩;dsimp only at iz h1 h2 h3 h4 ⊢;subst iz;by_cases hd:lo>=hi
    ·rw[if_pos hd];exact af ⟨rfl,rfl,by dsimp only;omega⟩
    ·rw[if_neg hd];refine ah (CJ _ (by omega) ?_);dsimp only;by_cases hm:lo+(hi-lo)/2<k
     ·simp only[hm,cy,aR];exact af ⟨rfl,rfl,by dsimp only;omega,h2,h3,by dsimp only;omega⟩
     ·simp only[hm,cE,aq,aP];exact af ⟨rfl,rfl,h1,by dsimp only;omega,by dsimp only;omega,by dsimp only;omega⟩
   ·rintro⟨c1,lo,hi⟩ gC ⟨rfl,iz,h1,h2,h3,h4⟩;dsimp only at iz h1 h2 h3 h4 ⊢;exact⟨rfl,iz,by omega⟩
   ·rintro⟨c1,lo,hi⟩ gC ⟨rfl,iz,h1⟩;dsimp only at iz h1 ⊢;subst iz h1;exact af q
variable {α:Type} (rk:α->Int)
structure MI (a b out:List α) (ia ib:Nat):Prop where
 la:ia<=a.length
 lb:ib<=b.length
 pm:out.Perm (a.take ia++b.take ib)
 so:out.Pairwise fun x y=>rk x<=rk y
 ga:∀x∈out,∀y∈a.drop ia,rk x<=rk y
 gb:∀x∈out,∀y∈b.drop ib,rk x<=rk y
variable {rk}
theorem MI.len{a b out:List α}{ia ib:Nat}(h:MI rk a b out ia ib):out.length=ia+ib:=by
 have:=h.pm.length_eq;rw[au,aN,aN] at this;have:=h.la;have:=h.lb;omega
theorem MX{l:List α}{i k:Nat}:l.drop i=(l.drop i).take k++l.drop (i+k):=by
 rw[<-List.drop_drop,bQ]
theorem MI.kn{a b out:List α}{ia ib:Nat}(h:MI rk a b out ia ib)(sa:a.Pairwise fun x y=>rk x<=rk y){k:Nat}(hk:ia+k<=a.length)(hb:∀x∈(a.drop ia).take k,∀y∈b.drop ib,rk x<=rk y):MI rk a b (out++(a.drop ia).take k) (ia+k) ib:=by
 have sd:(a.drop ia).Pairwise fun x y=>rk x<=rk y:=sa.sublist (List.drop_sublist _ _)
 rw[MX (k:=k),bF] at sd;have ha:=h.ga;rw[MX (k:=k)] at ha;refine⟨hk,h.lb,?_,?_,fun x hx y hy=>?_,fun x hx y hy=>?_⟩
 ·rw[List.take_add];have:=h.pm.append_right ((a.drop ia).take k);refine this.trans ?_;rw[aM,aM];exact cM _ cN
 ·rw[bF];exact⟨h.so,sd.1,fun x hx y hy=>ha x hx y (dn _ hy)⟩
 ·rcases av.mp hx with hx | hx
  ·exact ha x hx y (bg _ hy)
  ·exact sd.2.2 x hx y hy
 ·rcases av.mp hx with hx | hx
  ·exact h.gb x hx y hy
  ·exact hb x hx y hy
theorem MI.swap{a b out:List α}{ia ib:Nat}(h:MI rk a b out ia ib):MI rk b a out ib ia:=⟨h.lb,h.la,h.pm.trans cN,h.so,h.gb,h.ga⟩
theorem MI.og{a b out:List α}{ia ib:Nat}(h:MI rk a b out ia ib)(sb:b.Pairwise fun x y=>rk x<=rk y){k:Nat}(hk:ib+k<=b.length)(ha:∀x∈(b.drop ib).take k,∀y∈a.drop ia,rk x<=rk y):MI rk a b (out++(b.drop ib).take k) ia (ib+k):=(h.swap.kn sb hk ha).swap
theorem Lv{l:List α}{i:Nat}(h:i<l.length):(l.drop i).take 1=[l[i]]:=by
 rw[bS h];rfl
theorem Ui{l:List α}(s:l.Pairwise fun x y=>rk x<=rk y){i:Nat}(h:i<l.length):∀y∈l.drop i,rk l[i]<=rk y:=by
 intro y hy;rw[bS h] at hy;rcases ar.mp hy with rfl | hy
 ·exact cZ _
 ·have sd:(l.drop i).Pairwise fun x y=>rk x<=rk y:=s.sublist (List.drop_sublist _ _)
  rw[bS h,br] at sd;exact sd.1 y hy
theorem MI.iC{a b out:List α}{ia ib:Nat}(h:MI rk a b out ia ib)(sa:a.Pairwise fun x y=>rk x<=rk y)(sb:b.Pairwise fun x y=>rk x<=rk y)(hi:ia<a.length)(hj:ib<b.length)(hle:rk a[ia]<=rk b[ib]):MI rk a b (out++[a[ia]]) (ia+1) ib:=by
 have:=h.kn sa (k:=1) (by omega) (fun x hx y hy=>by
  rw[Lv hi] at hx;simp at hx;subst hx;exact Int.le_trans hle (Ui sb hj y hy))
 rwa [Lv hi] at this
theorem MI.kL{a b out:List α}{ia ib:Nat}(h:MI rk a b out ia ib)(sa:a.Pairwise fun x y=>rk x<=rk y)(sb:b.Pairwise fun x y=>rk x<=rk y)(hi:ia<a.length)(hj:ib<b.length)(hle:rk b[ib]<=rk a[ia]):MI rk a b (out++[b[ib]]) ia (ib+1):=(h.swap.iC sb sa hj hi hle).swap
theorem MI.mM{a b out:List α}{ia ib:Nat}(h:MI rk a b out ia ib)(sa:a.Pairwise fun x y=>rk x<=rk y)(sb:b.Pairwise fun x y=>rk x<=rk y)(hle:∀x∈a.drop ia,∀y∈b.drop ib,rk x<=rk y) :
  (out++a.drop ia++b.drop ib).Perm (a++b)/\(out++a.drop ia++b.drop ib).Pairwise fun x y=>rk x<=rk y:=by
 have h1:=h.kn sa (k:=a.length-ia) (by have:=h.la;omega) (fun x hx=>hle x (cS hx));have e1:(a.drop ia).take (a.length-ia)=a.drop ia:=bI (by simp);rw[e1] at h1
 have h2:=h1.og sb (k:=b.length-ib) (by have:=h.lb;omega) (fun x hx y hy=>by
  rw[show ia+(a.length-ia)=a.length by have:=h.la;omega,List.drop_length] at hy;cases hy)
 have e2:(b.drop ib).take (b.length-ib)=b.drop ib:=bI (by simp);rw[e2] at h2;refine⟨?_,h2.so⟩;have:=h2.pm;rwa [show ia+(a.length-ia)=a.length by have:=h.la;omega,show ib+(b.length-ib)=b.length by have:=h.lb;omega,bT,bT] at this
theorem MI.pJ{a b out:List α}{ia ib:Nat}(h:MI rk a b out ia ib)(sa:a.Pairwise fun x y=>rk x<=rk y)(sb:b.Pairwise fun x y=>rk x<=rk y)(hle:∀x∈b.drop ib,∀y∈a.drop ia,rk x<=rk y) :
  (out++b.drop ib++a.drop ia).Perm (a++b)/\(out++b.drop ib++a.drop ia).Pairwise fun x y=>rk x<=rk y:=by
 obtain⟨h1,h2⟩:=h.swap.mM sb sa hle;exact⟨h1.trans cN,h2⟩
abbrev qk(st:SortSt)(g:Nat):SortSt:=SortSt.mk' (kindOf st) (arrOf st) (pendingOf st) g (failedOf st)
noncomputable def Bw:Nat->StateT SortSt Sem Unit:=sortPriv% PySem.Builtin.setMinGallop
theorem zT(g:Nat):Bw g=modify fun st=>qk st g:=rfl
theorem Vd(a b:Array Keyed):F2 a b=(do
 rule "list.sort.merge-lo"
 let total:=a.size+b.size
 let done (out:Array Keyed) (ia ib:Nat):=out++a.extract ia a.size++b.extract ib b.size
 let nL (out:Array Keyed) (ia ib:Nat):=out++b.extract ib b.size++a.extract ia a.size
 let mut out:Array Keyed:=#[<-elem' b 0]
 let mut ia:=0
 let mut ib:=1
 if ib==b.size then return done out ia ib
 if ia+1==a.size then return nL out ia ib
 let mut minGallop:=gallopOf (<-get)
 for _ in [0:total] do
  let mut ja:=0
  let mut i9:=0
  for _ in [0:total] do
   let some CK <-lt' (<-elem' b ib) (<-elem' a ia) | return done out ia ib
   if CK then
    out:=out.push (<-elem' b ib);ib:=ib+1;i9:=i9+1;ja:=0
    if ib==b.size then return done out ia ib
    if i9>=minGallop then break
   else
    out:=out.push (<-elem' a ia);ia:=ia+1;ja:=ja+1;i9:=0
    if ia+1==a.size then return nL out ia ib
    if ja>=minGallop then break
  rule "list.sort.gallop"
  minGallop:=minGallop+1
  for _ in [0:total] do
   if minGallop>1 then minGallop:=minGallop-1
   Bw minGallop
   let some k <-xb false (<-elem' b ib) a ia (a.size-ia) 0 | return done out ia ib
   ja:=k
   if k>0 then
    out:=out++a.extract ia (ia+k);ia:=ia+k
    if ia+1==a.size then return nL out ia ib
    if ia==a.size then return done out ia ib
   out:=out.push (<-elem' b ib);ib:=ib+1
   if ib==b.size then return done out ia ib
   let some k <-xb true (<-elem' a ia) b ib (b.size-ib) 0 | return done out ia ib
   i9:=k
   if k>0 then
    out:=out++b.extract ib (ib+k);ib:=ib+k
    if ib==b.size then return done out ia ib
   out:=out.push (<-elem' a ia);ia:=ia+1
   if ia+1==a.size then return nL out ia ib
   if ja<7&&i9<7 then break
  minGallop:=minGallop+1
  Bw minGallop
 unsupported "internal:list.sort.merge-bound"):=rfl
variable {M:Model} {A:Around} {E:Value->Shared->Prop} {s:Shared}
theorem yd{x:String}{Q:Unit->SortSt->Prop}{st:SortSt}(q:Q () st):wpS M A E s (liftM (rule x):StateT SortSt Sem Unit) Q st:=wpS_lift (fF ⟨rfl,q⟩)
def iY(rk:Keyed->Int)(l:List Keyed):Prop:=l.Pairwise fun x y=>rk x<=rk y
def r0(rk:Keyed->Int)(a b r:Array Keyed):Prop:=r.toList.Perm (a.toList++b.toList)/\iY rk r.toList
structure Mw (rk:Keyed->Int) (a b out:Array Keyed) (ia ib:Nat):Prop where
 mi:MI rk a.toList b.toList out.toList ia ib
 la:ia+1<a.size
 lb:ib<b.size
section
variable {rk:Keyed->Int} {a b out:Array Keyed} {ia ib:Nat}
theorem Dv(a:Array Keyed)(i:Nat):(a.extract i a.size).toList=a.toList.drop i:=by
 rw[dv];simp only[List.extract];exact bI (by simp)
theorem K5(a:Array Keyed)(i k:Nat):(a.extract i (i+k)).toList=(a.toList.drop i).take k:=by
 rw[dv];simp[List.extract]
theorem Lu(a:Array Keyed):a.toList.drop a.size=[]:=by simp
theorem t5(h:MI rk a.toList b.toList out.toList ia ib)(sa:iY rk a.toList)(sb:iY rk b.toList)(hi:ia=a.size\/ib=b.size):r0 rk a b (out++a.extract ia a.size++b.extract ib b.size):=by
 obtain⟨h1,h2⟩:=h.mM sa sb (fun x hx y hy=>by
  rcases hi with e | e
  ·rw[e,Lu] at hx;cases hx
  ·rw[e,Lu] at hy;cases hy)
 unfold r0 iY;rw[bM,bM,Dv,Dv];exact⟨h1,h2⟩
theorem t4(h:MI rk a.toList b.toList out.toList ia ib)(sa:iY rk a.toList)(sb:iY rk b.toList)(ha:0<a.size)(hi:ia+1=a.size)(h9:∀x∈b,rk x<rk (a[a.size-1])):r0 rk a b (out++b.extract ib b.size++a.extract ia a.size):=by
 obtain⟨h1,h2⟩:=h.pJ sa sb (fun x hx y hy=>by
  have e:a.toList.drop ia=[a[a.size-1]]:=by
   have hl:ia<a.toList.length:=by simp;omega
   rw[bS hl,List.drop_eq_nil_of_le (by simp;omega)];simp[show ia=a.size-1 by omega]
  rw[e] at hy;simp at hy;have:=h9 x (by simpa using eE hx);rw[hy];omega)
 unfold r0 iY;rw[bM,bM,Dv,Dv];exact⟨h1,h2⟩
end
theorem w8(p:Nat->Bool):∀n,(∀i j,i<=j->j<n->p j=true->p i=true)->∃k,Cut p n k
 | 0,_=>⟨0,aA _,fun i hi=>absurd hi (Nat.not_lt_zero i)⟩
 | n+1,h=>by
  obtain⟨k,k1,k2⟩:=w8 p n fun i j jX hj=>h i j jX (by omega)
  cases hp:p n with
  | true=>
   refine⟨n+1,aA _,fun i hi=>⟨fun _=>hi,fun _=>?_⟩⟩;exact h i n (by omega) (by omega) hp
  | false=>
   refine⟨k,by omega,fun i hi=>?_⟩;by_cases e:i=n
   ·subst e;rw[hp];exact⟨fun z=>(by cases z),fun z=>by omega⟩
   ·exact k2 i (by omega)
noncomputable abbrev dk:Keyed:=(Value.none,Value.none)
theorem jU{a:Array Keyed}{i:Nat}(h:i<a.size):a.getD i dk=a[i]:=by simp[Array.getD,h]
theorem xf{rk:Keyed->Int}{a:Array Keyed}(sa:iY rk a.toList){i j:Nat}(h:i<=j)(hj:j<a.size):rk (a.getD i dk)<=rk (a.getD j dk):=by
 rw[jU hj,jU (by omega)];by_cases e:i=j
 ·subst e;exact cZ _
 ·have:=et.mp sa i j (by simp;omega) (by simpa using hj) (by omega);simpa using this
theorem K4{a:Array Keyed}{i k:Nat}(h:i+k<=a.size){x:Keyed}(hx:x∈(a.toList.drop i).take k):∃t,t<k/\x=a.getD (i+t) dk:=by
 obtain⟨t,ht,e⟩:=bZ hx;have lT:t<k:=by simp at ht;omega
 refine⟨t,lT,?_⟩;rw[jU (by omega),<-e];simp
theorem K3{a:Array Keyed}{i:Nat}{x:Keyed}(hx:x∈a.toList.drop i):∃t,i+t<a.size/\x=a.getD (i+t) dk:=by
 obtain⟨t,ht,e⟩:=bZ hx;have lT:i+t<a.size:=by simp at ht;omega
 refine⟨t,lT,?_⟩;rw[jU lT,<-e];simp
theorem JD{rk:Keyed->Int}{a:Array Keyed}(sa:iY rk a.toList)(ia:Nat)(key:Keyed):∃k,Cut (fun i=>if false=true then decide (rk (a.getD (ia+i) dk)<rk key) else !decide (rk key<rk (a.getD (ia+i) dk))) (a.size-ia) k:=
 w8 _ _ fun i j jX hj h=>by
  have:=xf (rk:=rk) sa (show ia+i<=ia+j by omega) (by omega);simp only[aq,aP,bP,bh] at h ⊢;omega
theorem C0{rk:Keyed->Int}{b:Array Keyed}(sb:iY rk b.toList)(ib:Nat)(key:Keyed):∃k,Cut (fun i=>if true=true then decide (rk (b.getD (ib+i) dk)<rk key) else !decide (rk key<rk (b.getD (ib+i) dk))) (b.size-ib) k:=
 w8 _ _ fun i j jX hj h=>by
  have:=xf (rk:=rk) sb (show ib+i<=ib+j by omega) (by omega);simp only[aR,aS] at h ⊢;omega
theorem MI.uT{rk:Keyed->Int}{a b out:Array Keyed}{ia ib k:Nat}(h:MI rk a.toList b.toList out.toList ia ib)(sa:iY rk a.toList)(sb:iY rk b.toList)(la:ia<a.size)(lb:ib<b.size)(hc:Cut (fun i=>if false=true then decide (rk (a.getD (ia+i) dk)<rk b[ib]) else !decide (rk b[ib]<rk (a.getD (ia+i) dk))) (a.size-ia) k) :
  MI rk a.toList b.toList (out++a.extract ia (ia+k)).toList (ia+k) ib/\ia+k<=a.size/\(ia+k<a.size->rk b[ib]<rk (a.getD (ia+k) dk)):=by
 have hk:=hc.1;refine⟨?_,by omega,fun hl=>?_⟩
 ·rw[bM,K5];refine h.kn sa (by simp;omega) fun x hx y hy=>?_
  obtain⟨t,ht,rfl⟩:=K4 (by omega) hx;obtain⟨u,hu,rfl⟩:=K3 hy;have h1:=(hc.2 t (by omega)).mpr ht;have h2:=xf (rk:=rk) sb (show ib<=ib+u by omega) hu;rw[jU lb] at h2;simp only[aq,aP,bP,bh] at h1;omega
 ·have h1:=mt (hc.2 k (by omega)).mp (cO k);simpa using h1
theorem MI.pG{rk:Keyed->Int}{a b out:Array Keyed}{ia ib k:Nat}(h:MI rk a.toList b.toList out.toList ia ib)(sa:iY rk a.toList)(sb:iY rk b.toList)(la:ia<a.size)(lb:ib<=b.size)(hc:Cut (fun i=>if true=true then decide (rk (b.getD (ib+i) dk)<rk a[ia]) else !decide (rk a[ia]<rk (b.getD (ib+i) dk))) (b.size-ib) k) :
  MI rk a.toList b.toList (out++b.extract ib (ib+k)).toList ia (ib+k)/\ib+k<=b.size/\(ib+k<b.size->rk a[ia]<=rk (b.getD (ib+k) dk)):=by
 have hk:=hc.1;refine⟨?_,by omega,fun hl=>?_⟩
 ·rw[bM,K5];refine h.og sb (by simp;omega) fun x hx y hy=>?_
  obtain⟨t,ht,rfl⟩:=K4 (by omega) hx;obtain⟨u,hu,rfl⟩:=K3 hy;have h1:=(hc.2 t (by omega)).mpr ht;have h2:=xf (rk:=rk) sa (show ia<=ia+u by omega) hu;rw[jU la] at h2;simp only[aR,aS] at h1;omega
 ·have h1:=mt (hc.2 k (by omega)).mp (cO k);simpa using h1
theorem Vc{κ:SortKind}{ok:Keyed->Prop}{rk:Keyed->Int}(R:Rk M A E s κ ok rk){a b:Array Keyed}{Q:Array Keyed->SortSt->Prop}{st:SortSt}(hk:kindOf st=κ)(oa:∀x∈a,ok x)(ob:∀x∈b,ok x)(sa:iY rk a.toList)(sb:iY rk b.toList)(ha:0<a.size)(hb:0<b.size)
  (h0:rk b[0]<rk a[0]) (h9:∀x∈b,rk x<rk (a[a.size-1])) (q:∀(r:Array Keyed) g,r.toList.Perm (a.toList++b.toList)->iY rk r.toList->Q r (qk st g)):wpS M A E s (F2 a b) Q st:=by
 rw[Vd];refine ah (yd ?_);refine ah (jo hb ?_);dsimp only;have jW:st=qk st (gallopOf st):=rfl;have m0:MI rk a.toList b.toList (#[b[0]]:Array Keyed).toList 0 1:=by
  have n0:MI rk a.toList b.toList [] 0 0:=⟨a9 _,a9 _,by simp,.nil,fun x hx=>(by cases hx),fun x hx=>(by cases hx)⟩
  have:=n0.kL sa sb (by simpa using ha) (by simpa using hb) (by simp only[aw];omega);simpa using this
 by_cases c1:1=b.size
 ·rw[if_pos (by simpa using c1)];refine af ?_;rw[jW];obtain⟨g1,g2⟩:=t5 m0 sa sb (.inr c1);exact q _ _ g1 g2
 rw[if_neg (by simpa using c1)];by_cases c2:0+1=a.size
 ·rw[if_pos (by simpa using c2)];refine af ?_;rw[jW];obtain⟨g1,g2⟩:=t4 m0 sa sb ha c2 h9;exact q _ _ g1 g2
 rw[if_neg (by simpa using c2)];refine ah (fB ?_);refine ah (cG (bG (Q:=fun(c:Option (Array Keyed)×Array Keyed×Nat×Nat×Nat) gm=>∃g r,gm=qk st g/\c.1=some r/\r0 rk a b r) (fun i (c:Option (Array Keyed)×Array Keyed×Nat×Nat×Nat) gm=>(∃g,gm=qk st g)/\c.1=none/\Mw rk a b c.2.1 c.2.2.1 c.2.2.2.1/\i<c.2.1.size) ?_ ?_ ⟨⟨_,jW⟩,rfl,⟨m0,by dsimp only;omega,by dsimp only;omega⟩,by simp⟩) ?_)
 ·rintro i ⟨c1,out,ia,ib,mg⟩ gm _ rL ⟨⟨g,rfl⟩,iz,mw,ic⟩;dsimp only at iz mw ic ⊢;subst iz;refine ah (cG (bG (Q:=fun(c:Option (Array Keyed)×Array Keyed×Nat×Nat×Nat×Nat) gm=>(gm=qk st g)/\((∃r,c.1=some r/\r0 rk a b r)\/(c.1=none/\Mw rk a b c.2.1 c.2.2.1 c.2.2.2.1/\i+1<c.2.1.size)))
   (fun j (c:Option (Array Keyed)×Array Keyed×Nat×Nat×Nat×Nat) gm=>(gm=qk st g)/\c.1=none/\Mw rk a b c.2.1 c.2.2.1 c.2.2.2.1/\i+j<c.2.1.size) ?_ ?_ ⟨rfl,rfl,mw,by dsimp only;omega⟩) ?_)
  ·rintro j ⟨c1,out,ia,ib,ac,bc⟩ gm _ IK ⟨rfl,iz,mw,ic⟩;dsimp only at iz mw ic ⊢;subst iz;have la:=mw.la;have lb:=mw.lb;have NM:ia<a.toList.length:=by simp;omega
   have NL:ib<b.toList.length:=by simpa using lb
   refine ah (jo lb (ah (jo (show ia<a.size by omega) (ah (R.lt _ _ _ _ (ob _ (aQ _)) (oa _ (aQ _)) hk ?_)))));dsimp only;by_cases gL:rk b[ib]<rk (a[ia]'(by omega))
   ·simp only[gL,cy,aR];have mb:=mw.mi.kL sa sb NM NL (by simp only[aw];omega);rw[aw,<-aF] at mb;refine ah (jo lb ?_);by_cases e1:ib+1=b.size
    ·rw[if_pos (by simpa using e1)];exact af ⟨rfl,.inl ⟨_,rfl,t5 mb sa sb (.inr e1)⟩⟩
    ·rw[if_neg (by simpa using e1)];split
     ·exact af ⟨rfl,.inr ⟨rfl,⟨mb,la,by dsimp only;omega⟩,by simp;omega⟩⟩
     ·exact af ⟨rfl,rfl,⟨mb,la,by dsimp only;omega⟩,by simp;omega⟩
   ·simp only[gL,cE,aq,aP];have ma:=mw.mi.iC sa sb NM NL (by simp only[aw];omega);rw[aw,<-aF] at ma;refine ah (jo (show ia<a.size by omega) ?_);by_cases e1:ia+1+1=a.size
    ·rw[if_pos (by simpa using e1)];exact af ⟨rfl,.inl ⟨_,rfl,t4 ma sa sb ha e1 h9⟩⟩
    ·rw[if_neg (by simpa using e1)];split
     ·exact af ⟨rfl,.inr ⟨rfl,⟨ma,by dsimp only;omega,lb⟩,by simp;omega⟩⟩
     ·exact af ⟨rfl,rfl,⟨ma,by dsimp only;omega,lb⟩,by simp;omega⟩
  ·rintro⟨c1,out,ia,ib,ac,bc⟩ gm ⟨rfl,iz,mw,ic⟩;dsimp only at iz mw ic ⊢;exact⟨rfl,.inr ⟨iz,mw,by rw[cR (a9 _)] at ic;omega⟩⟩
  ·rintro⟨c1,out,ia,ib,ac,bc⟩ gm ⟨rfl,hc⟩;dsimp only at hc ⊢;rcases hc with⟨r,rfl,gd⟩ | ⟨rfl,mw,ic⟩
   ·exact af ⟨g,r,rfl,rfl,gd⟩
   ·dsimp only;refine ah (yd ?_);refine ah (cG (bG (Q:=fun(c:Option (Array Keyed)×Array Keyed×Nat×Nat×Nat×Nat×Nat) gm=>(∃g,gm=qk st g)/\((∃r,c.1=some r/\r0 rk a b r)\/(c.1=none/\Mw rk a b c.2.1 c.2.2.1 c.2.2.2.1/\i+1<c.2.1.size)))
     (fun j (c:Option (Array Keyed)×Array Keyed×Nat×Nat×Nat×Nat×Nat) gm=>(∃g,gm=qk st g)/\c.1=none/\Mw rk a b c.2.1 c.2.2.1 c.2.2.2.1/\i+1<c.2.1.size) ?_ ?_ ⟨⟨_,rfl⟩,rfl,mw,ic⟩) ?_)
    ·clear mw ic;rintro j ⟨c1,out,ia,ib,mg,ac,bc⟩ gm _ IK ⟨⟨g,rfl⟩,iz,mw,ic⟩;dsimp only at iz mw ic ⊢;subst iz;have la:=mw.la;have lb:=mw.lb;have ol:=mw.mi.len;rw[ag] at ol;by_cases hg:mg>1
     ·rw[if_pos hg];rw[zT];refine ah (cJ (ah (jo lb ?_)));obtain⟨k,ck⟩:=JD sa ia b[ib];refine ah (su R hk oa (ob _ (aQ _)) (by omega) (by omega) ck ?_);dsimp only;obtain⟨m1,m2,m3⟩:=mw.mi.uT sa sb (by omega) lb ck;by_cases kp:k>0
      ·rw[if_pos kp];by_cases e1:ia+k+1=a.size
       ·rw[if_pos (by simpa using e1)];exact af ⟨⟨_,rfl⟩,.inl ⟨_,rfl,t4 m1 sa sb ha e1 h9⟩⟩
       rw[if_neg (by simpa using e1)];by_cases e2:ia+k=a.size
       ·rw[if_pos (by simpa using e2)];exact af ⟨⟨_,rfl⟩,.inl ⟨_,rfl,t5 m1 sa sb (.inl e2)⟩⟩
       rw[if_neg (by simpa using e2)];have m4:=m3 (by omega);rw[jU (by omega)] at m4;have mb:=m1.kL sa sb (show ia+k<a.toList.length by simp;omega) (show ib<b.toList.length by simpa using lb) (by simp only[aw];omega);rw[aw,<-aF] at mb;refine ah (jo lb ?_);by_cases e3:ib+1=b.size
       ·rw[if_pos (by simpa using e3)];exact af ⟨⟨_,rfl⟩,.inl ⟨_,rfl,t5 mb sa sb (.inr e3)⟩⟩
       ·rw[if_neg (by simpa using e3)];refine ah (jo (show ia+k<a.size by omega) ?_);obtain⟨k1,uX⟩:=C0 sb (ib+1) (a[ia+k]'(by omega));refine ah (su R hk ob (oa _ (aQ _)) (by omega) (by omega) uX ?_);dsimp only;obtain⟨n1,n2,n3⟩:=mb.pG sa sb (by omega) (by omega) uX;by_cases kq:k1>0
        ·rw[if_pos kq];by_cases e4:ib+1+k1=b.size
         ·rw[if_pos (by simpa using e4)];exact af ⟨⟨_,rfl⟩,.inl ⟨_,rfl,t5 n1 sa sb (.inr e4)⟩⟩
         rw[if_neg (by simpa using e4)];have n4:=n3 (by omega);rw[jU (by omega)] at n4;have nn:=n1.iC sa sb (show ia+k<a.toList.length by simp;omega) (show ib+1+k1<b.toList.length by simp;omega) (by simpa using n4);rw[aw,<-aF] at nn;refine ah (jo (show ia+k<a.size by omega) ?_);by_cases e5:ia+k+1+1=a.size
         ·walk_at "1g";exact af ⟨⟨_,rfl⟩,.inl ⟨_,rfl,t4 nn sa sb ha e5 h9⟩⟩
         walk_at "1h";have nl:=nn.len;rw[ag] at nl;split
         ·walk_at "1a"
         ·walk_at "1b"
        ·rw[if_neg kq];have k0:k1=0:=by omega
         subst k0;have n4:=n3 (by omega);rw[jU (by omega)] at n4;have nn:=mb.iC sa sb (show ia+k<a.toList.length by simp;omega) (show ib+1<b.toList.length by simp;omega) (by simpa using n4);rw[aw,<-aF] at nn;refine ah (jo (show ia+k<a.size by omega) ?_);by_cases e5:ia+k+1+1=a.size
         ·walk_at "1g";exact af ⟨⟨_,rfl⟩,.inl ⟨_,rfl,t4 nn sa sb ha e5 h9⟩⟩
         walk_at "1h";have nl:=nn.len;rw[ag] at nl;split
         ·walk_at "1a"
         ·walk_at "1b"
      ·rw[if_neg kp];have k0:k=0:=by omega
       subst k0;have m4:=m3 (by omega);rw[jU (by omega)] at m4;have mb:=mw.mi.kL sa sb (show ia<a.toList.length by simp;omega) (show ib<b.toList.length by simpa using lb) (by simp only[aw];exact cY m4);rw[aw,<-aF] at mb;refine ah (jo lb ?_);by_cases e3:ib+1=b.size
       ·rw[if_pos (by simpa using e3)];exact af ⟨⟨_,rfl⟩,.inl ⟨_,rfl,t5 mb sa sb (.inr e3)⟩⟩
       ·rw[if_neg (by simpa using e3)];refine ah (jo (show ia<a.size by omega) ?_);obtain⟨k1,uX⟩:=C0 sb (ib+1) (a[ia]'(by omega));refine ah (su R hk ob (oa _ (aQ _)) (by omega) (by omega) uX ?_);dsimp only;obtain⟨n1,n2,n3⟩:=mb.pG sa sb (by omega) (by omega) uX;by_cases kq:k1>0
        ·rw[if_pos kq];by_cases e4:ib+1+k1=b.size
         ·rw[if_pos (by simpa using e4)];exact af ⟨⟨_,rfl⟩,.inl ⟨_,rfl,t5 n1 sa sb (.inr e4)⟩⟩
         rw[if_neg (by simpa using e4)];have n4:=n3 (by omega);rw[jU (by omega)] at n4;have nn:=n1.iC sa sb (show ia<a.toList.length by simp;omega) (show ib+1+k1<b.toList.length by simp;omega) (by simpa using n4);rw[aw,<-aF] at nn;refine ah (jo (show ia<a.size by omega) ?_);by_cases e5:ia+1+1=a.size
         ·walk_at "1g";exact af ⟨⟨_,rfl⟩,.inl ⟨_,rfl,t4 nn sa sb ha e5 h9⟩⟩
         walk_at "1h";have nl:=nn.len;rw[ag] at nl;split
         ·walk_at "1a"
         ·walk_at "1b"
        ·rw[if_neg kq];have k0:k1=0:=by omega
         subst k0;have n4:=n3 (by omega);rw[jU (by omega)] at n4;have nn:=mb.iC sa sb (show ia<a.toList.length by simp;omega) (show ib+1<b.toList.length by simp;omega) (by simpa using n4);rw[aw,<-aF] at nn;refine ah (jo (show ia<a.size by omega) ?_);by_cases e5:ia+1+1=a.size
         ·walk_at "1g";exact af ⟨⟨_,rfl⟩,.inl ⟨_,rfl,t4 nn sa sb ha e5 h9⟩⟩
         walk_at "1h";have nl:=nn.len;rw[ag] at nl;split
         ·walk_at "1a"
         ·walk_at "1b"
     ·rw[if_neg hg];rw[zT];refine ah (cJ (ah (jo lb ?_)));obtain⟨k,ck⟩:=JD sa ia b[ib];refine ah (su R hk oa (ob _ (aQ _)) (by omega) (by omega) ck ?_);dsimp only;obtain⟨m1,m2,m3⟩:=mw.mi.uT sa sb (by omega) lb ck;by_cases kp:k>0
      ·rw[if_pos kp];by_cases e1:ia+k+1=a.size
       ·rw[if_pos (by simpa using e1)];exact af ⟨⟨_,rfl⟩,.inl ⟨_,rfl,t4 m1 sa sb ha e1 h9⟩⟩
       rw[if_neg (by simpa using e1)];by_cases e2:ia+k=a.size
       ·rw[if_pos (by simpa using e2)];exact af ⟨⟨_,rfl⟩,.inl ⟨_,rfl,t5 m1 sa sb (.inl e2)⟩⟩
       rw[if_neg (by simpa using e2)];have m4:=m3 (by omega);rw[jU (by omega)] at m4;have mb:=m1.kL sa sb (show ia+k<a.toList.length by simp;omega) (show ib<b.toList.length by simpa using lb) (by simp only[aw];omega);rw[aw,<-aF] at mb;refine ah (jo lb ?_);by_cases e3:ib+1=b.size
       ·rw[if_pos (by simpa using e3)];exact af ⟨⟨_,rfl⟩,.inl ⟨_,rfl,t5 mb sa sb (.inr e3)⟩⟩
       ·rw[if_neg (by simpa using e3)];refine ah (jo (show ia+k<a.size by omega) ?_);obtain⟨k1,uX⟩:=C0 sb (ib+1) (a[ia+k]'(by omega));refine ah (su R hk ob (oa _ (aQ _)) (by omega) (by omega) uX ?_);dsimp only;obtain⟨n1,n2,n3⟩:=mb.pG sa sb (by omega) (by omega) uX;by_cases kq:k1>0
        ·rw[if_pos kq];by_cases e4:ib+1+k1=b.size
         ·rw[if_pos (by simpa using e4)];exact af ⟨⟨_,rfl⟩,.inl ⟨_,rfl,t5 n1 sa sb (.inr e4)⟩⟩
         rw[if_neg (by simpa using e4)];have n4:=n3 (by omega);rw[jU (by omega)] at n4;have nn:=n1.iC sa sb (show ia+k<a.toList.length by simp;omega) (show ib+1+k1<b.toList.length by simp;omega) (by simpa using n4);rw[aw,<-aF] at nn;refine ah (jo (show ia+k<a.size by omega) ?_);by_cases e5:ia+k+1+1=a.size
         ·walk_at "1g";exact af ⟨⟨_,rfl⟩,.inl ⟨_,rfl,t4 nn sa sb ha e5 h9⟩⟩
         walk_at "1h";have nl:=nn.len;rw[ag] at nl;split
         ·walk_at "1a"
         ·walk_at "1b"
        ·rw[if_neg kq];have k0:k1=0:=by omega
         subst k0;have n4:=n3 (by omega);rw[jU (by omega)] at n4;have nn:=mb.iC sa sb (show ia+k<a.toList.length by simp;omega) (show ib+1<b.toList.length by simp;omega) (by simpa using n4);rw[aw,<-aF] at nn;refine ah (jo (show ia+k<a.size by omega) ?_);by_cases e5:ia+k+1+1=a.size
         ·walk_at "1g";exact af ⟨⟨_,rfl⟩,.inl ⟨_,rfl,t4 nn sa sb ha e5 h9⟩⟩
         walk_at "1h";have nl:=nn.len;rw[ag] at nl;split
         ·walk_at "1a"
         ·walk_at "1b"
      ·rw[if_neg kp];have k0:k=0:=by omega
       subst k0;have m4:=m3 (by omega);rw[jU (by omega)] at m4;have mb:=mw.mi.kL sa sb (show ia<a.toList.length by simp;omega) (show ib<b.toList.length by simpa using lb) (by simp only[aw];exact cY m4);rw[aw,<-aF] at mb;refine ah (jo lb ?_);by_cases e3:ib+1=b.size
       ·rw[if_pos (by simpa using e3)];exact af ⟨⟨_,rfl⟩,.inl ⟨_,rfl,t5 mb sa sb (.inr e3)⟩⟩
       ·rw[if_neg (by simpa using e3)];refine ah (jo (show ia<a.size by omega) ?_);obtain⟨k1,uX⟩:=C0 sb (ib+1) (a[ia]'(by omega));refine ah (su R hk ob (oa _ (aQ _)) (by omega) (by omega) uX ?_);dsimp only;obtain⟨n1,n2,n3⟩:=mb.pG sa sb (by omega) (by omega) uX;by_cases kq:k1>0
        ·rw[if_pos kq];by_cases e4:ib+1+k1=b.size
         ·rw[if_pos (by simpa using e4)];exact af ⟨⟨_,rfl⟩,.inl ⟨_,rfl,t5 n1 sa sb (.inr e4)⟩⟩
         rw[if_neg (by simpa using e4)];have n4:=n3 (by omega);rw[jU (by omega)] at n4;have nn:=n1.iC sa sb (show ia<a.toList.length by simp;omega) (show ib+1+k1<b.toList.length by simp;omega) (by simpa using n4);rw[aw,<-aF] at nn;refine ah (jo (show ia<a.size by omega) ?_);by_cases e5:ia+1+1=a.size
         ·walk_at "1g";exact af ⟨⟨_,rfl⟩,.inl ⟨_,rfl,t4 nn sa sb ha e5 h9⟩⟩
         walk_at "1h";have nl:=nn.len;rw[ag] at nl;split
         ·walk_at "1a"
         ·walk_at "1b"
        ·rw[if_neg kq];have k0:k1=0:=by omega
         subst k0;have n4:=n3 (by omega);rw[jU (by omega)] at n4;have nn:=mb.iC sa sb (show ia<a.toList.length by simp;omega) (show ib+1<b.toList.length by simp;omega) (by simpa using n4);rw[aw,<-aF] at nn;refine ah (jo (show ia<a.size by omega) ?_);by_cases e5:ia+1+1=a.size
         ·walk_at "1g";exact af ⟨⟨_,rfl⟩,.inl ⟨_,rfl,t4 nn sa sb ha e5 h9⟩⟩
         walk_at "1h";have nl:=nn.len;rw[ag] at nl;split
         ·walk_at "1a"
         ·walk_at "1b"
    ·rintro⟨c1,out,ia,ib,mg,ac,bc⟩ gm ⟨⟨g,rfl⟩,iz,mw,ic⟩;dsimp only at iz mw ic ⊢;exact⟨⟨g,rfl⟩,.inr ⟨iz,mw,ic⟩⟩
    ·rintro⟨c1,out,ia,ib,mg,ac,bc⟩ gm ⟨⟨g,rfl⟩,hc⟩;dsimp only at hc ⊢;rcases hc with⟨r,rfl,gd⟩ | ⟨rfl,mw,ic⟩
     ·exact af ⟨g,r,rfl,rfl,gd⟩
     ·dsimp only;rw[zT];exact ah (cJ (af ⟨⟨_,rfl⟩,rfl,mw,ic⟩))
 ·rintro⟨c1,out,ia,ib,mg⟩ gm ⟨⟨g,rfl⟩,iz,mw,ic⟩;dsimp only at iz mw ic ⊢;exfalso
  have h1:=mw.mi.len;have h2:=mw.la;have h3:=mw.lb;rw[ag] at h1;rw[cR (a9 _)] at ic;omega
 ·rintro⟨c1,out,ia,ib,mg⟩ gm ⟨g,r,rfl,rfl,g1,g2⟩;exact af (q r g g1 g2)
section
variable {α:Type} (rk:α->Int)
structure MH (a b out:List α) (na nb:Nat):Prop where
 la:na<=a.length
 lb:nb<=b.length
 pm:out.reverse.Perm (a.drop na++b.drop nb)
 so:out.reverse.Pairwise fun x y=>rk x<=rk y
 ga:∀y∈a.take na,∀x∈out,rk y<=rk x
 gb:∀y∈b.take nb,∀x∈out,rk y<=rk x
variable {rk}
theorem MH.len{a b out:List α}{na nb:Nat}(h:MH rk a b out na nb):out.length+na+nb=a.length+b.length:=by
 have:=h.pm.length_eq;rw[au,cf,cf,List.length_reverse] at this;have:=h.la;have:=h.lb;omega
theorem MH.swap{a b out:List α}{na nb:Nat}(h:MH rk a b out na nb):MH rk b a out nb na:=⟨h.lb,h.la,h.pm.trans cN,h.so,h.gb,h.ga⟩
theorem MW{l:List α}{n t:Nat}(ht:t<=n):l.take n=l.take t++(l.take n).drop t:=by
 have:=(bQ t (l.take n)).symm;rwa [List.take_take,eO ht] at this
theorem MH.kn{a b out:List α}{na nb:Nat}(h:MH rk a b out na nb)(sa:a.Pairwise fun x y=>rk x<=rk y){t:Nat}(ht:t<=na)(hb:∀x∈(a.take na).drop t,∀y∈b.take nb,rk y<=rk x):MH rk a b (out++((a.take na).drop t).reverse) t nb:=by
 have wA:=h.la;have sd:(a.take na).Pairwise fun x y=>rk x<=rk y:=sa.sublist (fK _ _)
 rw[MW ht,bF] at sd;have ga:=h.ga;rw[MW ht] at ga;have er:(out++((a.take na).drop t).reverse).reverse=(a.take na).drop t++out.reverse:=by rw[List.reverse_append,List.reverse_reverse]
 refine⟨by omega,h.lb,?_,?_,fun y hy x hx=>?_,fun y hy x hx=>?_⟩
 ·rw[er];refine(h.pm.append_left _).trans ?_;rw[<-aM];refine List.Perm.append_right _ ?_;have:a.drop t=(a.take na).drop t++a.drop na:=by
   have e:a=a.take na++a.drop na:=(bQ na a).symm;rw[show a.drop t=(a.take na++a.drop na).drop t by rw[<-e],dA (by simp;omega)]
  rw[this]
 ·rw[er,bF];exact⟨sd.2.1,h.so,fun x hx y hy=>ga x (bg _ hx) y (List.mem_reverse.mp hy)⟩
 ·rcases av.mp hx with hx | hx
  ·exact ga y (dn _ hy) x hx
  ·exact sd.2.2 y hy x (List.mem_reverse.mp hx)
 ·rcases av.mp hx with hx | hx
  ·exact h.gb y hy x hx
  ·exact hb x (List.mem_reverse.mp hx) y hy
theorem MH.og{a b out:List α}{na nb:Nat}(h:MH rk a b out na nb)(sb:b.Pairwise fun x y=>rk x<=rk y){t:Nat}(ht:t<=nb)(ha:∀x∈(b.take nb).drop t,∀y∈a.take na,rk y<=rk x):MH rk a b (out++((b.take nb).drop t).reverse) na t:=(h.swap.kn sb ht ha).swap
theorem MN{l:List α}{n:Nat}(h:n<l.length):(l.take (n+1)).drop n=[l[n]]:=by
 rw[bL,ai h,dA (by simp;omega),List.drop_eq_nil_of_le (by rw[aN];omega)];rfl
theorem Uh{l:List α}(s:l.Pairwise fun x y=>rk x<=rk y){n:Nat}(h:n<l.length):∀y∈l.take (n+1),rk y<=rk l[n]:=by
 intro y hy;obtain⟨i,hi,rfl⟩:=bZ hy;have xC:i<=n:=by simp at hi;omega
 rw[eV];by_cases e:i=n
 ·subst e;exact cZ _
 ·exact et.mp s i n (by omega) h (by omega)
theorem MH.iC{a b out:List α}{na nb:Nat}(h:MH rk a b out (na+1) (nb+1))(sa:a.Pairwise fun x y=>rk x<=rk y)(sb:b.Pairwise fun x y=>rk x<=rk y)(hi:na<a.length)(hj:nb<b.length)(hle:rk b[nb]<=rk a[na]):MH rk a b (out++[a[na]]) na (nb+1):=by
 have:=h.kn sa (t:=na) (by omega) (fun x hx y hy=>by
  rw[MN hi] at hx;simp at hx;subst hx;exact Int.le_trans (Uh sb hj y hy) hle)
 rwa [MN hi] at this
theorem MH.kL{a b out:List α}{na nb:Nat}(h:MH rk a b out (na+1) (nb+1))(sa:a.Pairwise fun x y=>rk x<=rk y)(sb:b.Pairwise fun x y=>rk x<=rk y)(hi:na<a.length)(hj:nb<b.length)(hle:rk a[na]<=rk b[nb]):MH rk a b (out++[b[nb]]) (na+1) nb:=(h.swap.iC sb sa hj hi hle).swap
theorem MH.mM{a b out:List α}{na nb:Nat}(h:MH rk a b out na nb)(sa:a.Pairwise fun x y=>rk x<=rk y)(sb:b.Pairwise fun x y=>rk x<=rk y)(hle:∀x∈a.take na,∀y∈b.take nb,rk x<=rk y) :
  (a.take na++b.take nb++out.reverse).Perm (a++b)/\(a.take na++b.take nb++out.reverse).Pairwise fun x y=>rk x<=rk y:=by
 have h1:=h.og sb (t:=0) (a9 _) (fun x hx y hy=>hle y hy x (by simpa using hx));have h2:=h1.kn sa (t:=0) (a9 _) (fun x hx y hy=>by simp at hy);have e:(out++((b.take nb).drop 0).reverse++((a.take na).drop 0).reverse).reverse=a.take na++b.take nb++out.reverse:=by simp
 have p:=h2.pm;have s:=h2.so;rw[e] at p s;exact⟨by simpa using p,s⟩
theorem MH.pJ{a b out:List α}{na nb:Nat}(h:MH rk a b out na nb)(sa:a.Pairwise fun x y=>rk x<=rk y)(sb:b.Pairwise fun x y=>rk x<=rk y)(hle:∀x∈b.take nb,∀y∈a.take na,rk x<=rk y) :
  (b.take nb++a.take na++out.reverse).Perm (a++b)/\(b.take nb++a.take na++out.reverse).Pairwise fun x y=>rk x<=rk y:=by
 obtain⟨h1,h2⟩:=h.swap.mM sb sa hle;exact⟨h1.trans cN,h2⟩
end
theorem Vb(a b:Array Keyed):F1 a b=(do
 rule "list.sort.merge-hi"
 let total:=a.size+b.size
 let done (out:Array Keyed) (na nb:Nat):=a.extract 0 na++b.extract 0 nb++out.reverse
 let mL (out:Array Keyed) (na nb:Nat):=b.extract 0 nb++a.extract 0 na++out.reverse
 let mut na:=a.size-1
 let mut nb:=b.size
 let mut out:Array Keyed:=#[<-elem' a na]
 if na==0 then return done out na nb
 if nb==1 then return mL out na nb
 let mut minGallop:=gallopOf (<-get)
 for _ in [0:total] do
  let mut ja:=0
  let mut i9:=0
  for _ in [0:total] do
   let some CN <-lt' (<-elem' b (nb-1)) (<-elem' a (na-1)) | return done out na nb
   if CN then
    na:=na-1;out:=out.push (<-elem' a na);ja:=ja+1;i9:=0
    if na==0 then return done out na nb
    if ja>=minGallop then break
   else
    nb:=nb-1;out:=out.push (<-elem' b nb);i9:=i9+1;ja:=0
    if nb==1 then return mL out na nb
    if i9>=minGallop then break
  rule "list.sort.gallop"
  minGallop:=minGallop+1
  for _ in [0:total] do
   if minGallop>1 then minGallop:=minGallop-1
   Bw minGallop
   let some at_ <-xb false (<-elem' b (nb-1)) a 0 na (na-1) | return done out na nb
   let k:=na-at_
   ja:=k
   if k>0 then
    out:=out++(a.extract at_ na).reverse;na:=at_
    if na==0 then return done out na nb
   nb:=nb-1;out:=out.push (<-elem' b nb)
   if nb==1 then return mL out na nb
   let some at_ <-xb true (<-elem' a (na-1)) b 0 nb (nb-1) | return done out na nb
   let k:=nb-at_
   i9:=k
   if k>0 then
    out:=out++(b.extract at_ nb).reverse;nb:=at_
    if nb==1 then return mL out na nb
    if nb==0 then return done out na nb
   na:=na-1;out:=out.push (<-elem' a na)
   if na==0 then return done out na nb
   if ja<7&&i9<7 then break
  minGallop:=minGallop+1
  Bw minGallop
 unsupported "internal:list.sort.merge-bound"):=rfl
theorem De(a:Array Keyed)(n:Nat):(a.extract 0 n).toList=a.toList.take n:=by
 rw[dv];simp[List.extract]
theorem Ls(a:Array Keyed){t n:Nat}(h:n<=a.size):(a.extract t n).toList=(a.toList.take n).drop t:=by
 rw[dv];simp only[List.extract];rw[List.drop_take]
structure Mv (rk:Keyed->Int) (a b out:Array Keyed) (na nb:Nat):Prop where
 mh:MH rk a.toList b.toList out.toList na nb
 la:0<na
 lb:1<nb
section
variable {rk:Keyed->Int} {a b out:Array Keyed} {na nb:Nat}
theorem rj(h:MH rk a.toList b.toList out.toList na nb)(sa:iY rk a.toList)(sb:iY rk b.toList)(hi:na=0\/nb=0):r0 rk a b (a.extract 0 na++b.extract 0 nb++out.reverse):=by
 obtain⟨h1,h2⟩:=h.mM sa sb (fun x hx y hy=>by
  rcases hi with e | e
  ·rw[e] at hx;simp at hx
  ·rw[e] at hy;simp at hy)
 unfold r0 iY;rw[bM,bM,De,De,eX];exact⟨h1,h2⟩
theorem vn(h:MH rk a.toList b.toList out.toList na nb)(sa:iY rk a.toList)(sb:iY rk b.toList)(hb:0<b.size)(hi:nb=1)(h0:∀x∈a,rk b[0]<rk x):r0 rk a b (b.extract 0 nb++a.extract 0 na++out.reverse):=by
 obtain⟨h1,h2⟩:=h.pJ sa sb (fun x hx y hy=>by
  have e:b.toList.take nb=[b[0]]:=by
   have hl:0<b.toList.length:=by simpa using hb
   rw[hi,show(1:Nat)=0+1 from rfl,bL,ai hl];simp
  rw[e] at hx;simp at hx;subst hx;have:=h0 y (by simpa using cS hy);omega)
 unfold r0 iY;rw[bM,bM,De,De,eX];exact⟨h1,h2⟩
theorem F0{t n:Nat}(hn:n<=a.size){x:Keyed}(hx:x∈(a.toList.take n).drop t):∃u,t<=u/\u<n/\x=a.getD u dk:=by
 obtain⟨u,hu,e⟩:=bZ hx;have X4:t+u<n:=by simp at hu;omega
 refine⟨t+u,by omega,X4,?_⟩;rw[jU (by omega),<-e];simp
theorem Kj{n:Nat}(hn:n<=a.size){x:Keyed}(hx:x∈a.toList.take n):∃u,u<n/\x=a.getD u dk:=by
 obtain⟨u,_,h1,h2⟩:=F0 (a:=a) (t:=0) hn (x:=x) (by simpa using hx);exact⟨u,h1,h2⟩
theorem MH.uT{we t:Nat}(h:MH rk a.toList b.toList out.toList na (we+1))(sa:iY rk a.toList)(sb:iY rk b.toList)(lb:we<b.size)(hc:Cut (fun i=>if false=true then decide (rk (a.getD (0+i) dk)<rk b[we]) else !decide (rk b[we]<rk (a.getD (0+i) dk))) na t) :
  MH rk a.toList b.toList (out++(a.extract t na).reverse).toList t (we+1)/\t<=na/\∀u,u+1=t->rk (a.getD u dk)<=rk b[we]:=by
 have wA:=h.la;rw[ag] at wA;refine⟨?_,hc.1,fun u hu=>?_⟩
 ·rw[bM,eX,Ls a wA];refine h.kn sa hc.1 fun x hx y hy=>?_
  obtain⟨u,u1,u2,rfl⟩:=F0 wA hx;obtain⟨v,v1,rfl⟩:=Kj (by omega) hy;have h1:=mt (hc.2 u u2).mp (by omega);have h2:=xf (rk:=rk) sb (show v<=we by omega) lb;rw[jU lb] at h2;simp only[aq,aP,bP,bh,fc] at h1;omega
 ·have:=hc.1;have h1:=(hc.2 u (by omega)).mpr (by omega);simpa using h1
theorem MH.pG{yy t:Nat}(h:MH rk a.toList b.toList out.toList (yy+1) nb)(sa:iY rk a.toList)(sb:iY rk b.toList)(la:yy<a.size)(hc:Cut (fun i=>if true=true then decide (rk (b.getD (0+i) dk)<rk a[yy]) else !decide (rk a[yy]<rk (b.getD (0+i) dk))) nb t) :
  MH rk a.toList b.toList (out++(b.extract t nb).reverse).toList (yy+1) t/\t<=nb/\∀u,u+1=t->rk (b.getD u dk)<rk a[yy]:=by
 have IG:=h.lb;rw[ag] at IG;refine⟨?_,hc.1,fun u hu=>?_⟩
 ·rw[bM,eX,Ls b IG];refine h.og sb hc.1 fun x hx y hy=>?_
  obtain⟨u,u1,u2,rfl⟩:=F0 IG hx;obtain⟨v,v1,rfl⟩:=Kj (by omega) hy;have h1:=mt (hc.2 u u2).mp (by omega);have h2:=xf (rk:=rk) sa (show v<=yy by omega) la;rw[jU la] at h2;simp only[aR,aS,fc] at h1;omega
 ·have:=hc.1;have h1:=(hc.2 u (by omega)).mpr (by omega);simpa using h1
end
theorem JT{rk:Keyed->Int}{a:Array Keyed}(sa:iY rk a.toList){n:Nat}(hn:n<=a.size)(key:Keyed):∃k,Cut (fun i=>if false=true then decide (rk (a.getD (0+i) dk)<rk key) else !decide (rk key<rk (a.getD (0+i) dk))) n k:=
 w8 _ _ fun i j jX hj h=>by
  have:=xf (rk:=rk) sa (show 0+i<=0+j by omega) (by omega);simp only[aq,aP,bP,bh] at h ⊢;omega
theorem CZ{rk:Keyed->Int}{b:Array Keyed}(sb:iY rk b.toList){n:Nat}(hn:n<=b.size)(key:Keyed):∃k,Cut (fun i=>if true=true then decide (rk (b.getD (0+i) dk)<rk key) else !decide (rk key<rk (b.getD (0+i) dk))) n k:=
 w8 _ _ fun i j jX hj h=>by
  have:=xf (rk:=rk) sb (show 0+i<=0+j by omega) (by omega);simp only[aR,aS] at h ⊢;omega
variable {M:Model} {A:Around} {E:Value->Shared->Prop} {s:Shared}
theorem Va{κ:SortKind}{ok:Keyed->Prop}{rk:Keyed->Int}(R:Rk M A E s κ ok rk){a b:Array Keyed}{Q:Array Keyed->SortSt->Prop}{st:SortSt}(hk:kindOf st=κ)(oa:∀x∈a,ok x)(ob:∀x∈b,ok x)(sa:iY rk a.toList)(sb:iY rk b.toList)(ha:0<a.size)(hb:0<b.size)
  (h0:∀x∈a,rk b[0]<rk x) (h9:rk (b[b.size-1])<rk (a[a.size-1])) (q:∀(r:Array Keyed) g,r.toList.Perm (a.toList++b.toList)->iY rk r.toList->Q r (qk st g)):wpS M A E s (F1 a b) Q st:=by
 rw[Vb];refine ah (yd ?_);refine ah (jo (show a.size-1<a.size by omega) ?_);dsimp only;have jW:st=qk st (gallopOf st):=rfl;have m0:MH rk a.toList b.toList (#[a[a.size-1]]:Array Keyed).toList (a.size-1) b.size:=by
  have n0:MH rk a.toList b.toList [] (a.size-1+1) (b.size-1+1):=⟨by simp;omega,by simp;omega,by
   rw[show a.size-1+1=a.size by omega,show b.size-1+1=b.size by omega];simp,.nil,fun y _ x hx=>(by cases hx),fun y _ x hx=>(by cases hx)⟩
  have:=n0.iC sa sb (by simp;omega) (by simp;omega) (by simp only[aw];omega);rw[show b.size-1+1=b.size by omega] at this;simpa using this
 by_cases c1:a.size-1=0
 ·rw[if_pos (by simpa using c1)];refine af ?_;rw[jW];obtain⟨g1,g2⟩:=rj m0 sa sb (.inl c1);exact q _ _ g1 g2
 rw[if_neg (by simpa using c1)];by_cases c2:b.size=1
 ·rw[if_pos (by simpa using c2)];refine af ?_;rw[jW];obtain⟨g1,g2⟩:=vn m0 sa sb hb c2 h0;exact q _ _ g1 g2
 rw[if_neg (by simpa using c2)];refine ah (fB ?_);refine ah (cG (bG (Q:=fun(c:Option (Array Keyed)×Nat×Nat×Array Keyed×Nat) gm=>∃g r,gm=qk st g/\c.1=some r/\r0 rk a b r) (fun i (c:Option (Array Keyed)×Nat×Nat×Array Keyed×Nat) gm=>(∃g,gm=qk st g)/\c.1=none/\Mv rk a b c.2.2.2.1 c.2.1 c.2.2.1/\i<c.2.2.2.1.size) ?_ ?_ ⟨⟨_,jW⟩,rfl,⟨m0,by dsimp only;omega,by dsimp only;omega⟩,by simp⟩) ?_)
 ·rintro i ⟨c1,na,nb,out,mg⟩ gm _ rL ⟨⟨g,rfl⟩,iz,mw,ic⟩;dsimp only at iz mw ic ⊢;subst iz;refine ah (cG (bG (Q:=fun(c:Option (Array Keyed)×Nat×Nat×Array Keyed×Nat×Nat) gm=>(gm=qk st g)/\((∃r,c.1=some r/\r0 rk a b r)\/(c.1=none/\Mv rk a b c.2.2.2.1 c.2.1 c.2.2.1/\i+1<c.2.2.2.1.size)))
   (fun j (c:Option (Array Keyed)×Nat×Nat×Array Keyed×Nat×Nat) gm=>(gm=qk st g)/\c.1=none/\Mv rk a b c.2.2.2.1 c.2.1 c.2.2.1/\i+j<c.2.2.2.1.size) ?_ ?_ ⟨rfl,rfl,mw,by dsimp only;omega⟩) ?_)
  ·rintro j ⟨c1,na,nb,out,ac,bc⟩ gm _ IK ⟨rfl,iz,mw,ic⟩;dsimp only at iz mw ic ⊢;subst iz;have la:=mw.la;have lb:=mw.lb;have XT:=mw.mh.la;have sD:=mw.mh.lb;rw[ag] at XT sD;obtain⟨na,rfl⟩:∃n,na=n+1:=⟨na-1,by omega⟩
   obtain⟨nb,rfl⟩:∃n,nb=n+1:=⟨nb-1,by omega⟩
   simp only[fG];refine ah (jo (show nb<b.size by omega) (ah (jo (show na<a.size by omega) (ah (R.lt _ _ _ _ (ob _ (aQ _)) (oa _ (aQ _)) hk ?_)))));dsimp only;by_cases gL:rk (b[nb]'(by omega))<rk (a[na]'(by omega))
   ·simp only[gL,cy,aR];have ma:=mw.mh.iC sa sb (show na<a.toList.length by simp;omega) (show nb<b.toList.length by simp;omega) (by simp only[aw];omega);rw[aw,<-aF] at ma;refine ah (jo (show na<a.size by omega) ?_);by_cases e1:na=0
    ·rw[if_pos (by simpa using e1)];exact af ⟨rfl,.inl ⟨_,rfl,rj ma sa sb (.inl e1)⟩⟩
    ·rw[if_neg (by simpa using e1)];split
     ·exact af ⟨rfl,.inr ⟨rfl,⟨ma,by dsimp only;omega,lb⟩,by simp;omega⟩⟩
     ·exact af ⟨rfl,rfl,⟨ma,by dsimp only;omega,lb⟩,by simp;omega⟩
   ·simp only[gL,cE,aq,aP];have mb:=mw.mh.kL sa sb (show na<a.toList.length by simp;omega) (show nb<b.toList.length by simp;omega) (by simp only[aw];omega);rw[aw,<-aF] at mb;refine ah (jo (show nb<b.size by omega) ?_);by_cases e1:nb=1
    ·rw[if_pos (by simpa using e1)];exact af ⟨rfl,.inl ⟨_,rfl,vn mb sa sb hb e1 h0⟩⟩
    ·rw[if_neg (by simpa using e1)];split
     ·exact af ⟨rfl,.inr ⟨rfl,⟨mb,la,by dsimp only;omega⟩,by simp;omega⟩⟩
     ·exact af ⟨rfl,rfl,⟨mb,la,by dsimp only;omega⟩,by simp;omega⟩
  ·rintro⟨c1,na,nb,out,ac,bc⟩ gm ⟨rfl,iz,mw,ic⟩;dsimp only at iz mw ic ⊢;exact⟨rfl,.inr ⟨iz,mw,by rw[cR (a9 _)] at ic;omega⟩⟩
  ·rintro⟨c1,na,nb,out,ac,bc⟩ gm ⟨rfl,hc⟩;dsimp only at hc ⊢;rcases hc with⟨r,rfl,gd⟩ | ⟨rfl,mw,ic⟩
   ·exact af ⟨g,r,rfl,rfl,gd⟩
   ·dsimp only;refine ah (yd ?_);refine ah (cG (bG (Q:=fun(c:Option (Array Keyed)×Nat×Nat×Array Keyed×Nat×Nat×Nat) gm=>(∃g,gm=qk st g)/\((∃r,c.1=some r/\r0 rk a b r)\/(c.1=none/\Mv rk a b c.2.2.2.1 c.2.1 c.2.2.1/\i+1<c.2.2.2.1.size)))
     (fun j (c:Option (Array Keyed)×Nat×Nat×Array Keyed×Nat×Nat×Nat) gm=>(∃g,gm=qk st g)/\c.1=none/\Mv rk a b c.2.2.2.1 c.2.1 c.2.2.1/\i+1<c.2.2.2.1.size) ?_ ?_ ⟨⟨_,rfl⟩,rfl,mw,ic⟩) ?_)
    ·clear mw ic;rintro j ⟨c1,na,nb,out,mg,ac,bc⟩ gm _ IK ⟨⟨g,rfl⟩,iz,mw,ic⟩;dsimp only at iz mw ic ⊢;subst iz;have la:=mw.la;have lb:=mw.lb;have yB:=mw.mh.la;have HW:=mw.mh.lb;have ol:=mw.mh.len;simp only[ag] at yB HW ol;obtain⟨na,rfl⟩:∃n,na=n+1:=⟨na-1,by omega⟩
     obtain⟨nb,rfl⟩:∃n,nb=n+1:=⟨nb-1,by omega⟩
     have sD:nb<b.size:=by omega
     simp only[fG];by_cases hg:mg>1
     ·rw[if_pos hg];rw[zT];refine ah (cJ (ah (jo sD ?_)));obtain⟨t,ct⟩:=JT sa yB b[nb];refine ah (su R hk oa (ob _ (aQ _)) (by omega) (by omega) ct ?_);dsimp only;obtain⟨m1,m2,m3⟩:=mw.mh.uT sa sb sD ct;by_cases kp:na+1-t>0
      ·rw[if_pos kp];by_cases e1:t=0
       ·rw[if_pos (by simpa using e1)];exact af ⟨⟨_,rfl⟩,.inl ⟨_,rfl,rj m1 sa sb (.inl e1)⟩⟩
       rw[if_neg (by simpa using e1)];obtain⟨t,rfl⟩:∃v,t=v+1:=⟨t-1,by omega⟩
       simp only[fG];have m4:=m3 t rfl;rw[jU (by omega)] at m4;have mb:=m1.kL sa sb (show t<a.toList.length by simp;omega) (show nb<b.toList.length by simpa using sD) (by simpa using m4);rw[aw,<-aF] at mb;refine ah (jo sD ?_);by_cases e3:nb=1
       ·rw[if_pos (by simpa using e3)];exact af ⟨⟨_,rfl⟩,.inl ⟨_,rfl,vn mb sa sb hb e3 h0⟩⟩
       rw[if_neg (by simpa using e3)];walk_at "1c";obtain⟨u,cu⟩:=CZ sb (show nb<=b.size by omega) (a[t]'(by omega));refine ah (su R hk ob (oa _ (aQ _)) (by omega) (by omega) cu ?_);dsimp only;obtain⟨n1,n2,n3⟩:=mb.pG sa sb (by omega) cu;by_cases kq:nb-u>0
       ·rw[if_pos kq];by_cases e4:u=1
        ·rw[if_pos (by simpa using e4)];exact af ⟨⟨_,rfl⟩,.inl ⟨_,rfl,vn n1 sa sb hb e4 h0⟩⟩
        rw[if_neg (by simpa using e4)];by_cases e5:u=0
        ·walk_at "1g";exact af ⟨⟨_,rfl⟩,.inl ⟨_,rfl,rj n1 sa sb (.inr e5)⟩⟩
        walk_at "1h";obtain⟨u,rfl⟩:∃v,u=v+1:=⟨u-1,by omega⟩
        have n4:=n3 u rfl;rw[jU (by omega)] at n4;have nn:=n1.iC sa sb (show t<a.toList.length by simp;omega) (show u<b.toList.length by simp;omega) (by simpa using cY n4);rw[aw,<-aF] at nn;walk_at "1c";by_cases e6:t=0
        ·rw[if_pos (by simpa using e6)];exact af ⟨⟨_,rfl⟩,.inl ⟨_,rfl,rj nn sa sb (.inl e6)⟩⟩
        rw[if_neg (by simpa using e6)];have nl:=nn.len;simp only[ag] at nl;split
        ·walk_at "1a"
        ·walk_at "1b"
       ·rw[if_neg kq];have ku:u=nb:=by omega
        subst ku;obtain⟨u,rfl⟩:∃v,u=v+1:=⟨u-1,by omega⟩
        have n4:=n3 u rfl;rw[jU (by omega)] at n4;have nn:=mb.iC sa sb (show t<a.toList.length by simp;omega) (show u<b.toList.length by simp;omega) (by simpa using cY n4);rw[aw,<-aF] at nn;walk_at "1c";by_cases e6:t=0
        ·rw[if_pos (by simpa using e6)];exact af ⟨⟨_,rfl⟩,.inl ⟨_,rfl,rj nn sa sb (.inl e6)⟩⟩
        rw[if_neg (by simpa using e6)];have nl:=nn.len;simp only[ag] at nl;split
        ·walk_at "1a"
        ·walk_at "1b"
      ·rw[if_neg kp];have kt:t=na+1:=by omega
       subst kt;have m5:MH rk a.toList b.toList out.toList (na+1) (nb+1):=mw.mh;generalize na=t at *;have m4:=m3 t rfl;rw[jU (by omega)] at m4;have mb:=m5.kL sa sb (show t<a.toList.length by simp;omega) (show nb<b.toList.length by simpa using sD) (by simpa using m4);rw[aw,<-aF] at mb;refine ah (jo sD ?_);by_cases e3:nb=1
       ·rw[if_pos (by simpa using e3)];exact af ⟨⟨_,rfl⟩,.inl ⟨_,rfl,vn mb sa sb hb e3 h0⟩⟩
       rw[if_neg (by simpa using e3)];walk_at "1c";obtain⟨u,cu⟩:=CZ sb (show nb<=b.size by omega) (a[t]'(by omega));refine ah (su R hk ob (oa _ (aQ _)) (by omega) (by omega) cu ?_);dsimp only;obtain⟨n1,n2,n3⟩:=mb.pG sa sb (by omega) cu;by_cases kq:nb-u>0
       ·rw[if_pos kq];by_cases e4:u=1
        ·rw[if_pos (by simpa using e4)];exact af ⟨⟨_,rfl⟩,.inl ⟨_,rfl,vn n1 sa sb hb e4 h0⟩⟩
        rw[if_neg (by simpa using e4)];by_cases e5:u=0
        ·walk_at "1g";exact af ⟨⟨_,rfl⟩,.inl ⟨_,rfl,rj n1 sa sb (.inr e5)⟩⟩
        walk_at "1h";obtain⟨u,rfl⟩:∃v,u=v+1:=⟨u-1,by omega⟩
        have n4:=n3 u rfl;rw[jU (by omega)] at n4;have nn:=n1.iC sa sb (show t<a.toList.length by simp;omega) (show u<b.toList.length by simp;omega) (by simpa using cY n4);rw[aw,<-aF] at nn;walk_at "1c";by_cases e6:t=0
        ·rw[if_pos (by simpa using e6)];exact af ⟨⟨_,rfl⟩,.inl ⟨_,rfl,rj nn sa sb (.inl e6)⟩⟩
        rw[if_neg (by simpa using e6)];have nl:=nn.len;simp only[ag] at nl;split
        ·walk_at "1a"
        ·walk_at "1b"
       ·rw[if_neg kq];have ku:u=nb:=by omega
        subst ku;obtain⟨u,rfl⟩:∃v,u=v+1:=⟨u-1,by omega⟩
        have n4:=n3 u rfl;rw[jU (by omega)] at n4;have nn:=mb.iC sa sb (show t<a.toList.length by simp;omega) (show u<b.toList.length by simp;omega) (by simpa using cY n4);rw[aw,<-aF] at nn;walk_at "1c";by_cases e6:t=0
        ·rw[if_pos (by simpa using e6)];exact af ⟨⟨_,rfl⟩,.inl ⟨_,rfl,rj nn sa sb (.inl e6)⟩⟩
        rw[if_neg (by simpa using e6)];have nl:=nn.len;simp only[ag] at nl;split
        ·walk_at "1a"
        ·walk_at "1b"
     ·rw[if_neg hg];rw[zT];refine ah (cJ (ah (jo sD ?_)));obtain⟨t,ct⟩:=JT sa yB b[nb];refine ah (su R hk oa (ob _ (aQ _)) (by omega) (by omega) ct ?_);dsimp only;obtain⟨m1,m2,m3⟩:=mw.mh.uT sa sb sD ct;by_cases kp:na+1-t>0
      ·rw[if_pos kp];by_cases e1:t=0
       ·rw[if_pos (by simpa using e1)];exact af ⟨⟨_,rfl⟩,.inl ⟨_,rfl,rj m1 sa sb (.inl e1)⟩⟩
       rw[if_neg (by simpa using e1)];obtain⟨t,rfl⟩:∃v,t=v+1:=⟨t-1,by omega⟩
       simp only[fG];have m4:=m3 t rfl;rw[jU (by omega)] at m4;have mb:=m1.kL sa sb (show t<a.toList.length by simp;omega) (show nb<b.toList.length by simpa using sD) (by simpa using m4);rw[aw,<-aF] at mb;refine ah (jo sD ?_);by_cases e3:nb=1
       ·rw[if_pos (by simpa using e3)];exact af ⟨⟨_,rfl⟩,.inl ⟨_,rfl,vn mb sa sb hb e3 h0⟩⟩
       rw[if_neg (by simpa using e3)];walk_at "1c";obtain⟨u,cu⟩:=CZ sb (show nb<=b.size by omega) (a[t]'(by omega));refine ah (su R hk ob (oa _ (aQ _)) (by omega) (by omega) cu ?_);dsimp only;obtain⟨n1,n2,n3⟩:=mb.pG sa sb (by omega) cu;by_cases kq:nb-u>0
       ·rw[if_pos kq];by_cases e4:u=1
        ·rw[if_pos (by simpa using e4)];exact af ⟨⟨_,rfl⟩,.inl ⟨_,rfl,vn n1 sa sb hb e4 h0⟩⟩
        rw[if_neg (by simpa using e4)];by_cases e5:u=0
        ·walk_at "1g";exact af ⟨⟨_,rfl⟩,.inl ⟨_,rfl,rj n1 sa sb (.inr e5)⟩⟩
        walk_at "1h";obtain⟨u,rfl⟩:∃v,u=v+1:=⟨u-1,by omega⟩
        have n4:=n3 u rfl;rw[jU (by omega)] at n4;have nn:=n1.iC sa sb (show t<a.toList.length by simp;omega) (show u<b.toList.length by simp;omega) (by simpa using cY n4);rw[aw,<-aF] at nn;walk_at "1c";by_cases e6:t=0
        ·rw[if_pos (by simpa using e6)];exact af ⟨⟨_,rfl⟩,.inl ⟨_,rfl,rj nn sa sb (.inl e6)⟩⟩
        rw[if_neg (by simpa using e6)];have nl:=nn.len;simp only[ag] at nl;split
        ·walk_at "1a"
        ·walk_at "1b"
       ·rw[if_neg kq];have ku:u=nb:=by omega
        subst ku;obtain⟨u,rfl⟩:∃v,u=v+1:=⟨u-1,by omega⟩
        have n4:=n3 u rfl;rw[jU (by omega)] at n4;have nn:=mb.iC sa sb (show t<a.toList.length by simp;omega) (show u<b.toList.length by simp;omega) (by simpa using cY n4);rw[aw,<-aF] at nn;walk_at "1c";by_cases e6:t=0
        ·rw[if_pos (by simpa using e6)];exact af ⟨⟨_,rfl⟩,.inl ⟨_,rfl,rj nn sa sb (.inl e6)⟩⟩
        rw[if_neg (by simpa using e6)];have nl:=nn.len;simp only[ag] at nl;split
        ·walk_at "1a"
        ·walk_at "1b"
      ·rw[if_neg kp];have kt:t=na+1:=by omega
       subst kt;have m5:MH rk a.toList b.toList out.toList (na+1) (nb+1):=mw.mh;generalize na=t at *;have m4:=m3 t rfl;rw[jU (by omega)] at m4;have mb:=m5.kL sa sb (show t<a.toList.length by simp;omega) (show nb<b.toList.length by simpa using sD) (by simpa using m4);rw[aw,<-aF] at mb;refine ah (jo sD ?_);by_cases e3:nb=1
       ·rw[if_pos (by simpa using e3)];exact af ⟨⟨_,rfl⟩,.inl ⟨_,rfl,vn mb sa sb hb e3 h0⟩⟩
       rw[if_neg (by simpa using e3)];walk_at "1c";obtain⟨u,cu⟩:=CZ sb (show nb<=b.size by omega) (a[t]'(by omega));refine ah (su R hk ob (oa _ (aQ _)) (by omega) (by omega) cu ?_);dsimp only;obtain⟨n1,n2,n3⟩:=mb.pG sa sb (by omega) cu;by_cases kq:nb-u>0
       ·rw[if_pos kq];by_cases e4:u=1
        ·rw[if_pos (by simpa using e4)];exact af ⟨⟨_,rfl⟩,.inl ⟨_,rfl,vn n1 sa sb hb e4 h0⟩⟩
        rw[if_neg (by simpa using e4)];by_cases e5:u=0
        ·walk_at "1g";exact af ⟨⟨_,rfl⟩,.inl ⟨_,rfl,rj n1 sa sb (.inr e5)⟩⟩
        walk_at "1h";obtain⟨u,rfl⟩:∃v,u=v+1:=⟨u-1,by omega⟩
        have n4:=n3 u rfl;rw[jU (by omega)] at n4;have nn:=n1.iC sa sb (show t<a.toList.length by simp;omega) (show u<b.toList.length by simp;omega) (by simpa using cY n4);rw[aw,<-aF] at nn;walk_at "1c";by_cases e6:t=0
        ·rw[if_pos (by simpa using e6)];exact af ⟨⟨_,rfl⟩,.inl ⟨_,rfl,rj nn sa sb (.inl e6)⟩⟩
        rw[if_neg (by simpa using e6)];have nl:=nn.len;simp only[ag] at nl;split
        ·walk_at "1a"
        ·walk_at "1b"
       ·rw[if_neg kq];have ku:u=nb:=by omega
        subst ku;obtain⟨u,rfl⟩:∃v,u=v+1:=⟨u-1,by omega⟩
        have n4:=n3 u rfl;rw[jU (by omega)] at n4;have nn:=mb.iC sa sb (show t<a.toList.length by simp;omega) (show u<b.toList.length by simp;omega) (by simpa using cY n4);rw[aw,<-aF] at nn;walk_at "1c";by_cases e6:t=0
        ·rw[if_pos (by simpa using e6)];exact af ⟨⟨_,rfl⟩,.inl ⟨_,rfl,rj nn sa sb (.inl e6)⟩⟩
        rw[if_neg (by simpa using e6)];have nl:=nn.len;simp only[ag] at nl;split
        ·walk_at "1a"
        ·walk_at "1b"
    ·rintro⟨c1,na,nb,out,mg,ac,bc⟩ gm ⟨⟨g,rfl⟩,iz,mw,ic⟩;dsimp only at iz mw ic ⊢;exact⟨⟨g,rfl⟩,.inr ⟨iz,mw,ic⟩⟩
    ·rintro⟨c1,na,nb,out,mg,ac,bc⟩ gm ⟨⟨g,rfl⟩,hc⟩;dsimp only at hc ⊢;rcases hc with⟨r,rfl,gd⟩ | ⟨rfl,mw,ic⟩
     ·exact af ⟨g,r,rfl,rfl,gd⟩
     ·dsimp only;rw[zT];exact ah (cJ (af ⟨⟨_,rfl⟩,rfl,mw,ic⟩))
 ·rintro⟨c1,na,nb,out,mg⟩ gm ⟨⟨g,rfl⟩,iz,mw,ic⟩;dsimp only at iz mw ic ⊢;exfalso
  have h1:=mw.mh.len;have h2:=mw.la;have h3:=mw.lb;simp only[ag] at h1;rw[cR (a9 _)] at ic;omega
 ·rintro⟨c1,na,nb,out,mg⟩ gm ⟨g,r,rfl,rfl,g1,g2⟩;exact af (q r g g1 g2)
theorem U9(i:Nat):mergeAt' i=(do
 let s <-get
 let(some (sa,na,power),some (sb,nb,_)):=((pendingOf s)[i]?,(pendingOf s)[i+1]?) | unsupported "internal:list.sort.pending"
 set (setPending s (((pendingOf s).setIfInBounds i (sa,na+nb,power)).eraseIdxIfInBounds (i+1)))
 let some k <-xb false (<-elem' (arrOf s) sb) (arrOf s) sa na 0 | return false
 let(sa,na):=(sa+k,na-k)
 if na==0 then return true
 let some nb <-xb true (<-elem' (arrOf s) (sa+na-1)) (arrOf s) sb nb (nb-1) | return false
 if nb==0 then return true
 let x:=(arrOf s).extract sa sb
 let y:=(arrOf s).extract sb (sb+nb)
 let merged <-if na<=nb then F2 x y else F1 x y
 modify fun s=>setArr s (merged.toList.zipIdx.foldl (fun a (p,j)=>a.setIfInBounds (sa+j) p) (arrOf s))
 return (failedOf (<-get)).isNone):=rfl
variable {M:Model} {A:Around} {E:Value->Shared->Prop} {s:Shared}
theorem MM(p0:Nat):∀(m l:List Keyed) (k:Nat),p0+k+m.length<=l.length->
  (m.zipIdx k).foldl (fun(a:Array Keyed) (q:Keyed×Nat)=>a.setIfInBounds (p0+q.2) q.1) l.toArray=(l.take (p0+k)++m++l.drop (p0+k+m.length)).toArray
 | [],l,k,h=>by simp
 | x::m,l,k,h=>by
  simp only[aG] at h;rw[List.zipIdx_cons,List.foldl_cons];dsimp only;rw[show l.toArray.setIfInBounds (p0+k) x=(l.set (p0+k) x).toArray by simp];rw[MM p0 m (l.set (p0+k) x) (k+1) (by rw[List.length_set];omega)];congr 1
  have e1:(l.set (p0+k) x).take (p0+(k+1))=l.take (p0+k)++[x]:=by
   rw[show p0+(k+1)=p0+k+1 by omega,bL,List.take_set,eI (by omega)];rw[List.set_eq_of_length_le (by simp;omega)];rfl
  rw[e1,List.drop_set_of_lt (by omega)];simp only[aG,aM,c9,fA];rw[show p0+(k+1)+m.length=p0+k+(m.length+1) by omega]
theorem QO{x:SortSt}{Q:PUnit->SortSt->Prop}{st:SortSt}(q:Q ⟨⟩ x):wpS M A E s (set x:StateT SortSt Sem PUnit) Q st:=cJ (f:=fun _=>x) q
theorem Dq{rk:Keyed->Int}{l:List Keyed}(h:iY rk l){i j:Nat}(jX:i<=j)(hj:j<l.length):rk (l[i]'(by omega))<=rk l[j]:=by
 by_cases e:i=j
 ·subst e;exact cZ _
 ·exact et.mp h i j (by omega) hj (by omega)
theorem iY.app{rk:Keyed->Int}{l m:List Keyed}(h1:iY rk l)(h2:iY rk m)(h:∀x∈l,∀y∈m,rk x<=rk y):iY rk (l++m):=bF.mpr ⟨h1,h2,h⟩
theorem U8{κ:SortKind}{ok:Keyed->Prop}{rk:Keyed->Int}(R:Rk M A E s κ ok rk){i pa pb:Nat}{P X Y S:List Keyed}{Q:Bool->SortSt->Prop}{st:SortSt}(hk:kindOf st=κ)(hf:failedOf st=none)(oa:∀x∈arrOf st,ok x)
  (dec:(arrOf st).toList=P++(X++(Y++S))) (p1:(pendingOf st)[i]?=some (P.length,X.length,pa)) (p2:(pendingOf st)[i+1]?=some (P.length+X.length,Y.length,pb)) (ha:0<X.length) (hb:0<Y.length) (s1:iY rk X) (s2:iY rk Y)
  (q:∀(Z:List Keyed) g,Z.Perm (X++Y)->iY rk Z->Q true (SortSt.mk' κ (P++(Z++S)).toArray (((pendingOf st).setIfInBounds i (P.length,X.length+Y.length,pa)).eraseIdxIfInBounds (i+1)) g none)):wpS M A E s (mergeAt' i) Q st:=by
 rw[U9];refine ah (fB ?_);rw[p1,p2];dsimp only;refine ah (QO ?_);have ic:(arrOf st).size=P.length+(X.length+(Y.length+S.length)):=by rw[<-ag,dec];simp
 have eL:arrOf st=(P++(X++(Y++S))).toArray:=by rw[<-dec]
 have gX:∀t,(h:t<X.length)->(arrOf st).getD (P.length+t) dk=X[t]:=fun t h=>by
  rw[jU (by omega)];simp[eL,fh,List.getElem_append_left,h]
 have gY:∀t,(h:t<Y.length)->(arrOf st).getD (P.length+X.length+t) dk=Y[t]:=fun t h=>by
  rw[jU (by omega)];have e2:P.length+X.length+t-P.length-X.length=t:=by omega
  simp only[eL,List.getElem_toArray];rw[fh (by omega),fh (by omega),List.getElem_append_left (by omega)];congr 1
 have YV:(arrOf st)[P.length+X.length]'(by omega)=Y[0]:=by
  have:=gY 0 hb;rw[jU (by omega)] at this;simpa using this
 refine ah (jo (show P.length+X.length<(arrOf st).size by omega) ?_);rw[YV]
 have hL:∀x,x∈P\/x∈X\/x∈Y\/x∈S->ok x:=fun x hx=>oa x (by
  rw[<-bV,dec];simp only[av];exact hx)
 obtain⟨k,ck⟩:∃k,Cut (fun i=>if false=true then decide (rk ((arrOf st).getD (P.length+i) dk)<rk Y[0]) else !decide (rk Y[0]<rk ((arrOf st).getD (P.length+i) dk))) X.length k:=by
  refine w8 _ _ fun i j jX hj h=>?_
  have:=Dq s1 jX hj;rw[gX j hj] at h;rw[gX i (by omega)];simp only[aq,aP,bP,bh] at h ⊢;omega
 have Ox:=ck.1;refine ah (su R hk oa (hL _ (.inr (.inr (.inl (cq _))))) (by omega) ha ck ?_);dsimp only;have x1:∀x∈X.take k,∀y∈Y,rk x<=rk y:=fun x hx y hy=>by
  obtain⟨t,ht,rfl⟩:=bZ hx;obtain⟨u,hu,rfl⟩:=bZ hy;have lT:t<k:=by simp at ht;omega
  have h1:=(ck.2 t (by omega)).mpr lT;dsimp only at h1;rw[gX t (by omega)] at h1;have h2:=Dq s2 (a9 u) hu;simp only[aq,aP,bP,bh] at h1;rw[eV];omega
 have x2:∀x∈X.drop k,rk Y[0]<rk x:=fun x hx=>by
  obtain⟨t,ht,rfl⟩:=bZ hx;have lT:k+t<X.length:=by simp at ht;omega
  have h1:=mt (ck.2 (k+t) lT).mp (by omega);dsimp only at h1;rw[gX _ lT] at h1;rw[fP];simpa using h1
 have same:∀g,SortSt.mk' κ (P++((X++Y)++S)).toArray (((pendingOf st).setIfInBounds i (P.length,X.length+Y.length,pa)).eraseIdxIfInBounds (i+1)) g none=SortSt.mk' κ (arrOf st) (((pendingOf st).setIfInBounds i (P.length,X.length+Y.length,pa)).eraseIdxIfInBounds (i+1)) g none:=fun g=>by
  rw[eL];simp
 have whole:iY rk (X++Y)->Q true (setPending st (((pendingOf st).setIfInBounds i (P.length,X.length+Y.length,pa)).eraseIdxIfInBounds (i+1))):=fun h=>by
  have:=q (X++Y) (gallopOf st) (List.Perm.refl _) h;rw[same] at this;show Q true (SortSt.mk' (kindOf st) (arrOf st) _ (gallopOf st) (failedOf st));rw[hk,hf];exact this
 by_cases e1:X.length-k=0
 ·rw[if_pos (by simpa using e1)];refine af (whole (s1.app s2 fun x hx=>x1 x ?_));rw[bI (by omega)];exact hx
 rw[if_neg (by simpa using e1)];have gl:(arrOf st)[P.length+k+(X.length-k)-1]'(by omega)=X[X.length-1]:=by
  have:=gX (X.length-1) (by omega);rw[jU (by omega)] at this;rw[<-this];congr 1
  omega
 refine ah (jo (show P.length+k+(X.length-k)-1<(arrOf st).size by omega) ?_);rw[gl];obtain⟨m,cm⟩:∃m,Cut (fun i=>if true=true then decide (rk ((arrOf st).getD (P.length+X.length+i) dk)<rk X[X.length-1]) else !decide (rk X[X.length-1]<rk ((arrOf st).getD (P.length+X.length+i) dk))) Y.length m:=by
  refine w8 _ _ fun i j jX hj h=>?_
  have:=Dq s2 jX hj;rw[gY j hj] at h;rw[gY i (by omega)];simp only[aR,aS] at h ⊢;omega
 have Jj:=cm.1;refine ah (su R hk oa (hL _ (.inr (.inl (cq _)))) (by omega) (by omega) cm ?_);dsimp only;have y1:∀y∈Y.take m,rk y<rk X[X.length-1]:=fun y hy=>by
  obtain⟨t,ht,rfl⟩:=bZ hy;have lT:t<m:=by simp at ht;omega
  have h1:=(cm.2 t (by omega)).mpr lT;dsimp only at h1;rw[gY t (by omega)] at h1;rw[eV];simpa using h1
 have y2:∀x∈X,∀y∈Y.drop m,rk x<=rk y:=fun x hx y hy=>by
  obtain⟨t,ht,rfl⟩:=bZ hy;obtain⟨u,hu,rfl⟩:=bZ hx;have lT:m+t<Y.length:=by simp at ht;omega
  have h1:=mt (cm.2 (m+t) lT).mp (by omega);dsimp only at h1;rw[gY _ lT] at h1;have h2:=Dq s1 (show u<=X.length-1 by omega) (by omega);rw[fP];simp only[aR,aS] at h1;omega
 by_cases e2:m=0
 ·rw[if_pos (by simpa using e2)];refine af (whole (s1.app s2 fun x hx y hy=>y2 x hx y ?_));rw[e2];simpa using hy
 rw[if_neg (by simpa using e2)];have ex:((arrOf st).extract (P.length+k) (P.length+X.length)).toList=X.drop k:=by
  rw[dv,dec];simp only[List.extract];rw[cU,dA Ox,show P.length+X.length-(P.length+k)=(X.drop k).length by rw[cf];omega,List.take_left]
 have ey:((arrOf st).extract (P.length+X.length) (P.length+X.length+m)).toList=Y.take m:=by
  rw[dv,dec];simp only[List.extract];rw[cU,show X.length=X.length+0 from rfl,cU,List.drop_zero,show P.length+(X.length+0)+m-(P.length+(X.length+0))=m by omega,List.take_append_of_le_length Jj]
 have zx:((arrOf st).extract (P.length+k) (P.length+X.length)).size=X.length-k:=by rw[<-ag,ex,cf]
 have zy:((arrOf st).extract (P.length+X.length) (P.length+X.length+m)).size=m:=by rw[<-ag,ey,aN];omega
 generalize (arrOf st).extract (P.length+k) (P.length+X.length)=x at ex zx ⊢;generalize (arrOf st).extract (P.length+X.length) (P.length+X.length+m)=y at ey zy ⊢;have ox:∀z∈x,ok z:=fun z hz=>hL z (.inr (.inl (eE (by rw[<-ex];exact bV.mpr hz))))
 have oy:∀z∈y,ok z:=fun z hz=>hL z (.inr (.inr (.inl (cS (by rw[<-ey];exact bV.mpr hz)))))
 have sx:iY rk x.toList:=by rw[ex];exact s1.sublist (List.drop_sublist _ _)
 have sy:iY rk y.toList:=by rw[ey];exact s2.sublist (fK _ _)
 have NQ:0<x.size:=by omega
 have yE:0<y.size:=by omega
 have YS:y[0]=Y[0]:=by
  have:y.toList[0]'(by simpa using yE)=Y[0]:=by simp only[ey,eV]
  simpa using this
 have YT:x[x.size-1]=X[X.length-1]:=by
  have:x.toList[x.size-1]'(by simp;omega)=X[X.length-1]:=by
   simp only[ex,fP];congr 1
   omega
  simpa using this
 have fx:∀z∈x,rk y[0]<rk z:=fun z hz=>by
  rw[YS];exact x2 z (by rw[<-ex];exact bV.mpr hz)
 have fy:∀z∈y,rk z<rk (x[x.size-1]):=fun z hz=>by
  rw[YT];exact y1 z (by rw[<-ey];exact bV.mpr hz)
 have fin:∀(r:Array Keyed) g,r.toList.Perm (x.toList++y.toList)->iY rk r.toList->Q true (SortSt.mk' κ (r.toList.zipIdx.foldl (fun(a:Array Keyed) (z:Keyed×Nat)=>a.setIfInBounds (P.length+k+z.2) z.1) (arrOf st)) (((pendingOf st).setIfInBounds i (P.length,X.length+Y.length,pa)).eraseIdxIfInBounds (i+1)) g none):=fun r g rp rs=>by
  have rl:=rp.length_eq;rw[au,ex,ey,cf,aN,eO Jj] at rl;rw[ex,ey] at rp;have e9:=MM (P.length+k) r.toList (P++(X++(Y++S))) 0 (by simp only[au];omega);rw[<-eL] at e9;rw[e9];have t1:(P++(X++(Y++S))).take (P.length+k+0)=P++X.take k:=by
   rw[Nat.add_zero,List.take_length_add_append,List.take_append_of_le_length Ox]
  have t2:(P++(X++(Y++S))).drop (P.length+k+0+r.toList.length)=Y.drop m++S:=by
   rw[show P.length+k+0+r.toList.length=P.length+(X.length+m) by omega,cU,cU,dA Jj]
  rw[t1,t2];have:=q (X.take k++(r.toList++Y.drop m)) g ?_ ?_
  ·simpa[aM] using this
  ·have h1:(X.take k++(r.toList++Y.drop m)).Perm (X.take k++((X.drop k++Y.take m)++Y.drop m)):=cM _ (rp.append_right _);refine h1.trans ?_;rw[aM,bQ,<-aM,bQ]
  ·have mr:∀z∈r.toList,z∈X.drop k\/z∈Y.take m:=fun z hz=>av.mp (rp.mem_iff.mp hz)
   have Xy:iY rk (X.take k++X.drop k):=by rw[bQ];exact s1
   have Xx:iY rk (Y.take m++Y.drop m):=by rw[bQ];exact s2
   have d1:=(bF.mp Xy)
   have d2:=(bF.mp Xx)
   refine iY.app d1.1 (rs.app d2.2.1 fun z hz w hw=>?_) fun z hz w hw=>?_
   ·rcases mr z hz with h | h
    ·exact y2 z (eE h) w hw
    ·exact d2.2.2 z h w hw
   ·rcases av.mp hw with hw | hw
    ·rcases mr w hw with h | h
     ·exact d1.2.2 z hz w h
     ·exact x1 z hz w (cS h)
    ·exact x1 z hz w (eE hw)
 split
 ·refine ah (Vc R hk ox oy sx sy NQ yE (fx _ (aQ _)) fy fun r g rp rs=>?_);refine ah (cJ (ah (fB (af ?_))));have:=fin r g rp rs;show Q (failedOf st).isNone (SortSt.mk' (kindOf st) _ _ g (failedOf st));rw[hf,hk];exact this
 ·refine ah (Va R hk ox oy sx sy NQ yE fx (fy _ (aQ _)) fun r g rp rs=>?_);refine ah (cJ (ah (fB (af ?_))));have:=fin r g rp rs;show Q (failedOf st).isNone (SortSt.mk' (kindOf st) _ _ g (failedOf st));rw[hf,hk];exact this
noncomputable def kr(rk:Keyed->Int)(xs:Array Keyed)(i:Nat):Int:=rk (xs.getD i dk)
def jZ(rk:Keyed->Int)(xs:Array Keyed)(lo n:Nat):Prop:=∀i j,i<=j->j<n->kr rk xs (lo+i)<=kr rk xs (lo+j)
structure Sl (xs ys:Array Keyed) (lo n:Nat):Prop where
 pm:ys.Perm xs
 out:∀j,j<lo\/lo+n<=j->ys[j]?=xs[j]?
theorem Sl.size{xs ys:Array Keyed}{lo n:Nat}(h:Sl xs ys lo n):ys.size=xs.size:=h.pm.size_eq
theorem Sl.refl(xs:Array Keyed)(lo n:Nat):Sl xs xs lo n:=⟨Array.Perm.refl _,fun _ _=>rfl⟩
theorem Sl.trans{xs ys zs:Array Keyed}{lo n:Nat}(h:Sl xs ys lo n)(h':Sl ys zs lo n):Sl xs zs lo n:=⟨h'.pm.trans h.pm,fun j hj=>(h'.out j hj).trans (h.out j hj)⟩
theorem A0{rk:Keyed->Int}{xs ys:Array Keyed}{i j:Nat}(h:ys[i]?=xs[j]?):kr rk ys i=kr rk xs j:=by
 unfold kr;rw[Array.getD_eq_getD_getElem?,Array.getD_eq_getD_getElem?,h]
variable {M:Model} {A:Around} {E:Value->Shared->Prop} {s:Shared}
theorem ux{κ:SortKind}{ok:Keyed->Prop}{rk:Keyed->Int}(R:Rk M A E s κ ok rk){i j:Nat}{Q:Option Bool->SortSt->Prop}{st:SortSt}(hk:kindOf st=κ)(oa:∀x∈arrOf st,ok x)(hi:i<(arrOf st).size)(hj:j<(arrOf st).size)
  (q:Q (some (decide (kr rk (arrOf st) i<kr rk (arrOf st) j))) st):wpS M A E s (ltAt' i j) Q st:=by
 rw[ltAt'_eq];refine ah (fB (ah (jo hi (ah (jo hj ?_)))));refine R.lt _ _ _ _ (oa _ (aQ _)) (oa _ (aQ _)) hk ?_;unfold kr at q;rwa [jU hi,jU hj] at q
theorem Sl.ok{xs ys:Array Keyed}{lo n:Nat}(h:Sl xs ys lo n){ok:Keyed->Prop}(oa:∀x∈xs,ok x):∀x∈ys,ok x:=fun x hx=>oa x (h.pm.mem_iff.mp hx)
theorem Ug{κ:SortKind}{ok:Keyed->Prop}{rk:Keyed->Int}(R:Rk M A E s κ ok rk){lo n k0:Nat}{Q:Bool->SortSt->Prop}{st:SortSt}(hk:kindOf st=κ)(oa:∀x∈arrOf st,ok x)(hn:lo+n<=(arrOf st).size)(hs:jZ rk (arrOf st) lo k0)(Yp:k0<=n)
  (q:∀ys,Sl (arrOf st) ys lo n->jZ rk ys lo n->Q true (setArr st ys)):wpS M A E s (binarySort' lo n k0) Q st:=by
 rw[binarySort'_eq];refine ah (cG (bG (I:=fun k (c:Option Bool×Unit) gm=>c.1=none/\∃ys,gm=setArr st ys/\Sl (arrOf st) ys lo n/\jZ rk ys lo (min k n))
  (Q:=fun c gm=>c.1=none/\∃ys,gm=setArr st ys/\Sl (arrOf st) ys lo n/\jZ rk ys lo n) ?step ?fin ?init) ?post)
 case post=>
  rintro⟨c,⟨⟩⟩ gm ⟨hc,ys,rfl,h1,h2⟩;dsimp only at hc;subst hc;exact af (q ys h1 h2)
 case init=>
  refine⟨rfl,arrOf st,rfl,Sl.refl _ _ _,fun i j jX hj=>?_⟩;by_cases h1:k0=0
  ·have:i=j:=by omega
   subst this;exact cZ _
  ·exact hs i j jX (by omega)
 case fin=>
  rintro c gm ⟨hc,ys,rfl,h1,h2⟩;exact⟨hc,ys,rfl,h1,by rwa [show min (max (max k0 1) n) n=n by omega] at h2⟩
 case step=>
  rintro k ⟨c,⟨⟩⟩ gm N2 Ai ⟨hc,ys,rfl,h1,h2⟩;dsimp only at hc ⊢;subst hc;rw[show min k n=k by omega] at h2;have ic:=h1.size;have oy:=h1.ok oa;obtain⟨p,cp⟩:∃p,Cut (fun m=>!decide (kr rk ys (lo+k)<kr rk ys (lo+m))) k p:=by
   refine w8 _ _ fun i j jX hj h=>?_
   have:=h2 i j jX hj;simp only[bP,bh] at h ⊢;omega
  have Y3:=cp.1;refine ah (cG (bG (I:=fun j (c:Option Bool×Nat×Nat) gm=>gm=setArr st ys/\c.1=none/\c.2.1<=p/\p<=c.2.2/\c.2.2<=k/\c.2.2-c.2.1+j<=k)
   (Q:=fun(c:Option Bool×Nat×Nat) gm=>gm=setArr st ys/\c.1=none/\c.2.1=p) ?_ ?_ ⟨rfl,rfl,a9 _,Y3,aA _,by show k-0+0<=k;omega⟩) ?_)
  ·rintro j ⟨c,l,r⟩ gm _ hj ⟨rfl,hc,e1,e2,e3,e4⟩;dsimp only at hc e1 e2 e3 e4 ⊢;subst hc;by_cases hd:l>=r
   ·rw[if_pos hd];exact af ⟨rfl,rfl,by dsimp only;omega⟩
   ·rw[if_neg hd];refine ah (ux R hk oy (show lo+k<ys.size by omega) (show lo+(l+r)/2<ys.size by omega) ?_);have hm:=cp.2 ((l+r)/2) (by omega);simp only[bP,bh] at hm;dsimp only;by_cases gL:kr rk ys (lo+k)<kr rk ys (lo+(l+r)/2)
    ·have:¬(l+r)/2<p:=fun z=>hm.mpr z gL
     rw[show decide (kr rk (arrOf (setArr st ys)) (lo+k)<kr rk (arrOf (setArr st ys)) (lo+(l+r)/2))=true from cg gL];simp only[aR];exact af ⟨rfl,rfl,e1,by dsimp only;omega,by dsimp only;omega,by dsimp only;omega⟩
    ·have:(l+r)/2<p:=hm.mp gL;rw[show decide (kr rk (arrOf (setArr st ys)) (lo+k)<kr rk (arrOf (setArr st ys)) (lo+(l+r)/2))=false from aX gL];simp only[aq,aP];exact af ⟨rfl,rfl,by dsimp only;omega,e2,e3,by dsimp only;omega⟩
  ·rintro⟨c,l,r⟩ gm ⟨rfl,hc,e1,e2,e3,e4⟩;dsimp only at hc e1 e2 e3 e4 ⊢;exact⟨rfl,hc,by rw[cR (a9 k)] at e4;omega⟩
  ·rintro⟨c,l,r⟩ gm ⟨rfl,hc,e1⟩;dsimp only at hc e1 ⊢;subst hc e1;dsimp only;rw[moveDown'_eq];refine ah (cJ (af ⟨rfl,bubble ys (lo+k) (lo+k-(lo+l)),rfl,h1.trans ⟨bubble_perm _ _ _,fun j hj=>?_⟩,?_⟩))
   ·rw[getElem?_bubble (by omega) _ (by omega),if_neg (by omega),if_neg (by omega)]
   ·rw[show min (k+1) n=k+1 by omega];have kb:∀j,kr rk (bubble ys (lo+k) (lo+k-(lo+l))) (lo+j)=if j=l then kr rk ys (lo+k) else if l<j/\j<=k then kr rk ys (lo+(j-1)) else kr rk ys (lo+j):=fun j=>by
     have e:=getElem?_bubble (xs:=ys) (src:=lo+k) (by omega) (lo+k-(lo+l)) (by omega) (lo+j);by_cases c1:j=l
     ·rw[if_pos (by omega)] at e;rw[if_pos c1];exact A0 e
     ·rw[if_neg (by omega)] at e;rw[if_neg c1];by_cases c2:l<j/\j<=k
      ·rw[if_pos (by omega),show lo+j-1=lo+(j-1) by omega] at e;rw[if_pos c2];exact A0 e
      ·rw[if_neg (by omega)] at e;rw[if_neg c2];exact A0 e
    have below:∀m,m<l->kr rk ys (lo+m)<=kr rk ys (lo+k):=fun m hm=>by
     have:=(cp.2 m (by omega)).mpr hm;simp only[bP,bh] at this;omega
    have above:∀m,l<=m->m<k->kr rk ys (lo+k)<=kr rk ys (lo+m):=fun m hm Af=>by
     have:=mt (cp.2 m Af).mp (by omega);simp only[bP,bh] at this;omega
    intro i j jX hj;rw[kb,kb];by_cases a1:i=l
    ·rw[if_pos a1];by_cases b1:j=l
     ·rw[if_pos b1];exact cZ _
     ·rw[if_neg b1,if_pos (by omega)];exact above _ (by omega) (by omega)
    ·rw[if_neg a1];by_cases a2:l<i/\i<=k
     ·rw[if_pos a2,if_neg (by omega),if_pos (by omega)];exact h2 _ _ (by omega) (by omega)
     ·rw[if_neg a2];by_cases b1:j=l
      ·rw[if_pos b1];exact below i (by omega)
      ·rw[if_neg b1];by_cases b2:l<j/\j<=k
       ·rw[if_pos b2];exact h2 _ _ (by omega) (by omega)
       ·rw[if_neg b2];exact h2 _ _ jX (by omega)
theorem Gh{rk:Keyed->Int}{xs:Array Keyed}{i j:Nat}(hj:j<=xs.size)(k:Nat):kr rk (mirror xs i j ((j-i)/2)) k=if i<=k/\k<j then kr rk xs (i+j-1-k) else kr rk xs k:=by
 have e:=getElem?_mirror_all (i:=i) hj k;by_cases h1:i<=k/\k<j
 ·rw[if_pos h1] at e ⊢;exact A0 e
 ·rw[if_neg h1] at e ⊢;exact A0 e
theorem vU{xs:Array Keyed}{i j lo n:Nat}(hj:j<=xs.size)(hi:lo<=i)(hn:j<=lo+n):Sl xs (mirror xs i j ((j-i)/2)) lo n:=
 ⟨mirror_perm _ _ _ _,fun k hk=>by rw[getElem?_mirror_all hj,if_neg (by omega)]⟩
theorem BA{rk:Keyed->Int}{xs:Array Keyed}{i j:Nat}(hj:j<=xs.size)(heq:∀k,i<=k->k<j->kr rk xs k=kr rk xs (j-1))(k:Nat):kr rk (mirror xs i j ((j-i)/2)) k=kr rk xs k:=by
 rw[Gh hj];split
 ·rw[heq _ (by omega) (by omega),heq k (by omega) (by omega)]
 ·rfl
def Dec(rk:Keyed->Int)(xs:Array Keyed)(lo n:Nat):Prop:=∀i j,i<=j->j<n->kr rk xs (lo+j)<=kr rk xs (lo+i)
theorem jZ.more{rk:Keyed->Int}{xs:Array Keyed}{lo n:Nat}(h:jZ rk xs lo n)(hn:1<=n)(hl:kr rk xs (lo+n-1)<=kr rk xs (lo+n)):jZ rk xs lo (n+1):=fun i j jX hj=>by
 by_cases e:j=n
 ·subst e;by_cases e2:i=j
  ·subst e2;exact cZ _
  ·have:=h i (j-1) (by omega) (by omega);rw[show lo+(j-1)=lo+j-1 by omega] at this;omega
 ·exact h i j jX (by omega)
theorem Dec.more{rk:Keyed->Int}{xs:Array Keyed}{lo n:Nat}(h:Dec rk xs lo n)(hn:1<=n)(hl:kr rk xs (lo+n)<=kr rk xs (lo+n-1)):Dec rk xs lo (n+1):=fun i j jX hj=>by
 by_cases e:j=n
 ·subst e;by_cases e2:i=j
  ·subst e2;exact cZ _
  ·have:=h i (j-1) (by omega) (by omega);rw[show lo+(j-1)=lo+j-1 by omega] at this;omega
 ·exact h i j jX (by omega)
theorem Dec.turn{rk:Keyed->Int}{xs:Array Keyed}{lo n:Nat}(h:Dec rk xs lo n)(hn:lo+n<=xs.size):jZ rk (mirror xs lo (lo+n) ((lo+n-lo)/2)) lo n:=fun i j jX hj=>by
 rw[Gh hn,Gh hn,if_pos (by omega),if_pos (by omega)];have:=h (n-1-j) (n-1-i) (by omega) (by omega);rw[show lo+(lo+n)-1-(lo+i)=lo+(n-1-i) by omega,show lo+(lo+n)-1-(lo+j)=lo+(n-1-j) by omega];exact this
variable {M:Model} {A:Around} {E:Value->Shared->Prop} {s:Shared}
theorem vS{i j:Nat}{Q:Unit->SortSt->Prop}{st:SortSt}(h:Q () (setArr st (mirror (arrOf st) i j ((j-i)/2)))):wpS M A E s (reverseSlice' i j) Q st:=by
 rw[reverseSlice'_eq];exact cJ h
theorem TK{κ:SortKind}{ok:Keyed->Prop}{rk:Keyed->Int}(R:Rk M A E s κ ok rk){lo i8:Nat}{Q:Option Nat->SortSt->Prop}{st:SortSt}(hk:kindOf st=κ)(oa:∀x∈arrOf st,ok x)(hn:lo+i8<=(arrOf st).size)(h1:1<=i8)
  (q:∀ys n,1<=n->n<=i8->Sl (arrOf st) ys lo i8->jZ rk ys lo n->Q (some n) (setArr st ys)):wpS M A E s (countRun' lo i8) Q st:=by
 rw[countRun'_eq];refine ah (cG (bG (I:=fun i (c:Option (Option Nat)×Nat) gm=>gm=st/\c.1=none/\c.2=i/\jZ rk (arrOf st) lo i)
  (Q:=fun(c:Option (Option Nat)×Nat) gm=>gm=st/\c.1=none/\1<=c.2/\c.2<=i8/\jZ rk (arrOf st) lo c.2/\(c.2<i8->kr rk (arrOf st) (lo+c.2)<kr rk (arrOf st) (lo+c.2-1))) ?_ ?_ ⟨rfl,rfl,rfl,fun i j jX hj=>by rw[show i=j by omega];exact cZ _⟩) ?_)
 ·rintro i ⟨c,n⟩ gm h2 h3 ⟨rfl,hc,e,hs⟩;dsimp only at hc e ⊢;subst hc e;refine ah (ux R hk oa (by omega) (by omega) ?_);dsimp only;by_cases gL:kr rk (arrOf gm) (lo+n)<kr rk (arrOf gm) (lo+n-1)
  ·simp only[gL,cy,aR];exact af ⟨rfl,rfl,h2,by dsimp only;omega,hs,fun _=>gL⟩
  ·simp only[gL,cE,aq,aP];exact af ⟨rfl,rfl,rfl,hs.more h2 (by omega)⟩
 ·rintro⟨c,n⟩ gm ⟨rfl,hc,e,hs⟩;dsimp only at hc e ⊢;subst e;exact⟨rfl,hc,by omega,by omega,hs,fun z=>by omega⟩
 ·rintro⟨c,n⟩ gm ⟨rfl,hc,n1,n2,hs,hd⟩;dsimp only at hc n1 n2 hs hd ⊢;subst hc;dsimp only;by_cases e1:n=i8
  ·rw[if_pos (by simpa using e1)];exact af (q (arrOf gm) n n1 n2 (Sl.refl _ _ _) hs)
  rw[if_neg (by simpa using e1)];have Yz:=hd (by omega);by_cases e2:n>1
  ·rw[if_pos e2];refine ah (ux R hk oa (by omega) (by omega) ?_);dsimp only;by_cases hr:kr rk (arrOf gm) lo<kr rk (arrOf gm) (lo+n-1)
   ·simp only[hr,cy,aR];exact af (q (arrOf gm) n n1 n2 (Sl.refl _ _ _) hs)
   ·simp only[hr,cE,aq,aP];have same:∀k,lo<=k->k<lo+n->kr rk (arrOf gm) k=kr rk (arrOf gm) (lo+n-1):=fun k k1 k2=>by
     have a1:=hs 0 (k-lo) (by omega) (by omega);have a2:=hs (k-lo) (n-1) (by omega) (by omega);rw[show lo+(k-lo)=k by omega] at a1 a2;rw[show lo+(n-1)=lo+n-1 by omega] at a2;simp only[Nat.add_zero] at a1;omega
    have km:=BA (rk:=rk) (xs:=arrOf gm) (i:=lo) (j:=lo+n) (by omega) same;have l0:=vU (xs:=arrOf gm) (i:=lo) (j:=lo+n) (lo:=lo) (n:=i8) (by omega) (by omega) (by omega);refine ah (vS ?_);generalize mirror (arrOf gm) lo (lo+n) ((lo+n-lo)/2)=y0 at km l0;have d0:Dec rk y0 lo (n+1):=by
     have dd:Dec rk y0 lo n:=fun i j jX hj=>by
      rw[km,km,same _ (by omega) (by omega),same (lo+i) (by omega) (by omega)];exact cZ _
     refine dd.more n1 ?_;rw[km,km];omega
    refine ah (yd ?_);refine ah (cG (bG (I:=fun i (c:Option (Option Nat)×Nat×Nat) gC=>∃ys,gC=setArr gm ys/\Sl (arrOf gm) ys lo i8/\c.1=none/\c.2.1=i/\Dec rk ys lo i/\c.2.2<i/\∀t,t<=c.2.2->kr rk ys (lo+i-1-t)=kr rk ys (lo+i-1))
     (Q:=fun(c:Option (Option Nat)×Nat×Nat) gC=>∃ys,gC=setArr gm ys/\Sl (arrOf gm) ys lo i8/\c.1=none/\1<=c.2.1/\c.2.1<=i8/\Dec rk ys lo c.2.1/\c.2.2<c.2.1/\∀t,t<=c.2.2->kr rk ys (lo+c.2.1-1-t)=kr rk ys (lo+c.2.1-1)) ?_ ?_ ⟨y0,rfl,l0,rfl,rfl,d0,by dsimp only;omega,fun t ht=>by rw[show t=0 by dsimp only at ht;omega];rfl⟩) ?_)
    ·rintro i ⟨c,n,e⟩ gC h2 h3 ⟨ys,rfl,ly,hc,ei,dy,en,eq⟩;dsimp only at hc ei en eq ⊢;subst hc ei;have ic:=ly.size;refine ah (ux R hk (ly.ok oa) (show lo+n<ys.size by omega) (show lo+n-1<ys.size by omega) ?_);dsimp only;by_cases gL:kr rk ys (lo+n)<kr rk ys (lo+n-1)
     ·rw[show decide (kr rk (arrOf (setArr gm ys)) (lo+n)<kr rk (arrOf (setArr gm ys)) (lo+n-1))=true from cg gL];simp only[aR];have dm:=dy.more (by omega) (cY gL);by_cases ep:e>0
      ·rw[if_pos ep]
       have km:=BA (rk:=rk) (xs:=ys) (i:=lo+n-(e+1)) (j:=lo+n) (by omega) (fun k k1 k2=>by
        have:=eq (lo+n-1-k) (by omega)
        rwa [show lo+n-1-(lo+n-1-k)=k by omega] at this)
       refine ah (vS ?_);refine af ⟨_,rfl,ly.trans (vU (by show lo+n<=ys.size;omega) (by omega) (by omega)),rfl,rfl,fun i j jX hj=>?_,by dsimp only;omega,fun t ht=>by rw[show t=0 by dsimp only at ht;omega];rfl⟩;have:=dm i j jX hj;rw[<-km,<-km] at this;exact this
      ·rw[if_neg ep];exact af ⟨ys,rfl,ly,rfl,rfl,dm,by dsimp only;omega,fun t ht=>by rw[show t=0 by dsimp only at ht;omega];rfl⟩
     ·rw[show decide (kr rk (arrOf (setArr gm ys)) (lo+n)<kr rk (arrOf (setArr gm ys)) (lo+n-1))=false from aX gL];simp only[aq,aP];refine ah (ux R hk (ly.ok oa) (show lo+n-1<ys.size by omega) (show lo+n<ys.size by omega) ?_);dsimp only;by_cases Cq:kr rk ys (lo+n-1)<kr rk ys (lo+n)
      ·rw[show decide (kr rk (arrOf (setArr gm ys)) (lo+n-1)<kr rk (arrOf (setArr gm ys)) (lo+n))=true from cg Cq];simp only[aR];exact af ⟨ys,rfl,ly,rfl,by dsimp only;omega,by dsimp only;omega,dy,en,eq⟩
      ·rw[show decide (kr rk (arrOf (setArr gm ys)) (lo+n-1)<kr rk (arrOf (setArr gm ys)) (lo+n))=false from aX Cq];simp only[aq,aP];refine af ⟨ys,rfl,ly,rfl,rfl,dy.more (by omega) (by omega),by dsimp only;omega,fun t ht=>?_⟩;dsimp only at ht;rw[show lo+(n+1)-1=lo+n by omega];by_cases t0:t=0
       ·subst t0;rfl
       ·have:=eq (t-1) (by omega);rw[show lo+n-1-(t-1)=lo+n-t by omega] at this;omega
    ·rintro⟨c,n,e⟩ gC ⟨ys,rfl,ly,hc,ei,dy,en,eq⟩;dsimp only at hc ei en eq ⊢;subst ei;exact⟨ys,rfl,ly,hc,by omega,by omega,dy,en,eq⟩
    ·rintro⟨c,n,e⟩ gC ⟨ys,rfl,ly,hc,n1,n2,dy,en,eq⟩;dsimp only at hc n1 n2 dy en eq ⊢;subst hc;dsimp only;have ic:=ly.size;by_cases ep:e>0
     ·rw[if_pos ep]
      have km:=BA (rk:=rk) (xs:=ys) (i:=lo+n-(e+1)) (j:=lo+n) (by omega) (fun k k1 k2=>by
       have:=eq (lo+n-1-k) (by omega)
       rwa [show lo+n-1-(lo+n-1-k)=k by omega] at this)
      refine ah (vS ?_);have lw:=ly.trans (vU (xs:=ys) (i:=lo+n-(e+1)) (j:=lo+n) (lo:=lo) (n:=i8) (by omega) (by omega) (by omega));show wpS M A E s _ Q (setArr gm (mirror ys (lo+n-(e+1)) (lo+n) ((lo+n-(lo+n-(e+1)))/2)));generalize mirror ys (lo+n-(e+1)) (lo+n) ((lo+n-(lo+n-(e+1)))/2)=ws at km lw;have dw:Dec rk ws lo n:=fun i j jX hj=>by
       have:=dy i j jX hj;rw[<-km,<-km] at this;exact this
      have hw:=lw.size;refine ah (vS ?_);have lz:=lw.trans (vU (xs:=ws) (i:=lo) (j:=lo+n) (lo:=lo) (n:=i8) (by omega) (by omega) (by omega));have hz:=dw.turn (by omega);show wpS M A E s _ Q (setArr gm (mirror ws lo (lo+n) ((lo+n-lo)/2)));generalize mirror ws lo (lo+n) ((lo+n-lo)/2)=zs at lz hz;refine ah (cG (bG (I:=fun i (c:Option (Option Nat)×Nat) gC=>gC=setArr gm zs/\c.1=none/\c.2=i/\jZ rk zs lo i)
       (Q:=fun(c:Option (Option Nat)×Nat) gC=>gC=setArr gm zs/\c.1=none/\1<=c.2/\c.2<=i8/\jZ rk zs lo c.2) ?_ ?_ ⟨rfl,rfl,rfl,hz⟩) ?_)
      ·rintro i ⟨c,n⟩ gC h2 h3 ⟨rfl,hc,e,hs⟩;dsimp only at hc e ⊢;subst hc e;refine ah (ux R hk (lz.ok oa) (show lo+n<zs.size by have:=lz.size;omega) (show lo+n-1<zs.size by have:=lz.size;omega) ?_);dsimp only;by_cases gL:kr rk zs (lo+n)<kr rk zs (lo+n-1)
       ·rw[show decide (kr rk (arrOf (setArr gm zs)) (lo+n)<kr rk (arrOf (setArr gm zs)) (lo+n-1))=true from cg gL];simp only[aR];exact af ⟨rfl,rfl,by dsimp only;omega,by dsimp only;omega,hs⟩
       ·rw[show decide (kr rk (arrOf (setArr gm zs)) (lo+n)<kr rk (arrOf (setArr gm zs)) (lo+n-1))=false from aX gL];simp only[aq,aP];exact af ⟨rfl,rfl,rfl,hs.more (by omega) (by omega)⟩
      ·rintro⟨c,n⟩ gC ⟨rfl,hc,e,hs⟩;dsimp only at hc e ⊢;subst e;exact⟨rfl,hc,by omega,by omega,hs⟩
      ·rintro⟨c,n⟩ gC ⟨rfl,hc,n1,n2,hs⟩;dsimp only at hc n1 n2 hs ⊢;subst hc;exact af (q zs n n1 n2 lz hs)
     ·rw[if_neg ep];refine ah (vS ?_);have lz:=ly.trans (vU (xs:=ys) (i:=lo) (j:=lo+n) (lo:=lo) (n:=i8) (by omega) (by omega) (by omega));have hz:=dy.turn (by omega);show wpS M A E s _ Q (setArr gm (mirror ys lo (lo+n) ((lo+n-lo)/2)));generalize mirror ys lo (lo+n) ((lo+n-lo)/2)=zs at lz hz;refine ah (cG (bG (I:=fun i (c:Option (Option Nat)×Nat) gC=>gC=setArr gm zs/\c.1=none/\c.2=i/\jZ rk zs lo i)
       (Q:=fun(c:Option (Option Nat)×Nat) gC=>gC=setArr gm zs/\c.1=none/\1<=c.2/\c.2<=i8/\jZ rk zs lo c.2) ?_ ?_ ⟨rfl,rfl,rfl,hz⟩) ?_)
      ·rintro i ⟨c,n⟩ gC h2 h3 ⟨rfl,hc,e,hs⟩;dsimp only at hc e ⊢;subst hc e;refine ah (ux R hk (lz.ok oa) (show lo+n<zs.size by have:=lz.size;omega) (show lo+n-1<zs.size by have:=lz.size;omega) ?_);dsimp only;by_cases gL:kr rk zs (lo+n)<kr rk zs (lo+n-1)
       ·rw[show decide (kr rk (arrOf (setArr gm zs)) (lo+n)<kr rk (arrOf (setArr gm zs)) (lo+n-1))=true from cg gL];simp only[aR];exact af ⟨rfl,rfl,by dsimp only;omega,by dsimp only;omega,hs⟩
       ·rw[show decide (kr rk (arrOf (setArr gm zs)) (lo+n)<kr rk (arrOf (setArr gm zs)) (lo+n-1))=false from aX gL];simp only[aq,aP];exact af ⟨rfl,rfl,rfl,hs.more (by omega) (by omega)⟩
      ·rintro⟨c,n⟩ gC ⟨rfl,hc,e,hs⟩;dsimp only at hc e ⊢;subst e;exact⟨rfl,hc,by omega,by omega,hs⟩
      ·rintro⟨c,n⟩ gC ⟨rfl,hc,n1,n2,hs⟩;dsimp only at hc n1 n2 hs ⊢;subst hc;exact af (q zs n n1 n2 lz hs)
  ·rw[if_neg e2];have Jh:n=1:=by omega
   have d0:Dec rk (arrOf gm) lo (n+1):=by
    have dd:Dec rk (arrOf gm) lo n:=fun i j jX hj=>by rw[show i=j by omega];exact cZ _
    exact dd.more n1 (by omega)
   have l0:=Sl.refl (arrOf gm) lo i8;obtain⟨y0,yE⟩:∃y,y=arrOf gm:=⟨_,rfl⟩
   rw[show gm=setArr gm y0 by rw[yE]];rw[<-yE] at d0;have l0:Sl (arrOf gm) y0 lo i8:=by rw[yE];exact Sl.refl _ _ _
   refine ah (yd ?_);refine ah (cG (bG (I:=fun i (c:Option (Option Nat)×Nat×Nat) gC=>∃ys,gC=setArr gm ys/\Sl (arrOf gm) ys lo i8/\c.1=none/\c.2.1=i/\Dec rk ys lo i/\c.2.2<i/\∀t,t<=c.2.2->kr rk ys (lo+i-1-t)=kr rk ys (lo+i-1))
    (Q:=fun(c:Option (Option Nat)×Nat×Nat) gC=>∃ys,gC=setArr gm ys/\Sl (arrOf gm) ys lo i8/\c.1=none/\1<=c.2.1/\c.2.1<=i8/\Dec rk ys lo c.2.1/\c.2.2<c.2.1/\∀t,t<=c.2.2->kr rk ys (lo+c.2.1-1-t)=kr rk ys (lo+c.2.1-1)) ?_ ?_ ⟨y0,rfl,l0,rfl,rfl,d0,by dsimp only;omega,fun t ht=>by rw[show t=0 by dsimp only at ht;omega];rfl⟩) ?_)
   ·rintro i ⟨c,n,e⟩ gC h2 h3 ⟨ys,rfl,ly,hc,ei,dy,en,eq⟩;dsimp only at hc ei en eq ⊢;subst hc ei;have ic:=ly.size;refine ah (ux R hk (ly.ok oa) (show lo+n<ys.size by omega) (show lo+n-1<ys.size by omega) ?_);dsimp only;by_cases gL:kr rk ys (lo+n)<kr rk ys (lo+n-1)
    ·rw[show decide (kr rk (arrOf (setArr gm ys)) (lo+n)<kr rk (arrOf (setArr gm ys)) (lo+n-1))=true from cg gL];simp only[aR];have dm:=dy.more (by omega) (cY gL);by_cases ep:e>0
     ·rw[if_pos ep]
      have km:=BA (rk:=rk) (xs:=ys) (i:=lo+n-(e+1)) (j:=lo+n) (by omega) (fun k k1 k2=>by
       have:=eq (lo+n-1-k) (by omega)
       rwa [show lo+n-1-(lo+n-1-k)=k by omega] at this)
      refine ah (vS ?_);refine af ⟨_,rfl,ly.trans (vU (by show lo+n<=ys.size;omega) (by omega) (by omega)),rfl,rfl,fun i j jX hj=>?_,by dsimp only;omega,fun t ht=>by rw[show t=0 by dsimp only at ht;omega];rfl⟩;have:=dm i j jX hj;rw[<-km,<-km] at this;exact this
     ·rw[if_neg ep];exact af ⟨ys,rfl,ly,rfl,rfl,dm,by dsimp only;omega,fun t ht=>by rw[show t=0 by dsimp only at ht;omega];rfl⟩
    ·rw[show decide (kr rk (arrOf (setArr gm ys)) (lo+n)<kr rk (arrOf (setArr gm ys)) (lo+n-1))=false from aX gL];simp only[aq,aP];refine ah (ux R hk (ly.ok oa) (show lo+n-1<ys.size by omega) (show lo+n<ys.size by omega) ?_);dsimp only;by_cases Cq:kr rk ys (lo+n-1)<kr rk ys (lo+n)
     ·rw[show decide (kr rk (arrOf (setArr gm ys)) (lo+n-1)<kr rk (arrOf (setArr gm ys)) (lo+n))=true from cg Cq];simp only[aR];exact af ⟨ys,rfl,ly,rfl,by dsimp only;omega,by dsimp only;omega,dy,en,eq⟩
     ·rw[show decide (kr rk (arrOf (setArr gm ys)) (lo+n-1)<kr rk (arrOf (setArr gm ys)) (lo+n))=false from aX Cq];simp only[aq,aP];refine af ⟨ys,rfl,ly,rfl,rfl,dy.more (by omega) (by omega),by dsimp only;omega,fun t ht=>?_⟩;dsimp only at ht;rw[show lo+(n+1)-1=lo+n by omega];by_cases t0:t=0
      ·subst t0;rfl
      ·have:=eq (t-1) (by omega);rw[show lo+n-1-(t-1)=lo+n-t by omega] at this;omega
   ·rintro⟨c,n,e⟩ gC ⟨ys,rfl,ly,hc,ei,dy,en,eq⟩;dsimp only at hc ei en eq ⊢;subst ei;exact⟨ys,rfl,ly,hc,by omega,by omega,dy,en,eq⟩
   ·rintro⟨c,n,e⟩ gC ⟨ys,rfl,ly,hc,n1,n2,dy,en,eq⟩;dsimp only at hc n1 n2 dy en eq ⊢;subst hc;dsimp only;have ic:=ly.size;by_cases ep:e>0
    ·rw[if_pos ep]
     have km:=BA (rk:=rk) (xs:=ys) (i:=lo+n-(e+1)) (j:=lo+n) (by omega) (fun k k1 k2=>by
      have:=eq (lo+n-1-k) (by omega)
      rwa [show lo+n-1-(lo+n-1-k)=k by omega] at this)
     refine ah (vS ?_);have lw:=ly.trans (vU (xs:=ys) (i:=lo+n-(e+1)) (j:=lo+n) (lo:=lo) (n:=i8) (by omega) (by omega) (by omega));show wpS M A E s _ Q (setArr gm (mirror ys (lo+n-(e+1)) (lo+n) ((lo+n-(lo+n-(e+1)))/2)));generalize mirror ys (lo+n-(e+1)) (lo+n) ((lo+n-(lo+n-(e+1)))/2)=ws at km lw;have dw:Dec rk ws lo n:=fun i j jX hj=>by
      have:=dy i j jX hj;rw[<-km,<-km] at this;exact this
     have hw:=lw.size;refine ah (vS ?_);have lz:=lw.trans (vU (xs:=ws) (i:=lo) (j:=lo+n) (lo:=lo) (n:=i8) (by omega) (by omega) (by omega));have hz:=dw.turn (by omega);show wpS M A E s _ Q (setArr gm (mirror ws lo (lo+n) ((lo+n-lo)/2)));generalize mirror ws lo (lo+n) ((lo+n-lo)/2)=zs at lz hz;refine ah (cG (bG (I:=fun i (c:Option (Option Nat)×Nat) gC=>gC=setArr gm zs/\c.1=none/\c.2=i/\jZ rk zs lo i)
      (Q:=fun(c:Option (Option Nat)×Nat) gC=>gC=setArr gm zs/\c.1=none/\1<=c.2/\c.2<=i8/\jZ rk zs lo c.2) ?_ ?_ ⟨rfl,rfl,rfl,hz⟩) ?_)
     ·rintro i ⟨c,n⟩ gC h2 h3 ⟨rfl,hc,e,hs⟩;dsimp only at hc e ⊢;subst hc e;refine ah (ux R hk (lz.ok oa) (show lo+n<zs.size by have:=lz.size;omega) (show lo+n-1<zs.size by have:=lz.size;omega) ?_);dsimp only;by_cases gL:kr rk zs (lo+n)<kr rk zs (lo+n-1)
      ·rw[show decide (kr rk (arrOf (setArr gm zs)) (lo+n)<kr rk (arrOf (setArr gm zs)) (lo+n-1))=true from cg gL];simp only[aR];exact af ⟨rfl,rfl,by dsimp only;omega,by dsimp only;omega,hs⟩
      ·rw[show decide (kr rk (arrOf (setArr gm zs)) (lo+n)<kr rk (arrOf (setArr gm zs)) (lo+n-1))=false from aX gL];simp only[aq,aP];exact af ⟨rfl,rfl,rfl,hs.more (by omega) (by omega)⟩
     ·rintro⟨c,n⟩ gC ⟨rfl,hc,e,hs⟩;dsimp only at hc e ⊢;subst e;exact⟨rfl,hc,by omega,by omega,hs⟩
     ·rintro⟨c,n⟩ gC ⟨rfl,hc,n1,n2,hs⟩;dsimp only at hc n1 n2 hs ⊢;subst hc;exact af (q zs n n1 n2 lz hs)
    ·rw[if_neg ep];refine ah (vS ?_);have lz:=ly.trans (vU (xs:=ys) (i:=lo) (j:=lo+n) (lo:=lo) (n:=i8) (by omega) (by omega) (by omega));have hz:=dy.turn (by omega);show wpS M A E s _ Q (setArr gm (mirror ys lo (lo+n) ((lo+n-lo)/2)));generalize mirror ys lo (lo+n) ((lo+n-lo)/2)=zs at lz hz;refine ah (cG (bG (I:=fun i (c:Option (Option Nat)×Nat) gC=>gC=setArr gm zs/\c.1=none/\c.2=i/\jZ rk zs lo i)
      (Q:=fun(c:Option (Option Nat)×Nat) gC=>gC=setArr gm zs/\c.1=none/\1<=c.2/\c.2<=i8/\jZ rk zs lo c.2) ?_ ?_ ⟨rfl,rfl,rfl,hz⟩) ?_)
     ·rintro i ⟨c,n⟩ gC h2 h3 ⟨rfl,hc,e,hs⟩;dsimp only at hc e ⊢;subst hc e;refine ah (ux R hk (lz.ok oa) (show lo+n<zs.size by have:=lz.size;omega) (show lo+n-1<zs.size by have:=lz.size;omega) ?_);dsimp only;by_cases gL:kr rk zs (lo+n)<kr rk zs (lo+n-1)
      ·rw[show decide (kr rk (arrOf (setArr gm zs)) (lo+n)<kr rk (arrOf (setArr gm zs)) (lo+n-1))=true from cg gL];simp only[aR];exact af ⟨rfl,rfl,by dsimp only;omega,by dsimp only;omega,hs⟩
      ·rw[show decide (kr rk (arrOf (setArr gm zs)) (lo+n)<kr rk (arrOf (setArr gm zs)) (lo+n-1))=false from aX gL];simp only[aq,aP];exact af ⟨rfl,rfl,rfl,hs.more (by omega) (by omega)⟩
     ·rintro⟨c,n⟩ gC ⟨rfl,hc,e,hs⟩;dsimp only at hc e ⊢;subst e;exact⟨rfl,hc,by omega,by omega,hs⟩
     ·rintro⟨c,n⟩ gC ⟨rfl,hc,n1,n2,hs⟩;dsimp only at hc n1 n2 hs ⊢;subst hc;exact af (q zs n n1 n2 lz hs)
noncomputable def starts:Nat->List (List Keyed)->List (Nat×Nat)
 | _,[]=>[]
 | st,X::Xs=>(st,X.length)::starts (st+X.length) Xs
noncomputable abbrev ft(t:Nat×Nat×Nat):Nat×Nat:=(t.1,t.2.1)
theorem D5:∀(st:Nat) (Xs:List (List Keyed)),(starts st Xs).length=Xs.length
 | _,[]=>rfl
 | st,X::Xs=>by simp[starts,D5]
theorem GZ:∀(st:Nat) (Xs:List (List Keyed)) (W:List Keyed),starts st (Xs++[W])=starts st Xs++[(st+Xs.flatten.length,W.length)]
 | st,[],W=>by simp[starts]
 | st,X::Xs,W=>by
  simp only[c9,starts,GZ (st+X.length) Xs W,fQ,au];rw[show st+X.length+Xs.flatten.length=st+(X.length+Xs.flatten.length) by omega]
theorem Gg:∀(st:Nat) (lp:List (List Keyed)) (X:List Keyed) (Xs2:List (List Keyed)),(starts st (lp++X::Xs2))[lp.length]?=some (st+lp.flatten.length,X.length)
 | st,[],X,Xs2=>by simp[starts]
 | st,A::lp,X,Xs2=>by
  simp only[c9,starts,aG,cj,Gg (st+A.length) lp X Xs2,fQ,au];rw[show st+A.length+lp.flatten.length=st+(A.length+lp.flatten.length) by omega]
theorem M9{X Y Z:List Keyed}{Xs2:List (List Keyed)}(hz:Z.length=X.length+Y.length):∀(st:Nat) (lp:List (List Keyed)),((starts st (lp++X::Y::Xs2)).set lp.length (st+lp.flatten.length,X.length+Y.length)).eraseIdx (lp.length+1)=starts st (lp++Z::Xs2)
 | st,[]=>by
  simp[starts,hz,Nat.add_assoc]
 | st,A::lp=>by
  have ih:=M9 (Xs2:=Xs2) hz (st+A.length) lp;simp only[c9,starts,aG,List.set_cons_succ,dD,fQ,au];rw[show st+(A.length+lp.flatten.length)=st+A.length+lp.flatten.length by omega,ih]
theorem Nf{α β:Type}(f:α->β):∀(l:List α) (n:Nat),(l.map f).eraseIdx n=(l.eraseIdx n).map f
 | [],_=>rfl
 | a::r,0=>rfl
 | a::r,n+1=>by show f a::(r.map f).eraseIdx n=_;rw[Nf f r n];rfl
structure RI (rk:Keyed->Int) (a0 arr:Array Keyed) (pend:Array (Nat×Nat×Nat)) (Xs:List (List Keyed)) (S:List Keyed):Prop where
 pm:arr.toList.Perm a0.toList
 dec:arr.toList=Xs.flatten++S
 so:∀X∈Xs,iY rk X/\0<X.length
 ps:pend.toList.map ft=starts 0 Xs
theorem R4{Xs:List (List Keyed)}{i:Nat}(h:i+1<Xs.length):∃lp X Y Xs2,Xs=lp++X::Y::Xs2/\lp.length=i:=by
 refine⟨Xs.take i,Xs[i],Xs[i+1],Xs.drop (i+2),?_,by simp;omega⟩;rw[<-bS,<-bS,bQ]
theorem KZ{pend:Array (Nat×Nat×Nat)}{i a n:Nat}{l:List (Nat×Nat)}(h:pend.toList.map ft=l)(e:l[i]?=some (a,n)):∃p,pend[i]?=some (a,n,p):=by
 rw[<-h,aH,cL] at e;cases hp:pend[i]? with
 | none=>rw[hp] at e;cases e
 | some t=>
  rw[hp] at e;obtain⟨x,y,z⟩:=t;simp at e;obtain⟨rfl,rfl⟩:=e;exact⟨z,rfl⟩
variable {M:Model} {A:Around} {E:Value->Shared->Prop} {s:Shared}
theorem Gb{κ:SortKind}{ok:Keyed->Prop}{rk:Keyed->Int}(R:Rk M A E s κ ok rk){a0:Array Keyed}{Xs:List (List Keyed)}{S:List Keyed}{i:Nat}{Q:Bool->SortSt->Prop}{st:SortSt}(hk:kindOf st=κ)(hf:failedOf st=none)(oa:∀x∈a0,ok x)
  (h:RI rk a0 (arrOf st) (pendingOf st) Xs S) (hi:i+1<Xs.length)
  (q:∀gm Ys,kindOf gm=κ->failedOf gm=none->RI rk a0 (arrOf gm) (pendingOf gm) Ys S->Ys.length+1=Xs.length->Ys.flatten.length=Xs.flatten.length->Q true gm):wpS M A E s (mergeAt' i) Q st:=by
 obtain⟨lp,X,Y,Xs2,rfl,rfl⟩:=R4 hi;obtain⟨pa,p1⟩:=KZ h.ps (Gg 0 lp X (Y::Xs2));have e2:=Gg 0 (lp++[X]) Y Xs2;rw[show lp++[X]++Y::Xs2=lp++X::Y::Xs2 by simp,au,List.length_singleton] at e2;obtain⟨pb,p2⟩:=KZ h.ps e2;rw[fc] at p1 p2;rw[show(lp++[X]).flatten.length=lp.flatten.length+X.length by simp] at p2;have sX:=h.so X (by simp);have sY:=h.so Y (by simp);have hd:(arrOf st).toList=lp.flatten++(X++(Y++(Xs2.flatten++S))):=by rw[h.dec];simp
 refine U8 R hk hf (fun x hx=>oa x ?_) hd p1 p2 sX.2 sY.2 sX.1 sY.1 fun Z g zp zs=>?_
 ·have:=h.pm.mem_iff.mp (bV.mpr hx);exact bV.mp this
 ·have zl:Z.length=X.length+Y.length:=by rw[zp.length_eq,au]
  refine q _ (lp++Z::Xs2) rfl rfl ⟨?_,?_,fun W hW=>?_,?_⟩ (by simp only[au,aG];omega) (by simp[zl];omega)
  ·refine List.Perm.trans ?_ h.pm;rw[hd];show(lp.flatten++(Z++(Xs2.flatten++S))).Perm _;refine cM _ ?_;rw[<-aM X];exact zp.append_right _
  ·show lp.flatten++(Z++(Xs2.flatten++S))=_;simp
  ·rcases av.mp hW with hW | hW
   ·exact h.so W (by simp[hW])
   ·rcases ar.mp hW with rfl | hW
    ·exact⟨zs,by have:=sX.2;omega⟩
    ·exact h.so W (by simp[hW])
  ·have:=M9 (X:=X) (Y:=Y) (Z:=Z) (Xs2:=Xs2) zl 0 lp;rw[<-this,<-h.ps,fc];show List.map ft ((((pendingOf st).setIfInBounds lp.length (lp.flatten.length,X.length+Y.length,pa)).eraseIdxIfInBounds (lp.length+1)).toList)=_;rw[Array.toList_eraseIdxIfInBounds,Array.toList_setIfInBounds,<-Nf,List.map_set]
theorem Ki{rk:Keyed->Int}{xs ys:Array Keyed}{F S:List Keyed}{m n:Nat}(h:Sl xs ys F.length m)(hd:xs.toList=F++S)(hs:jZ rk ys F.length n)(hn:F.length+n<=xs.size):∃W S2,ys.toList=F++(W++S2)/\W.length=n/\iY rk W:=by
 have ic:=h.size;have e1:ys.toList.take F.length=F:=by
  have:ys.toList.take F.length=xs.toList.take F.length:=by
   apply eU;intro i;rw[List.getElem?_take,List.getElem?_take];split
   ·rw[cL,cL];exact h.out i (.inl (by assumption))
   ·rfl
  rw[this,hd,List.take_left]
 refine⟨(ys.toList.drop F.length).take n,(ys.toList.drop F.length).drop n,?_,by simp;omega,?_⟩
 ·rw[bQ];conv=>lhs;rw[<-bQ F.length ys.toList,e1]
 ·refine et.mpr fun i j hi hj jX=>?_
  have Yr:j<n:=by simp at hj;omega
  have:=hs i j (by omega) Yr;unfold kr at this;rw[jU (by omega),jU (by omega)] at this;simpa[eV,fP] using this
variable {M:Model} {A:Around} {E:Value->Shared->Prop} {s:Shared}
theorem MV(p:Array (Nat×Nat×Nat))(k:Nat)(f:Nat×Nat×Nat->Nat×Nat×Nat)(h:∀x,ft (f x)=ft x):(p.modify k f).toList.map ft=p.toList.map ft:=by
 apply eU;intro i;rw[aH,aH,cL,cL,Array.getElem?_modify];split
 ·cases p[i]? with
  | none=>rfl
  | some x=>simp only[ez,h]
 ·rfl
theorem KY:∀(Xs:List (List Keyed)),(∀X∈Xs,0<X.length)->Xs.length<=Xs.flatten.length
 | [],_=>aA _
 | X::Xs,h=>by
  have h1:=h X (by simp);have h2:=KY Xs fun Y hY=>h Y (by simp[hY])
  rw[fQ,au,aG];omega
theorem Sl.wide{xs ys:Array Keyed}{lo n m:Nat}(h:Sl xs ys lo n)(hn:n<=m):Sl xs ys lo m:=⟨h.pm,fun j hj=>h.out j (by omega)⟩
theorem R3{κ:SortKind}{ok:Keyed->Prop}{rk:Keyed->Int}(R:Rk M A E s κ ok rk){Q:Unit->SortSt->Prop}{st:SortSt}(hk:kindOf st=κ)(hf:failedOf st=none)(hp:pendingOf st=#[])(oa:∀x∈arrOf st,ok x)
  (q:∀gm,(arrOf gm).toList.Perm (arrOf st).toList->iY rk (arrOf gm).toList->failedOf gm=none->Q () gm):wpS M A E s sortRuns' Q st:=by
 rw[sortRuns'_eq];refine ah (fB ?_);dsimp only;generalize Zy:minRun' (arrOf st).size (arrOf st).size 0=mr;generalize ic:(arrOf st).size=sz;have h0:RI rk (arrOf st) (arrOf st) (pendingOf st) [] (arrOf st).toList:=⟨List.Perm.refl _,rfl,fun X hX=>(by cases hX),by rw[hp];rfl⟩
 refine ah (cG (bG (I:=fun i (c:Option Unit×Nat) gm=>c.1=none/\kindOf gm=κ/\failedOf gm=none/\∃Xs S,RI rk (arrOf st) (arrOf gm) (pendingOf gm) Xs S/\Xs.flatten.length=c.2/\c.2<=sz/\i<=c.2)
  (Q:=fun(c:Option Unit×Nat) gm=>c.1=none/\kindOf gm=κ/\failedOf gm=none/\∃Xs,RI rk (arrOf st) (arrOf gm) (pendingOf gm) Xs []) ?_ ?_ ⟨rfl,hk,hf,[],_,h0,rfl,a9 _,aA _⟩) ?_)
 ·rintro i ⟨c,lo⟩ gm _ hi ⟨hc,k',f',Xs,S,ri,Ck,hle,vx⟩;dsimp only at hc Ck hle vx ⊢;subst hc Ck;have as:(arrOf gm).size=sz:=by rw[<-ic,<-ag,<-ag];exact ri.pm.length_eq
  have NG:∀x∈arrOf gm,ok x:=fun x hx=>oa x (bV.mp (ri.pm.mem_iff.mp (bV.mpr hx)))
  have sl:Xs.flatten.length+S.length=sz:=by rw[<-as,<-ag,ri.dec,au]
  by_cases hd:Xs.flatten.length>=sz
  ·rw[if_pos hd];have:S=[]:=List.length_eq_zero_iff.mp (by omega);subst this;exact af ⟨rfl,k',f',Xs,ri⟩
  rw[if_neg hd];refine ah (TK R k' NG (by omega) (by omega) fun ys n n1 n2 El Nw=>?_);dsimp only;split
  ·refine ah (yd ?_);refine ah (Ug R (st:=setArr gm ys) k' (El.ok NG) (show _<=ys.size by have:=El.size;omega) Nw (by omega) fun zs Hz Ek=>?_);simp only[eF,aq,aP];have zW:Sl (arrOf gm) zs Xs.flatten.length (sz-Xs.flatten.length):=El.trans (Hz.wide (by omega));show wpS M A E s _ _ (setArr gm zs);obtain⟨W,S2,dz,wl,ws⟩:=Ki zW ri.dec Ek (by omega);have rz:RI rk (arrOf st) zs (pendingOf gm) Xs (W++S2):=⟨(Array.perm_iff_toList_perm.mp zW.pm).trans ri.pm,dz,ri.so,ri.ps⟩
   have ent:∀(gC:SortSt) (Ys:List (List Keyed)),kindOf gC=κ->failedOf gC=none->RI rk (arrOf st) (arrOf gC) (pendingOf gC) Ys (W++S2)->Ys.flatten.length=Xs.flatten.length->∃Zs S3,RI rk (arrOf st) (arrOf gC) ((pendingOf gC).push (Xs.flatten.length,min (sz-Xs.flatten.length) mr,0)) Zs S3/\Zs.flatten.length=Xs.flatten.length+min (sz-Xs.flatten.length) mr:=fun gC Ys k2 f2 r2 l2=>by
    refine⟨Ys++[W],S2,⟨r2.pm,by rw[r2.dec];simp,fun X hX=>?_,?_⟩,by simp[l2,wl]⟩
    ·rcases av.mp hX with hX | hX
     ·exact r2.so X hX
     ·simp at hX;subst hX;exact⟨ws,by omega⟩
    ·rw[aF,aI,r2.ps,GZ,l2,wl,fc];rfl
   refine ah (fB ?_);cases YC:(pendingOf (setArr gm zs)).back? with
   | none=>
    dsimp only;refine ah (cJ (af ?_));obtain⟨Zs,S3,r3,l3⟩:=ent (setArr gm zs) Xs k' f' rz rfl;exact⟨rfl,k',f',Zs,S3,r3,l3,by dsimp only;omega,by dsimp only;omega⟩
   | some t=>
    obtain⟨s1,t1,p1⟩:=t;dsimp only;refine ah (cG (bG (I:=fun j (c:Option Unit×Unit) gC=>c.1=none/\kindOf gC=κ/\failedOf gC=none/\∃Ys,RI rk (arrOf st) (arrOf gC) (pendingOf gC) Ys (W++S2)/\Ys.flatten.length=Xs.flatten.length)
     (Q:=fun(c:Option Unit×Unit) gC=>c.1=none/\kindOf gC=κ/\failedOf gC=none/\∃Ys,RI rk (arrOf st) (arrOf gC) (pendingOf gC) Ys (W++S2)/\Ys.flatten.length=Xs.flatten.length) ?_ ?_ ⟨rfl,k',f',Xs,rz,rfl⟩) ?_)
    ·rintro j ⟨c,⟨⟩⟩ gC _ hj ⟨hc,k2,f2,Ys,r2,l2⟩;dsimp only at hc ⊢;subst hc;refine ah (fB ?_);have pl:(pendingOf gC).size=Ys.length:=by
      have:=eG List.length r2.ps;rwa [ae,ag,D5] at this
     by_cases big:(pendingOf gC).size>1
     ·rw[if_pos big,cF (show(pendingOf gC).size-2<(pendingOf gC).size by omega)];generalize (pendingOf gC)[(pendingOf gC).size-2]'(by omega)=u;obtain⟨u1,u2,u3⟩:=u;dsimp only;split
      ·exact af ⟨rfl,k2,f2,Ys,r2,l2⟩
      ·refine ah (Gb R k2 f2 oa r2 (by omega) fun BK Zs k3 f3 r3 _ l3=>?_);simp only[eF,aq,aP];exact af ⟨rfl,k3,f3,Zs,r3,by rw[l3,l2]⟩
     ·rw[if_neg big];dsimp only;exact af ⟨rfl,k2,f2,Ys,r2,l2⟩
    ·rintro⟨c,⟨⟩⟩ gC h;exact h
    ·rintro⟨c,⟨⟩⟩ gC ⟨hc,k2,f2,Ys,r2,l2⟩;dsimp only at hc ⊢;subst hc;dsimp only;refine ah (cJ (ah (cJ (af ?_))));obtain⟨Zs,S3,r3,l3⟩:=ent (setPending gC ((pendingOf gC).modify ((pendingOf gC).size-1) fun x=>(x.1,x.2.1,power' sz (2*s1+t1) (2*s1+t1+t1+min (sz-Xs.flatten.length) mr) sz))) Ys k2 f2 ⟨r2.pm,r2.dec,r2.so,by rw[<-r2.ps];exact MV _ _ _ fun x=>rfl⟩ l2;exact⟨rfl,k2,f2,Zs,S3,r3,l3,by dsimp only;omega,by dsimp only;omega⟩
  ·have zW:=El;have Ek:=Nw;generalize ys=zs at zW Ek;obtain⟨W,S2,dz,wl,ws⟩:=Ki zW ri.dec Ek (by omega);have rz:RI rk (arrOf st) zs (pendingOf gm) Xs (W++S2):=⟨(Array.perm_iff_toList_perm.mp zW.pm).trans ri.pm,dz,ri.so,ri.ps⟩
   have ent:∀(gC:SortSt) (Ys:List (List Keyed)),kindOf gC=κ->failedOf gC=none->RI rk (arrOf st) (arrOf gC) (pendingOf gC) Ys (W++S2)->Ys.flatten.length=Xs.flatten.length->∃Zs S3,RI rk (arrOf st) (arrOf gC) ((pendingOf gC).push (Xs.flatten.length,n,0)) Zs S3/\Zs.flatten.length=Xs.flatten.length+n:=fun gC Ys k2 f2 r2 l2=>by
    refine⟨Ys++[W],S2,⟨r2.pm,by rw[r2.dec];simp,fun X hX=>?_,?_⟩,by simp[l2,wl]⟩
    ·rcases av.mp hX with hX | hX
     ·exact r2.so X hX
     ·simp at hX;subst hX;exact⟨ws,by omega⟩
    ·rw[aF,aI,r2.ps,GZ,l2,wl,fc];rfl
   refine ah (fB ?_);cases YC:(pendingOf (setArr gm zs)).back? with
   | none=>
    dsimp only;refine ah (cJ (af ?_));obtain⟨Zs,S3,r3,l3⟩:=ent (setArr gm zs) Xs k' f' rz rfl;exact⟨rfl,k',f',Zs,S3,r3,l3,by dsimp only;omega,by dsimp only;omega⟩
   | some t=>
    obtain⟨s1,t1,p1⟩:=t;dsimp only;refine ah (cG (bG (I:=fun j (c:Option Unit×Unit) gC=>c.1=none/\kindOf gC=κ/\failedOf gC=none/\∃Ys,RI rk (arrOf st) (arrOf gC) (pendingOf gC) Ys (W++S2)/\Ys.flatten.length=Xs.flatten.length)
     (Q:=fun(c:Option Unit×Unit) gC=>c.1=none/\kindOf gC=κ/\failedOf gC=none/\∃Ys,RI rk (arrOf st) (arrOf gC) (pendingOf gC) Ys (W++S2)/\Ys.flatten.length=Xs.flatten.length) ?_ ?_ ⟨rfl,k',f',Xs,rz,rfl⟩) ?_)
    ·rintro j ⟨c,⟨⟩⟩ gC _ hj ⟨hc,k2,f2,Ys,r2,l2⟩;dsimp only at hc ⊢;subst hc;refine ah (fB ?_);have pl:(pendingOf gC).size=Ys.length:=by
      have:=eG List.length r2.ps;rwa [ae,ag,D5] at this
     by_cases big:(pendingOf gC).size>1
     ·rw[if_pos big,cF (show(pendingOf gC).size-2<(pendingOf gC).size by omega)];generalize (pendingOf gC)[(pendingOf gC).size-2]'(by omega)=u;obtain⟨u1,u2,u3⟩:=u;dsimp only;split
      ·exact af ⟨rfl,k2,f2,Ys,r2,l2⟩
      ·refine ah (Gb R k2 f2 oa r2 (by omega) fun BK Zs k3 f3 r3 _ l3=>?_);simp only[eF,aq,aP];exact af ⟨rfl,k3,f3,Zs,r3,by rw[l3,l2]⟩
     ·rw[if_neg big];dsimp only;exact af ⟨rfl,k2,f2,Ys,r2,l2⟩
    ·rintro⟨c,⟨⟩⟩ gC h;exact h
    ·rintro⟨c,⟨⟩⟩ gC ⟨hc,k2,f2,Ys,r2,l2⟩;dsimp only at hc ⊢;subst hc;dsimp only;refine ah (cJ (ah (cJ (af ?_))));obtain⟨Zs,S3,r3,l3⟩:=ent (setPending gC ((pendingOf gC).modify ((pendingOf gC).size-1) fun x=>(x.1,x.2.1,power' sz (2*s1+t1) (2*s1+t1+t1+n) sz))) Ys k2 f2 ⟨r2.pm,r2.dec,r2.so,by rw[<-r2.ps];exact MV _ _ _ fun x=>rfl⟩ l2;exact⟨rfl,k2,f2,Zs,S3,r3,l3,by dsimp only;omega,by dsimp only;omega⟩
 ·rintro⟨c,lo⟩ gm ⟨hc,k',f',Xs,S,ri,Ck,hle,vx⟩;dsimp only at hc Ck hle vx ⊢;rw[cR (a9 _)] at vx;have as:(arrOf gm).size=sz:=by rw[<-ic,<-ag,<-ag];exact ri.pm.length_eq
  have sl:Xs.flatten.length+S.length=sz:=by rw[<-as,<-ag,ri.dec,au]
  have:S=[]:=List.length_eq_zero_iff.mp (by omega);subst this;exact⟨hc,k',f',Xs,ri⟩
 ·rintro⟨c,lo⟩ gm ⟨hc,k',f',Xs,ri⟩;dsimp only at hc ⊢;subst hc;dsimp only;have as:(arrOf gm).size=sz:=by rw[<-ic,<-ag,<-ag];exact ri.pm.length_eq
  have fl:Xs.flatten.length=sz:=by rw[<-as,<-ag,ri.dec];simp
  have xl:=KY Xs fun X hX=>(ri.so X hX).2
  refine ah (cG (bG (I:=fun j (c:Option Unit×Unit) gC=>c.1=none/\kindOf gC=κ/\failedOf gC=none/\∃Ys,RI rk (arrOf st) (arrOf gC) (pendingOf gC) Ys []/\Ys.length+j<=sz)
   (Q:=fun(c:Option Unit×Unit) gC=>c.1=none/\kindOf gC=κ/\failedOf gC=none/\∃Ys,RI rk (arrOf st) (arrOf gC) (pendingOf gC) Ys []/\Ys.length<=1) ?_ ?_ ⟨rfl,k',f',Xs,ri,by omega⟩) ?_)
  ·rintro j ⟨c,⟨⟩⟩ gC _ hj ⟨hc,k2,f2,Ys,r2,l2⟩;dsimp only at hc ⊢;subst hc;refine ah (fB ?_);have pl:(pendingOf gC).size=Ys.length:=by
    have:=eG List.length r2.ps;rwa [ae,ag,D5] at this
   by_cases sm:(pendingOf gC).size<=1
   ·rw[if_pos sm];exact af ⟨rfl,k2,f2,Ys,r2,by omega⟩
   rw[if_neg sm];have ix:∀(p:Prop) [Decidable p],(if p then(pendingOf gC).size-2-1 else(pendingOf gC).size-2)+1<Ys.length:=fun p _=>by split<;>omega
   refine ah (Gb R k2 f2 oa r2 (ix _) fun BK Zs k3 f3 r3 l3 _=>?_);simp only[eF,aq,aP];exact af ⟨rfl,k3,f3,Zs,r3,by omega⟩
  ·rintro⟨c,⟨⟩⟩ gC ⟨hc,k2,f2,Ys,r2,l2⟩;rw[cR (a9 _)] at l2;exact⟨hc,k2,f2,Ys,r2,by omega⟩
  ·rintro⟨c,⟨⟩⟩ gC ⟨hc,k2,f2,Ys,r2,l2⟩;dsimp only at hc ⊢;subst hc;refine af (q gC r2.pm ?_ f2);rw[r2.dec,ba];match Ys,l2,r2.so with
   | [],_,_=>exact .nil
   | [X],_,so=>simpa using (so X (by simp)).1
section
variable {prog:Program} {w:World} {A:Around} {E:Value->Shared->Prop} {s:Shared}
structure Ky (prog:Program) (w:World) (A:Around) (s:Shared) (κ:SortKind) (ok:Keyed->Prop) (rk:Keyed->Int):Prop where
 key:∀x y (C:Bool->Shared->Prop),ok x->ok y->C (decide (rk x<rk y)) s->wpAny (model prog w) A (keyLt' κ x.1 y.1) C (fun _ _=>False) s
def lY(n:Nat):Prop:=∀{prog:Program} {w:World} {A:Around} {E:Value->Shared->Prop} {s:Shared} {κ:SortKind} {rk:Keyed->Int} {it:Array Keyed} (R:Ky prog w A s κ (fun x=>x∈it) rk) {Q:Unit->SortSt->Prop},it.size=n->
 (∀gm,(arrOf gm).toList.Perm it.toList->iY rk (arrOf gm).toList->failedOf gm=none->Q () gm)->wpS (model prog w) A E s sortRuns' Q (SortSt.mk' κ it #[] 7 none)
structure Ask (prog:Program) (w:World) (A:Around) (E:Value->Shared->Prop) (vs:List Value) (rk:Keyed->Int) (s:Shared):Prop where
 ask:2<=vs.length->∃κ,(∀Q':SortKind->Shared->Prop,Q' κ s->wpAny (model prog w) A (keyKind' vs.toArray) Q' E s)/\Ky prog w A s κ (fun x=>x∈pairsOf vs) rk
theorem TJ{rk:Keyed->Int}{l:List Keyed}(h:l.length<2):iY rk l:=by
 cases l with
 | nil=>exact .nil
 | cons a r=>
  cases r with
  | nil=>exact List.pairwise_singleton _ _
  | cons b t=>
   simp only[aG] at h;omega
theorem U7{a:Addr}{vs:List Value}{n:Nat}{P:Fin->Shared->Prop}{rk:Keyed->Int}(ho:s.heap.get? a=some (seqObj "list" vs.toArray n))(hl:vs.length<=sizeLine)(hr:2<=vs.length->lY vs.length)
  (R:∀h',(∀b o,b≠a->s.heap.get? b=some o->h'.get? b=some o)->Ask prog w A E vs rk { s with heap:=h' })
  (h:∀gm:SortSt,(arrOf gm).toList.Perm (pairsOf vs).toList->iY rk (arrOf gm).toList->P (.done (.ret .none)) { s with heap:=sortedHeap s.heap a vs ((arrOf gm).map (·.2)) }) :
  wpAny (model prog w) A (Builtin.«list.sort» ⟨[.ref a],[]⟩) P E s:=by
 rw[list_sort_plain];have ha:a<s.heap.objs.size:=aE ho;refine aa (listItems_at ho rfl ?_);refine aa (listUpdate_at ho rfl ?_ (by simpa using hl) (a9 _));obtain⟨e1,NY⟩:∃e1,(s.heap.update a (Obj.mapSeq fun _=>#[])).get? a=some (seqObj "list" #[] e1):=⟨_,get?_update_seq ho (fun _=>#[])⟩
 refine aa (seqEpoch_at NY rfl ?_);refine aa (wpAny_newTuple ?_ (by show vs.length<=_;exact hl));refine aa (wpAny_newList ?_ (a9 _));refine bN ?_;have Ez:(((s.heap.update a (Obj.mapSeq fun _=>#[])).push (seqObj "tuple" vs.toArray 0)).push (seqObj "list" #[] 0)).get? a=some (seqObj "list" #[] e1):=by
  rw[fR _ _ _ (by rw[size_push',Heap.size_update];exact aJ (cv ha)),fR _ _ _ (by rw[Heap.size_update];exact aJ ha)];exact NY
 have ak:=R (((s.heap.update a (Obj.mapSeq fun _=>#[])).push (seqObj "tuple" vs.toArray 0)).push (seqObj "list" #[] 0)) (fun b o hb e=>aj _ (aj _ ((bA _ _ (Ne.symm hb)).trans e)));show wpAny (model prog w) A _ P E { s with heap:=((s.heap.update a (Obj.mapSeq fun _=>#[])).push (seqObj "tuple" vs.toArray 0)).push (seqObj "list" #[] 0) };dsimp only;have ic:vs.toArray.size=vs.length:=by simp
 have fin:=h;by_cases h2:vs.toArray.size<2
 ·rw[if_pos h2,if_pos h2];refine aa (ao ?_);rw[StateT.run_pure];refine aa (ao ?_);dsimp only;refine aa (seqEpoch_at Ez rfl ?_);refine aa (listUpdate_at Ez rfl ?_ (a9 _) (by rw[Array.size_map];show(pairsOf vs).size<=_;rw[pairsOf_size];exact Nat.le_succ_of_le hl));simp only[eD,aq,aP];refine ao (fin (SortSt.mk' general' (vs.toArray.zip vs.toArray) #[] 7 none) (List.Perm.refl _) ?_);show iY rk (pairsOf vs).toList;exact TJ (by rw[ag,pairsOf_size];omega)
 ·rw[if_neg h2,if_neg h2];obtain⟨κ,ka,kr⟩:=ak.ask (by omega);refine aa (ka _ ?_)
  refine aa (dQ (hr (by omega) kr
   (Q:=fun _ gm=>(arrOf gm).toList.Perm (pairsOf vs).toList/\iY rk (arrOf gm).toList/\failedOf gm=none) (pairsOf_size vs) fun gm a1 a2 a3=>⟨a1,a2,a3⟩) ?_ fun _ _ e=>e)
  rintro⟨⟨⟩,gm⟩ s' ⟨rfl,hp,hs,hf⟩;dsimp only;refine aa (seqEpoch_at Ez rfl ?_)
  refine aa (listUpdate_at Ez rfl ?_ (a9 _) (by
   rw[Array.size_map,<-ag,hp.length_eq,ag,pairsOf_size];exact Nat.le_succ_of_le hl))
  rw[hf];simp only[eD,aq,aP];exact ao (fin gm hp hs)
theorem qr{l:Addr}{vs:List Value}{Q:Value->Shared->Prop}{rk:Keyed->Int}(hl:s.heap.IsList l vs.toArray)(hz:vs.length<=sizeLine)(hr:2<=vs.length->lY vs.length)
  (R:∀h',(∀b o,s.heap.get? b=some o->h'.get? b=some o)->Ask prog w A.in1.in1 E vs rk { s with heap:=h' })
  (h:∀gm:SortSt,(arrOf gm).toList.Perm (pairsOf vs).toList->iY rk (arrOf gm).toList->Q (.ref (s.heap.objs.size+1)) { s with heap:=sortedAll s.heap vs ((arrOf gm).map (·.2)) }) :
  wpAny (model prog w) A (call (.builtin "sorted") [.ref l]) Q E s:=by
 refine Calls.call_function_entry kind_sorted plain_sorted entry_sorted (args_sorted1 _) ?_;unfold Builtin.«sorted»;refine aa (m:=checkCount "sorted" 1 1 _) (ao ?_);refine aa (collect_list hl ?_ hz);refine aa (wpAny_newList ?_ hz);have ic:((s.heap.push (seqObj "list" #[] 0)).update s.heap.objs.size (Obj.mapSeq (·++vs.toArray))).objs.size=s.heap.objs.size+1:=by
  rw[Heap.size_update,size_push']
 have xy:(((s.heap.push (seqObj "list" #[] 0)).update s.heap.objs.size (Obj.mapSeq (·++vs.toArray))).push (seqObj "list" vs.toArray 0)).get? (s.heap.objs.size+1)=some (seqObj "list" vs.toArray 0):=by
  rw[<-ic];exact az _ rfl
 have keep:∀b o,s.heap.get? b=some o->(((s.heap.push (seqObj "list" #[] 0)).update s.heap.objs.size (Obj.mapSeq (·++vs.toArray))).push (seqObj "list" vs.toArray 0)).get? b=some o:=fun b o q=>by
  have gL:b<s.heap.objs.size:=aE q;rw[fR _ _ _ (by rw[ic];exact aJ (cv gL)),Heap.get?_update_ne _ _ _ _ (aJ gL),fR _ _ _ (aJ gL)];exact q
 show wpAny _ _ _ _ _ { s with heap:=((s.heap.push (seqObj "list" #[] 0)).update s.heap.objs.size (Obj.mapSeq (·++vs.toArray))).push (seqObj "list" vs.toArray 0) };rw[ic];refine aa (bN (dY slot_list_sort ⟨_,xy,rfl⟩ entry_list_sort (U7 (rk:=rk) xy hz hr (fun h' k=>R h' fun b o e=>k b o (aJ (cv (aE e))) (keep b o e)) fun gm a1 a2=>⟨_,rfl,?_⟩) (args_list_sort _)));exact ao ⟨_,rfl,h gm a1 a2⟩
end
theorem qu(n:Nat):lY n:=fun R _ _ q=>R3 (ok:=fun x=>x∈_) ⟨fun x y st Q ox oy hk q=>by
 rw[lt'_eq];refine ah (fB ?_);rw[hk]
 exact ah (wpS_lift (wpAny_attempt (dQ (R.key x y (fun b s'=>s'=_/\b=decide _) ox oy ⟨rfl,rfl⟩) (fun b s' ⟨e1,e2⟩=>⟨e1,by subst e2;exact af q⟩) fun _ _ z=>z.elim)))⟩ rfl rfl rfl (fun x hx=>hx) q
end Ts
namespace HT
theorem qz:∀a b:List Int,lexLt a b=gI b a
 | [],[]=>rfl
 | [],_::_=>rfl
 | _::_,[]=>rfl
 | x::xs,y::ys=>by
  unfold lexLt gI;rw[qz xs ys];by_cases e:x=y
  ·subst e;simp
  ·have e2:¬y=x:=fun z=>e z.symm
   simp[e,e2]
end HT
namespace Ts
open PySem PySem.W PyProof.Rows
section
variable {prog:Program} {w:World} {A:Around} {E:Value->Shared->Prop} {s:Shared} {fin:Bool} {Q:Bool->Shared->Prop}
theorem LY:∀{vs ws:List Value} {ns ms:List Int},IntsAre vs ns->IntsAre ws ms->∀i:Nat,fin=decide (ns.length<ms.length)->Q (HT.lexLt ns ms) s->KatLex prog w A true fin Q (vs.zip ws) i s
 | _,_,_,_,.nil,.nil,i,hf,q=>by subst hf;exact kat_nil q
 | _,_,_,_,.nil,.cons b u hw,i,hf,q=>by subst hf;exact kat_nil (by simpa[HT.lexLt] using q)
 | _,_,_,_,.cons a t hv,.nil,i,hf,q=>by subst hf;exact kat_nil (by simpa[HT.lexLt] using q)
 | _,_,_,_,.cons a t hv,.cons b u hw,i,hf,q=>by
  rw[eJ];refine kat_cons (eZ ?_);rw[HT.rH] at q;by_cases e:a=b
  ·rw[if_pos e] at q;subst e;simp only[BEq.rfl,cy];exact kat_yes (LY hv hw (i+1) (by rw[hf];simp) q)
  ·rw[if_neg e] at q;simp only[cH.mpr e,aX e];refine kat_no ?_;cases i with
   | zero=>exact oneLt_int q
   | succ i=>exact kat_one _ _ (HT.nW A s a t b u prog w _ _ q)
noncomputable def lV(h:Heap)(v:Value):List Int:=match v with
 | .ref a=>match h.get? a with
  | some o=>match o.data with
   | .seq xs _=>numsOf xs.toList
   | _=>[]
  | none=>[]
 | _=>[]
def TupAt(h:Heap)(v:Value):Prop:=∃a o xs n,v=.ref a/\h.get? a=some o/\o.cls=.type "tuple"/\o.data=.seq xs n/\IntsAre xs.toList (lV h v)/\lV h v≠[]
noncomputable def zX(h:Heap)(lI:List (List Int))(x:Keyed):Int:=(lI.countP fun t=>HT.gI (lV h x.1) t:Nat)
theorem xq{lI:List (List Int)}{a b:List Int}(ha:a∈lI):(lI.countP fun t=>HT.gI a t)<(lI.countP fun t=>HT.gI b t)↔HT.gI b a=true:=by
 constructor
 ·intro h;cases hb:HT.gI b a with
  | true=>rfl
  | false=>
   have:(lI.countP fun t=>HT.gI b t)<=(lI.countP fun t=>HT.gI a t):=by
    refine List.countP_mono_left fun t _ ht=>?_
    cases hc:HT.gI a t with
    | true=>rfl
    | false=>
     have:=HT.nZ b a t hb hc;rw[this] at ht;cases ht
   omega
 ·intro h;have sub:∀t,HT.gI a t=true->HT.gI b t=true:=fun t ht=>by
   cases hc:HT.gI b t with
   | true=>rfl
   | false=>
    have:=HT.nZ b t a hc (HT.qA a t ht);rw[this] at h;cases h
  induction lI with
  | nil=>cases ha
  | cons c r ih=>
   rw[de,de];rcases ar.mp ha with rfl | ha
   ·have le:(r.countP fun t=>HT.gI a t)<=(r.countP fun t=>HT.gI b t):=List.countP_mono_left fun t _ ht=>sub t ht
    rw[HT.pq,h];simp only[aq,aP,aR];omega
   ·have:=ih ha;cases hc:HT.gI a c with
    | true=>rw[sub c hc];simp only[aR];omega
    | false=>simp only[aq,aP];split<;>omega
theorem ML{h h':Heap}(k:∀b o,h.get? b=some o->h'.get? b=some o):∀{its:List Value},(∀v∈its,TupAt h v)->∃fs,KatTups h' its fs/\fs.length=its.length/\∀v∈fs,∃n t,v=Value.int n t
 | [],_=>⟨[],.nil,rfl,fun v hv=>by cases hv⟩
 | v::r,hv=>by
  obtain⟨fs,h1,h2,h3⟩:=ML k (its:=r) fun x hx=>hv x (aD _ hx)
  obtain⟨a,o,xs,n,rfl,ho,hc,hd,hi,ij⟩:=hv v bj;generalize lV h (.ref a)=t at hi ij;generalize hx:xs.toList=l at hi;cases hi with
  | nil=>exact absurd rfl ij
  | cons m u hr=>
   have h0:xs[0]?=some (.int m u):=by rw[<-cL,hx];rfl
   exact⟨.int m u::fs,KatTups.cons (k _ _ ho) hc hd h0 h1,by simp[h2],fun x hx=>by
    rcases ar.mp hx with rfl | hx
    ·exact⟨_,_,rfl⟩
    ·exact h3 x hx⟩
theorem u4{h h':Heap}{its:List Value}(k:∀b o,h.get? b=some o->h'.get? b=some o)(hv:∀v∈its,TupAt h v):Ask prog w A E its (zX h (its.map (lV h))) { s with heap:=h' }:=by
 refine⟨fun h2=>⟨tuples' (Value.type "int" != Value.type "tuple"),fun Q' q=>?_,⟨fun x y Q ox oy q=>?_⟩⟩⟩
 ·obtain⟨fs,h1,Jd,h3⟩:=ML k hv;refine kat_kind (s:={ s with heap:=h' }) (T:=.type "int") h1 (by omega) (fun v hv=>?_) (by decide +kernel) q;obtain⟨n,t,rfl⟩:=h3 v hv;exact Looks.of_pure rfl
 ·have mem:∀z,z∈pairsOf its->TupAt h z.1/\z.1∈its:=fun z hz=>by
   have:z.1∈its:=by
    unfold pairsOf at hz;have Ca:z∈its.zip its:=by simpa using hz
    exact(cw Ca).1
   exact⟨hv _ this,this⟩
  obtain⟨⟨a,oa,xs,n,ea,ga,ca,da,ia,_⟩,ma⟩:=mem x ox;obtain⟨⟨b,ob,ys,m,eb,gb,cb,db,ib,_⟩,mb⟩:=mem y oy;have e:decide (zX h (its.map (lV h)) x<zX h (its.map (lV h)) y)=HT.lexLt (lV h x.1) (lV h y.1):=by
   rw[HT.qz,fu,aS];unfold zX;rw[Int.ofNat_lt];exact xq (bD ma)
  rw[e] at q;rw[ea,eb];rw[ea,eb] at q;rw[ea] at ia;rw[eb] at ib;have e2:(Value.type "int" != Value.type "tuple")=true:=by decide +kernel
  rw[e2];refine kat_lt (k _ _ ga) da (k _ _ gb) db (LY ia ib 0 ?_ q);rw[<-ia.length,<-ib.length];simp
end
theorem wc{n:Nat}(h1:2<=n)(An:n<64):lY n:=qu n
end Ts
namespace L2
open PySem PySem.Spec PyProof.Rows
theorem D2{α β:Type}{f:α->β}{a b:List β}(h:a.Perm b):∀{L:List α},b=L.map f->∃L':List α,L'.Perm L/\a=L'.map f:=by
 induction h with
 | nil=>intro L e;exact⟨[],by rw[show L=[] from by simpa using e.symm],rfl⟩
 | cons x h ih=>
  intro L e;cases L with
  | nil=>cases e
  | cons y L=>
   rw[ay] at e;injection e with e1 e2
   obtain⟨L',h1,h2⟩:=ih e2;exact⟨y::L',h1.cons y,by rw[ay,e1,h2]⟩
 | swap x y l=>
  intro L e;match L,e with
  | [],e=>cases e
  | [_],e=>cases e
  | u::v::L,e=>
   simp only[ay,List.cons.injEq] at e;exact⟨v::u::L,List.Perm.swap u v L,by simp[e]⟩
 | trans h1 h2 XX XW=>
  intro L e;obtain⟨L2,a1,a2⟩:=XW e;obtain⟨L3,b1,b2⟩:=XX a2;exact⟨L3,b1.trans a1,b2⟩
section
variable {X:Cx} {pos:Pos} {e:Expr} {te:TD}
theorem FN{α:Type}{f:α->V}{g:α->Value}:∀{L:List α},(∀q∈L,RelV (f q) (g q))->Vals (L.map f) (L.map g)
 | [],_=>.nil
 | q::L,h=>.cons (h q bj) (FN fun x hx=>h x (aD _ hx))
theorem Ue:hJ X (.builtin "sorted") (fun xs H Q=>∃(p:Addr) (ps:List (V×List Int)),xs=[.ref p]/\iI X.K H p (ps.map (·.1))/\(∀q∈ps,q.2≠[]/\∃b,q.1=.ref b/\jE X.K H b (q.2.map V.int))/\(2<=ps.length->Ts.lY ps.length)/\
  ∀nJ:List (V×List Int),nJ.Perm ps->nJ.Pairwise (fun x y=>HT.gI x.2 y.2=false)->∀l,H l=none->Q (.ref l) (upd H l (.lst (nJ.map (·.1))))):=by
 walk_at "1e";obtain⟨p,ps,rfl,hq,hk,hr,q⟩:=h;obtain⟨u,rfl,ru⟩:=oE r;cases ru;obtain⟨its,rv,pl,hz⟩:=I.list hq;have hl:ps.length=its.length:=by rw[<-rv.length,ae]
 obtain⟨LL,e1,e2⟩:∃LL:List ((V×List Int)×Value),ps=LL.map (·.1)/\its=LL.map (·.2):=
  ⟨ps.zip its,(ff (by omega)).symm,(fg (by omega)).symm⟩
 have rel:∀z∈LL,RelV z.1.1 z.2:=fun z hz=>by
  obtain⟨i,hi⟩:=cC hz;have h1:(ps.map (·.1))[i]?=some z.1.1:=by rw[e1];simp[hi]
  obtain⟨v',tJ,rx⟩:=rv.get h1;have h2:its[i]?=some z.2:=by rw[e2];simp[hi]
  rw[h2] at tJ;cases tJ;exact rx
 have tup:∀z∈LL,Ts.TupAt s.heap z.2/\Ts.lV s.heap z.2=z.1.2:=fun z hz=>by
  obtain⟨ij,b,eb,sq⟩:=hk z.1 (by rw[e1];exact bD hz);have rz:=rel z hz;obtain⟨i1,v1,p1,_⟩:=I.tuple sq;obtain⟨o1,g1,c1,n1,d1⟩:=p1;obtain⟨⟨zv,zt⟩,zw⟩:=z;simp only at eb rz v1 ij ⊢;subst eb;cases rz;have ia:=zM v1;have e:Ts.lV s.heap (.ref b)=zt:=by
   unfold Ts.lV;simp only[g1,d1];exact ia.numsOf
  exact⟨⟨b,o1,_,n1,rfl,g1,c1,d1,by rw[e];exact ia,by rw[e];exact ij⟩,e⟩
 refine Ts.qr (rk:=Ts.zX s.heap (its.map (Ts.lV s.heap))) pl.isList (by rw[<-hl,<-ae (f:=(·.1))];exact hz) (by rw[<-hl];exact hr) (fun h' k=>Ts.u4 k fun v hv=>?_) fun gm hp hs=>?_
 ·rw[e2] at hv;obtain⟨z,hz,rfl⟩:=aO.mp hv;exact(tup z hz).1
 ·have ep:(PyProof.Rows.pairsOf its).toList=LL.map fun z=>((z.2,z.2):Keyed):=by
   unfold PyProof.Rows.pairsOf;rw[e2];simp only[List.zip_toArray];clear e1 e2 rel tup hp hs;induction LL with
   | nil=>rfl
   | cons a r ih=>simp at ih ⊢;exact ih
  obtain⟨L',h1,h2⟩:=D2 (hp.trans (eP ep)) rfl;have yr:∀z∈L',RelV z.1.1 z.2:=fun z hz=>rel z (h1.subset hz)
  have out:((arrOf gm).map (·.2)).toList=L'.map (·.2):=by
   rw[Array.toList_map,h2,aL];rfl
  obtain⟨en,he⟩:=sortedAll_at s.heap its ((arrOf gm).map (·.2));have hf:H (s.heap.objs.size+1)=none:=I.hV.fresh (bY _)
  have q':=q (L'.map (·.1)) (by rw[e1];exact h1.map _) (by
   rw[bX];unfold Ts.iY at hs;rw[h2,bX] at hs;refine hs.imp_of_mem fun{a b} ha hb kU=>?_
   have ta:=(tup a (h1.subset ha)).2;have tb:=(tup b (h1.subset hb)).2;have mb:Ts.lV s.heap b.2∈its.map (Ts.lV s.heap):=bD (by rw[e2];exact bD (h1.subset hb));unfold Ts.zX at kU;cases hg:HT.gI a.1.2 b.1.2 with
   | false=>rfl
   | true=>
    rw[<-ta,<-tb] at hg;have:=(Ts.xq mb).mpr hg;simp only at kU;omega) _ hf
  rw[aL] at q';refine⟨.ref (s.heap.objs.size+1),_,I.laid (a:=s.heap.objs.size+1) (o:=.lst (L'.map ((·.1)∘(·.1)))) (t':=s.toks) (fun b o e=>sortedAll_old e) (bY _) ?_,rfl,q'⟩
  refine⟨by
   rw[ae,h1.length_eq];have:LL.length=its.length:=by rw[e2,ae]
   rw[this,<-hl,<-ae (f:=(·.1))];exact hz,((arrOf gm).map (·.2)).toList,en,?_,?_⟩
  ·rw[out];exact FN yr
  ·rw[dr];exact he
def DM:iF:=fun ds Q=>match ds with
 | [.lst es]=>match qf es with
  | some lI=>(∀t∈lI,t≠[])/\∀qo:List (List Int),qo.Perm lI->qo.Pairwise (fun x y=>HT.gI x y=false)->Q (.ow (qo.map fun t=>.tup (t.map D.int)))
  | none=>False
 | _=>False
theorem DK{α:Type}{K:Z9}{G:Hp}{f:α->V}{g:α->D}:∀{L:List α},(∀q∈L,Rep K G (f q) (g q))->f9 K G (L.map f) (L.map g)
 | [],_=>f9.nil
 | q::L,h=>f9.cons (h q bj) (DK fun x hx=>h x (aD _ hx))
theorem R1{G H:Hp}{vs:List V}{es:List D}{lI:List (List Int)}{Q:R->Prop}{P:VK}(s:gz G H)(rs:f9 X.K G vs [.lst es])(ht:qf es=some lI)(hn:∀t∈lI,t≠[])(hr:2<=lI.length->Ts.lY lI.length)
  (q:∀qo:List (List Int),qo.Perm lI->qo.Pairwise (fun x y=>HT.gI x y=false)->Q (.ow (qo.map fun t=>.tup (t.map D.int)))) (k:∀v H' r' G',Ext G H G' H'->jl X.K G' H' H v r'->Q r'->P v H') :
  ∃(p:Addr) (ps:List (V×List Int)),vs=[.ref p]/\iI X.K H p (ps.map (·.1))/\(∀q∈ps,q.2≠[]/\∃b,q.1=.ref b/\jE X.K H b (q.2.map V.int))/\(2<=ps.length->Ts.lY ps.length)/\
   ∀nJ:List (V×List Int),nJ.Perm ps->nJ.Pairwise (fun x y=>HT.gI x.2 y.2=false)->∀l,H l=none->P (.ref l) (upd H l (.lst (nJ.map (·.1)))):=by
 obtain⟨v,rfl,rv⟩:=oC rs;simp only[Rep] at rv;obtain⟨a,xs,rfl,h1,h2⟩:=rv;obtain⟨h3,h4⟩:=Lw ht h2;have e1:(xs.zip lI).map (·.1)=xs:=ff (by omega);have e2:(xs.zip lI).map (·.2)=lI:=fg (by omega);have el:(xs.zip lI).length=lI.length:=by rw[fD];omega
 have hz:∀q∈xs.zip lI,Rep X.K G q.1 (.tup (q.2.map D.int))/\∃b,q.1=.ref b/\jE X.K G b (q.2.map V.int):=fun q hq=>by
  obtain⟨i,hi⟩:=cC hq;have a1:xs[i]?=some q.1:=by rw[<-e1];simp only[aH,hi];rfl
  have a2:lI[i]?=some q.2:=by rw[<-e2];simp only[aH,hi];rfl
  exact h4 i _ _ a1 a2
 refine⟨a,xs.zip lI,rfl,by rw[e1];exact(s.jF h1).sq,fun z hq=>⟨hn _ (by rw[<-e2];exact bD hq),?_⟩,by rw[el];exact hr,fun nJ p1 p2=>?_⟩
 ·obtain⟨_,b,e,sq⟩:=hz z hq;exact⟨b,e,s.tF sq⟩
 ·refine vR s (ds:=(nJ.map (·.2)).map fun t=>.tup (t.map D.int)) ?_ (q (nJ.map (·.2)) (by rw[<-e2];exact p1.map _) (by rw[bX];exact p2)) k;rw[aL];exact DK fun q hq=>(hz q (p1.subset hq)).1
theorem TH(_:X.calm=true):tW X (.builtin "sorted") DM:=by
 refine⟨_,Ue,fun G H vs ds Q P s rs h k=>?_⟩;unfold DM at h;split at h
 ·split at h
  ·rename_i es lI ht;exact R1 s rs ht h.1 (fun _=>Ts.qu _) h.2 k
  ·exact h.elim
 ·exact h.elim
end
end L2
namespace PySem
open Sem (wp)
end PySem
namespace L2
open PySem PySem.Spec PyProof.Rows
section
variable {K:Z9} {G0 H0 G H G' H' G2 H2:Hp} {ρ:Ev} {σ:St} {v:V}
theorem ie.unset{i:Nat}{u:Option V}(E:ie K G0 H0 ρ σ G H):ie K G0 H0 (ρ.set i .un) (σ.set i u) G H:=by
 have gs:∀j s,gt (ρ.set i .un) j=s->s≠.un->i≠j/\gt ρ j=s:=fun j s e hs=>by
  rw[vO] at e;by_cases h:i=j/\j<ρ.length
  ·rw[if_pos h] at e;exact absurd e.symm hs
  ·rw[if_neg h] at e;exact⟨fun z=>h ⟨z,xV e hs⟩,e⟩
 have ss:∀j,i≠j->(σ.set i u)[j]?=σ[j]?:=fun j h=>by rw[List.getElem?_set,if_neg h]
 obtain⟨own,o1,o2⟩:=E.on;refine⟨E.e,by simp[E.len],fun j d h=>?_,fun j ds h=>?_,fun j k ds es qD h1 h2=>?_,own,fun j ds p h hp=>?_,fun j o h=>?_⟩
 ·obtain⟨n,h⟩:=gs j _ h (by simp);rw[ss j n];exact E.fz j d h
 ·obtain⟨n,h⟩:=gs j _ h (by simp);rw[ss j n];exact E.ow j ds h
 ·obtain⟨n,h1⟩:=gs j _ h1 (by simp);obtain⟨n2,h2⟩:=gs k _ h2 (by simp);rw[ss j n,ss k n2];exact E.dj j k ds es qD h1 h2
 ·obtain⟨n,h⟩:=gs j _ h (by simp);rw[ss j n] at hp;exact o1 j ds p h hp
 ·obtain⟨n,h⟩:=gs j _ h (by simp);rw[ss j n];exact o2 j o h
end
end L2
namespace PySem
open Sem (wp)
end PySem
namespace L2
open PySem PySem.Spec PyProof.Rows
end L2
namespace PySem
open Sem (wp)
end PySem
namespace L2
open PySem PySem.Spec PyProof.Rows
namespace SI
open PySem PySem.Spec PyProof.Rows
end SI
end L2
namespace L2
open PySem PySem.Spec PyProof.Rows
namespace SI
end SI
end L2
namespace L2
open PySem PySem.Spec PyProof.Rows
section
variable {P:Program} {w:World} {K:Z9} {mg:Str->Option Value} {base:Heap}
structure EW (K:Z9) (mg:Str->Option Value) (x:Str) (st:Stmt) (ds:List Value):Prop where
 ex:∃(T f:Addr) (fd:FuncData) (o:Obj) (n:Nat),pN (.ref T) K x x st f fd/\mg x=some (.ref f)/\K.lookup T=some o/\o.data=.seq ds.toArray n
theorem yY{h:Heap}{x:Str}{st:Stmt}{f T:Addr}{oc tc:Value}{od an td:Option Addr}{rq Xl:Array (Option Value)}{kV doc pm gN ct:Value}{ds:List Value}{n:Nat}(X:K.In h)(G:h.Ns mainGlobals mg)(a:PySem.W.nsIn K mainGlobals x=some (some (.ref f)))
  (l:K.lookup f=some ⟨oc,od,.func (PySem.W.fnOf x x (jf st) (gZ st) (gf st) (.ref T) kV doc pm an gN ct),rq⟩) (c:PySem.W.codeIn K gN x=true) (k:PySem.W.keepIn K (.ref f)=true) (t:K.lookup T=some ⟨tc,td,.seq ds.toArray n,Xl⟩):EW K mg x st ds:=
 ⟨T,f,_,_,n,FD l c k,PySem.W.mg_of X G a,t,rfl⟩
theorem pN.uY{x qual:Str}{st:Stmt}{f T:Addr}{fd:FuncData}{ps:List Str}{o:Obj}{ds es:List Value}{n:Nat}(F:pN (.ref T) K x qual st f fd)(m:Nat)(lk:K.lookup T=some o)(hd:o.data=.seq ds.toArray n)
  (h:∀(kV doc pm:Value) (an:Option Addr) (gN ct:Value) (us:List Value),us.length=m->∃k:Option (Array Value)->Sem (List (Str×Value)),bindArgs (PySem.W.fnOf x qual (jf st) (gZ st) (gf st) (.ref T) kV doc pm an gN ct) ⟨us,[]⟩=seqItems? (.ref T) >>= k/\k (some ds.toArray)=pure (ps.zip (us++es))) (hm:ps.length=m+es.length:=by rfl):Binds K fd ps es:=by
 obtain⟨oc,od,kV,doc,pm,an,gN,ct,rq,rfl,lf,kP⟩:=F.ex;intro s us zZ hl;obtain⟨k,h1,h2⟩:=h kV doc pm an gN ct us (by rw[au,hm] at hl;omega);exact BindsTo.of_defaults rfl (zZ _ _ lk) hd h1 h2
structure oi (P:Program) (w:World) (K:Z9) (mg:Str->Option Value) (base:Heap) (k:Nat) (x:Str) (n:Nat) (t:iF) (b:Bool):Prop where
 ex:∃(f:Addr) (fd:FuncData) (ps:List Str),lH P w K mg base qd k f fd ps (y3 K n t)/\mg x=some (.ref f)/\PySem.W.keepIn K (.ref f)=true/\Binds K fd ps []/\Binds K fd ps [.bool b]
theorem oi.all{k:Nat}{x:Str}{n:Nat}{t:iF}{b:Bool}(C:oi P w K mg base k x n t b):Known P w K mg base k x n t:=by
 obtain⟨f,fd,ps,h1,h2,h3,h4,_⟩:=C.ex;exact⟨f,fd,ps,h1,h2,h3,h4⟩
end
section
variable {X:Cx} {p p' pos pos':Pos} {e:Expr} {ts:nE}
theorem R0:hJ X (.type "range") (fun xs H Q=>∃j:Int,xs=[.int j]/\∀l,H l=none->Q (.ref l) (upd H l (.yq 0 j))):=by
 walk_at "1e";obtain⟨j,rfl,q⟩:=h;obtain⟨u,rfl,t,rfl⟩:=oE r;exact call_range_1 ⟨.ref s.heap.objs.size,_,I.laid (t':=s.toks+1+1) (fun b o e=>aj _ e) (aA _) (show iS X.prog X.w _ _ _ (.yq 0 j) from⟨_,_,_,az _ rfl⟩),rfl,q _ (I.hV.fresh (aA _))⟩
theorem MU:∀(l:List Value) (k:Nat),(∀(j:Nat) v,l[j]?=some v->∃t,v=.int ((k:Int)+j) t)->Vals ((List.range' k l.length).map fun(i:Nat)=>V.int i) l
 | [],_,_=>.nil
 | v::l,k,h=>by
  rw[aG,List.range'_succ,ay];obtain⟨t,ht⟩:=h 0 v rfl;refine .cons ⟨t,by rw[ht];simp⟩ (MU l (k+1) fun j u hu=>?_);obtain⟨t,ht⟩:=h (j+1) u (by simpa using hu);exact⟨t,by rw[ht];congr 1;omega⟩
theorem Ud(n:Nat)(acc:Array Value)(h:ItemsOf (fun i v=>∃t,v=.int (0+i*1) t) acc n):Vals ((List.range n).map fun(i:Nat)=>V.int i) acc.toList:=by
 have:=MU acc.toList 0 fun j v hv=>by
  obtain⟨t,ht⟩:=h.2 j v (by simpa using hv);exact⟨t,by rw[ht];congr 1;omega⟩
 rw[ag,h.1] at this;rw[List.range_eq_range'];exact this
theorem VH(hc:X.calm=true):hJ X (.type "list") (fun xs H Q=>∃(p:Addr) (n:Nat),xs=[.ref p]/\H p=some (.yq 0 n)/\n<=sizeLine/\∀l,H l=none->Q (.ref l) (upd H l (.lst ((List.range n).map fun(i:Nat)=>V.int i)))):=by
 walk_at "1e";obtain⟨p,n,rfl,hp,hn,q⟩:=h;obtain⟨u,rfl,rx⟩:=oE r;cases rx;obtain⟨t,u,v,e⟩:=I.hV p _ hp;have big:sizeLine=16777216:=rfl;refine call_list_range (I.ok.hd hc) (show IsRange s.heap p 0 n 1 t u v from e) (small_one (by omega) (by omega) (by omega) (by omega)) (n:=n) (by rw[rangeSize_one];split<;>omega) (by omega) fun h' tk acc c hk hl hi=>?_
 have hv:=Ud n acc hi;exact⟨.ref s.heap.objs.size,_,I.laid (t':=tk) hk (aA _) (show iS X.prog X.w _ h' _ (.lst ((List.range n).map fun(i:Nat)=>V.int i)) from⟨by simpa using hn,acc.toList,c,hv,by simpa using hl⟩),rfl,q _ (I.hV.fresh (aA _))⟩
def Fv(ts:nE):TD:=fun ρ Q=>ts ρ fun ds=>match ds with
 | [.int j]=>0<=j/\j<=1000000/\Q (.ow ((List.range j.toNat).map fun(i:Nat)=>.int i))
 | _=>False
theorem RZ(hc:X.calm=true)(hm:X.mg "list"=none)(oW:X.mg "range"=none)(ha:qL X [e] ts)(hg:Gl X "list":=by rfl)(wC:Gl X "range":=by rfl)(jW:starEach [e] X.env=(false,eval e X.env)::starEach [] X.env:=by rfl):PD X (.Call (.Name "list" p) [.Call (.Name "range" p') [e] [] pos'] [] pos) (Fv ts):=by
 obtain⟨t,pp,q⟩:=ha;refine⟨_,D9 (VH hc) hg hm eA (tq (D9 R0 wC oW boot_range pp (he:=jW)) tY),fun ρ σ G0 H0 G H Q P E h k=>q ρ σ G0 H0 G H _ _ E h fun vs H' ds G' x rs hq=>?_⟩;split at hq
 ·rename_i j;obtain⟨h1,h2,hq⟩:=hq;obtain⟨v,rfl,rv⟩:=oC rs;simp only[Rep] at rv;subst rv;refine⟨j,rfl,fun l hl=>?_⟩;have big:sizeLine=16777216:=rfl;have x2:Ext G' H' G' (upd H' l (.yq 0 j)):=.own x.s hl;refine⟨l,j.toNat,rfl,by rw[lA,Int.toNat_of_nonneg h1],by omega,vR x2.s (ds:=(List.range j.toNat).map fun(i:Nat)=>.int i) (DK fun q _=>by simp only[Rep]) hq fun v H2 r G2 x3 rr q2=>k v H2 r G2 ((x.trans x2).trans x3) (rr.lR (x.h.trans x2.h)) q2⟩
 ·exact hq.elim
end
section
variable {P:Program} {w:World} {K:Z9} {mg:Str->Option Value} {base:Heap}
theorem kX{x:Str}{st:Stmt}{N ps:List Str}{t:iF}{T:TX}{n d:Nat}(k:Nat)(A:At K mg x st)(S:gn N ps (gf st))
  (body:∀(f:Addr) (gN:Value) (A:Around) (outer:List Env) (s:Shared) (H:Hp) (E:XK),iL k (A.deeper (envOfC x (gf st) s.heap.objs.size f gN))->rQ (tS qd P w K mg base N x (gf st) f gN A outer s H E).vv (gZ st) T)
  (spec:∀(ds:List D) (Qr:R->Prop),ds.length=n->t ds Qr->T { nx:=fun _=>Qr (.fz .non),rt:=Qr } (vN N ds))
  (b:∀(kV doc pm:Value) (an:Option Addr) (gN ct:Value) (us:List Value),us.length=n->bindArgs (PySem.W.fnOf x x (jf st) (gZ st) (gf st) .none kV doc pm an gN ct) ⟨us,[]⟩=pure (ps.zip us)) (hn:ps.length=n:=by rfl) (hd:k+1=d:=by rfl):Known P w K mg base d x n t:=by
 subst hn hd;obtain⟨f,fd,F,hm⟩:=A.ex;exact⟨f,fd,ps,FR F S (body f) spec,hm,F.kp,F.binds b⟩
end
end L2
namespace Ts
open PySem PySem.W PyProof.Rows
end Ts
namespace L2
open PySem PySem.Spec PyProof.Rows
theorem vH{α:Type}{l:List α}{n:Nat}(h:l.length=n+1):∃a r,l=a::r/\r.length=n:=by
 cases l with
 | nil=>cases h
 | cons a r=>exact⟨a,r,rfl,Nat.succ.inj h⟩
theorem O4{α:Type}{l:List α}(h:l.length=0):l=[]:=bR h
theorem JC{α:Type}{l:List α}(h:l.length=1):∃a0,l=[a0]:=by
 obtain⟨a,r,e,h⟩:=vH h;exact⟨a,by rw[e,O4 h]⟩
theorem JB{α:Type}{l:List α}(h:l.length=2):∃a0 a1,l=[a0,a1]:=by
 obtain⟨a,r,e,h⟩:=vH h;obtain⟨b0,e2⟩:=JC h;exact⟨a,b0,by rw[e,e2]⟩
theorem JA{α:Type}{l:List α}(h:l.length=3):∃a0 a1 a2,l=[a0,a1,a2]:=by
 obtain⟨a,r,e,h⟩:=vH h;obtain⟨b0,b1,e2⟩:=JB h;exact⟨a,b0,b1,by rw[e,e2]⟩
theorem Jz{α:Type}{l:List α}(h:l.length=4):∃a0 a1 a2 a3,l=[a0,a1,a2,a3]:=by
 obtain⟨a,r,e,h⟩:=vH h;obtain⟨b0,b1,b2,e2⟩:=JA h;exact⟨a,b0,b1,b2,by rw[e,e2]⟩
theorem Js{α:Type}{l:List α}(h:l.length=5):∃a0 a1 a2 a3 a4,l=[a0,a1,a2,a3,a4]:=by
 obtain⟨a,r,e,h⟩:=vH h;obtain⟨b0,b1,b2,b3,e2⟩:=Jz h;exact⟨a,b0,b1,b2,b3,by rw[e,e2]⟩
theorem E5{α:Type}{l:List α}(h:l.length=6):∃a0 a1 a2 a3 a4 a5,l=[a0,a1,a2,a3,a4,a5]:=by
 obtain⟨a,r,e,h⟩:=vH h;obtain⟨b0,b1,b2,b3,b4,e2⟩:=Js h;exact⟨a,b0,b1,b2,b3,b4,by rw[e,e2]⟩
theorem Jr{α:Type}{l:List α}(h:l.length=7):∃a0 a1 a2 a3 a4 a5 a6,l=[a0,a1,a2,a3,a4,a5,a6]:=by
 obtain⟨a,r,e,h⟩:=vH h;obtain⟨b0,b1,b2,b3,b4,b5,e2⟩:=E5 h;exact⟨a,b0,b1,b2,b3,b4,b5,by rw[e,e2]⟩
theorem Jq{α:Type}{l:List α}(h:l.length=8):∃a0 a1 a2 a3 a4 a5 a6 a7,l=[a0,a1,a2,a3,a4,a5,a6,a7]:=by
 obtain⟨a,r,e,h⟩:=vH h;obtain⟨b0,b1,b2,b3,b4,b5,b6,e2⟩:=Jr h;exact⟨a,b0,b1,b2,b3,b4,b5,b6,by rw[e,e2]⟩
theorem Ze{α:Type}{l:List α}(h:l.length=9):∃a0 a1 a2 a3 a4 a5 a6 a7 a8,l=[a0,a1,a2,a3,a4,a5,a6,a7,a8]:=by
 obtain⟨a,r,e,h⟩:=vH h;obtain⟨b0,b1,b2,b3,b4,b5,b6,b7,e2⟩:=Jq h;exact⟨a,b0,b1,b2,b3,b4,b5,b6,b7,by rw[e,e2]⟩
open PySem.Builtin PySem.Builtin.Str
end L2
namespace L2.SO
open PySem PySem.Spec PyProof.Rows L2
end L2.SO
namespace L2
open PySem PySem.Spec PyProof.Rows
section
variable {X:Cx} {pos:Pos} {e:Expr} {te:TD} {ts:nE} {t:TA}
noncomputable def oD:Option Str->D
 | none=>.non
 | some x=>.str x
end
end L2
namespace PySem
open Sem (wp)
end PySem
namespace L2
open PySem PySem.Spec PyProof.Rows
end L2
namespace Ts
open PySem PySem.W PyProof.Rows
section
variable {α:Type} {lt:α->α->Bool} {l:List α} {a b:α}
noncomputable def pD(lt:α->α->Bool)(l:List α)(a:α):Int:=((l.countP fun b=>lt b a:Nat):Int)
theorem Kh{p q:α->Bool}(h:∀x∈l,p x=true->q x=true):l.countP p<=l.countP q:=by
 induction l with
 | nil=>exact aA _
 | cons a r ih=>
  have:=ih fun x hx=>h x (aD _ hx)
  rw[de,de];by_cases hp:p a=true
  ·rw[if_pos hp,if_pos (h a bj hp)];omega
  ·rw[if_neg hp];omega
theorem Qt{p q:α->Bool}(h:∀x∈l,p x=true->q x=true)(ha:a∈l)(hp:p a=false)(hq:q a=true):l.countP p<l.countP q:=by
 induction l with
 | nil=>cases ha
 | cons c r ih=>
  have h1:=Kh (l:=r) fun x hx=>h x (aD _ hx)
  rw[de,de];rcases ar.mp ha with z | ha
  ·subst z;rw[hp,hq];simp only[aq,aP,aR];omega
  ·have:=ih (fun x hx=>h x (aD _ hx)) ha;by_cases hc:p c=true
   ·rw[if_pos hc,if_pos (h c bj hc)];omega
   ·rw[if_neg hc];omega
structure Ord (lt:α->α->Bool):Prop where
 tr:∀a b c,lt a b=true->lt b c=true->lt a c=true
 ir:∀a,lt a a=false
 Hv:∀a b,a≠b->lt a b=true\/lt b a=true
theorem FA(O:Ord lt)(ha:a∈l):lt a b=decide (pD lt l a<pD lt l b):=by
 unfold pD;cases h:lt a b with
 | true=>
  symm
  rw[decide_eq_true_iff];have:=Qt (l:=l) (p:=fun c=>lt c a) (q:=fun c=>lt c b) (fun x _ hx=>O.tr _ _ _ hx h) ha (O.ir a) h;omega
 | false=>
  symm
  rw[bh];have:l.countP (fun c=>lt c b)<=l.countP (fun c=>lt c a):=by
   refine Kh fun x _ hx=>?_
   by_cases e:a=b
   ·rw[e];exact hx
   ·rcases O.Hv a b e with z | z
    ·rw[z] at h;cases h
    ·exact O.tr _ _ _ hx z
  omega
theorem BQ(O:Ord lt)(ha:a∈l)(hb:b∈l)(h:pD lt l a<=pD lt l b):lt b a=false:=by
 rw[FA O hb,bh];omega
end
noncomputable def jk(p q:Str×Int):Bool:=if p.1=q.1 then decide (p.2<q.2) else decide (p.1.cps.toList<q.1.cps.toList)
theorem FL{a b:Str}(h:a.cps.toList=b.cps.toList):a=b:=by
 cases a;cases b;simp only[Str.mk.injEq];exact Array.toList_inj.mp h
theorem ki:Ord jk:=by
 refine⟨fun a b c h1 h2=>?_,fun a=>?_,fun a b h=>?_⟩
 ·unfold jk at *;by_cases e1:a.1=b.1
  ·rw[if_pos e1] at h1;by_cases e2:b.1=c.1
   ·rw[if_pos e2] at h2;rw[if_pos (e1.trans e2)];simp only[aS] at *;omega
   ·rw[if_neg e2] at h2;rw[if_neg (by rw[e1];exact e2),e1];exact h2
  ·rw[if_neg e1] at h1;by_cases e2:b.1=c.1
   ·rw[if_neg (by rw[<-e2];exact e1),<-e2];exact h1
   ·rw[if_neg e2] at h2;simp only[aS] at h1 h2;have h3:=List.lt_trans h1 h2;rw[if_neg (fun z=>by rw[z] at h3;exact absurd h3 (List.lt_irrefl _))];simp only[aS];exact h3
 ·unfold jk;rw[if_pos rfl];simp
 ·unfold jk;by_cases e:a.1=b.1
  ·rw[if_pos e,if_pos e.symm];simp only[aS];have:a.2≠b.2:=fun z=>h (Prod.ext e z)
   omega
  ·rw[if_neg e,if_neg (fun z=>e z.symm)];simp only[aS];rcases Decidable.em (a.1.cps.toList<b.1.cps.toList) with z | z
   ·exact .inl z
   ·rcases Decidable.em (b.1.cps.toList<a.1.cps.toList) with y | y
    ·exact .inr y
    ·exact absurd (FL (List.le_antisymm (List.not_lt.mp y) (List.not_lt.mp z))) e
section
variable {prog:Program} {w:World} {A:Around} {E:Value->Shared->Prop} {s:Shared}
noncomputable def lh(h:Heap)(v:Value):Str×Int:=match v with
 | .ref a=>match h.get? a with
  | some o=>match o.data with
   | .seq xs _=>match xs.toList with
    | [.str x _,.int i _]=>(x,i)
    | _=>("",0)
   | _=>("",0)
  | none=>("",0)
 | _=>("",0)
def rT(h:Heap)(v:Value):Prop:=∃a o t u n,v=.ref a/\h.get? a=some o/\o.cls=.type "tuple"/\o.data=.seq #[.str (lh h v).1 t,.int (lh h v).2 u] n
theorem MT{h h':Heap}(k:∀b o,h.get? b=some o->h'.get? b=some o):∀{its:List Value},(∀v∈its,rT h v)->∃fs,KatTups h' its fs/\fs.length=its.length/\∀v∈fs,∃n t,v=Value.str n t
 | [],_=>⟨[],.nil,rfl,fun v hv=>by cases hv⟩
 | v::r,hv=>by
  obtain⟨fs,h1,h2,h3⟩:=MT k (its:=r) fun x hx=>hv x (aD _ hx)
  obtain⟨a,o,t,u,n,rfl,ho,hc,hd⟩:=hv v bj
  exact⟨_,KatTups.cons (k _ _ ho) hc hd rfl h1,by simp[h2],fun x hx=>by
   rcases ar.mp hx with rfl | hx
   ·exact⟨_,_,rfl⟩
   ·exact h3 x hx⟩
theorem D0{its:List Value}{z:Keyed}(hz:z∈pairsOf its):z.1∈its:=by
 unfold pairsOf at hz;have Ca:z∈its.zip its:=by simpa using hz
 exact(cw Ca).1
theorem wN{h h':Heap}{its:List Value}(k:∀b o,h.get? b=some o->h'.get? b=some o)(hv:∀v∈its,rT h v):Ask prog w A E its (fun x=>pD jk (its.map (lh h)) (lh h x.1)) { s with heap:=h' }:=by
 refine⟨fun h2=>⟨tuples' (Value.type "str" != Value.type "tuple"),fun Q' q=>?_,⟨fun x y Q ox oy q=>?_⟩⟩⟩
 ·obtain⟨fs,h1,Jd,h3⟩:=MT k hv;refine kat_kind (s:={ s with heap:=h' }) (T:=.type "str") h1 (by omega) (fun v hv=>?_) (by decide +kernel) q;obtain⟨n,t,rfl⟩:=h3 v hv;exact Looks.of_pure rfl
 ·have mx:=D0 ox;have my:=D0 oy;obtain⟨a,oa,t,u,n,ea,ga,ca,da⟩:=hv _ mx;obtain⟨b,ob,t',u',m,eb,gb,cb,db⟩:=hv _ my;rw[<-FA ki (bD mx)] at q;generalize lh h x.1=p at *;generalize lh h y.1=p' at *;rw[ea,eb];have e2:(Value.type "str" != Value.type "tuple")=true:=by decide +kernel
  rw[e2];refine kat_lt (k _ _ ga) da (k _ _ gb) db ?_;refine kat_cons (fS ?_);unfold jk at q;by_cases e:p.1=p'.1
  ·rw[if_pos e] at q;rw[cg e];refine kat_yes (kat_cons (eZ ?_));by_cases e3:p.2=p'.2
   ·simp only[ef.mpr e3];refine kat_yes (kat_nil ?_);rw[aX (by omega)] at q;exact q
   ·simp only[cH.mpr e3];exact kat_no (kat_one _ _ (PyProof.Rows.lt_int q))
  ·rw[if_neg e] at q;rw[aX e];exact kat_no (oneLt_str q)
end
end Ts
namespace L2
open PySem PySem.Spec PyProof.Rows
end L2
namespace Ts
open PySem PySem.W PyProof.Rows
section
open PySem.SeqAt
open PySem.AutoSeq1 (wpAny_loadPart')
open PySem.MeetsSeq PySem.MeetsSeq2 PySem.MeetsSeq3
theorem SH(A:Around)(s:Shared)(a:Str)(t:Tok)(c:Str)(u:Tok)(prog:Program)(w:World)(E:Value->Shared->Prop)(Q:Value->Shared->Prop)(h:Q (.bool (decide (a.cps.toList<c.cps.toList))) s) :
  wpAny (model prog w) A (richCompare .Lt (.str a t) (.str c u)) Q E s:=
 (PyProof.Rows.lt_str h:wpAny (model prog w) A (compareOp .Lt (.str a t) (.str c u)) Q E s)
theorem nW(A:Around)(s:Shared)(a:Int)(t:Tok)(c:Int)(u:Tok)(prog:Program)(w:World)(E:Value->Shared->Prop)(Q:Value->Shared->Prop)(h:Q (.bool (decide (a<c))) s) :
  wpAny (model prog w) A (richCompare .Lt (.int a t) (.int c u)) Q E s:=
 (PyProof.Rows.lt_int h:wpAny (model prog w) A (compareOp .Lt (.int a t) (.int c u)) Q E s)
theorem QN(l b:Addr)(x y:Str)(i j:Int)(t u t' u':Tok)(n n2:Nat)(dd vA:Option Addr)(sl vq:Array (Option Value)) :
  Meets (Builtin.«tuple.__lt__» ⟨[.ref l,.ref b],[]⟩)
   (fun _ R s=>s.heap.get? l=some { cls:=.type "tuple",dict:=dd,data:=.seq #[.str x t,.int i u] n,slots:=sl }/\s.heap.get? b=some { cls:=.type "tuple",dict:=vA,data:=.seq #[.str y t',.int j u'] n2,slots:=vq }/\
    R (.ok (.ret (.bool (jk (x,i) (y,j))))) s):=
 .of_wp fun prog w A R s h=>by
  obtain⟨hp,g,d,tk,os⟩:=s;obtain⟨hl,hb,h⟩:=h;have f2:=AutoSeq1.sub_tuple_tuple;unfold jk at h;wp_walk using b9 hl,b9 hb,wpAny_forIn_list _ (fun oB b s'=>b.1=none/\s'=⟨hp,g,d,tk,os⟩/\(oB=[(.str x t,.str y t'),(.int i u,.int j u')]\/(oB=[(.int i u,.int j u')]/\x=y)\/(oB=[]/\x=y/\i=j))) _
  case turn=>
   rintro⟨p,q⟩ oB b s' ⟨uS,rfl,hr⟩;rcases hr with hr | ⟨hr,z6⟩ | ⟨hr,_⟩
   ·injection hr with Ac uL
    injection Ac with yI rJ
    subst yI rJ;refine aa (fS ?_);by_cases e:x=y
    ·rw[cg e];wp_walk
     exact⟨rfl,rfl,.inr (.inl ⟨uL,e⟩)⟩
    ·rw[aX e];rw[if_neg e] at h;have Cd:=SH A.in1 ⟨hp,g,d,tk,os⟩ x t y t' prog w;wp_walk using Cd
     exact⟨_,rfl,by simpa using h⟩
   ·injection hr with Ac uL
    injection Ac with yI rJ
    subst yI rJ;refine aa (eZ ?_);by_cases e:i=j
    ·simp only[ef.mpr e];wp_walk
     exact⟨rfl,rfl,.inr (.inr ⟨uL,z6,e⟩)⟩
    ·simp only[cH.mpr e];rw[if_pos z6] at h;have Cd:=nW A.in1 ⟨hp,g,d,tk,os⟩ i u j u' prog w;wp_walk using Cd
     exact⟨_,rfl,by simpa using h⟩
   ·cases hr
  case fin=>
   rintro⟨b1,b2⟩ s' ⟨uS,rfl,hr⟩;simp only at uS;subst uS;rcases hr with hr | ⟨hr,_⟩ | ⟨_,z6,jX⟩
   ·cases hr
   ·cases hr
   ·rw[if_pos z6,aX (by omega)] at h;wp_walk
    exact⟨_,rfl,by simpa[Builtin.Tuple.tupleCompareSizes] using h⟩
  case h=>exact⟨rfl,rfl,.inl rfl⟩
def Fz(A:Around)(s:Shared)(y x:Value)(b:Bool):Prop:=
 ∀(prog:Program) (w:World) (E:Value->Shared->Prop) (Q:Value->Shared->Prop),Q (.bool b) s->wpAny (model prog w) A (richCompare .Lt y x) Q E s
theorem VG(l b:Addr)(items jr:Array Value)(n n2:Nat)(dd vA:Option Addr)(sl vq:Array (Option Value))(h1:0<items.size)(h2:0<jr.size)(c:Bool) :
  Meets (Builtin.«list.__eq__.loop» ⟨[.ref l,.ref b,rawInt 0,rawInt 0],[]⟩)
   (fun A R s=>s.heap.get? l=some { cls:=.type "list",dict:=dd,data:=.seq items n,slots:=sl }/\s.heap.get? b=some { cls:=.type "list",dict:=vA,data:=.seq jr n2,slots:=vq }/\
    EqAt A.in1 s items[0] jr[0] false/\Fz A.in1 s items[0] jr[0] c/\R (.ok (.ret (.bool c))) s):=by
 intro prog w A R s h;obtain⟨hp,g,d,tk,os⟩:=s;obtain⟨hl,hb,he,hr,h⟩:=h;wp_walk using b9 hl,b9 hb
 have Aj:items[(0:Int).toNat]?=some items[0]:=by simp[h1]
 have xC:jr[(0:Int).toNat]?=some jr[0]:=by simp[h2]
 rw[Aj,xC];refine aa (he prog w _ _ ?_);wp_walk using b9 hl,b9 hb
 rw[Aj,xC];have Cd:=hr prog w;wp_walk using Cd
 exact h
theorem Vy(l:Addr)(items:Array Value)(n:Nat)(dd:Option Addr)(sl:Array (Option Value))(k:Nat) :
  ∀i:Nat,items.size-i=k->Meets (Builtin.«list.__eq__.loop» ⟨[.ref l,.ref l,rawInt i,rawInt 0],[]⟩)
   (fun A R s=>s.heap.get? l=some { cls:=.type "list",dict:=dd,data:=.seq items n,slots:=sl }/\R (.ok (.ret (.bool false))) s):=by
 induction k with
 | zero=>
  intro i hk prog w A R s h;obtain⟨hp,g,d,tk,os⟩:=s;obtain⟨hl,h⟩:=h;wp_walk using b9 hl
  have Aj:items[((i:Nat):Int).toNat]?=none:=by simp;omega
  rw[Aj];wp_walk using b9 hl
  show R (.ok (.ret (.bool (decide (items.size<items.size))))) _;simpa using h
 | succ k ih=>
  intro i hk prog w A R s h;obtain⟨hp,g,d,tk,os⟩:=s;obtain⟨hl,h⟩:=h;wp_walk using b9 hl
  have gL:i<items.size:=by omega
  have Aj:items[((i:Nat):Int).toNat]?=some items[i]:=by simp[gL]
  have hc:((i:Int)+1)=((i+1:Nat):Int):=by push_cast;rfl
  rw[Aj];refine aa (EqAt.same _ prog w _ _ ?_);wp_walk
  rw[hc]
  exact⟨cP plain_eq_loop _,b8 entry_eq_loop (by
   rw[bJ plain_eq_loop _]
   exact ih (i+1) (by omega) prog w A R _ ⟨hl,h⟩)⟩
theorem VF(l b:Addr)(items jr:Array Value)(n n2:Nat)(dd vA:Option Addr)(sl vq:Array (Option Value))(h1:0<items.size)(h2:0<jr.size)(c:Bool) :
  Meets (Builtin.«list.__lt__» ⟨[.ref l,.ref b],[]⟩)
   (fun A R s=>s.heap.get? l=some { cls:=.type "list",dict:=dd,data:=.seq items n,slots:=sl }/\s.heap.get? b=some { cls:=.type "list",dict:=vA,data:=.seq jr n2,slots:=vq }/\
    EqAt A.in1 s items[0] jr[0] false/\Fz A.in1 s items[0] jr[0] c/\R (.ok (.ret (.bool c))) s):=by
 intro prog w A R s h;obtain⟨hp,g,d,tk,os⟩:=s;obtain⟨hl,hb,he,hr,h⟩:=h;have f3:=AutoSeq1.sub_list_list;wp_walk using b9 hl,b9 hb
 exact⟨cP plain_eq_loop _,b8 entry_eq_loop (by
  rw[bJ plain_eq_loop _];exact VG l b items jr n n2 dd vA sl vq h1 h2 c prog w A R _ ⟨hl,hb,he,hr,h⟩)⟩
theorem Vx(l:Addr)(items:Array Value)(n:Nat)(dd:Option Addr)(sl:Array (Option Value)) :
  Meets (Builtin.«list.__lt__» ⟨[.ref l,.ref l],[]⟩)
   (fun A R s=>s.heap.get? l=some { cls:=.type "list",dict:=dd,data:=.seq items n,slots:=sl }/\R (.ok (.ret (.bool false))) s):=by
 intro prog w A R s h;obtain⟨hp,g,d,tk,os⟩:=s;obtain⟨hl,h⟩:=h;have f3:=AutoSeq1.sub_list_list;wp_walk using b9 hl
 exact⟨cP plain_eq_loop _,b8 entry_eq_loop (by
  rw[bJ plain_eq_loop _];exact Vy l items n dd sl _ 0 rfl prog w A R _ ⟨hl,h⟩)⟩
end
open PySem.SeqAt
section
variable {prog:Program} {w:World} {A:Around} {E:Value->Shared->Prop} {s:Shared}
noncomputable def mZ(h:Heap)(v:Value):Str×Int:=match v with
 | .ref a=>match h.get? a with
  | some o=>match o.data with
   | .seq xs _=>lh h (xs.getD 0 .none)
   | _=>("",0)
  | none=>("",0)
 | _=>("",0)
def CQ(h:Heap)(v:Value):Prop:=∃a o xs n,v=.ref a/\h.get? a=some o/\o.cls=.type "list"/\o.data=.seq xs n/\∃hx:0<xs.size,rT h xs[0]/\lh h xs[0]=mZ h v
theorem rT.keep{h h':Heap}(k:∀b o,h.get? b=some o->h'.get? b=some o){v:Value}(e:rT h v):∃a o t u n,v=.ref a/\h'.get? a=some o/\o.cls=.type "tuple"/\o.data=.seq #[.str (lh h v).1 t,.int (lh h v).2 u] n:=by
 obtain⟨a,o,t,u,n,h1,h2,h3⟩:=e;exact⟨a,o,t,u,n,h1,k _ _ h2,h3⟩
theorem QM{v u:Value}{p q:Str×Int}(hu:A.units<cLine)(hv:∃a o t t' n,v=.ref a/\s.heap.get? a=some o/\o.cls=.type "tuple"/\o.data=.seq #[.str p.1 t,.int p.2 t'] n)(hw:∃a o t t' n,u=.ref a/\s.heap.get? a=some o/\o.cls=.type "tuple"/\o.data=.seq #[.str q.1 t,.int q.2 t'] n):Fz A s v u (jk p q):=fun prog w E Q h=>by
 obtain⟨a,⟨c1,dd,da,sl⟩,t,t',n,rfl,g1,e1,e2⟩:=hv;obtain⟨b,⟨c2,vA,db,vq⟩,t2,Ei,n2,rfl,g2,e3,e4⟩:=hw;simp only at e1 e2 e3 e4;subst e1 e2 e3 e4;exact richCompare_meets_room (op:=.Lt) ⟨_,g1,rfl⟩ ⟨_,g2,rfl⟩ PySem.F.slot_tuple_lt PySem.F.entry_tuple_lt (PySem.F.args_tuple_lt_2 _ _) (QN a b p.1 q.1 p.2 q.2 t t' t2 Ei n n2 dd vA sl vq)
  ⟨g1,g2,show Value.bool (jk p q)≠Value.notImplemented/\Q (.bool (jk p q)) s from⟨(fun x=>nomatch x),h⟩⟩ hu
theorem QL{v u:Value}{p q:Str×Int}(hu:A.units<cLine)(Ac:p≠q)(hv:∃a o t t' n,v=.ref a/\s.heap.get? a=some o/\o.cls=.type "tuple"/\o.data=.seq #[.str p.1 t,.int p.2 t'] n)(hw:∃a o t t' n,u=.ref a/\s.heap.get? a=some o/\o.cls=.type "tuple"/\o.data=.seq #[.str q.1 t,.int q.2 t'] n):EqAt A s v u false:=by
 obtain⟨a,oa,t,t',n,rfl,g1,e1,e2⟩:=hv;obtain⟨b,ob,t2,Ei,n2,rfl,g2,e3,e4⟩:=hw;have kU:a≠b:=fun z=>by
  subst z;rw[g1] at g2;cases g2;rw[e2] at e4;simp only[Data.seq.injEq,Array.mk.injEq,List.cons.injEq,Value.str.injEq,Value.int.injEq] at e4;exact Ac (Prod.ext e4.1.1.1 e4.1.2.1.1)
 have R:=RcAt.tuples (A:=A) (s:=s) (e:=fun j=>if j=0 then decide (p.1=q.1) else(p.2==q.2)) ⟨oa,g1,e1,_,e2⟩ ⟨ob,g2,e3,_,e4⟩ hu fun j h1 h2=>by
  have:j=0\/j=1:=by simp at h1;omega
  rcases this with rfl | rfl
  ·exact fun prog w E Q h=>fS h
  ·exact fun prog w E Q h=>eZ h
 have e:((List.range (min (#[Value.str p.1 t,.int p.2 t']:Array Value).size (#[Value.str q.1 t2,.int q.2 Ei]:Array Value).size)).all (fun j=>if j=0 then decide (p.1=q.1) else(p.2==q.2))&&(#[Value.str p.1 t,.int p.2 t']:Array Value).size==(#[Value.str q.1 t2,.int q.2 Ei]:Array Value).size)=false:=by
  show((List.range 2).all _&&true)=false;rw[show List.range 2=[0,1] from rfl];simp only[List.all_cons,List.all_nil,aR,Bool.and_true];rw[if_neg (by decide)];by_cases e1:p.1=q.1
  ·have:p.2≠q.2:=fun z=>Ac (Prod.ext e1 z)
   simp[e1,this]
  ·simp[e1]
 rw[e] at R;exact EqAt.of_refs kU R
theorem wM{h h':Heap}{its:List Value}(hu:A.units+8<cLine)(k:∀b o,h.get? b=some o->h'.get? b=some o)(hv:∀v∈its,CQ h v)(hd:∀v∈its,∀u∈its,mZ h v=mZ h u->v=u):Ask prog w A E its (fun x=>pD jk (its.map (mZ h)) (mZ h x.1)) { s with heap:=h' }:=by
 refine⟨fun h2=>⟨oneType',fun Q' q=>?_,⟨fun x y Q ox oy q=>?_⟩⟩⟩
 ·refine kas_kind (s:={ s with heap:=h' }) (T:=.type "list") h2 (fun v hm=>?_) (by decide +kernel) (by decide +kernel) q;obtain⟨a,o,xs,n,rfl,g1,c1,_⟩:=hv v hm;rw[<-c1];exact(Looks.ld (k _ _ g1)).andThen .now
 ·have mx:=D0 ox;have my:=D0 oy;rw[<-FA ki (bD mx)] at q;have lx:=hv _ mx;have ly:=hv _ my;have z6:=hd _ mx _ my;generalize x.1=v at *;generalize y.1=u at *;obtain⟨a,⟨c1,dd,da,sl⟩,xs,n,rfl,g1,e1,e2,hx,Jh,Ow⟩:=lx;obtain⟨b,⟨c2,vA,db,vq⟩,ys,n2,rfl,g2,e3,e4,hy,Ou,Ov⟩:=ly;simp only at e1 e2 e3 e4;subst e1 e2 e3 e4;rw[keyLt'_oneType,oneLt'_eq];simp only[aR];refine aa (wpAny_cRoomFor (by omega) ?_);have Ao:=k _ _ g1;have YW:=k _ _ g2;have fin:∀c,c=jk (mZ h (.ref a)) (mZ h (.ref b))->Q c { s with heap:=h' }:=fun c e=>e▸q
  by_cases kU:mZ h (.ref a)=mZ h (.ref b)
  ·have:=z6 kU;cases this;refine aa (wpAny_callSpecialIfBound?_slot (T:="list") ⟨_,Ao,rfl⟩ eY (fT eY ⟨_,Ao,rfl⟩ PySem.F.entry_list_lt (PySem.F.args_list_lt_2 _ _) (Vx a xs n dd sl) ⟨Ao,?_⟩));exact cK (fin _ (ki.ir _).symm)
  ·refine aa (wpAny_callSpecialIfBound?_slot (T:="list") ⟨_,Ao,rfl⟩ eY (fT eY ⟨_,Ao,rfl⟩ PySem.F.entry_list_lt (PySem.F.args_list_lt_2 _ _) (VF a b xs ys n n2 dd vA sl vq hx hy (jk (lh h xs[0]) (lh h ys[0])))
    ⟨Ao,YW,QL (by show A.units+1<cLine;omega) (by rw[Ow,Ov];exact kU) (Jh.keep k) (Ou.keep k),QM (by show A.units+1<cLine;omega) (Jh.keep k) (Ou.keep k),?_⟩))
   exact cK (fin _ (by rw[Ow,Ov]))
end
end Ts
namespace L2
open PySem PySem.Spec PyProof.Rows
noncomputable abbrev iG:=Str×Int
noncomputable def js(p:iG):D:=.tup [.str p.1,.int p.2]
section
variable {X:Cx}
def Fy(X:Cx)(kf:Heap->Value->iG)(C:Hp->List (V×iG)->Prop):Prop:=∀{Z8:List (Addr×Obj)} {s:Shared} {σ:St} {H:Hp} (I:Inv X Z8 σ H s) {ps:List (V×iG)} {its:List Value},C H ps->Vals (ps.map (·.1)) its->
 (∀z∈ps.zip its,kf s.heap z.2=z.1.2)/\∀h',(∀b o,s.heap.get? b=some o->h'.get? b=some o)->Ts.Ask X.prog X.w X.A.in1.in1 X.xe its (fun x=>Ts.pD Ts.jk (its.map (kf s.heap)) (kf s.heap x.1)) { s with heap:=h' }
def Kg(K:Z9)(C:Hp->List (V×iG)->Prop):List V->Hp->VK->Prop:=fun xs H Q=>∃(p:Addr) (ps:List (V×iG)),xs=[.ref p]/\iI K H p (ps.map (·.1))/\C H ps/\ps.length<64/\
  ∀nJ:List (V×iG),nJ.Perm ps->nJ.Pairwise (fun x y=>Ts.jk y.2 x.2=false)->∀l,H l=none->Q (.ref l) (upd H l (.lst (nJ.map (·.1))))
theorem MS{kf:Heap->Value->iG}{C:Hp->List (V×iG)->Prop}(hC:Fy X kf C):hJ X (.builtin "sorted") (Kg X.K C):=by
 walk_at "1e";obtain⟨p,ps,rfl,hq,hk,hr,q⟩:=h;obtain⟨u,rfl,ru⟩:=oE r;cases ru;obtain⟨its,rv,pl,hz⟩:=I.list hq;obtain⟨kk,ask⟩:=hC I hk rv;have hl:ps.length=its.length:=by rw[<-rv.length,ae]
 obtain⟨LL,eL⟩:∃LL,LL=ps.zip its:=⟨_,rfl⟩
 have e1:ps=LL.map (·.1):=by rw[eL];exact(ff (by omega)).symm
 have e2:its=LL.map (·.2):=by rw[eL];exact(fg (by omega)).symm
 have rel:∀z∈LL,RelV z.1.1 z.2:=fun z hz=>by
  obtain⟨i,hi⟩:=cC hz;have h1:(ps.map (·.1))[i]?=some z.1.1:=by rw[e1];simp[hi]
  obtain⟨v',tJ,rx⟩:=rv.get h1;have h2:its[i]?=some z.2:=by rw[e2];simp[hi]
  rw[h2] at tJ;cases tJ;exact rx
 rw[<-eL] at kk;refine Ts.qr (rk:=fun x=>Ts.pD Ts.jk (its.map (kf s.heap)) (kf s.heap x.1)) pl.isList (by rw[<-hl,<-ae (f:=(·.1))];exact hz) (fun h2=>Ts.wc (by omega) (by omega)) ask fun gm hp hs=>?_
 have ep:(PyProof.Rows.pairsOf its).toList=LL.map fun z=>((z.2,z.2):Keyed):=by
  unfold PyProof.Rows.pairsOf;rw[e2];simp only[List.zip_toArray];clear eL e1 e2 rel kk hp hs;induction LL with
  | nil=>rfl
  | cons a r ih=>simp at ih ⊢;exact ih
 obtain⟨L',h1,h2⟩:=D2 (hp.trans (eP ep)) rfl;have yr:∀z∈L',RelV z.1.1 z.2:=fun z hz=>rel z (h1.subset hz)
 have out:((arrOf gm).map (·.2)).toList=L'.map (·.2):=by
  rw[Array.toList_map,h2,aL];rfl
 obtain⟨en,he⟩:=sortedAll_at s.heap its ((arrOf gm).map (·.2));have hf:H (s.heap.objs.size+1)=none:=I.hV.fresh (bY _)
 have q':=q (L'.map (·.1)) (by rw[e1];exact h1.map _) (by
  rw[bX];unfold Ts.iY at hs;rw[h2,bX] at hs;refine hs.imp_of_mem fun{a b} ha hb kU=>?_
  have ta:=kk a (h1.subset ha);have tb:=kk b (h1.subset hb);rw[<-ta,<-tb];have ma:kf s.heap a.2∈its.map (kf s.heap):=bD (by rw[e2];exact bD (h1.subset ha));have mb:kf s.heap b.2∈its.map (kf s.heap):=bD (by rw[e2];exact bD (h1.subset hb))
  exact Ts.BQ Ts.ki ma mb (by simp only at kU;omega)) _ hf
 rw[aL] at q';refine⟨.ref (s.heap.objs.size+1),_,I.laid (a:=s.heap.objs.size+1) (o:=.lst (L'.map ((·.1)∘(·.1)))) (t':=s.toks) (fun b o e=>sortedAll_old e) (bY _) ?_,rfl,q'⟩;have el:LL.length=its.length:=by rw[e2,ae]
 refine⟨by rw[ae,h1.length_eq,el,<-hl,<-ae (f:=(·.1))];exact hz,((arrOf gm).map (·.2)).toList,en,?_,?_⟩
 ·rw[out];exact FN yr
 ·rw[dr];exact he
def Zd(K:Z9):Hp->List (V×iG)->Prop:=fun H ps=>∀q∈ps,∃b,q.1=.ref b/\jE K H b [.str q.2.1,.int q.2.2]
theorem JS{Z8:List (Addr×Obj)}{s:Shared}{σ:St}{H:Hp}(I:Inv X Z8 σ H s){v:V}{u:Value}{e:iG}(h:∃b,v=.ref b/\jE X.K H b [.str e.1,.int e.2])(r:RelV v u):Ts.rT s.heap u/\Ts.lh s.heap u=e:=by
 obtain⟨b,rfl,sq⟩:=h;cases r;obtain⟨i1,v1,p1,_⟩:=I.tuple sq;obtain⟨o1,g1,c1,n1,d1⟩:=p1;obtain⟨u1,u2,rfl,⟨t1,rfl⟩,⟨t2,rfl⟩⟩:=AK v1;have e':Ts.lh s.heap (.ref b)=e:=by
  unfold Ts.lh;simp only[g1,d1]
 exact⟨⟨b,o1,t1,t2,n1,rfl,g1,c1,by rw[e'];exact d1⟩,e'⟩
theorem Ga{α:Type}{f:α->V}:∀{ps:List α} {its:List Value},Vals (ps.map f) its->∀z∈ps.zip its,RelV (f z.1) z.2
 | [],_,_,z,hz=>by cases hz
 | p::ps,_,r,z,hz=>by
  cases r with
  | cons a b=>
   rw[eJ] at hz;rcases ar.mp hz with rfl | hz
   ·exact a
   ·exact Ga b z hz
theorem GY{α β:Type}:∀{l:List α} {m:List β},l.length=m.length->∀b∈m,∃a,(a,b)∈l.zip m
 | [],[],_,b,hb=>by cases hb
 | a::l,c::m,h,b,hb=>by
  rcases ar.mp hb with rfl | hb
  ·exact⟨a,by simp⟩
  ·obtain⟨x,hx⟩:=GY (l:=l) (m:=m) (by simpa using h) b hb;exact⟨x,by simp[hx]⟩
 | [],_::_,h,_,_=>by simp at h
 | _::_,[],h,_,_=>by simp at h
theorem QK:Fy X Ts.lh (Zd X.K):=fun{Z8 s σ H} I {ps its} hc r=>by
 have hl:ps.length=its.length:=by rw[<-r.length,ae]
 have at_:∀z∈ps.zip its,Ts.rT s.heap z.2/\Ts.lh s.heap z.2=z.1.2:=fun z hz=>JS I (hc _ (cw hz).1) (Ga r z hz)
 refine⟨fun z hz=>(at_ z hz).2,fun h' k=>Ts.wN k fun v hv=>?_⟩;obtain⟨a,ha⟩:=GY hl v hv;exact(at_ _ ha).1
def Fx:iF:=fun ds Q=>∃ps:List iG,ds=[.lst (ps.map js)]/\ps.length<64/\∀nJ:List iG,nJ.Perm ps->nJ.Pairwise (fun x y=>Ts.jk y x=false)->Q (.ow (nJ.map js))
theorem LX{K:Z9}{G:Hp}:∀{xs:List V} {ps:List iG},f9 K G xs (ps.map js)->xs.length=ps.length/\∀q∈xs.zip ps,Rep K G q.1 (js q.2)/\∃b,q.1=.ref b/\jE K G b [.str q.2.1,.int q.2.2]
 | [],[],_=>⟨rfl,fun q hq=>by cases hq⟩
 | v::xs,p::ps,r=>by
  rw[ay] at r;simp only[f9] at r;obtain⟨h1,h2⟩:=LX r.2;refine⟨by simp[h1],fun q hq=>?_⟩;rw[eJ] at hq;rcases ar.mp hq with rfl | hq
  ·refine⟨r.1,?_⟩;have rr:=r.1;unfold js at rr;simp only[Rep] at rr;obtain⟨a,ys,rfl,sq,ry⟩:=rr;obtain⟨y,z,rfl,r1,r2⟩:=AI ry;simp only[Rep] at r1 r2;subst r1 r2;exact⟨a,rfl,jE.of sq⟩
  ·exact h2 q hq
 | [],_::_,r=>by rw[ay] at r;simp only[f9] at r
 | _::_,[],r=>by rw[bW] at r;simp only[f9] at r
theorem Lf(_:X.calm=true):tW X (.builtin "sorted") Fx:=by
 refine⟨_,MS QK,fun G H vs ds Q P s rs h k=>?_⟩;obtain⟨ps,rfl,hl,q⟩:=h;obtain⟨v,rfl,rv⟩:=oC rs;simp only[Rep] at rv;obtain⟨a,xs,rfl,h1,h2⟩:=rv;obtain⟨h3,hz⟩:=LX h2;have e1:(xs.zip ps).map (·.1)=xs:=ff (by omega);have e2:(xs.zip ps).map (·.2)=ps:=fg (by omega);have el:(xs.zip ps).length=ps.length:=by rw[fD];omega
 refine⟨a,xs.zip ps,rfl,by rw[e1];exact(s.jF h1).sq,fun z hq=>?_,by omega,fun nJ p1 p2=>?_⟩
 ·obtain⟨_,b,e,sq⟩:=hz z hq;exact⟨b,e,s.tF sq⟩
 ·refine vR s (ds:=(nJ.map (·.2)).map js) ?_ (q (nJ.map (·.2)) ((p1.map _).trans (eP e2)) (by rw[bX];exact p2)) k;rw[aL];exact DK fun q hq=>(hz q (p1.subset hq)).1
end
section
variable {X:Cx}
def OC(K:Z9):Hp->List (V×iG)->Prop:=fun H ps=>(ps.map (·.2)).Nodup/\∀q∈ps,∃b c xs,q.1=.ref b/\iI K H b (.ref c::xs)/\jE K H c [.str q.2.1,.int q.2.2]
theorem QJ(hu:X.A.units+64<cLine):Fy X Ts.mZ (OC X.K):=fun{Z8 s σ H} I {ps its} hc r=>by
 have hl:ps.length=its.length:=by rw[<-r.length,ae]
 have at_:∀z∈ps.zip its,Ts.CQ s.heap z.2/\Ts.mZ s.heap z.2=z.1.2:=fun z hz=>by
  obtain⟨b,c,xs,e,sl,st⟩:=hc.2 _ (cw hz).1;have rz:=Ga r z hz;rw[e] at rz;obtain⟨⟨zv,ze⟩,zw⟩:=z;simp only at rz st ⊢;cases rz;obtain⟨it,rv,⟨o,n,g,c1,_,d⟩,_⟩:=I.list sl;cases rv with
  | @cons _ _ _ ys ra rb=>
   obtain⟨e1,e2⟩:=JS (e:=ze) I ⟨c,rfl,st⟩ ra;have hh:Ts.mZ s.heap (.ref b)=ze:=by
    unfold Ts.mZ;simp only[g,d];exact e2
   exact⟨⟨b,o,_,n,rfl,g,c1,d,by simp,e1,by rw[hh];exact e2⟩,hh⟩
 refine⟨fun z hz=>(at_ z hz).2,fun h' k=>Ts.wM (by show X.A.units+1+1+8<cLine;omega) k (fun v hv=>?_) fun v hv u hw e=>?_⟩
 ·obtain⟨a,ha⟩:=GY hl v hv;exact(at_ _ ha).1
 ·obtain⟨i,hi⟩:=cC hv;obtain⟨j,hj⟩:=cC hw;have vx:i<ps.length:=by rw[hl];exact(aB.mp hi).1
  have Cn:j<ps.length:=by rw[hl];exact(aB.mp hj).1
  have z1:(ps[i],v)∈ps.zip its:=aU (i:=i) (by rw[eh];exact⟨ai vx,hi⟩);have z2:(ps[j],u)∈ps.zip its:=aU (i:=j) (by rw[eh];exact⟨ai Cn,hj⟩);rw[(at_ _ z1).2,(at_ _ z2).2] at e;have:i=j:=(List.getElem?_inj (l:=ps.map (·.2)) (by simpa using vx) hc.1).mp (by rw[aH,aH,ai vx,ai Cn];exact eG some e);subst this;rw[hi] at hj;exact bE hj
noncomputable def jY(g:List iG):iG:=g.headD ("",0)
def zD(te:TD):TD:=fun ρ Q=>te ρ fun r=>match r with
 | .ov (.ll g6)=>∃rM:List (List iG),g6=rM.map (fun g=>g.map js)/\rM.length<64/\(∀g∈rM,g≠[])/\(rM.map jY).Nodup/\
  ∀yS:List (List iG),yS.Perm rM->yS.Pairwise (fun x y=>Ts.jk (jY y) (jY x)=false)->Q (.ov (.ll (yS.map fun g=>g.map js)))
 | _=>False
theorem gw.at{K:Z9}{G H:Hp}:∀{qs:List Addr} {rM:List (List iG)},gw K G H qs (rM.map fun g=>g.map js)->∀z∈qs.zip rM,∃xs,H z.1=some (.lst xs)/\f9 K G xs (z.2.map js)
 | [],[],_,z,hz=>by cases hz
 | q::qs,g::rM,h,z,hz=>by
  rw[ay] at h;simp only[gw] at h;rw[eJ] at hz;rcases ar.mp hz with rfl | hz
  ·exact h.1
  ·exact gw.at h.2 z hz
 | [],_::_,h,_,_=>by rw[ay] at h;simp only[gw] at h
 | _::_,[],h,_,_=>by rw[bW] at h;simp only[gw] at h
theorem Le{K:Z9}{G H:Hp}:∀{L:List (Addr×List iG)},(∀z∈L,∃xs,H z.1=some (.lst xs)/\f9 K G xs (z.2.map js))->gw K G H (L.map (·.1)) ((L.map (·.2)).map fun g=>g.map js)
 | [],_=>by simp only[bW,gw]
 | z::L,h=>by
  simp only[ay,gw];exact⟨h z bj,Le fun y hy=>h y (aD _ hy)⟩
theorem T6{te:TD}{tt:TE}(q:sT X.K te tt):sT X.K (zD te) (Eg (Kg X.K (OC X.K)) (fun σ H Q=>tt σ H fun v H1=>Q [v] H1)):=by
 intro ρ σ G0 H0 G H Q P E h k;refine q ρ σ G0 H0 G H _ _ E h fun v H1 r G1 x1 rr hq=>?_
 split at hq;rotate_left
 ·exact hq.elim
 rename_i g6;obtain⟨rM,rfl,An,ij,nd,hq⟩:=hq;obtain⟨p,fp,rfl,Eu,⟨hp,rl⟩,fr⟩:=rr;have hlen:fp.length=rM.length:=by have:=rl.length;simpa using this
 have at_:=rl.at;have e1:(fp.zip rM).map (·.1)=fp:=ff (by omega);have e2:(fp.zip rM).map (·.2)=rM:=fg (by omega);refine⟨p,(fp.zip rM).map fun z=>(V.ref z.1,jY z.2),rfl,?_,⟨?_,fun y hy=>?_⟩,by rw[ae,fD];omega,fun nJ p1 p2 l hl=>?_⟩
 ·rw[aL];have:((fun x:V×iG=>x.1)∘fun z:Addr×List iG=>(V.ref z.1,jY z.2))=V.ref∘(fun z:Addr×List iG=>z.1):=rfl;rw[this,<-aL,e1];exact iI.of hp
 ·rw[aL];have:((fun x:V×iG=>x.2)∘fun z:Addr×List iG=>(V.ref z.1,jY z.2))=jY∘(fun z:Addr×List iG=>z.2):=rfl;rw[this,<-aL,e2];exact nd
 ·obtain⟨z,hz,rfl⟩:=aO.mp hy;obtain⟨xs,g1,g2⟩:=at_ z hz;have Ie:=ij z.2 (cw hz).2;cases hg:z.2 with
  | nil=>exact absurd hg Ie
  | cons e g=>
   rw[hg,ay] at g2;cases xs with
   | nil=>simp only[f9] at g2
   | cons y ys=>
    simp only[f9] at g2;have r1:=g2.1;unfold js at r1;simp only[Rep] at r1;obtain⟨c,zs,rfl,hc,rz⟩:=r1;obtain⟨a,b,rfl,r1,r2⟩:=AI rz;simp only[Rep] at r1 r2;subst r1 r2;exact⟨z.1,c,ys,rfl,iI.of g1,jE.of (x1.s _ _ hc)⟩
 ·obtain⟨L',f1,rfl⟩:=D2 p1 rfl;have Zz:l≠p:=fun z=>by rw[z,hp] at hl;cases hl
  have uD:(L'.map (·.1)).Perm fp:=(f1.map _).trans (eP e1);have Ag:∀q∈fp,q≠l:=fun q hq z=>rl.here q hq (by rw[z];exact hl)
  have x2:Ext G1 H1 G1 (upd H1 l (.lst (L'.map fun z=>V.ref z.1))):=.own x1.s hl;have q':=hq (L'.map (·.2)) ((f1.map _).trans (eP e2)) (by rw[bX] at p2 ⊢;exact p2);have el:((L'.map fun z:Addr×List iG=>(V.ref z.1,jY z.2)).map fun x:V×iG=>x.1)=L'.map fun z=>V.ref z.1:=by rw[aL];rfl
  rw[el];refine k _ _ (.ov (.ll ((L'.map (·.2)).map fun g=>g.map js))) G1 (x1.trans x2) ⟨l,L'.map (·.1),rfl,?_,⟨?_,?_⟩,fun q hq=>?_⟩ q'
  ·rw[bO] at Eu ⊢;exact⟨fun z=>Ag l (uD.subset z) rfl,uD.nodup_iff.mpr Eu.2⟩
  ·rw[lA,aL];rfl
  ·refine Le fun z hz=>?_
   obtain⟨xs,g1,g2⟩:=at_ z (f1.subset hz);refine⟨xs,?_,g2⟩;rw[iy (Ag z.1 (cw (f1.subset hz)).1)];exact g1
  ·rcases ar.mp hq with rfl | hq
   ·exact⟨x1.h.free hl,x1.s.free hl⟩
   ·exact fr q (aD _ (uD.subset hq))
theorem MK{e:Expr}{te:TD}{p pos:Pos}(hu:X.A.units+64<cLine)(hm:X.mg "sorted"=none)(h:PD X e te)(hg:Gl X "sorted":=by rfl)(jW:starEach [e] X.env=(false,eval e X.env)::starEach [] X.env:=by rfl):PD X (.Call (.Name "sorted" p) [e] [] pos) (zD te):=by
 obtain⟨tt,pp,q⟩:=h;have:=A8 (pos:=pos) (p:=p) (MS (QJ hu)) hg hm fI (tq pp tY jW) (he:=jW);exact⟨_,this,T6 q⟩
end
section
variable {X:Cx} {pos:Pos} {e i' i2:Expr} {te ti tk:TD}
def Zg(i:Nat)(ti tk te:TD):TX:=fun D ρ=>match gt ρ i with
 | .ov (.ll g6)=>te ρ fun r=>ti ρ fun rk=>match rk.val with
  | .int n=>∃j ds,rA g6.length n=some j/\g6[j]?=some ds/\tk ρ fun r2=>match r2.val with
   | .int m=>∃c,rA ds.length m=some c/\D.nx (ρ.set i (.ov (.ll (g6.set j (ds.set c r.val)))))
   | _=>False
  | _=>False
 | _=>False
def D4(i j:Nat):TX:=fun D ρ=>match gt ρ i with
 | .ov (.ll g6)=>i≠j/\j<ρ.length/\D.nx ((ρ.set j .un).set i (.ov (.ll (g6.map fun _=>[]))))
 | _=>False
theorem LW{K:Z9}{G H:Hp}:∀{qs:List Addr} {g6:List (List D)},qs.length=g6.length->(∀q∈qs,H q=some (.lst []))->gw K G H qs (g6.map fun _=>[])
 | [],[],_,_=>by simp only[bW,gw]
 | q::qs,ds::g6,hl,h=>by
  simp only[ay,gw];exact⟨⟨[],h q bj,f9.nil⟩,LW (by simpa using hl) fun q hq=>h q (aD _ hq)⟩
 | [],_::_,h,_=>by simp at h
 | _::_,[],h,_=>by simp at h
theorem Vw(i j:Nat){c y:Str}{p1 p2 p5 p6 p7 p8:Pos}(hc:X.calm=true)(hX:X.N.Nodup)
  (hp:PassesOwn (model X.prog X.w) X.A X.env X.xe) (hN:X.N[i]?=some c:=by rfl) (hv:qK X.env.scope c:=by first | exact Or.inl rfl | exact Or.inr (Or.inl rfl) | exact Or.inr (Or.inr rfl)) (hd:(c==("__debug__":Str))=false:=by decide) (kP:(c==("__classdict__":Str))=false:=by decide)
  (Oh:X.N[j]?=some y:=by rfl) (X1:qK X.env.scope y:=by first | exact Or.inl rfl | exact Or.inr (Or.inl rfl) | exact Or.inr (Or.inr rfl)) (Yy:(y==("__debug__":Str))=false:=by decide) (IT:(y==("__classdict__":Str))=false:=by decide) (hx:Loc X.env.scope y:=by first | exact Or.inl rfl | exact Or.inr rfl) (hf:X.fn y=true\/X.env.scope.names.lookup y=some .local:=by first | exact .inl rfl | exact .inr rfl)
  (hb:∀{ta:TE},PE X (.Name y p5) ta->PE X (.Call (.Attribute (.Name y p5) "clear" p6) [] [] p7) (JG X.K "list" Kn ta):=by intro ta h1;exact P4 cB PySem.F.slot_list_clear PySem.F.type_list_clear Ti h1)
  (uc:swapsWith (.Call (.Attribute (.Name y p5) "clear" p6) [] [] p7) none p8.line X.env=pure false:=by rfl)
  (hs:∀x,foldedSetIterable (.Name c p2) X.env x=pure x:=by intro _;rfl) :
  PX X (.For (.Name y p1) (.Name c p2) [.Expr (.Call (.Attribute (.Name y p5) "clear" p6) [] [] p7) p8] [] pos) (D4 i j):=by
 refine⟨_,Kt hp hc (RO (sg hN hv hd kP)) (Lj hX Oh hx hf) (Lk (zF (hb (sg Oh X1 Yy IT)) uc)) hs,fun ρ σ G0 H0 G H D E k h gg=>?_⟩;unfold D4 at h;split at h
 ·rename_i g6 N4;obtain⟨jX,Cn,hD⟩:=h;rw[<-k.len] at Cn;obtain⟨own,o1,o2⟩:=k.on;obtain⟨p,fp,s1,Eu,⟨g1,g2⟩,fr⟩:=o2 i _ N4;have Iw:p∉fp:=(bO.mp Eu).1;refine⟨_,s1,p,rfl,⟨_,iI.of g1⟩,?_⟩;refine⟨fun t m gK H2=>m=fp.length-t/\t<=fp.length/\gK.length=σ.length/\(∀n,n≠j->gK[n]?=σ[n]?)/\(∀b,b∉fp->H2 b=H b)/\(∀q∈fp,∃xs,H2 q=some (.lst xs))/\∀q∈fp.take t,H2 q=some (.lst []),
   ⟨_,rfl,a9 _,rfl,fun _ _=>rfl,fun b _=>rfl,fun q hq=>g2.kind q hq,fun q hq=>by simp at hq⟩,?_⟩
  rintro t m gK H2 ⟨rfl,ht,Ah,z5,hH,hq,hz⟩;have wA:H2 p=some (.lst (fp.map V.ref)):=by rw[hH p Iw];exact g1
  by_cases gL:t<fp.length
  ·refine .inr ⟨⟨_,.ref fp[t],iI.of wA,by simp[gL]⟩,_,fun oJ H3 hN=>hN,fun x H3 hy=>?_⟩;obtain⟨rfl,hy⟩:=hy;have NP:=hy _ (iI.of wA);simp only[aH,ai gL,ez,aW] at NP;subst NP;obtain⟨xs,e⟩:=hq fp[t] (cq gL);refine⟨.ref fp[t],by simp[Ah,Cn],.inl ⟨rfl,xs,iI.of e⟩,fp[t],xs,rfl,rfl,e,fp.length-(t+1),by omega,rfl,gL,by simp[Ah],fun n hn=>?_,fun b hb=>?_,fun q sL=>?_,fun q sL=>?_⟩
   ·rw[eW (fun z=>hn z.symm)];exact z5 n hn
   ·rw[iy (fun z:b=fp[t]=>hb (by rw[z];exact cq gL))];exact hH b hb
   ·by_cases Ab:q=fp[t]
    ·exact⟨_,by rw[Ab];exact lA⟩
    ·obtain⟨ys,e2⟩:=hq q sL;exact⟨ys,by rw[iy Ab];exact e2⟩
   ·by_cases Ab:q=fp[t]
    ·rw[Ab];exact lA
    ·rw[iy Ab];refine hz q ?_;rw[bL,ai gL] at sL;rcases av.mp sL with z | z
     ·exact z
     ·simp at z;exact absurd z Ab
  ·refine .inl ⟨⟨_,iI.of wA,by simp;omega⟩,gg.nx _ gK G H2 (gz.refl _) ?_ hD⟩;have Ex:t=fp.length:=by omega
   rw[Ex,bT] at hz;have Y0:gK=σ.set j (gK[j]?.getD none):=by
    apply eU;intro n;by_cases hn:n=j
    ·subst hn;rw[eI (by omega),ai (by omega)];simp
    ·rw[eW (fun z=>hn z.symm)];exact z5 n hn
   have E1:=k.unset (i:=j) (u:=gK[j]?.getD none);rw[<-Y0] at E1;have IL:gt (ρ.set j .un) i=.ov (.ll g6):=by rw[vO,if_neg (fun z=>jX z.1.symm)];exact N4
   refine E1.sR IL (by rw[z5 i jX];exact s1) fun sQ nd ow=>?_
   obtain⟨w1,w2⟩:=ow;have e3:sQ=fp:=by
    rw[g1] at w1;injection w1 with w1
    injection w1 with w1
    exact((List.map_inj_right fun a b h=>by cases h;rfl).mp w1).symm
   subst e3;exact⟨sQ,nd,⟨wA,LW (by have:=w2.length;exact this) hz⟩,fun q hq=>.inl hq,fun b hb _=>hH b fun z=>hb (aD _ z)⟩
 ·exact h.elim
end
section
variable {X:Cx}
theorem MJ{K:Z9}{G:Hp}:∀{xs:List V} {ns:List Int},f9 K G xs (ns.map D.int)->xs=ns.map V.int
 | [],[],_=>rfl
 | x::xs,n::ns,r=>by
  rw[ay] at r;simp only[f9,Rep] at r;rw[ay,r.1,MJ r.2]
 | [],_::_,r=>by rw[ay] at r;simp only[f9] at r
 | _::_,[],r=>by rw[bW] at r;simp only[f9] at r
end
end L2
namespace PySem.W
open PySem PySem.Spec PySem.Calls PyProof.Rows Builtin Builtin.ObjectAttr Builtin.Getset_descriptor
end PySem.W
namespace L2
open PySem PySem.Spec PyProof.Rows
section
variable {X:Cx} {pos:Pos} {e:Expr} {te:TD}
theorem Me:∀{ks:List Int} {its:List Value},Vals (ks.map V.int) its->PySem.W.kf_ints its=true/\∀(i:Nat) (k:Int),ks[i]?=some k->∃t,its[i]?=some (.int k t)
 | [],_,r=>by cases r;exact⟨rfl,fun i k h=>by simp at h⟩
 | a::ks,_,.cons (b:=u) h r=>by
  obtain⟨h1,h2⟩:=Me r;obtain⟨t,rfl⟩:=h;refine⟨h1,fun i k hk=>?_⟩;cases i with
  | zero=>simp at hk;subst hk;exact⟨t,rfl⟩
  | succ i=>exact h2 i k (by simpa using hk)
theorem Md{α β:Type}(f:α->β):∀(l:List α) (j:Nat),(l.eraseIdx j).map f=(l.map f).eraseIdx j
 | [],_=>rfl
 | a::l,0=>rfl
 | a::l,j+1=>by rw[dD,ay,ay,dD,Md f l j]
def Ld:V->List V->Hp->VK->Prop:=fun x vs H Q=>∃(l:Addr) (ks:List Int) (k:Int),x=.ref l/\vs=[.int k]/\H l=some (.lst (ks.map V.int))/\k∈ks/\Q .non (upd H l (.lst ((ks.erase k).map V.int)))
theorem T5:EN X "list.remove" Ld:=by
 intro Z8 s σ H x vs v us Q I rx rv h;obtain⟨l,ks,k,rfl,rfl,hH,hk,q⟩:=h;cases rx;obtain⟨u,rfl,ru⟩:=rv.one;obtain⟨z,its,n,r,hl,e⟩:=I.uH hH;obtain⟨hi,hg⟩:=Me r;obtain⟨t,rfl⟩:=ru;have hj:ks.idxOf k<ks.length:=List.idxOf_lt_length_of_mem hk;rw[ae] at hl z;obtain⟨t1,NU⟩:=hg (ks.idxOf k) k (by rw[ai hj];simp);have uN:∀m (hm:m<its.toArray.size),m<ks.idxOf k->isInt k its.toArray[m]=false:=fun m hm h2=>by
  have Yn:m<ks.length:=by omega
  obtain⟨t2,lT⟩:=hg m ks[m] (ai Yn);have e1:its.toArray[m]=.int ks[m] t2:=by
   have:its[m]?=some its[m]:=ai (by simpa using hm);rw[this] at lT;simpa using lT
  rw[e1];have:ks[m]≠k:=by simpa using List.not_of_lt_findIdx h2
  simpa[isInt] using this
 refine fT F.slot_list_remove ⟨_,e,rfl⟩ F.entry_list_remove (F.args_list_remove_2 _ _)
  (MeetsSeq.list_remove l its.toArray n (.int k t) (isInt k) (fun y hy=>PySem.W.kf_eq hi y (by simpa using hy)) (ks.idxOf k) (by rw[ax];omega) (by
   have:its[ks.idxOf k]?=some its[ks.idxOf k]:=ai (by omega);rw[this] at NU;have e1:its[ks.idxOf k]=.int k t1:=by simpa using NU
   simp[e1,isInt]) uN (by rw[ax];omega)) ⟨e,?_⟩
 have ee:(ks.erase k).map V.int=(ks.map V.int).eraseIdx (ks.idxOf k):=by rw[List.erase_eq_eraseIdx_of_idxOf rfl,Md]
 rw[ee] at q;refine⟨.non,_,I.wq (its':=its.eraseIdx (ks.idxOf k)) hH e ?_ (r.eraseIdx _) ?_,rfl,q⟩
 ·rw[List.eraseIdxIfInBounds_toArray]
 ·have:=MD (ks.map V.int) (ks.idxOf k);rw[ae] at this;omega
def DJ(i:Nat)(te:TD):TX:=fun D ρ=>match gt ρ i with
 | .ow ds=>te ρ fun r=>∃(ks:List Int) (k:Int),ds=ks.map .int/\r=.fz (.int k)/\k∈ks/\D.nx (ρ.set i (.ow ((ks.erase k).map .int)))
 | _=>False
theorem Mc{K:Z9}{G:Hp}:∀{ks:List Int} {xs:List V},f9 K G xs (ks.map D.int)->xs=ks.map V.int
 | [],xs,r=>by cases xs with
  | nil=>rfl
  | cons x xs=>simp[f9] at r
 | k::ks,xs,r=>by cases xs with
  | nil=>simp[f9] at r
  | cons x xs=>
   simp only[ay,f9] at r;rw[Mc r.2];have:=r.1;simp only[Rep] at this;rw[this];rfl
theorem T4(i:Nat){x:Str}{p1 p2 pos':Pos}(he:PD X e te)(hN:X.N[i]?=some x:=by rfl)(hv:qK X.env.scope x:=by first | exact Or.inl rfl | exact Or.inr (Or.inl rfl) | exact Or.inr (Or.inr rfl))(hd:(x==("__debug__":Str))=false:=by decide)
  (kP:(x==("__classdict__":Str))=false:=by decide) (jW:starEach [e] X.env=(false,eval e X.env)::starEach [] X.env:=by rfl)
  (hb:∀{ta:TE} {t:TA},PE X (.Name x p1) ta->PA X [e] t->PE X (.Call (.Attribute (.Name x p1) "remove" p2) [e] [] pos') (zV X.K "list" Ld ta t):=by intro ta t h1 h2;exact zh cB PySem.F.slot_list_remove PySem.F.type_list_remove T5 h1 h2) :
  PX X (.Expr (.Call (.Attribute (.Name x p1) "remove" p2) [e] [] pos') pos) (DJ i te):=by
 obtain⟨t,p,q⟩:=he;refine⟨_,zF (hb (sg hN hv hd kP) (tq p tY jW)),fun ρ σ G0 H0 G H D E k h g=>?_⟩;unfold DJ at h;split at h
 ·rename_i ds hg;obtain⟨a,xs,h1,h2,h3,h4,h5⟩:=k.ow i ds hg;refine⟨_,h1,.inl ⟨rfl,xs,iI.of h2⟩,?_⟩;refine q ρ σ G0 H0 G H _ _ k h fun v H' r G' x1 rr hq=>?_
  obtain⟨ks,m,rfl,rfl,hm,hq⟩:=hq;obtain⟨G2,x2,rv,_⟩:=rr.freeze x1;have k2:=k.ext x2;have ex:=Mc h5;subst ex;have ev:v=.int m:=by simpa only[zo,Rep] using rv
  subst ev;refine⟨a,ks,m,rfl,rfl,x2.h _ _ h2,hm,?_⟩;have h6:f9 X.K G2 ((ks.erase m).map V.int) ((ks.erase m).map L2.D.int):=by
   generalize ks.erase m=l;induction l with
   | nil=>exact f9.nil
   | cons b l ih=>exact f9.cons (by simp only[Rep]) ih
  exact g.nx _ _ G2 _ x2.g (k2.change hg h1 h6) hq
 ·exact h.elim
end
section
variable {K:Z9} {G0 H0 G H:Hp} {ρ:Ev} {σ:St}
theorem ie.BN{i:Nat}{o:OV}{p:Addr}{u:HO}(E:ie K G0 H0 ρ σ G H)(hg:gt ρ i=.ov o)(h1:σ[i]?=some (some (.ref p))):ie K G0 H0 (ρ.set i .un) σ G (upd H p u):=by
 have gL:i<ρ.length:=xV hg (by simp);have gs:∀j s,gt (ρ.set i .un) j=s->s≠.un->i≠j/\gt ρ j=s:=fun j s e hs=>by
  rw[vO] at e;by_cases h:i=j/\j<ρ.length
  ·rw[if_pos h] at e;exact absurd e.symm hs
  ·rw[if_neg h] at e;exact⟨fun z=>h ⟨z,xV e hs⟩,e⟩
 obtain⟨own,o1,o2⟩:=E.on;obtain⟨p',fp,b1,b2,b3,b4⟩:=o2 i o hg;rw[h1] at b1;cases b1;have bp:=b4 p bj;have hk:∀(F:Hp),F p=none->gz F H->gz F (upd H p u):=fun F hF s b x e=>by
  rw[iy (fun z=>by rw[z,hF] at e;cases e)];exact s b x e
 refine⟨⟨E.e.g,hk H0 bp.2.1 E.e.h,hk G bp.1 E.e.s,E.e.n⟩,by simp[E.len],fun j d h=>?_,fun j ds h=>?_,fun j k ds es qD h1 h2=>?_,own,fun j ds p h hp=>?_,fun j o h=>?_⟩
 ·exact E.fz j d (gs j _ h (by simp)).2
 ·obtain⟨n,h⟩:=gs j _ h (by simp);obtain⟨q,xs,d1,d2,d3,d4,d5⟩:=E.ow j ds h;have hq:q≠p:=fun z=>by
   have z1:=o1 j ds q h d1;rw[z,bp.2.2] at z1;injection z1 with z1
   exact n z1
  exact⟨q,xs,d1,by rw[iy hq];exact d2,d3,d4,d5⟩
 ·exact E.dj j k ds es qD (gs j _ h1 (by simp)).2 (gs k _ h2 (by simp)).2
 ·exact o1 j ds p (gs j _ h (by simp)).2 hp
 ·obtain⟨n,h⟩:=gs j _ h (by simp);obtain⟨q,fq,d1,d2,d3,d4⟩:=o2 j o h;refine⟨q,fq,d1,d2,d3.mono (fun _ _ z=>z) fun r hr x e=>?_,d4⟩;rw[iy fun z=>?_]
  ·exact e
  ·have z1:=(d4 r hr).2.2;rw[z,bp.2.2] at z1;injection z1 with z1
   exact n z1
end
section
variable {X:Cx} {pos:Pos}
def C8(i:Nat):TX:=fun D ρ=>match gt ρ i with
 | .ov (.ll g6)=>g6.length<sizeLine/\D.nx (ρ.set i .un)
 | _=>False
theorem QI(i:Nat){x:Str}{p1 p2 pos':Pos}{e:Expr}(he:PD X e (dC .non))(hN:X.N[i]?=some x:=by rfl)(hv:qK X.env.scope x:=by first | exact Or.inl rfl | exact Or.inr (Or.inl rfl) | exact Or.inr (Or.inr rfl))(hd:(x==("__debug__":Str))=false:=by decide)
  (kP:(x==("__classdict__":Str))=false:=by decide) (jW:starEach [e] X.env=(false,eval e X.env)::starEach [] X.env:=by rfl)
  (hb:∀{ta:TE} {t:TA},PE X (.Name x p1) ta->PA X [e] t->PE X (.Call (.Attribute (.Name x p1) "append" p2) [e] [] pos') (zV X.K "list" DG ta t):=by intro ta t h1 h2;exact zh cB fk fm D8 h1 h2) :
  PX X (.Expr (.Call (.Attribute (.Name x p1) "append" p2) [e] [] pos') pos) (C8 i):=by
 obtain⟨t,p,q⟩:=he;refine⟨_,zF (hb (sg hN hv hd kP) (tq p tY jW)),fun ρ σ G0 H0 G H D E k h g=>?_⟩;unfold C8 at h;split at h
 ·rename_i g6 hg;obtain⟨own,o1,o2⟩:=k.on;obtain⟨a,fp,b1,b2,⟨ha,hr⟩,b4⟩:=o2 i _ hg;refine⟨_,b1,.inl ⟨rfl,_,iI.of ha⟩,?_⟩;refine q ρ σ G0 H0 G H (fun _=>True) _ k (show True from trivial) fun v H' r G' x1 rr _=>?_
  have k2:=k.ext x1;refine⟨a,fp.map V.ref,v,rfl,rfl,x1.h _ _ ha,by rw[ae,hr.length];exact h.1,?_⟩;exact g.nx _ _ G' _ x1.g (k2.BN hg b1) h.2
 ·exact h.elim
end
structure M1 (X:Cx) (o:Expr) (m:Str) (apos:Pos) (e:Expr) (kj:Pos):Prop where
 base:attributeBase o m X.env (eval o X.env)=eval o X.env
 CC:((backTo kj (starEach [e] X.env)).all (fun x=>!x.1)&&(backToKw kj (keywordEach [] X.env)).all (fun x=>x.1.isSome)
  && decide (([e]:List Expr).length+([]:List Keyword).length+(if ([]:List Keyword).isEmpty then 0 else 1)<30))=true
 line:(apos.endLine==kj.line)=true
 trees:backTo kj (starEach [e] X.env)=[(false,eval e X.env)]
section
variable {prog:Program} {w:World} {A:Around} {Rz:Result->Shared->Prop} {I:Addr} {fp wr:List Addr} {n:Nat} {P:Nat->Value->Prop} {St:Nat->Heap->Prop}
theorem SG(W:Walks prog w A.in1 I fp wr n P St)(S:Addr)(hint:∀i v,P i v->∃m t,v=.int m t)(off:S∉fp)(kw:List (Str×Value)) :
  ∀(m j:Nat) (z:Shared) (best:Value) (c:Nat),n-(j+1)=m->j<n->St (j+1) z.heap->(∃i,P i best)->z.heap.get? S=some { cls:=.type "list",dict:=none,data:=.seq #[best,best] c,slots:=#[] }->
   (∀v h' tk,(∃i,P i v)->(∀b o,b∉wr->b≠S->z.heap.get? b=some o->h'.get? b=some o)->Rz (.ok (.ret v)) { z with heap:=h',toks:=tk })->
   codeAny (model prog w) A (.builtin "max.loop" ⟨[.ref I,.none,.ref S],kw⟩) Rz z:=by
 have wd:S∉wr:=fun h=>off (W.sub _ h)
 intro m;induction m with
 | zero=>
  intro j z best c em lj st pb gS fin;have ej:j+1=n:=by omega
  refine b8 fV ?_;rw[bJ df _];show wpAny _ A.in1 (seqItems? (.ref S) >>= _) _ _ z;refine aa (fN gS rfl ?_);show wpAny _ A.in1 (tryCatch (pyNext (.ref I)) _ >>= _) _ _ z;refine aa (fO (W.done z _ _ (ej▸st) fun h1 tk kp=>?_));have xH:=kp S _ wd gS;show wpAny _ A.in1 (updateSeq S (fun _=>#[]) >>= _) _ _ _;refine aa ?_;refine fw xH rfl (aa (wpAny_letGo (ao ?_)));exact fin best _ tk pb fun b o b1 b2 e=>(bA _ _ (Ne.symm b2)).trans (kp b o b1 e)
 | succ m ih=>
  intro j z best c em lj st pb gS fin;have HS:j+1<n:=by omega
  refine b8 fV ?_;rw[bJ df _];show wpAny _ A.in1 (seqItems? (.ref S) >>= _) _ _ z;refine aa (fN gS rfl ?_);show wpAny _ A.in1 (tryCatch (pyNext (.ref I)) _ >>= _) _ _ z;refine aa (fO (W.item (j+1) z _ _ HS st fun v h1 tk pv wa kp=>?_));have xH:=kp S _ wd gS;show wpAny _ A.in1 (tryCatch (holding [v,v] (richCompare .Gt v best >>= _)) _ >>= _) _ _ _;obtain⟨i0,p0⟩:=pb;obtain⟨a,ta,rfl⟩:=hint _ _ pv;obtain⟨b0,tb,rfl⟩:=hint _ _ p0;refine aa (fO (bN (aa (PyProof.Rows.gt_int (aa (bN (cK (aa (wpAny_letGo (ao ?_))))))))));cases hb:decide (a>b0) with
  | true=>
   simp only[aR];refine aa ?_;refine fw xH rfl (aa (wpAny_letGo ?_));rw[Dw];have HY:∀f b o,b∉wr->b≠S->z.heap.get? b=some o->(h1.update S f).get? b=some o:=fun f b o b1 b2 e=>(bA _ _ (Ne.symm b2)).trans (kp b o b1 e)
   refine ao ⟨cP df _,ih (j+1) _ _ _ (by omega) HS (W.frame _ _ _ wa fun b bf o e=>?_) ⟨_,pv⟩ (c6 _ xH rfl) fun v' h2 yi BR B7=>?_⟩
   ·exact(bA _ _ (fun h:S=b=>off (by rw[h];exact bf))).trans e
   ·exact fin v' h2 yi BR fun b o b1 b2 e=>B7 b o b1 b2 (HY _ b o b1 b2 e)
  | false=>
   simp only[aq,aP];refine aa (wpAny_letGo ?_);rw[Dw];refine ao ⟨cP df _,ih (j+1) _ _ c (by omega) HS wa ⟨_,p0⟩ xH fun v' h2 yi BR B7=>?_⟩;exact fin v' h2 yi BR fun b o b1 b2 e=>B7 b o b1 b2 (kp b o b1 e)
theorem SF(W:Walks prog w A.in1 I fp wr n P St)(S:Addr)(hint:∀i v,P i v->∃m t,v=.int m t)(off:S∉fp)(kw:List (Str×Value))(pos:0<n){z:Shared}{c:Nat}(st:St 0 z.heap)
  (gS:z.heap.get? S=some { cls:=.type "list",dict:=none,data:=.seq #[] c,slots:=#[] })
  (fin:∀v h' tk,(∃i,P i v)->(∀b o,b∉wr->b≠S->z.heap.get? b=some o->h'.get? b=some o)->Rz (.ok (.ret v)) { z with heap:=h',toks:=tk }) :
  codeAny (model prog w) A (.builtin "max.loop" ⟨[.ref I,.none,.ref S],kw⟩) Rz z:=by
 have wd:S∉wr:=fun h=>off (W.sub _ h)
 refine b8 fV ?_;rw[bJ df _];show wpAny _ A.in1 (seqItems? (.ref S) >>= _) _ _ z;refine aa (fN gS rfl ?_);show wpAny _ A.in1 (tryCatch (pyNext (.ref I)) _ >>= _) _ _ z;refine aa (fO (W.item 0 z _ _ pos st fun v h1 tk pv wa kp=>?_));have xH:=kp S _ wd gS;show wpAny _ A.in1 (updateSeq S (fun _=>#[v,v]) >>= _) _ _ _;refine aa ?_;refine fw xH rfl ?_;rw[Dw];have HY:∀f b o,b∉wr->b≠S->z.heap.get? b=some o->(h1.update S f).get? b=some o:=fun f b o b1 b2 e=>(bA _ _ (Ne.symm b2)).trans (kp b o b1 e)
 refine ao ⟨cP df _,SG W S hint off kw _ 0 _ v _ rfl pos (W.frame _ _ _ wa fun b bf o e=>?_) ⟨_,pv⟩ (c6 _ xH rfl) fun v' h2 yi BR B7=>?_⟩
 ·exact(bA _ _ (fun h:S=b=>off (by rw[h];exact bf))).trans e
 ·exact fin v' h2 yi BR fun b o b1 b2 e=>B7 b o b1 b2 (HY _ b o b1 b2 e)
end
section
variable {prog:Program} {w:World} {A:Around} {E:Value->Shared->Prop} {s:Shared}
theorem SE{l:Addr}{items:List Value}{d:Value}{Q:Value->Shared->Prop}(hh:A.handled=none)(hl:s.heap.IsList l items.toArray)(hint:∀v∈items,∃m t,v=.int m t)
  (h0:items=[]->∀h' tk,(∀b o,s.heap.get? b=some o->h'.get? b=some o)->Q d { s with heap:=h',toks:=tk })
  (h1:∀v∈items,∀h' tk,(∀b o,s.heap.get? b=some o->h'.get? b=some o)->Q v { s with heap:=h',toks:=tk }) :
  wpAny (model prog w) A (call (.builtin "max") [.ref l] [("default",d)]) Q E s:=by
 refine Vz F.kind_max F.plain_max F.entry_max (Ul _ _) ?_;show wpAny _ A.in1 (Builtin.Builtins.bindParams "max" ["key","default"] 0 ⟨[],[("default",d)]⟩ >>= _) _ _ s;refine aa (wpAny_of_eq (show Builtin.Builtins.bindParams "max" ["key","default"] 0 ⟨[],[("default",d)]⟩=pure [none,some d] from rfl) ?_);refine aa (ao ?_);refine aa (eB hl ?_);refine aa (cA ?_);rw[Dw];have gL:l<s.heap.objs.size:=by obtain⟨_,e,_⟩:=hl;exact aE e
 have W:=Walks.list (prog:=prog) (w:=w) (A:=A.in1) hh s.heap.objs.size l (aJ gL) items.toArray;have nS:∀b o,s.heap.get? b=some o->b∉[s.heap.objs.size]/\b≠(s.heap.push { cls:=.type "list_iterator",data:=.fields #[.ref l,.int 0 0] }).objs.size:=fun b o e=>by
  have:=aE e;refine⟨fun hm=>?_,fun h=>?_⟩
  ·rcases ar.mp hm with e1 | hm
   ·exact cO _ (e1▸this)
   ·cases hm
  ·rw[cV] at h;exact aJ (cv this) h
 refine ao ⟨cP df _,?_⟩;have Nv:=W.frame 0 _ (((s.heap.push { cls:=.type "list_iterator",data:=.fields #[.ref l,.int 0 0] }).push { cls:=.type "list",dict:=none,data:=.seq #[] 0,slots:=#[] })) (⟨⟨_,az _ rfl,rfl,rfl⟩,hl.push _⟩) fun b _ o e=>aj _ e
 have off:(s.heap.push { cls:=.type "list_iterator",data:=.fields #[.ref l,.int 0 0] }).objs.size∉[s.heap.objs.size,l]:=fun hm=>by
  rw[cV] at hm;rcases ar.mp hm with e1 | hm
  ·exact Nat.succ_ne_self _ e1
  ·rcases ar.mp hm with e1 | hm
   ·exact aJ (cv gL) e1.symm
   ·cases hm
 have up:∀b o,s.heap.get? b=some o->_:=fun b o e=>aj { cls:=.type "list",dict:=none,data:=.seq #[] 0,slots:=#[] } (aj { cls:=.type "list_iterator",data:=.fields #[.ref l,.int 0 0] } e)
 cases he:items with
 | nil=>
  subst he;exact QP W _ off d Nv (az _ rfl) fun h' tk kp=>h0 rfl h' tk fun b o e=>kp b o (nS b o e).1 (up b o e)
 | cons x xs=>
  refine SF W _ (fun i v hv=>hint v (aU (by simpa using hv))) off _ (by rw[he];simp) Nv (az _ rfl) fun v h' tk ⟨i,pv⟩ kp=>?_
  exact h1 v (aU (by simpa using pv)) h' tk fun b o e=>kp b o (nS b o e).1 (nS b o e).2 (up b o e)
end
def C7(K:Z9)(x y:V)(H:Hp)(Q:VK):Prop:=∃a ns,x=.ref a/\iI K H a (ns.map V.int)/\(ns=[]->Q y H)/\∀n∈ns,Q (.int n) H
section
variable {X:Cx} {pos p kp:Pos} {e e2:Expr} {te te2:TD}
theorem SS(hc:X.calm=true){Z8:List (Addr×Obj)}{s:Shared}{σ:St}{H:Hp}{x y:V}{u d:Value}{Q:VK}(I:Inv X Z8 σ H s)(rx:RelV x u)(ry:RelV y d)(h:C7 X.K x y H Q) :
  wpAny (model X.prog X.w) X.A (call (.builtin "max") [u] [("default",d)]) (EP X Z8 σ Q) X.xe s:=by
 obtain⟨a,ns,rfl,hq,h0,h1⟩:=h;cases rx;obtain⟨its,rv,pl,hz⟩:=I.list hq;have at_:∀v∈its,∃n∈ns,RelV (.int n) v:=fun v hv=>by
  obtain⟨i,hi⟩:=cC hv;have gL:i<(ns.map V.int).length:=by rw[rv.length];exact(aB.mp hi).1
  obtain⟨v',tJ,r⟩:=rv.get (ai gL);rw[hi] at tJ;cases tJ;rw[List.getElem_map] at r;exact⟨_,cq _,r⟩
 refine SE (I.ok.hd hc) pl.isList (fun v hv=>?_) (fun he h' tk kp=>?_) fun v hv h' tk kp=>?_
 ·obtain⟨n,_,t,e⟩:=at_ v hv;exact⟨n,t,e⟩
 ·subst he;have:=rv.length;exact⟨y,H,I.kept kp,ry,h0 (bR (by simpa using this))⟩
 ·obtain⟨n,hn,r⟩:=at_ v hv;exact⟨.int n,H,I.kept kp,r,h1 n hn⟩
def Px(K:Z9)(ta tb:TE):TE:=fun σ H Q=>ta σ H fun x H1=>tb σ H1 fun y H2=>C7 K x y H2 Q
theorem QH{ta tb:TE}(hc:X.calm=true)(ha:PE X e ta)(hb:PE X e2 tb)(hm:X.mg "max"=none)(hg:Gl X "max":=by rfl)(hs:starEach [e] X.env=(false,eval e X.env)::starEach [] X.env:=by rfl) :
  PE X (.Call (.Name "max" p) [e] [⟨some "default",e2,kp⟩] pos) (Px X.K ta tb):=by
 intro Z8 s σ H Q I h;refine c7 (vP I hg hm (u:=.builtin "max") rfl ?_);refine callWith_kw ?_ (by rw[hs];rfl) (by rw[hs];rfl);refine hE (tq ha tY hs pos Z8 s σ H (CU fun x H1=>tb σ H1 fun y H2=>C7 X.K x y H2 Q) I h) fun us s1 gD=>?_
 obtain⟨vs,H1,I1,r,q⟩:=gD;obtain⟨x,rfl⟩:=K6 q;obtain⟨u,rfl,ru⟩:=oE r;refine hE (RD hb P7 pos Z8 s1 σ H1 (CU fun y H2=>C7 X.K x y H2 Q) I1 q) fun ws s2 gD=>?_
 obtain⟨zs,H2,I2,rz,q2⟩:=gD;obtain⟨y,rfl⟩:=K6 q2;obtain⟨d,rfl,rd⟩:=oE rz;exact SS hc I2 ru rd q2
def C6(ta tb:TD):TD:=fun ρ Q=>ta ρ fun r=>tb ρ fun r2=>∃ns:List Int,r.val=.lst (ns.map .int)/\(ns=[]->Q (.fz r2.val))/\∀n∈ns,Q (.fz (.int n))
theorem QG(hc:X.calm=true)(ha:PD X e te)(hb:PD X e2 te2)(hm:X.mg "max"=none)(hg:Gl X "max":=by rfl)(hs:starEach [e] X.env=(false,eval e X.env)::starEach [] X.env:=by rfl) :
  PD X (.Call (.Name "max" p) [e] [⟨some "default",e2,kp⟩] pos) (C6 te te2):=by
 obtain⟨t1,p1,q1⟩:=ha;obtain⟨t2,p2,q2⟩:=hb;refine⟨_,QH hc p1 p2 hm hg hs,fun ρ σ G0 H0 G H Q P E h k=>q1 ρ σ G0 H0 G H _ _ E h fun v H' r G' x1 rr hq=>?_⟩;obtain⟨G2,x2,rv,_⟩:=rr.freeze x1;refine q2 ρ σ G0 H0 G2 H' _ _ (E.ext x2) hq fun v3 H3 r3 G3 x3 yp kO=>?_
 obtain⟨G4,x4,yo,_⟩:=yp.freeze x3;obtain⟨ns,Yw,h0,h1⟩:=kO;rw[Yw] at rv;have nI:=rv.mono x4.g;simp only[Rep] at nI;obtain⟨a,xs,rfl,g1,g2⟩:=nI;rw[MJ g2] at g1;exact⟨a,ns,rfl,(x4.s.jF g1).sq,fun z=>k _ _ (.fz r3.val) G4 (x2.trans x4) yo (h0 z),fun n hn=>k _ _ (.fz (.int n)) G4 (x2.trans x4) (j7 (by simp only[Rep])) (h1 n hn)⟩
end
end L2
section
namespace Wc
open PySem L2
noncomputable def lS(l:List Nat):Str:=⟨l.toArray⟩
theorem AX(l:List Nat):(lS l).cps.toList=l:=by simp[lS]
theorem qh(l:List Nat):(lS l).length=l.length:=by simp[lS,Str.length]
theorem x8(a b:List Nat):lS a++lS b=lS (a++b):=by
 show(⟨(lS a).cps++(lS b).cps⟩:Str)=_;simp[lS]
theorem wg{a b:List Nat}:lS a=lS b↔a=b:=by
 constructor
 ·intro h;have:(lS a).cps.toList=(lS b).cps.toList:=by rw[h]
  simpa[lS] using this
 ·rintro rfl;rfl
theorem Kf(w:Str):lS w.cps.toList=w:=by cases w;simp[lS]
theorem xv(c:Nat):(⟨#[c]⟩:Str)=lS [c]:=rfl
theorem zC{α β:Type}(f:α->β)(l:List α)(i:Int):iR (l.map f) i=(iR l i).map f:=by
 unfold iR;rw[ae];cases rA l.length i with
 | none=>rfl
 | some j=>simp
theorem Qs{α β:Type}{f:α->β}{o:Option α}{p:β->Prop}:(∃d,o.map f=some d/\p d)↔∃x,o=some x/\p (f x):=by
 cases o with
 | none=>simp
 | some x=>simp
theorem Ke{α β:Type}{f:α->β}{l:List α}{i:Int}{p:β->Prop}:(∃d,iR (l.map f) i=some d/\p d)↔∃x,iR l i=some x/\p (f x):=by rw[zC];exact Qs
theorem yb{α:Type}{l:List α}{i:Int}(h0:0<=i)(h1:i<l.length):∃h:i.toNat<l.length,iR l i=some (l[i.toNat]'h):=by
 refine⟨by omega,?_⟩;unfold iR rA;rw[if_pos h0,if_pos h1];simp only[Option.bind_some];exact ai _
theorem FK{α:Type}{l:List α}{i:Int}(h0:0<=i)(h1:i<l.length):∃z,iR l i=some z/\z∈l:=by
 obtain⟨h,e⟩:=yb h0 h1;exact⟨_,e,cq h⟩
theorem Dp{α:Type}{l:List α}{n:Nat}(i:Int)(hl:n<=l.length)(h:0<n):∃z,iR l (i%(n:Int))=some z/\z∈l:=
 FK (bx _ (by omega)) (by have:=bw i (show(0:Int)<n by omega);omega)
theorem Oz{α:Type}{l:List α}(i:Int)(hl:l.length=8):∃z,iR l (i%8)=some z/\z∈l:=Dp (n:=8) i (by omega) (by omega)
theorem Y5{α:Type}{l:List α}(i:Int)(hl:l.length=8):∃z,iR l (i%5)=some z/\z∈l:=Dp (n:=5) i (by omega) (by omega)
theorem Y6{α:Type}{l:List α}(i:Int)(hl:l.length=8):∃z,iR l (i%3)=some z/\z∈l:=Dp (n:=3) i (by omega) (by omega)
theorem pf{α:Type}{l:List α}{j:Nat}(h:j<l.length):iR l (j:Int)=some l[j]:=by
 obtain⟨h',e⟩:=yb (l:=l) (i:=(j:Int)) (by omega) (by omega);simpa using e
theorem DI{n d:Nat}{j:Int}(h:0<=j):HT.iD n d (some j)=min j.toNat n:=by show(if j<0 then _ else _)=_;rw[if_neg (by omega)]
theorem FJ{α:Type}(l:List α){j:Int}(h:0<=j):nO l none (some j)=l.take j.toNat:=by
 unfold nO;rw[DI h];show((l.drop 0).take (min j.toNat l.length-0))=_;rw[List.drop_zero,Nat.sub_zero,Nat.min_comm];by_cases hl:l.length<=j.toNat
 ·rw[eO hl,bI hl,bI (aA _)]
 ·rw[fW (by omega)]
theorem Gf{α:Type}(l:List α){j:Int}(h:0<=j):nO l (some j) none=l.drop j.toNat:=by
 unfold nO;rw[DI h];show((l.drop (min j.toNat l.length)).take (l.length-_))=_;by_cases hl:l.length<=j.toNat
 ·rw[fW hl,eK hl,eK (aA _)];simp
 ·rw[eO (by omega),bI (by simp)]
theorem SD{α:Type}(l:List α){i j:Int}(hi:0<=i)(h:0<=j):nO l (some i) (some j)=(l.drop i.toNat).take (j.toNat-i.toNat):=by
 unfold nO;rw[DI h,DI hi];by_cases hl:l.length<=i.toNat
 ·rw[fW hl,eK hl,eK (aA _)];simp
 ·rw[eO (a:=i.toNat) (by omega)];by_cases hj:l.length<=j.toNat
  ·rw[fW hj,bI (by simp),bI (by simp;omega)]
  ·rw[eO (by omega)]
theorem AW(l:List Nat){j:Int}(h:0<=j):uq (lS l) none (some j)=lS (l.take j.toNat):=by unfold uq;rw[AX,FJ _ h];rfl
theorem SR(l:List Nat){j:Int}(h:0<=j):uq (lS l) (some j) none=lS (l.drop j.toNat):=by unfold uq;rw[AX,Gf _ h];rfl
theorem SA(l:List Nat){i j:Int}(hi:0<=i)(h:0<=j):uq (lS l) (some i) (some j)=lS ((l.drop i.toNat).take (j.toNat-i.toNat)):=by unfold uq;rw[AX,SD _ hi h];rfl
theorem Sz{α β:Type}(f:α->β)(l:List α)(lo hi:Option Int):nO (l.map f) lo hi=(nO l lo hi).map f:=by unfold nO;rw[ae,List.map_take,List.map_drop]
theorem FI(n:Nat)(i:Int):iE n (.int i)=True:=by cases n<;>exact eq_true trivial
theorem FH(n:Nat)(i:Str):iE n (.str i)=True:=by cases n<;>exact eq_true trivial
theorem Qq(n:Nat)(i:Bool):iE n (.bl i)=True:=by cases n<;>exact eq_true trivial
theorem KO(n:Nat):iE n .non=True:=by cases n<;>exact eq_true trivial
theorem zB{α:Type}[BEq α][LawfulBEq α][DecidableEq α](a b:α):(a==b)=decide (a=b):=by rw[fu];simp
theorem KN(a b:Str):iq (.str a) (.str b)=decide (a=b):=by simp only[iq,zB]
theorem QF(a b:Int):iq (.int a) (.int b)=decide (a=b):=by simp only[iq,zB]
theorem kN:sizeLine=16777216:=by decide
@[irreducible] def vG(u:TX)(D:DE):Ev->Prop:=u D
theorem Qp(t u:TX)(D:DE)(ρ:Ev):gB t u D ρ=t { nx:=vG u D,rt:=D.rt,bk:=D.bk,ct:=D.ct } ρ:=by unfold vG;rfl
end Wc
open PySem L2 Wc
local macro_rules | `(tactic| walk_at "b")=>`(tactic| simp only[Qp,jJ,wY,o7,Ar,gR,Dk,dC,zo,xZ,JI,Pz,iQ,gi,gq,f6,ay,bW,c9,fA,List.set,gt,oN,mH,oI,gk,i5,jt,jI,oA,ig,j5,l7,j9,tR,gJ,kW,il,mQ,zb,mR,oEq,zY,gU,qI,rG,pA,iN,OF,zc,wL,xS,AH,tQ,dM,Dg,nt,rh,zf,wX,oY,jL,pz,xW,mU,jT,Ft,rg,w6,xU,CV,rB,PQ,Qu,XI,XH,nG,mP,Int.reduceLT,Int.reduceLE,Int.reduceAdd,Int.reduceSub,Int.reduceMul,Int.reduceNeg,Int.reducePow,Int.reduceToNat,cy,cE,true_and,and_true,and_self,or_true,true_or,FI,FH,Qq,KO,Ke,aq,aP,aR,eF,Bool.not_false,aG,cD,Nat.reduceAdd,aS,QF,KN,Sz,zL,zK,C1])
local macro_rules | `(tactic| walk_at "all")=>`(tactic| ((try walk_at "px");repeat(simp only[vG];try walk_at "px")))
local macro_rules | `(tactic| walk_at "px")=>`(tactic| walk_at "b")
local macro_rules | `(tactic| walk_at "go")=>`(tactic| (simp only[vG];walk_at "px"))
namespace Wc
open PySem L2
noncomputable def vF(c k:Int):Int:=(c%1000000000000000000000000000000*(k*k+48271)+7919*k*k*k+11)%2147483647/7
theorem Qo(c k:Int):0<=vF c k:=Int.ediv_nonneg (bx _ (by decide)) (by decide)
def t7:iF:=fun ds Q=>∃c k:Int,ds=[.int c,.int k]/\0<=k/\k<=1000000/\Q (.fz (.int (vF c k)))
def GA:TX:=(jt (gk (oI nG fun i j=>.int (i/j)) (gk (oI (fun _ j=>0<j) fun i j=>.int (i%j)) (gk i5 (gk i5 (gk (oI mP fun i j=>.int (i*j)) (gk (oI (fun _ j=>0<j) fun i j=>.int (i%j)) (f6 0) (gk (oI ur fun i j=>.int (i ^ j.toNat)) (dC (.int 10)) (dC (.int 30)))) (gk i5 (gk (oI mP fun i j=>.int (i*j)) (f6 1) (f6 1)) (dC (.int 48271)))) (gk (oI mP fun i j=>.int (i*j)) (gk (oI mP fun i j=>.int (i*j)) (gk (oI mP fun i j=>.int (i*j)) (dC (.int 7919)) (f6 1)) (f6 1)) (f6 1))) (dC (.int 11))) (dC (.int 2147483647))) (dC (.int 7))))
abbrev kM(n:Nat)(sp:iF)(T:TX)(N:List Str):Prop:=∀(ds:List D) (Qr:R->Prop),ds.length=n->sp ds Qr->T { nx:=fun _=>Qr (.fz .non),rt:=Qr } (vN N ds)
theorem VE:kM 2 t7 GA ["_law_cell","_law_k"]:=by
 intro ds Qr hl h;obtain⟨c,k,rfl,h0,h1,q⟩:=h;show GA _ [.fz (.int c),.fz (.int k)];unfold GA;walk_at "all";have hk:k*k<=1000000*1000000:=Int.mul_le_mul h1 h1 h0 (by decide);have ZC:0<=k*k:=Int.mul_nonneg h0 h0;refine⟨.inl ⟨by omega,by omega⟩,.inr ⟨by omega,by omega⟩,.inr ⟨by omega,by omega⟩,.inr ⟨by omega,by omega⟩,?_⟩;exact q
open PyProof.Rows
noncomputable def dO:Option Str->D
 | none=>.non
 | some s=>.str s
noncomputable def dP(l:List (Option Str)):D:=.lst (l.map dO)
noncomputable def dS(l:List Str):D:=.lst (l.map .str)
noncomputable def dI(l:List Int):D:=.lst (l.map .int)
noncomputable def wJ(p:Str×Int):D:=.tup [.str p.1,.int p.2]
noncomputable def vB(p:Int×Str):D:=.tup [.int p.1,.str p.2]
noncomputable def CG(p:Int×Int×Int):D:=.tup [.int p.1,.int p.2.1,.int p.2.2]
noncomputable def dW(l:List (Str×Int)):D:=.lst (l.map wJ)
noncomputable def dB(l:List (Int×Str)):D:=.lst (l.map vB)
noncomputable def dK(l:List (Int×Int×Int)):D:=.lst (l.map CG)
structure gu where
 top:List (Option Str)
 fZ:List (Option Str)
 left:List Str
 right:List Str
 wide:List (Str×Int)
 gF:List (Int×Str)
 keeps:List (Int×Int×Int)
noncomputable def gu.parts(c:gu):List D:=[dP c.top,dP c.fZ,dS c.left,dS c.right,dW c.wide,dB c.gF,dK c.keeps]
noncomputable def gu.obj(c:gu):D:=.obj "Channel" [("top",dP c.top),("bottom",dP c.fZ),("left",dS c.left),("right",dS c.right),("wide",dW c.wide),("bends",dB c.gF),("keeps",dK c.keeps)]
theorem si(n:Nat)(o:Option Str):iE n (dO o)=True:=by
 cases o with
 | none=>exact KO n
 | some s=>exact FH n s
theorem tj(a b:Option Str):iq (dO a) (dO b)=decide (a=b):=by
 cases a<;>cases b<;>simp only[dO,iq,zB,aW,reduceCtorEq,cy,cE]
theorem t6(a:Option Str)(b:Str):iq (dO a) (.str b)=decide (a=some b):=tj a (some b)
theorem vT(a:Str)(b:Option Str):iq (.str a) (dO b)=decide (some a=b):=tj (some a) b
theorem vL(w:Str)(l:List Str):inD (.str w) (l.map .str)=decide (w∈l):=by
 unfold inD;rw[List.any_map];induction l with
 | nil=>rfl
 | cons a r ih=>
  rw[fj,ih,Function.comp_apply,KN];by_cases h:a=w
  ·subst h;simp
  ·simp[h,Ne.symm h]
theorem AE(w:Str)(l:List (Option Str)):inD (.str w) (l.map dO)=decide (some w∈l):=by
 unfold inD;rw[List.any_map];induction l with
 | nil=>rfl
 | cons a r ih=>
  rw[fj,ih,Function.comp_apply,t6];by_cases h:a=some w
  ·subst h;simp
  ·simp[h,Ne.symm h]
theorem rC(n:Nat)(l:List Str):∀e∈l.map D.str,iE n e:=by
 intro e he;rw[aO] at he;obtain⟨x,_,rfl⟩:=he;rw[FH];trivial
theorem DL(n:Nat)(l:List (Option Str)):∀e∈l.map dO,iE n e:=by
 intro e he;rw[aO] at he;obtain⟨x,_,rfl⟩:=he;rw[si];trivial
def jK(ws:List Str)(l:List (Option Str)):Prop:=∀w,some w∈l->w∈ws
theorem Ge{α:Type}{wi:oH}{g:lX}{tb:TX}{D:DE}{ρ:Ev}(L:List α)(φ:α->L2.D)(hw:∀Q':List L2.D->Prop,Q' (se (L.map φ))->wi ρ Q')(Iv:Nat->Ev->Prop)(h0:Iv 0 ρ)
  (turn:∀(i:Nat) x ρ',L[i]?=some x->Iv i ρ'->g (.tup [.int i,φ x]) ρ' fun jc=>tb { D with nx:=Iv (i+1),ct:=Iv (i+1),bk:=D.nx } jc) (fin:∀ρ',Iv L.length ρ'->D.nx ρ'):mS wi g tb D ρ:=by
 refine LF (se (L.map φ)) hw Iv h0 (fun i d ρ' hd iv=>?_) (fun ρ' iv=>fin ρ' (by simpa[se] using iv));unfold se at hd;rw[List.getElem?_mapIdx,aH] at hd;cases hx:L[i]? with
 | none=>rw[hx] at hd;cases hd
 | some x=>rw[hx] at hd;cases hd;exact turn i x ρ' hx iv
theorem Mb:∀{a b c:List Nat},Spec.ltCps a b=true->Spec.ltCps b c=true->Spec.ltCps a c=true
 | [],[],c,h,_=>by simp[Spec.ltCps] at h
 | [],b::bs,[],_,h=>by simp[Spec.ltCps] at h
 | [],b::bs,c::cs,_,_=>by simp[Spec.ltCps]
 | a::as,[],c,h,_=>by simp[Spec.ltCps] at h
 | a::as,b::bs,[],_,h=>by simp[Spec.ltCps] at h
 | a::as,b::bs,c::cs,h,h'=>by
  simp only[Spec.ltCps,Bool.or_eq_true,aS,cx,ef] at h h' ⊢;rcases h with h | ⟨rfl,h⟩
  ·rcases h' with h' | ⟨rfl,h'⟩
   ·left;omega
   ·left;omega
  ·rcases h' with h' | ⟨rfl,h'⟩
   ·left;omega
   ·right;exact⟨rfl,Mb h h'⟩
theorem KL:∀{a b:List Nat},Spec.ltCps a b=false->Spec.ltCps b a=false->a=b
 | [],[],_,_=>rfl
 | [],b::bs,h,_=>by simp[Spec.ltCps] at h
 | a::as,[],_,h=>by simp[Spec.ltCps] at h
 | a::as,b::bs,h,h'=>by
  simp only[Spec.ltCps,Bool.or_eq_false_iff,bh,Bool.and_eq_false_iff,cH] at h h';have e:a=b:=by omega
  subst e;rw[KL (h.2.resolve_left fun z=>z rfl) (h'.2.resolve_left fun z=>z rfl)]
theorem KJ:∀(a:List Nat),Spec.ltCps a a=false
 | []=>rfl
 | a::as=>by simp[Spec.ltCps,KJ as]
def pF(a b:Str):Prop:=Spec.ltCps a.cps.toList b.cps.toList=true
theorem SQ{a b c:Str}(h:pF a b)(h':pF b c):pF a c:=Mb h h'
theorem FL{a b:Str}(h:a.cps.toList=b.cps.toList):a=b:=by rw[<-Kf a,<-Kf b,h]
theorem Ma:∀{p:Str} {l:List Str},risingS p l=true->(p::l).Nodup->(p::l).Pairwise pF
 | p,[],_,_=>by simp
 | p,x::r,h,nd=>by
  simp only[risingS,cx,bP] at h;have HN:=nd;rw[bO] at nd;have ih:=Ma h.2 nd.2;have ij:p≠x:=fun z=>nd.1 (by simp[z])
  have NW:pF p x:=by
   unfold pF;cases e:Spec.ltCps p.cps.toList x.cps.toList with
   | true=>rfl
   | false=>exact absurd (FL (KL e h.1)) ij
  rw[br];refine⟨fun b hb=>?_,ih⟩;rcases ar.mp hb with rfl | hb
  ·exact NW
  ·exact SQ NW ((br.mp ih).1 b hb)
theorem Gs{l:List Str}(h:sortedS l=true)(nd:l.Nodup):l.Pairwise pF:=by
 cases l with
 | nil=>exact .nil
 | cons x r=>exact Ma h nd
def Fc(g:lX)(tb:TX)(D:DE)(ρ:Ev)(ds:List L2.D):Prop:=∃Iv:Nat->Ev->Prop,Iv 0 ρ/\
 (∀i d ρ',ds[i]?=some d->Iv i ρ'->g d ρ' fun jc=>tb { D with nx:=Iv (i+1),ct:=Iv (i+1),bk:=D.nx } jc)/\∀ρ',Iv ds.length ρ'->D.nx ρ'
theorem LV{wi:oH}{g:lX}{tb:TX}{D:DE}{ρ:Ev}(P:List L2.D->Prop)(hw:∀Q':List L2.D->Prop,(∀ds,P ds->Q' ds)->wi ρ Q')(h:∀ds,P ds->Fc g tb D ρ ds):mS wi g tb D ρ:=hw _ h
theorem Uc{α:Type}{g:lX}{tb:TX}{D:DE}{ρ:Ev}(L:List α)(φ:α->L2.D)(Iv:Nat->Ev->Prop)(h0:Iv 0 ρ)
  (turn:∀i x ρ',L[i]?=some x->Iv i ρ'->g (φ x) ρ' fun jc=>tb { D with nx:=Iv (i+1),ct:=Iv (i+1),bk:=D.nx } jc) (fin:∀ρ',Iv L.length ρ'->D.nx ρ'):Fc g tb D ρ (L.map φ):=by
 refine⟨Iv,h0,fun i d ρ' hd iv=>?_,fun ρ' iv=>fin ρ' (by simpa using iv)⟩;rw[aH] at hd;cases hx:L[i]? with
 | none=>rw[hx] at hd;cases hd
 | some x=>rw[hx] at hd;cases hd;exact turn i x ρ' hx iv
theorem Ub{α:Type}{g:lX}{tb:TX}{D:DE}{ρ:Ev}(L:List α)(φ:α->L2.D)(Iv:Nat->Ev->Prop)(h0:Iv 0 ρ)
  (turn:∀(i:Nat) x ρ',L[i]?=some x->Iv i ρ'->g (.tup [.int i,φ x]) ρ' fun jc=>tb { D with nx:=Iv (i+1),ct:=Iv (i+1),bk:=D.nx } jc) (fin:∀ρ',Iv L.length ρ'->D.nx ρ'):Fc g tb D ρ (se (L.map φ)):=by
 refine⟨Iv,h0,fun i d ρ' hd iv=>?_,fun ρ' iv=>fin ρ' (by simpa[se] using iv)⟩;unfold se at hd;rw[List.getElem?_mapIdx,aH] at hd;cases hx:L[i]? with
 | none=>rw[hx] at hd;cases hd
 | some x=>rw[hx] at hd;cases hd;exact turn i x ρ' hx iv
theorem KI{n:Nat}{α:Type}(f:α->D)(l:List α)(h:∀x∈l,iE n (f x)):iE (n+1) (.lst (l.map f)):=by
 intro d hd;rw[aO] at hd;obtain⟨x,hx,rfl⟩:=hd;exact h x hx
theorem Qn(l:List D):va (rn (.tup l)) "tuple"=true:=by show va "tuple" "tuple"=true;decide
theorem Qm(l:List D):va (rn (.lst l)) "list"=true:=by show va "list" "list"=true;decide
theorem Ql(z:Int):va (rn (.int z)) "bool"=false:=by show va "int" "bool"=false;decide
theorem LU{α:Type}(l:List α)(φ:α->D):se (l.map φ)=l.zipIdx.map fun p=>.tup [.int (p.2:Nat),φ p.1]:=by
 unfold se;apply fU
 ·simp
 ·intro i h1 h2;simp
noncomputable def dN(n:Nat):D:=.int n
noncomputable def Am(ns:List Int):Int:=(ns.take 1).sum
theorem LS{α:Type}(a:α)(r:List α):iR (a::r) 0=some a:=by
 unfold iR rA;rw[if_pos (by decide),if_pos (by simp only[aG];omega)];rfl
theorem Sy{α:Type}(l:List α)(h:l≠[]):iR l (-1)=some (l.getLast h):=by
 have hl:0<l.length:=List.length_pos_iff.mpr h;unfold iR rA;rw[if_neg (by decide),if_pos (by omega)];simp only[Option.bind_some];rw[List.getLast_eq_getElem,show(-1+(l.length:Int)).toNat=l.length-1 by omega];exact ai _
theorem AD(o:OV):(R.ov o).sl=.ov o:=rfl
theorem AN(o:OV):(R.ov o).val=o.val:=rfl
theorem DX{α β:Type}(f:α->D)(g:β->D)(a:List α)(b:List β):zd (a.map f) (b.map g)=(a.zip b).map fun p=>.tup [f p.1,g p.2]:=by
 unfold zd;rw[List.zipWith_map,List.zip,List.map_zipWith]
theorem FZ(L:List (Option Str)):(L.filter fun x=>x.isSome).map dO=(L.filterMap id).map D.str:=by
 induction L with
 | nil=>rfl
 | cons a r ih=>cases a<;>simp_all[dO]
noncomputable def nu:Nat->Int->List Nat
 | 0,_=>[]
 | n+1,c=>(97+(c%26).toNat)::nu n (c/26)
theorem L9(n:Nat)(c:Int):(nu n c).length=n:=by
 induction n generalizing c with
 | zero=>rfl
 | succ n ih=>simp[nu,ih]
theorem LR(n:Nat)(c:Int):∀x∈nu n c,97<=x/\x<=122:=by
 induction n generalizing c with
 | zero=>intro x hx;cases hx
 | succ n ih=>
  intro x hx;rcases ar.mp hx with rfl | h
  ·have h0:=bx c (show(26:Int)≠0 by decide);have h1:=bw c (show(0:Int)<26 by decide);omega
  ·exact ih _ x h
noncomputable def EI:Str:="abcdefghijklmnopqrstuvwxyz"
theorem Qk:∀k:Fin 26,iR EI.cps.toList (k.val:Int)=some (97+k.val):=by decide +kernel
theorem QE(c:Int):iR EI.cps.toList (c%26)=some (97+(c%26).toNat):=by
 have h0:=bx c (show(26:Int)≠0 by decide);have h1:=bw c (show(0:Int)<26 by decide);have:=Qk ⟨(c%26).toNat,by omega⟩;simp only at this;rwa [Int.toNat_of_nonneg h0] at this
def Bz:iF:=fun ds Q=>∃(c:Int) (n:Nat),ds=[.int c,.int n]/\n<=1000/\Q (.fz (.str (lS (nu n c))))
def GX:TX:=(gB (ig 2 (dC (.str "abcdefghijklmnopqrstuvwxyz")))
 (gB (ig 3 (dC (.str "")))
 (gB (mS (rg (gi (f6 1) gq)) (gJ 4) (gB (ig 3 (gk i5 (f6 3) (gk gU (f6 2) (gk (oI (fun _ j=>0<j) fun i j=>.int (i%j)) (f6 0) (dC (.int 26))))))
 (ig 0 (gk (oI nG fun i j=>.int (i/j)) (f6 0) (dC (.int 26))))))
 (jt (f6 3)))))
theorem We:kM 2 Bz GX ["_law_cell","_law_size","_law_signs","_law_stem_here","_law_k"]:=by
 intro ds Qr hl h;obtain⟨c,n,rfl,hn,q⟩:=h;show GX _ [.fz (.int c),.fz (.int n),.un,.un,.un];unfold GX;walk_at "all";refine xj n (fun Q' h=>?_) (fun i ρ=>∃(c':Int) (acc:List Nat) (k:Sl),ρ=[.fz (.int c'),.fz (.int n),.fz (.str EI),.fz (.str (lS acc)),k]/\acc.length=i/\acc++nu (n-i) c'=nu n c) ⟨_,[],_,rfl,rfl,rfl⟩ ?_ ?_
 ·walk_at "all";exact⟨by omega,by omega,by simpa using h⟩
 ·rintro i ρ hi ⟨c',acc,k,rfl,Oc,he⟩;walk_at "all";refine⟨by decide,_,QE c',?_,_,acc++[97+(c'%26).toNat],_,by rw[xv,x8],by simp[Oc],?_⟩
  ·rw[qh,xv,qh,kN];simp;omega
  ·rw[<-he,show n-i=(n-(i+1))+1 by omega,nu];simp
 ·rintro ρ ⟨c',acc,k,rfl,Oc,he⟩;walk_at "all";rw[Nat.sub_self] at he;simp only[nu,ba] at he;rw[he];exact q
noncomputable def zk(c:Int):List (List Nat):=
 if c/64%3=0 then [104,103,102,101,100,99,98,97].map fun s=>(nu 6 (c/512)).take (c/8%(c%6+1)).toNat++[s]++((nu 6 (c/512)).drop (c/8%(c%6+1)).toNat).take ((c%6).toNat-(c/8%(c%6+1)).toNat)
 else if c/64%3=1 then(List.range 8).map fun k=>(nu 6 (c/512)).take (c%6%4).toNat++[if k/4=0 then 109 else 116]++[if k/2%2=0 then 110 else 117]++[if k%2=0 then 111 else 118]
 else(List.range 6).map (fun k=>(nu 6 (c/512)).take (k+1))++[([if (nu 6 (c/512)).headD 0=97 then 98 else 97]++(nu 6 (c/512)).drop 1).take 1,([if (nu 6 (c/512)).headD 0=97 then 98 else 97]++(nu 6 (c/512)).drop 1).take 3]
noncomputable def Fb(i:Int):Int:=(i%1000000000000000000000000+5)*7046029254386353131%1000000000000000000000007
noncomputable def vh(i:Int):List Str:=(zk (Fb i)).map lS
structure Words (ws:List Str):Prop where
 len:ws.length=8
 sz:∀w∈ws,1<=w.length/\w.length<=6
 EI:∀w∈ws,∀x∈w.cps.toList,97<=x/\x<=122
 nd:ws.Nodup
theorem JR(x:Int):∃a b c d e f:Nat,nu 6 x=[a,b,c,d,e,f]/\(97<=a/\a<=122)/\(97<=b/\b<=122)/\(97<=c/\c<=122)/\(97<=d/\d<=122)/\(97<=e/\e<=122)/\(97<=f/\f<=122):=by
 have h:=LR 6 x;simp only[nu,ar,bK,eC,forall_eq_or_imp,forall_eq] at h;exact⟨_,_,_,_,_,_,by simp only[nu],h.1,h.2.1,h.2.2.1,h.2.2.2.1,h.2.2.2.2.1,h.2.2.2.2.2⟩
theorem Sx{l:List (List Nat)}(h:l.Nodup):(l.map lS).Nodup:=by
 unfold List.Nodup at *;rw[bX];exact h.imp fun kU e=>kU (wg.mp e)
theorem SN(c:Int):(zk c).length=8/\(∀w∈zk c,(1<=w.length/\w.length<=6)/\∀x∈w,97<=x/\x<=122)/\(zk c).Nodup:=by
 have jW:=LR 6 (c/512);have IE:=L9 6 (c/512);have s0:0<=c%6:=bx _ (by decide);have s1:c%6<6:=bw _ (by decide);unfold zk;by_cases h0:c/64%3=0
 ·rw[if_pos h0];have t0:0<=c/8%(c%6+1):=bx _ (by omega);have t1:c/8%(c%6+1)<c%6+1:=bw _ (by omega);generalize c/8%(c%6+1)=at' at *;generalize nu 6 (c/512)=st at *;refine⟨rfl,fun w hw=>?_,?_⟩
  ·rw[aO] at hw;obtain⟨s,hs,rfl⟩:=hw;have Aa:97<=s/\s<=122:=by
    simp only[ar,bK,eC] at hs;omega
   refine⟨?_,fun x hx=>?_⟩
   ·simp only[au,aN,cf,aG,cD,IE];omega
   ·simp only[av,bH] at hx;rcases hx with(hx | rfl) | hx
    ·exact jW x (cS hx)
    ·exact Aa
    ·exact jW x (eE (cS hx))
  ·simp[aM]
 ·rw[if_neg h0];by_cases h1:c/64%3=1
  ·rw[if_pos h1];have u0:0<=c%6%4:=bx _ (by decide);have u1:c%6%4<4:=bw _ (by decide);generalize c%6%4=m at *;generalize nu 6 (c/512)=st at *;refine⟨by simp,fun w hw=>?_,?_⟩
   ·rw[aO] at hw;obtain⟨s,hs,rfl⟩:=hw;refine⟨?_,fun x hx=>?_⟩
    ·simp only[au,aN,cf,aG,cD,IE];omega
    ·simp only[av,bH] at hx;rcases hx with((hx | rfl) | rfl) | rfl
     ·exact jW x (cS hx)
     ·split<;>omega
     ·split<;>omega
     ·split<;>omega
   ·simp[List.range,List.range.loop,aM]
  ·rw[if_neg h1];obtain⟨a,b,c',d,e,f,hs,ha,hb,hc,hd,he,hf⟩:=JR (c/512);rw[hs];have ho:97<=(if a=97 then 98 else 97)/\(if a=97 then 98 else 97)<=122/\(if a=97 then 98 else 97)≠a:=by split<;>omega
   generalize (if a=97 then 98 else 97)=o at ho;refine⟨by simp,?_,?_⟩
   ·intro w hw;simp[List.range,List.range.loop] at hw;rcases hw with rfl | rfl | rfl | rfl | rfl | rfl | rfl | rfl<;>(refine⟨by simp,fun x hx=>?_⟩)<;>simp at hx<;>(try split at hx)<;>omega
   ·have:¬a=o:=fun z=>ho.2.2 z.symm
    simp[List.range,List.range.loop];split<;>omega
theorem L8(i:Int):Words (vh i):=by
 obtain⟨h1,h2,h3⟩:=SN (Fb i);refine⟨by simp[vh,h1],fun w hw=>?_,fun w hw=>?_,Sx h3⟩
 ·unfold vh at hw;rw[aO] at hw;obtain⟨l,hl,rfl⟩:=hw;rw[qh];exact(h2 l hl).1
 ·unfold vh at hw;rw[aO] at hw;obtain⟨l,hl,rfl⟩:=hw;rw[AX];exact(h2 l hl).2
def Bv:iF:=fun ds Q=>∃i:Int,ds=[.int i]/\Q (.ow ((vh i).map .str))
def GO:TX:=(gB (ig 0 (gk (oI (fun _ j=>0<j) fun i j=>.int (i%j)) (gk (oI mP fun i j=>.int (i*j)) (gk i5 (gk (oI (fun _ j=>0<j) fun i j=>.int (i%j)) (f6 0) (gk (oI ur fun i j=>.int (i ^ j.toNat)) (dC (.int 10)) (dC (.int 24)))) (dC (.int 5))) (dC (.int 7046029254386353131))) (gk i5 (gk (oI ur fun i j=>.int (i ^ j.toNat)) (dC (.int 10)) (dC (.int 24))) (dC (.int 7)))))
 (gB (ig 1 (gk (oI (fun _ j=>0<j) fun i j=>.int (i%j)) (f6 0) (dC (.int 6))))
 (gB (ig 2 (iN 2 Bz (gi (gk (oI nG fun i j=>.int (i/j)) (f6 0) (dC (.int 512))) (gi (dC (.int 6)) gq))))
 (gB (ig 3 (gk (oI (fun _ j=>0<j) fun i j=>.int (i%j)) (gk (oI nG fun i j=>.int (i/j)) (f6 0) (dC (.int 8))) (gk i5 (f6 1) (dC (.int 1)))))
 (gB (jJ (gR (gk oEq (gk (oI (fun _ j=>0<j) fun i j=>.int (i%j)) (gk (oI nG fun i j=>.int (i/j)) (f6 0) (dC (.int 64))) (dC (.int 3))) (dC (.int 0)))) (jt (jG (jT (dC (.str "hgfedcba"))) [none,some 2,some 3,some 1] (gJ 0) mU (gk i5 (gk i5 (qI (f6 1) rG (pA (f6 2))) (f6 0)) (qI (f6 1) (pA (f6 2)) (pA (f6 3)))))) jI)
 (gB (jJ (gR (gk oEq (gk (oI (fun _ j=>0<j) fun i j=>.int (i%j)) (gk (oI nG fun i j=>.int (i/j)) (f6 0) (dC (.int 64))) (dC (.int 3))) (dC (.int 1)))) (jt (jG (rg (gi (dC (.int 8)) gq)) [none,some 2,some 1] (gJ 0) mU (gk i5 (gk i5 (gk i5 (qI (f6 1) rG (pA (gk (oI (fun _ j=>0<j) fun i j=>.int (i%j)) (f6 2) (dC (.int 4))))) (gk gU (dC (.str "mt")) (gk (oI nG fun i j=>.int (i/j)) (f6 0) (dC (.int 4))))) (gk gU (dC (.str "nu")) (gk (oI (fun _ j=>0<j) fun i j=>.int (i%j)) (gk (oI nG fun i j=>.int (i/j)) (f6 0) (dC (.int 2))) (dC (.int 2))))) (gk gU (dC (.str "ov")) (gk (oI (fun _ j=>0<j) fun i j=>.int (i%j)) (f6 0) (dC (.int 2))))))) jI)
 (gB (ig 4 (gk i5 (gk gU (dC (.str "ab")) (iQ CV (gi (gk oEq (gk gU (f6 2) (dC (.int 0))) (dC (.str "a"))) gq))) (qI (f6 2) (pA (dC (.int 1))) rG)))
 (jt (gk i5 (jG (rg (gi (dC (.int 6)) gq)) [none,some 2] (gJ 0) mU (qI (f6 1) rG (pA (gk i5 (f6 0) (dC (.int 1)))))) (j5 (gi (qI (f6 4) rG (pA (dC (.int 1)))) (gi (qI (f6 4) rG (pA (dC (.int 3)))) gq))))))))))))
theorem Qj:(Str.ofString "hgfedcba").cps.toList=[104,103,102,101,100,99,98,97]:=by decide +kernel
theorem Pw(k:Nat)(h:k<8):iR (Str.ofString "mt").cps.toList ((k:Int)/4)=some (if k/4=0 then 109 else 116):=by
 have:∀k:Fin 8,iR (Str.ofString "mt").cps.toList ((k.val:Int)/4)=some (if k.val/4=0 then 109 else 116):=by decide +kernel
 exact this ⟨k,h⟩
theorem Pu(k:Nat)(h:k<8):iR (Str.ofString "nu").cps.toList ((k:Int)/2%2)=some (if k/2%2=0 then 110 else 117):=by
 have:∀k:Fin 8,iR (Str.ofString "nu").cps.toList ((k.val:Int)/2%2)=some (if k.val/2%2=0 then 110 else 117):=by decide +kernel
 exact this ⟨k,h⟩
theorem Pt(k:Nat)(h:k<8):iR (Str.ofString "ov").cps.toList ((k:Int)%2)=some (if k%2=0 then 111 else 118):=by
 have:∀k:Fin 8,iR (Str.ofString "ov").cps.toList ((k.val:Int)%2)=some (if k.val%2=0 then 111 else 118):=by decide +kernel
 exact this ⟨k,h⟩
theorem WU:kM 1 Bv GO ["_law_cell","_law_size","_law_stem_here","_law_at","_law_other"]:=by
 intro ds Qr hl h;obtain⟨i,rfl,q⟩:=h;show GO _ [.fz (.int i),.un,.un,.un,.un];unfold GO;walk_at "all";unfold vh zk Fb at q;generalize (i%1000000000000000000000000+5)*7046029254386353131%1000000000000000000000007=c at q ⊢;have s0:0<=c%6:=bx _ (by decide);have s1:c%6<6:=bw _ (by decide);refine⟨c/512,6,rfl,by decide,by omega,?_⟩;have t0:0<=c/8%(c%6+1):=bx _ (by omega);have t1:c/8%(c%6+1)<c%6+1:=bw _ (by omega);have IE:=L9 6 (c/512);have big:=kN;by_cases h0:c/64%3=0
 ·rw[if_pos h0] at q;rw[if_pos h0];refine sj [104,103,102,101,100,99,98,97] (fun c=>.str ⟨#[c]⟩) (fun s=>.str (lS ((nu 6 (c/512)).take (c/8%(c%6+1)).toNat++[s]++((nu 6 (c/512)).drop (c/8%(c%6+1)).toNat).take ((c%6).toNat-(c/8%(c%6+1)).toNat)))) (fun Q' h=>?_) (by decide) (fun s hs K1 k=>?_) ?_
  ·walk_at "all";rw[Qj];exact h
  ·walk_at "all";rw[AW _ t0,SA _ t0 s0,xv,x8,x8];refine⟨by rw[qh];omega,?_,by rw[qh];omega,?_,k⟩
   ·simp only[qh,aN,aG,cD];omega
   ·simp only[qh,au,aN,cf,aG,cD];omega
  ·exact q
 ·rw[if_neg h0] at q;rw[if_neg h0];by_cases h1:c/64%3=1
  ·rw[if_pos h1] at q;rw[if_pos h1];have u0:0<=c%6%4:=bx _ (by decide);refine sj (List.range 8) (fun(i:Nat)=>.int (0+i)) (fun k=>.str (lS ((nu 6 (c/512)).take (c%6%4).toNat++[if k/4=0 then 109 else 116]++[if k/2%2=0 then 110 else 117]++[if k%2=0 then 111 else 118]))) (fun Q' h=>?_) (by decide) (fun s hs K1 k=>?_) ?_
   ·walk_at "all";exact h
   ·have Iq:s<8:=by simpa using hs
    rw[Int.zero_add];walk_at "all";rw[AW _ u0];refine⟨by rw[qh];omega,by decide,_,Pw s Iq,?_,by decide,_,Pu s Iq,?_,by decide,_,Pt s Iq,?_,?_⟩
    ·simp only[qh,xv,aN,aG,cD];omega
    ·simp only[qh,xv,x8,au,aN,aG,cD];omega
    ·simp only[qh,xv,x8,au,aN,aG,cD];omega
    ·simp only[xv,x8];exact k
   ·rw[aL] at q;exact q
  ·rw[if_neg h1] at q;rw[if_neg h1];obtain⟨a,b,c',d,e,f,hs,ha,hb,hc,hd,he,hf⟩:=JR (c/512);rw[hs] at q ⊢;have qG:iR (lS [a,b,c',d,e,f]).cps.toList 0=some a:=by rw[AX];rfl
   refine⟨by rw[qh];simp;omega,a,qG,?_⟩;have ho:iR (Str.ofString "ab").cps.toList (if (⟨#[a]⟩:Str)=Str.ofString "a" then 1 else 0)=some (if a=97 then 98 else 97):=by
    by_cases Jc:a=97
    ·subst Jc;decide +kernel
    ·have:¬((⟨#[a]⟩:Str)=Str.ofString "a"):=by
      intro z;have z2:(⟨#[a]⟩:Str).cps.toList=(Str.ofString "a").cps.toList:=by rw[z]
      have z3:(Str.ofString "a").cps.toList=[97]:=by decide +kernel
      rw[z3] at z2;simp at z2;exact Jc z2
     rw[if_neg this,if_neg Jc];decide +kernel
   refine⟨by decide,_,ho,?_⟩;walk_at "all";rw[SR _ (by decide),xv,x8];refine⟨by rw[qh];simp;omega,by simp only[qh];simp;omega,?_⟩;refine sj (List.range 6) (fun(i:Nat)=>.int (0+i)) (fun k=>.str (lS ([a,b,c',d,e,f].take (k+1)))) (fun Q' h=>?_) (by decide) (fun s hs K1 k=>?_) ?_
   ·walk_at "all";exact h
   ·walk_at "all";rw[AW _ (by omega),show(0+(s:Int)+1).toNat=s+1 by omega];exact⟨by rw[qh];simp;omega,k⟩
   ·walk_at "all";rw[AW _ (by decide),AW _ (by decide)];refine⟨by rw[qh];simp;omega,by rw[qh];simp;omega,by decide,by simp;omega,?_⟩;simp only[aI,aL,ay,bW] at q;exact q
def By:iF:=fun ds Q=>∃(ws:List Str) (cells:List Int) (gG:Int) (W:Nat),ds=[dS ws,dI cells,.int gG,.int W]/\ws.length=8/\W<=40/\
 ∀top fZ:List (Option Str),top.length=W->fZ.length=W->jK ws top->jK ws fZ->Q (.fz (.tup [dP top,dP fZ]))
def GW:TX:=(gB (oA 4 (j5 gq))
 (gB (oA 5 (j5 gq))
 (gB (mS (rg (gi (f6 3) gq)) (gJ 6) (gB (oA 7 (j5 gq))
 (gB (mS (rg (gi (dC (.int 2)) gq)) (gJ 8) (gB (ig 9 (gk i5 (gk (oI mP fun i j=>.int (i*j)) (dC (.int 2)) (f6 6)) (f6 8)))
 (gB (ig 10 (iN 2 t7 (gi (f6 2) (gi (f6 9) gq))))
 (gB (jJ (gR (gk (mH fun i j=>.bl (decide (i<j))) (f6 9) (iQ oN (gi (f6 1) gq)))) (ig 10 (iN 2 t7 (gi (gk gU (f6 1) (f6 9)) (gi (f6 9) gq)))) jI)
 (nt 7 (gk gU (j5 (gi (gk gU (f6 0) (gk (oI (fun _ j=>0<j) fun i j=>.int (i%j)) (f6 10) (dC (.int 8)))) (gi (gk gU (f6 0) (gk (oI (fun _ j=>0<j) fun i j=>.int (i%j)) (gk (oI nG fun i j=>.int (i/j)) (f6 10) (dC (.int 8))) (dC (.int 3)))) (gi (gk gU (f6 0) (gk (oI (fun _ j=>0<j) fun i j=>.int (i%j)) (gk (oI nG fun i j=>.int (i/j)) (f6 10) (dC (.int 8))) (dC (.int 5)))) (gi (dC .non) gq))))) (gk (oI (fun _ j=>0<j) fun i j=>.int (i%j)) (gk (oI nG fun i j=>.int (i/j)) (f6 10) (dC (.int 64))) (dC (.int 4)))))))))
 (gB (nt 4 (xS 7 (dC (.int 0))))
 (nt 5 (xS 7 (dC (.int 1))))))))
 (wX 5 (wX 4 (jt (l7 (gi (f6 4) (gi (f6 5) gq)))))))))
theorem FY(ws:List Str):jK ws []:=fun w h=>by cases h
theorem Gr{ws:List Str}{l:List (Option Str)}{x:Option Str}(h:jK ws l)(hx:∀w,x=some w->w∈ws):jK ws (l++[x]):=fun w hw=>by
 rcases av.mp hw with h1 | h1
 ·exact h w h1
 ·exact hx w (bH.mp h1).symm
theorem Wd:kM 4 By GW ["_law_words","_law_cells","_law_seed","_law_width","_law_top","_law_bottom","_law_c","_law_row","_law_side","_law_k","_law_one"]:=by
 intro ds Qr hl h;obtain⟨ws,cells,gG,W,rfl,p4,hW,q⟩:=h;show GW _ [.fz (dS ws),.fz (dI cells),.fz (.int gG),.fz (.int W),.un,.un,.un,.un,.un,.un,.un];unfold GW;have big:=kN;walk_at "px";refine⟨by omega,?_⟩;walk_at "go";refine⟨by omega,?_⟩;walk_at "go";refine xj W (fun Q' h=>?_) (fun i ρ=>∃(top fZ:List (Option Str)) (a b c d e:Sl),ρ=[.fz (dS ws),.fz (dI cells),.fz (.int gG),.fz (.int W),.ow (top.map dO),.ow (fZ.map dO),a,b,c,d,e]/\top.length=i/\fZ.length=i/\jK ws top/\jK ws fZ) ⟨[],[],_,_,_,_,_,rfl,rfl,rfl,FY _,FY _⟩ ?_ ?_
 ·walk_at "px";exact⟨by omega,by omega,by simpa using h⟩
 ·rintro i ρ hi ⟨top,fZ,a,b,c,d,e,rfl,ht,hb,pt,pb⟩;walk_at "px";refine⟨by omega,?_⟩;walk_at "go";refine xj 2 (fun Q' h=>?_) (fun j ρ=>∃(row:List (Option Str)) (c d e:Sl),ρ=[.fz (dS ws),.fz (dI cells),.fz (.int gG),.fz (.int W),.ow (top.map dO),.ow (fZ.map dO),.fz (.int i),.ow (row.map dO),c,d,e]/\row.length=j/\jK ws row) ⟨[],_,_,_,rfl,rfl,FY _⟩ ?_ ?_
  ·walk_at "px";exact h
  ·rintro j ρ hj ⟨row,c,d,e,rfl,hr,pr⟩;walk_at "px";walk_at "go";have k0:(0:Int)<=2*(i:Int)+j:=by omega
   have k1:2*(i:Int)+j<=1000000:=by omega
   refine⟨gG,_,rfl,k0,k1,?_⟩;walk_at "go";unfold dI;walk_at "px";split
   focus
    rename_i hc;rw[ae] at hc;obtain⟨z,hz,_⟩:=FK (l:=cells) k0 hc;refine⟨z,hz,z,_,rfl,k0,k1,?_⟩
   all_goals
    generalize vF _ _=one;walk_at "go";unfold dS;walk_at "px";obtain⟨z1,h1,m1⟩:=Oz one p4;obtain⟨z2,h2,m2⟩:=Y6 (one/8) p4;obtain⟨z3,h3,m3⟩:=Y5 (one/8) p4;refine⟨z1,h1,z2,h2,z3,h3,by omega,?_⟩;have h4:=Dp (l:=[some z1,some z2,some z3,none]) (n:=4) (one/64) (by simp) (by decide);obtain⟨z,hz,mz⟩:=h4;refine⟨dO z,?_,by simp;omega,row++[z],_,_,_,by rw[aI];rfl,by simp[hr],Gr pr ?_⟩
    ·have:=eG (Option.map dO) hz;rw[<-zC] at this;exact this
    ·intro w hw;subst hw;simp only[ar,aW,bK,eC,reduceCtorEq] at mz;rcases mz with rfl | rfl | rfl
     ·exact m1
     ·exact m2
     ·exact m3
  ·rintro ρ ⟨row,c,d,e,rfl,hr,pr⟩;obtain⟨x,y,rfl⟩:∃x y,row=[x,y]:=by
    match row,hr with
    | [x,y],_=>exact⟨x,y,rfl⟩
   walk_at "go";refine⟨dO x,rfl,by simp;omega,?_⟩;walk_at "go";refine⟨dO y,rfl,by simp;omega,top++[x],fZ++[y],_,_,_,_,_,by rw[aI,aI];rfl,by simp[ht],by simp[hb],Gr pt fun w hw=>pr w (by simp[hw]),Gr pb fun w hw=>pr w (by simp[hw])⟩
 ·rintro ρ ⟨top,fZ,a,b,c,d,e,rfl,ht,hb,pt,pb⟩;walk_at "go";exact⟨by omega,q top fZ ht hb pt pb⟩
noncomputable def iZ(top fZ:List (Option Str))(left right:List Str)(w:Str):Nat:=top.count (some w)+fZ.count (some w)+left.count w+right.count w
def xm:iF:=fun ds Q=>∃(top fZ:List (Option Str)) (left right:List Str) (w:Str),ds=[dP top,dP fZ,dS left,dS right,.str w]/\top.length+fZ.length+left.length+right.length<=100000/\Q (.fz (.int (iZ top fZ left right w)))
def GV:TX:=(gB (ig 5 (gk i5 (gk i5 (gk i5 (f6 0) (f6 1)) (f6 2)) (f6 3)))
 (jt (dM "list" Dg (f6 5) (gi (f6 4) gq))))
theorem Kd(w:Str)(l:List (Option Str)):tU (.str w) (l.map dO)=l.count (some w):=by
 unfold tU;rw[List.countP_map,List.count];congr 1
 funext x
 simp only[Function.comp_apply,t6];rw[zB]
theorem Kc(w:Str)(l:List Str):tU (.str w) (l.map D.str)=l.count w:=by
 unfold tU;rw[List.countP_map,List.count];congr 1
theorem FX(d:D)(a b:List D):tU d (a++b)=tU d a+tU d b:=by unfold tU;exact List.countP_append
theorem Wb:kM 5 xm GV ["_law_top","_law_bottom","_law_left","_law_right","_law_word","_law_some"]:=by
 intro ds Qr hl h;obtain⟨top,fZ,left,right,w,rfl,hz,q⟩:=h;show GV _ [.fz (dP top),.fz (dP fZ),.fz (dS left),.fz (dS right),.fz (.str w),.un];unfold GV;have big:=kN;unfold dP dS;walk_at "px";refine⟨by simp;omega,by simp;omega,by simp;omega,?_⟩;walk_at "go";refine⟨rfl,?_,?_⟩
 ·intro e he;simp only[av] at he;rcases he with((he | he) | he) | he
  ·exact DL 8 top e he
  ·exact DL 8 fZ e he
  ·exact rC 8 left e he
  ·exact rC 8 right e he
 ·rw[FX,FX,FX,Kd,Kd,Kc,Kc];exact q
theorem CT(l:List Int)(a:Int):l.map D.int++[D.int a]=(l++[a]).map D.int:=by simp
noncomputable def places(top fZ:List (Option Str))(left right:List Str)(w:Str):List Int:=
 (((List.range top.length).filter fun c=>top[c]?==some (some w)||fZ[c]?==some (some w)).map fun(c:Nat)=>(c:Int))++(if w∈left then [-1] else [])++(if w∈right then [(top.length:Int)] else [])
def xN(m:Int)(l:List Int):Prop:=m∈l/\∀a∈l,m<=a
def xO(m:Int)(l:List Int):Prop:=m∈l/\∀a∈l,a<=m
def Bo:iF:=fun ds Q=>∃(top fZ:List (Option Str)) (left right:List Str) (w:Str),ds=[dP top,dP fZ,dS left,dS right,.str w]/\fZ.length=top.length/\top.length<=100/\left.length<=100/\right.length<=100/\
 ∀m M,xN m (places top fZ left right w++[99])->xO M (places top fZ left right w++[-9])->Q (.fz (.tup [.int m,.int M]))
def Hn:TX:=(gB (oA 5 (jG (rg (gi (iQ oN (gi (f6 0) gq)) gq)) [none,some 4,some 0,some 1] (gJ 0) (gR (gk (mR false) (f6 1) (j5 (gi (gk gU (f6 2) (f6 0)) (gi (gk gU (f6 3) (f6 0)) gq))))) (f6 0)))
 (gB (jJ (gR (gk (mR false) (f6 4) (f6 2))) (nt 5 (tQ (dC (.int 1)))) jI)
 (gB (jJ (gR (gk (mR false) (f6 4) (f6 3))) (nt 5 (iQ oN (gi (f6 0) gq))) jI)
 (wX 5 (jt (l7 (gi (iQ uo (gi (gk i5 (f6 5) (j5 (gi (dC (.int 99)) gq))) gq)) (gi (iQ tV (gi (gk i5 (f6 5) (j5 (gi (tQ (dC (.int 9))) gq))) gq)) gq))))))))
theorem W5:kM 5 Bo Hn ["_law_top","_law_bottom","_law_left","_law_right","_law_word","_law_places"]:=by
 intro ds Qr hl h;obtain⟨top,fZ,left,right,w,rfl,hb,ht,Ag,hr,q⟩:=h;show Hn _ [.fz (dP top),.fz (dP fZ),.fz (dS left),.fz (dS right),.fz (.str w),.un];unfold Hn;have big:=kN;unfold dP dS;walk_at "px";refine sv (List.range top.length) (fun(i:Nat)=>.int (0+i)) (fun(i:Nat)=>.int i) (fun c=>top[c]?==some (some w)||fZ[c]?==some (some w)) (fun Q' h=>?_) (by simp;omega) (fun c hc K1 K0 k1 k0=>?_) ?_
 ·walk_at "px";rw[ae];exact⟨by omega,by omega,by simpa using h⟩
 ·have uQ:c<top.length:=by simpa using hc
  rw[Int.zero_add];walk_at "px";refine⟨_,pf uQ,_,pf (l:=fZ) (by omega),by omega,?_,?_⟩
  ·intro e he;simp only[ar,bK,eC] at he;rcases he with rfl | rfl<;>(rw[si];trivial)
  ·have e1:inD (.str w) [dO top[c],dO fZ[c]]=(top[c]?==some (some w)||fZ[c]?==some (some w)):=by
    unfold inD;simp only[fj,List.any_nil,Bool.or_false,t6];rw[ai uQ,ai (l:=fZ) (by omega),zB,zB];simp
   rw[e1];cases hb:(top[c]?==some (some w)||fZ[c]?==some (some w)) with
   | true=>exact k1 hb
   | false=>exact k0 hb
 ·have e:∀L:List Nat,(L.map fun(i:Nat)=>D.int i)=(L.map (fun(c:Nat)=>(c:Int))).map D.int:=fun L=>by simp
  rw[e];have hlen:(((List.range top.length).filter fun c=>top[c]?==some (some w)||fZ[c]?==some (some w)).map fun(c:Nat)=>(c:Int)).length<=100:=by
   rw[ae];refine aK (bz _ _) ?_;simp;omega
  unfold places at q;generalize (((List.range top.length).filter fun c=>top[c]?==some (some w)||fZ[c]?==some (some w)).map fun(c:Nat)=>(c:Int))=base at q hlen ⊢;walk_at "go";refine⟨rC 8 left,?_⟩;rw[vL];by_cases h1:w∈left<;>by_cases h2:w∈right
  all_goals
   simp only[h1,h2,aR,aP,ba] at q;simp only[h1,cy,cE,aR,aq,aP];try(refine⟨by simp;omega,?_⟩)
   walk_at "go";refine⟨rC 8 right,?_⟩;rw[vL];simp only[h2,cy,cE,aR,aq,aP];try(refine⟨by simp;omega,?_⟩)
   try simp only[CT,ae]
   walk_at "go";refine⟨by omega,by simp;omega,?_⟩;try simp only[CT,uo,tV,zL]
   refine⟨by simp,fun m ud oW=>?_⟩;refine⟨by omega,by simp;omega,?_⟩;try simp only[CT,zL]
   refine⟨by simp,fun M Ja I0=>?_⟩;exact⟨by omega,q m M ⟨by simpa using ud,by simpa using oW⟩ ⟨by simpa using Ja,by simpa using I0⟩⟩
structure lG (top fZ:List (Option Str)) (left right ws:List Str) (gF:List (Int×Str)):Prop where
 len:gF.length<=top.length
 up:gF.Pairwise fun a b=>a.1<b.1
 at_:∀p∈gF,∃n:Nat,p.1=n/\n<top.length/\p.2∈ws/\(∃m M,xN m (places top fZ left right p.2++[99])/\xO M (places top fZ left right p.2++[-9])/\m<p.1/\p.1<M)/\((top[n]?=some none/\fZ[n]?=some none)\/top[n]?=some (some p.2)\/fZ[n]?=some (some p.2))
def Bu:iF:=fun ds Q=>∃(top fZ:List (Option Str)) (left right ws:List Str) (cells:List Int) (gG:Int),ds=[.lst [dP top,dP fZ,dS left,dS right],dS ws,dI cells,.int gG]/\fZ.length=top.length/\top.length<=40/\left.length<=100/\right.length<=100/\ws.length=8/\jK ws top/\cells.length<=1000/\
 ∀gF,lG top fZ left right ws gF->Q (.ow (gF.map vB))
def GN:TX:=(gB (zf (f6 0) (zb 4 (il (gJ 4) (il (gJ 5) (il (gJ 6) (il (gJ 7) kW))))))
 (gB (oA 8 (j5 gq))
 (gB (mS (rg (gi (iQ oN (gi (f6 4) gq)) gq)) (gJ 9) (gB (ig 10 (iN 2 t7 (gi (gk gU (gk i5 (f6 2) (j5 (gi (f6 3) gq))) (gk (oI (fun _ j=>0<j) fun i j=>.int (i%j)) (f6 9) (gk i5 (iQ oN (gi (f6 2) gq)) (dC (.int 1))))) (gi (gk i5 (f6 9) (dC (.int 200))) gq))))
 (gB (ig 11 (gk gU (f6 1) (gk (oI (fun _ j=>0<j) fun i j=>.int (i%j)) (f6 10) (dC (.int 8)))))
 (gB (jJ (o7 (gR (gk oEq (gk (oI (fun _ j=>0<j) fun i j=>.int (i%j)) (gk (oI nG fun i j=>.int (i/j)) (f6 10) (dC (.int 8))) (dC (.int 3))) (dC (.int 0)))) (gR (gk (pz true) (gk gU (f6 4) (f6 9)) (dC .non)))) (ig 11 (gk gU (f6 4) (f6 9))) jI)
 (gB (zf (iN 5 Bo (gi (f6 4) (gi (f6 5) (gi (f6 6) (gi (f6 7) (gi (f6 11) gq)))))) (mQ 2 (il (gJ 12) (il (gJ 13) kW))))
 (gB (ig 14 (jG (jT (j5 (gi (gk gU (f6 4) (f6 9)) (gi (gk gU (f6 5) (f6 9)) gq)))) [none] (gJ 0) (gR (gk (pz true) (f6 0) (dC .non))) (f6 0)))
 (jJ (o7 (gR (gk (mH fun i j=>.bl (decide (i<j))) (f6 12) (f6 9))) (o7 (gR (gk (mH fun i j=>.bl (decide (i<j))) (f6 9) (f6 13))) (o7 (Ar (gR (gk oEq (f6 14) (j5 gq))) (gR (gk (mR false) (f6 11) (f6 14)))) (gR (gk (mH fun i j=>.bl (decide (j<i))) (gk (oI (fun _ j=>0<j) fun i j=>.int (i%j)) (gk (oI nG fun i j=>.int (i/j)) (f6 10) (dC (.int 24))) (dC (.int 3))) (dC (.int 0))))))) (nt 8 (l7 (gi (f6 9) (gi (f6 11) gq)))) jI)))))))
 (rh 8))))
theorem Sw(l:List D):qe l []=l.isEmpty:=by cases l<;>simp[qe]
theorem WT:kM 4 Bu GN ["_law_lists","_law_words","_law_cells","_law_seed","_law_top","_law_bottom","_law_left","_law_right","_law_bends_here","_law_c","_law_one","_law_word","_law_l","_law_r","_law_here"]:=by
 intro ds Qr hl h;obtain⟨top,fZ,left,right,ws,cells,gG,rfl,hb,ht,Ag,hr,p4,pt,yO,q⟩:=h;show GN _ [.fz (.lst [dP top,dP fZ,dS left,dS right]),.fz (dS ws),.fz (dI cells),.fz (.int gG),.un,.un,.un,.un,.un,.un,.un,.un,.un,.un,.un];unfold GN;have big:=kN;walk_at "px";walk_at "go";refine⟨by omega,?_⟩;walk_at "go";refine xj top.length (fun Q' h=>?_) (fun i ρ=>∃(gF:List (Int×Str)) (a b c d e f:Sl),ρ=[.fz (.lst [dP top,dP fZ,dS left,dS right]),.fz (dS ws),.fz (dI cells),.fz (.int gG),.fz (dP top),.fz (dP fZ),.fz (dS left),.fz (dS right),.ow (gF.map vB),a,b,c,d,e,f]/\lG top fZ left right ws gF/\(∀p∈gF,p.1<i)/\gF.length<=i) ⟨[],_,_,_,_,_,_,rfl,⟨by simp,by simp,by simp⟩,by simp,by simp⟩ ?_ ?_
 ·unfold dP;walk_at "px";rw[ae];exact⟨by omega,by omega,by simpa using h⟩
 ·rintro i ρ hi ⟨gF,a,b,c,d,e,f,rfl,bo,lt,ln⟩;unfold dI;walk_at "px";rw[ae];refine⟨by omega,by omega,by omega,?_⟩;have m0:0<=(i:Int)%((cells.length:Int)+1):=bx _ (by omega);have m1:(i:Int)%((cells.length:Int)+1)<(cells.length:Int)+1:=bw _ (by omega);rw[CT];obtain⟨z,hz,_⟩:=FK (l:=cells++[gG]) m0 (by simp;omega);rw[Ke];refine⟨z,hz,z,_,rfl,by omega,by omega,?_⟩;generalize vF _ _=one;unfold dS;walk_at "go";obtain⟨z1,h1,NJ⟩:=Oz one p4;refine⟨z1,h1,?_⟩;unfold dP;walk_at "go";have qG:top[i]?=some top[i]:=ai hi;have kU:fZ[i]?=some fZ[i]:=ai (by omega);have key:∃w:Str,w∈ws/\∀K:D->Prop,K (.str w)->(if one/8%3=0 then ∃x,iR top (i:Int)=some x/\(if (!xW (dO x))=true then ∃x,iR top (i:Int)=some x/\K (dO x) else K (.str z1)) else K (.str z1)):=by
   by_cases hc:one/8%3=0
   ·cases hx:top[i] with
    | none=>exact⟨z1,NJ,fun K k=>by rw[if_pos hc];exact⟨none,by rw[pf hi,hx],by simpa[dO,xW] using k⟩⟩
    | some w=>
     refine⟨w,pt w (by rw[<-hx];exact cq hi),fun K k=>?_⟩;rw[if_pos hc];exact⟨some w,by rw[pf hi,hx],by simp only[dO,xW,Bool.not_false,aR];exact⟨some w,by rw[pf hi,hx],k⟩⟩
   ·exact⟨z1,NJ,fun K k=>by rw[if_neg hc];exact k⟩
  obtain⟨w,hw,kw⟩:=key;refine kw (fun d=>vG _ _ [_,_,_,_,_,_,_,_,_,_,_,.fz d,_,_,_]) ?_;walk_at "go";refine⟨top,fZ,left,right,w,rfl,hb,by omega,Ag,hr,fun m M hm hM=>?_⟩;walk_at "go";refine sv [top[i],fZ[i]] dO dO (fun x=>x.isSome) (fun Q' h=>?_) (by simp;omega) (fun c hc K1 K0 k1 k0=>?_) ?_
  ·walk_at "px";exact⟨_,pf hi,_,pf (l:=fZ) (by omega),by omega,h⟩
  ·walk_at "px";cases c with
   | none=>exact k0 rfl
   | some x=>exact k1 rfl
  ·walk_at "go";have skip:∀(a b c d e f:Sl) (X Y Z:D),∃(kx:List (Int×Str)) (a' b' c' d' e' f':Sl),[Sl.fz (D.lst [D.lst (List.map dO top),D.lst (List.map dO fZ),D.lst (List.map D.str left),D.lst (List.map D.str right)]),Sl.fz (D.lst (List.map D.str ws)),Sl.fz (D.lst (List.map D.int cells)),Sl.fz (D.int gG),Sl.fz (D.lst (List.map dO top)),Sl.fz (D.lst (List.map dO fZ)),Sl.fz (D.lst (List.map D.str left)),Sl.fz (D.lst (List.map D.str right)),Sl.ow (List.map vB gF),a,b,c,d,e,f]=[Sl.fz (D.lst [D.lst (List.map dO top),D.lst (List.map dO fZ),D.lst (List.map D.str left),D.lst (List.map D.str right)]),Sl.fz (D.lst (List.map D.str ws)),Sl.fz (D.lst (List.map D.int cells)),Sl.fz (D.int gG),Sl.fz (D.lst (List.map dO top)),Sl.fz (D.lst (List.map dO fZ)),Sl.fz (D.lst (List.map D.str left)),Sl.fz (D.lst (List.map D.str right)),Sl.ow (List.map vB kx),a',b',c',d',e',f']/\lG top fZ left right ws kx/\(∀p∈kx,p.1<((i+1:Nat):Int))/\kx.length<=i+1:=
    fun a b c d e f _ _ _=>⟨gF,a,b,c,d,e,f,rfl,bo,fun p hp=>by have:=lt p hp;omega,by omega⟩
   have tL:some w∈[top[i],fZ[i]].filter (fun x=>x.isSome)↔top[i]=some w\/fZ[i]=some w:=by
    simp only[aY,ar,bK,eC,Option.isSome_some,and_true];constructor
    ·rintro(h | h)
     ·exact .inl h.symm
     ·exact .inr h.symm
    ·rintro(h | h)
     ·exact .inl h.symm
     ·exact .inr h.symm
   have Cw:([top[i],fZ[i]].filter (fun x=>x.isSome)=[])->top[i]=none/\fZ[i]=none:=by
    intro h;rw[dX] at h;exact⟨by simpa using h top[i] (by simp),by simpa using h fZ[i] (by simp)⟩
   generalize [top[i],fZ[i]].filter (fun x=>x.isSome)=here at tL Cw ⊢;split
   ·rename_i c1;split
    ·rename_i c2;refine⟨by omega,iE.mono (n:=1) (by omega) (by intro d hd;exact DL 0 here d hd),iE.mono (n:=1) (by omega) (by intro d hd;cases hd),?_⟩;have fin:(top[i]=none/\fZ[i]=none)\/top[i]=some w\/fZ[i]=some w->lG top fZ left right ws (gF++[((i:Int),w)]):=fun hp=>by
      refine⟨by simp;omega,?_,?_⟩
      ·rw[bF];refine⟨bo.up,by simp,fun a ha b hb=>?_⟩;have:b=((i:Int),w):=by simpa using hb
       subst this;exact lt a ha
      ·intro p Iz;rcases av.mp Iz with h | h
       ·exact bo.at_ p h
       ·have:p=((i:Int),w):=by simpa using h
        subst this;refine⟨i,rfl,hi,hw,⟨m,M,hm,hM,c1,c2⟩,?_⟩;rw[qG,kU];simpa using hp
     have put:(top[i]=none/\fZ[i]=none)\/top[i]=some w\/fZ[i]=some w->2<=sizeLine/\(List.map vB gF).length<sizeLine/\∃(kx:List (Int×Str)) (a' b' c' d' e' f':Sl),[Sl.fz (D.lst [D.lst (List.map dO top),D.lst (List.map dO fZ),D.lst (List.map D.str left),D.lst (List.map D.str right)]),Sl.fz (D.lst (List.map D.str ws)),Sl.fz (D.lst (List.map D.int cells)),Sl.fz (D.int gG),Sl.fz (D.lst (List.map dO top)),Sl.fz (D.lst (List.map dO fZ)),Sl.fz (D.lst (List.map D.str left)),Sl.fz (D.lst (List.map D.str right)),Sl.ow (List.map vB gF++[D.tup [D.int i,D.str w]]),Sl.fz (D.int i),Sl.fz (D.int one),Sl.fz (D.str w),Sl.fz (D.int m),Sl.fz (D.int M),Sl.fz (D.lst (here.map dO))]=[Sl.fz (D.lst [D.lst (List.map dO top),D.lst (List.map dO fZ),D.lst (List.map D.str left),D.lst (List.map D.str right)]),Sl.fz (D.lst (List.map D.str ws)),Sl.fz (D.lst (List.map D.int cells)),Sl.fz (D.int gG),Sl.fz (D.lst (List.map dO top)),Sl.fz (D.lst (List.map dO fZ)),Sl.fz (D.lst (List.map D.str left)),Sl.fz (D.lst (List.map D.str right)),Sl.ow (List.map vB kx),a',b',c',d',e',f']/\lG top fZ left right ws kx/\(∀p∈kx,p.1<((i+1:Nat):Int))/\kx.length<=i+1:=fun hp=>by
      refine⟨by omega,by simp;omega,gF++[((i:Int),w)],_,_,_,_,_,_,by rw[aI];rfl,fin hp,?_,by simp;omega⟩;intro p Iz;rcases av.mp Iz with h | h
      ·have:=lt p h;omega
      ·have:p=((i:Int),w):=by simpa using h
       subst this;show(i:Int)<_;omega
     by_cases ce:here=[]
     ·simp only[ce,bW,iq,qe,aR];split
      ·have:=put (.inl (Cw ce));rw[ce] at this;exact this
      ·have:=skip (.fz (D.int i)) (.fz (D.int one)) (.fz (D.str w)) (.fz (D.int m)) (.fz (D.int M)) (.fz (D.lst [])) .non .non .non;exact this
     ·have e1:iq (D.lst (here.map dO)) (D.lst [])=false:=by
       simp only[iq,Sw];cases here with
       | nil=>exact absurd rfl ce
       | cons=>rfl
      simp only[e1,aq,aP];refine⟨DL 8 here,?_⟩;rw[AE];simp only[aS];split
      ·rename_i rL;split
       ·exact put (.inr (tL.mp rL))
       ·exact skip _ _ _ _ _ _ .non .non .non
      ·exact skip _ _ _ _ _ _ .non .non .non
    ·exact skip _ _ _ _ _ _ .non .non .non
   ·exact skip _ _ _ _ _ _ .non .non .non
 ·rintro ρ ⟨gF,a,b,c,d,e,f,rfl,bo,lt,ln⟩;walk_at "go";exact q gF bo
def pM(W:Nat)(keeps:List (Int×Int×Int)):Prop:=keeps.length<=6/\∀p∈keeps,0<=p.1/\p.1<=p.2.1/\p.2.1<W/\1<=p.2.2/\p.2.2<=3
def Bt:iF:=fun ds Q=>∃(W:Nat) (cells:List Int) (gG:Int),ds=[.int W,dI cells,.int gG]/\1<=W/\W<=40/\∀keeps,pM W keeps->Q (.ow (keeps.map CG))
def GL:TX:=(gB (oA 3 (j5 gq))
 (gB (mS (w6 (gi (qI (f6 1) rG (pA (dC (.int 6)))) gq)) (mQ 2 (il (gJ 4) (il (gJ 5) kW))) (gB (ig 6 (iN 2 t7 (gi (gk i5 (f6 5) (f6 2)) (gi (gk i5 (f6 4) (dC (.int 300))) gq))))
 (gB (ig 7 (gk (oI (fun _ j=>0<j) fun i j=>.int (i%j)) (f6 6) (f6 0)))
 (jJ (gR (gk oEq (gk (oI (fun _ j=>0<j) fun i j=>.int (i%j)) (gk (oI nG fun i j=>.int (i/j)) (f6 6) (dC (.int 64))) (dC (.int 4))) (dC (.int 0)))) (nt 3 (l7 (gi (f6 7) (gi (gk i5 (f6 7) (gk (oI (fun _ j=>0<j) fun i j=>.int (i%j)) (gk (oI nG fun i j=>.int (i/j)) (f6 6) (dC (.int 256))) (gk (mH fun i j=>.int (i-j)) (f6 0) (f6 7)))) (gi (gk i5 (dC (.int 1)) (gk (oI (fun _ j=>0<j) fun i j=>.int (i%j)) (gk (oI nG fun i j=>.int (i/j)) (f6 6) (dC (.int 1024))) (dC (.int 3)))) gq))))) jI))))
 (rh 3)))
theorem WS:kM 3 Bt GL ["_law_width","_law_cells","_law_seed","_law_keeps_here","_law_k","_law_cell","_law_one","_law_first"]:=by
 intro ds Qr hl h;obtain⟨W,cells,gG,rfl,hW,ZJ,q⟩:=h;show GL _ [.fz (.int W),.fz (dI cells),.fz (.int gG),.un,.un,.un,.un,.un];unfold GL dI;have big:=kN;walk_at "px";refine⟨by omega,?_⟩;walk_at "go";refine Ge (cells.take 6) D.int (fun Q' h=>?_) (fun i ρ=>∃(keeps:List (Int×Int×Int)) (a b c d:Sl),ρ=[.fz (.int W),.fz (D.lst (List.map D.int cells)),.fz (.int gG),.ow (keeps.map CG),a,b,c,d]/\keeps.length<=i/\∀p∈keeps,0<=p.1/\p.1<=p.2.1/\p.2.1<W/\1<=p.2.2/\p.2.2<=3) ⟨[],_,_,_,_,rfl,by simp,by simp⟩ ?_ ?_
 ·walk_at "px";rw[FJ _ (by decide)];exact h
 ·rintro i x ρ hx ⟨keeps,a,b,c,d,rfl,kl,ko⟩;have hi:i<6:=by
   have:=(aB.mp hx).1;simp at this;omega
  walk_at "px";refine⟨x+gG,(i:Int)+300,rfl,by omega,by omega,?_⟩;have n0:=Qo (x+gG) ((i:Int)+300);generalize vF _ _=one at n0 ⊢;walk_at "go";have f0:0<=one%(W:Int):=bx _ (by omega);have f1:one%(W:Int)<W:=bw _ (by omega);refine⟨by omega,?_⟩;generalize one%(W:Int)=fst at f0 f1 ⊢;walk_at "go";have g0:0<=one/256%((W:Int)-fst):=bx _ (by omega);have g1:one/256%((W:Int)-fst)<(W:Int)-fst:=bw _ (by omega);have k0:0<=one/1024%3:=bx _ (by omega);have k1:one/1024%3<3:=bw _ (by omega);generalize one/256%((W:Int)-fst)=sp at g0 g1 ⊢;generalize one/1024%3=kk at k0 k1 ⊢;split
  ·refine⟨by omega,by omega,by simp;omega,keeps++[(fst,fst+sp,1+kk)],_,_,_,_,by rw[aI];rfl,by simp;omega,fun p hp=>?_⟩;rcases av.mp hp with h | h
   ·exact ko p h
   ·have:p=(fst,fst+sp,1+kk):=by simpa using h
    subst this;refine⟨f0,?_,?_,?_,?_⟩<;>dsimp only<;>omega
  ·exact⟨keeps,_,_,_,_,rfl,by omega,ko⟩
 ·rintro ρ ⟨keeps,a,b,c,d,rfl,kl,ko⟩;walk_at "go";refine q keeps ⟨?_,ko⟩;rw[aN] at kl;omega
def zQ:iF:=fun ds Q=>∃(ws:List Str) (bits:Int),ds=[dS ws,.int bits]/\ws.length=8/\ws.Nodup/\∀l:List Str,l.length<=8->l.Nodup->(∀w∈l,w∈ws)->sortedS l=true->Q (.ow (l.map .str))
def GU:TX:=(gB (jJ (gR (gk oEq (gk (oI (fun _ j=>0<j) fun i j=>.int (i%j)) (gk (oI nG fun i j=>.int (i/j)) (f6 1) (dC (.int 256))) (dC (.int 2))) (dC (.int 0)))) (jt (j5 gq)) jI)
 (jt (iQ x9 (gi (jG (rg (gi (dC (.int 8)) gq)) [none,some 0,some 1] (gJ 0) (gR (gk oEq (gk (oI (fun _ j=>0<j) fun i j=>.int (i%j)) (gk (oI nG fun i j=>.int (i/j)) (f6 2) (gk gU (j5 (gi (dC (.int 1)) (gi (dC (.int 2)) (gi (dC (.int 4)) (gi (dC (.int 8)) (gi (dC (.int 16)) (gi (dC (.int 32)) (gi (dC (.int 64)) (gi (dC (.int 128)) gq))))))))) (f6 0))) (dC (.int 2))) (dC (.int 1)))) (gk gU (f6 1) (f6 0))) gq))))
theorem QD(k:Nat)(h:k<8):iR ([1,2,4,8,16,32,64,128]:List Int) (k:Int)=some ((2:Int) ^ k):=by
 have:∀k:Fin 8,iR ([1,2,4,8,16,32,64,128]:List Int) (k.val:Int)=some ((2:Int) ^ k.val):=by decide +kernel
 exact this ⟨k,h⟩
theorem Qi(k:Nat)(h:k<8):0<(2:Int) ^ k/\(2:Int) ^ k<1073741824:=by
 have:∀k:Fin 8,0<(2:Int) ^ k.val/\(2:Int) ^ k.val<1073741824:=by decide +kernel
 exact this ⟨k,h⟩
theorem Ua{α:Type}(ws:List α)(d:α):(List.range ws.length).map (fun k=>ws.getD k d)=ws:=by
 apply fU
 ·simp
 ·intro i h1 h2;simp[h2]
theorem Wa:kM 2 zQ GU ["_law_words","_law_bits"]:=by
 intro ds Qr hl h;obtain⟨ws,bits,rfl,p4,nd,q⟩:=h;show GU _ [.fz (dS ws),.fz (.int bits)];unfold GU dS;have big:=kN;walk_at "px";split
 ·exact⟨by omega,q [] (by simp) (by simp) (by simp) rfl⟩
 ·walk_at "go";refine sv (List.range 8) (fun(i:Nat)=>.int (0+i)) (fun k=>.str (ws.getD k "")) (fun k=>decide (bits/2 ^ k%2=1)) (fun Q' h=>?_) (by simp;omega) (fun c hc K1 K0 k1 k0=>?_) ?_
  ·walk_at "px";exact h
  ·have N9:c<8:=by simpa using hc
   rw[Int.zero_add];walk_at "px";refine⟨by omega,D.int (2 ^ c),?_,?_⟩
   ·have:=eG (Option.map D.int) (QD c N9);rw[<-zC] at this;exact this
   ·walk_at "px";refine⟨Qi c N9,?_⟩;by_cases hb:bits/2 ^ c%2=1
    ·simp only[hb,iq,dZ,aR];refine⟨ws[c],pf (by omega),?_⟩;have:=k1 (by simpa using hb);rwa [show ws.getD c ""=ws[c] by simp[show c<ws.length by omega]] at this
    ·rw[if_neg hb];exact k0 (by simpa using hb)
  ·have e:∀L:List Nat,(L.map fun k=>D.str (ws.getD k ""))=(L.map fun k=>ws.getD k "").map D.str:=fun L=>by simp
   show x9 [D.lst _] _;rw[e];have sub:List.Sublist (((List.range 8).filter fun k=>decide (bits/2 ^ k%2=1)).map fun k=>ws.getD k "") ws:=by
    have:=List.Sublist.map (fun k=>ws.getD k "") (dU (p:=fun k=>decide (bits/2 ^ k%2=1)) (l:=List.range 8));rwa [<-p4,Ua,p4] at this
   generalize (((List.range 8).filter fun k=>decide (bits/2 ^ k%2=1)).map fun k=>ws.getD k "")=ss at sub ⊢;unfold x9;simp only[zK];have hle:=sub.length_le;refine⟨by omega,fun nT hp hs=>q nT (by rw[hp.length_eq];omega) (hp.nodup_iff.mpr (sub.nodup nd)) (fun w hw=>sub.subset (hp.subset hw)) hs⟩
noncomputable def l8(gy:List Str):Option Str->Option Str
 | none=>none
 | some w=>if w∈gy then none else some w
theorem Pr(x:Option Str)(l:List Str):inD (dO x) (l.map .str)=(match x with | none=>false | some w=>decide (w∈l)):=by
 cases x with
 | none=>
  unfold inD;rw[List.any_map];induction l with
  | nil=>rfl
  | cons a r ih=>rw[fj,ih];simp[dO,iq]
 | some w=>exact vL w l
theorem M8(gy:List Str)(w:Str)(l:List (Option Str)):(l.map (l8 gy)).count (some w)=if w∈gy then 0 else l.count (some w):=by
 induction l with
 | nil=>simp
 | cons a r ih=>
  rw[ay,List.count_cons,ih,List.count_cons];cases a with
  | none=>simp[l8]
  | some v=>
   unfold l8;by_cases h:v∈gy
   ·by_cases hw:w∈gy
    ·simp[h,hw]
    ·have:v≠w:=fun z=>hw (z▸h)
     simp[h,hw,this]
   ·by_cases hw:w∈gy
    ·have:v≠w:=fun z=>h (z▸hw)
     simp[h,hw,this]
    ·simp[h,hw]
theorem MR(gy:List Str)(w:Str)(l:List Str):(l.filter fun x=>decide (x∉gy)).count w=if w∈gy then 0 else l.count w:=by
 by_cases hw:w∈gy
 ·rw[if_pos hw,cQ];intro h;rw[aY] at h;simpa[hw] using h.2
 ·rw[if_neg hw,List.count_filter];simpa using hw
theorem Eb{ws gy:List Str}{l:List (Option Str)}(h:jK ws l):jK ws (l.map (l8 gy)):=fun w hw=>by
 rw[aO] at hw;obtain⟨x,hx,e⟩:=hw;cases x with
 | none=>cases e
 | some v=>
  by_cases hv:v∈gy
  ·simp[l8,hv] at e
  ·simp[l8,hv] at e;subst e;exact h _ hx
theorem QC{ws:List Str}{top fZ:List (Option Str)}{left right:List Str}(pt:jK ws top)(pb:jK ws fZ)(lf:∀w∈left,w∈ws)(rt:∀w∈right,w∈ws){w:Str}(h:w∉ws):iZ top fZ left right w=0:=by
 unfold iZ;rw[cQ.mpr fun z=>h (pt w z),cQ.mpr fun z=>h (pb w z),cQ.mpr fun z=>h (lf w z),cQ.mpr fun z=>h (rt w z)]
theorem MQ{ws:List Str}{top fZ:List (Option Str)}{left right:List Str}(pt:jK ws top)(pb:jK ws fZ)(lf:∀w∈left,w∈ws)(rt:∀w∈right,w∈ws)(gy:List Str)(hl:gy=ws.filter fun w=>decide (iZ top fZ left right w=1))(w:Str) :
  iZ (top.map (l8 gy)) (fZ.map (l8 gy)) (left.filter fun x=>decide (x∉gy)) (right.filter fun x=>decide (x∉gy)) w≠1:=by
 have e:iZ (top.map (l8 gy)) (fZ.map (l8 gy)) (left.filter fun x=>decide (x∉gy)) (right.filter fun x=>decide (x∉gy)) w=if w∈gy then 0 else iZ top fZ left right w:=by
  unfold iZ;rw[M8,M8,MR,MR];split<;>simp
 rw[e];by_cases h:w∈gy
 ·rw[if_pos h];decide
 ·rw[if_neg h];by_cases p4:w∈ws
  ·intro z;apply h;rw[hl,aY];exact⟨p4,by simpa using z⟩
  ·rw[QC pt pb lf rt p4];decide
structure iM (ws:List Str) (most:Nat) (c:gu):Prop where
 w1:1<=c.top.length
 w2:c.top.length<=most
 bl:c.fZ.length=c.top.length
 pt:jK ws c.top
 pb:jK ws c.fZ
 ll:c.left.length<=8
 lw:∀w∈c.left,w∈ws
 lo:c.left.Pairwise pF
 rl:c.right.length<=8
 rw_:∀w∈c.right,w∈ws
 ro:c.right.Pairwise pF
 cnt:∀w,iZ c.top c.fZ c.left c.right w≠1
 wl:c.wide.length<=8
 wo:(c.wide.map (·.1)).Pairwise pF
 ww:∀p∈c.wide,p.1∈ws/\(p.2=2\/p.2=3)/\1<iZ c.top c.fZ c.left c.right p.1
 be:lG c.top c.fZ c.left c.right ws c.gF
 ke:pM c.top.length c.keeps
def Bn:iF:=fun ds Q=>∃(ns:List Int) (most:Nat),ds=[dI ns,.int most]/\ns.length<=1000/\1<=most/\most<=40/\∀c,iM (vh (Am ns)) most c->Q (.ow c.parts)
theorem Du(gy:List Str)(l:List (Option Str))(j k:Nat)(ρ:Ev)(Q:R->Prop)(hl:l.length<=100)(hj:gt ρ j=.fz (.lst (l.map dO)))(hk:gt ρ k=.fz (.lst (gy.map .str)))(hq:Q (.ow ((l.map (l8 gy)).map dO))) :
  jG (jT (f6 j)) [none,some k] (gJ 0) mU (wL (gR (gk (mR false) (f6 0) (f6 1))) (dC D.non) (f6 0)) ρ Q:=by
 have big:=kN;refine sj l dO (fun x=>dO (l8 gy x)) (fun Q' h=>?_) (by omega) (fun x hx K1 k=>?_) ?_
 ·simp only[jT,f6,hj];exact h
 ·simp only[j9,ay,bW,tR,hk];walk_at "px";have h2:iE 8 (dO x)/\(∀e∈gy.map D.str,iE 8 e):=⟨by rw[si];trivial,rC 8 gy⟩
  have h3:if inD (dO x) (gy.map D.str)=true then K1 D.non else K1 (dO x):=by
   rw[Pr];cases x with
   | none=>simpa[l8] using k
   | some v=>
    by_cases hv:v∈gy
    ·simpa[l8,hv,dO] using k
    ·simpa[l8,hv,dO] using k
  cases x with
  | none=>exact⟨h2.1,h2.2,h3⟩
  | some v=>exact⟨h2.1,h2.2,h3⟩
 ·rw[aL] at hq;exact hq
theorem DW(gy l:List Str)(j k:Nat)(ρ:Ev)(Q:R->Prop)(hl:l.length<=100)(hj:gt ρ j=.fz (.lst (l.map .str)))(hk:gt ρ k=.fz (.lst (gy.map .str)))(hq:Q (.ow ((l.filter fun x=>decide (x∉gy)).map D.str))) :
  jG (jT (f6 j)) [none,some k] (gJ 0) (gR (gk (mR true) (f6 0) (f6 1))) (f6 0) ρ Q:=by
 have big:=kN;refine sv l D.str D.str (fun x=>decide (x∉gy)) (fun Q' h=>?_) (by omega) (fun x hx K1 K0 k1 k0=>?_) hq
 ·simp only[jT,f6,hj];exact h
 ·simp only[j9,ay,bW,tR,hk];walk_at "px";refine⟨rC 8 gy,?_⟩;rw[vL];by_cases hv:x∈gy
  ·simpa[hv] using k0 (by simpa using hv)
  ·simpa[hv] using k1 (by simpa using hv)
def Hm:TX:=(gB (ig 2 (gk (oI (fun _ j=>0<j) fun i j=>.int (i%j)) (gk (oI mP fun i j=>.int (i*j)) (gk (oI (fun _ j=>0<j) fun i j=>.int (i%j)) (iQ xU (gi (qI (f6 0) rG (pA (dC (.int 1)))) gq)) (gk (oI ur fun i j=>.int (i ^ j.toNat)) (dC (.int 10)) (dC (.int 30)))) (dC (.int 40014))) (dC (.int 2147483563))))
 (gB (ig 3 (iN 1 Bv (gi (iQ xU (gi (qI (f6 0) rG (pA (dC (.int 1)))) gq)) gq)))
 (gB (ig 4 (gk i5 (dC (.int 1)) (gk (oI (fun _ j=>0<j) fun i j=>.int (i%j)) (f6 2) (f6 1))))
 (gB (ig 5 (qI (f6 0) (pA (dC (.int 1))) rG))
 (gB (zf (iN 4 By (gi (f6 3) (gi (f6 5) (gi (f6 2) (gi (f6 4) gq))))) (mQ 2 (il (gJ 6) (il (gJ 7) kW))))
 (gB (ig 8 (iN 2 t7 (gi (iQ xU (gi (qI (f6 0) (pA (dC (.int 1))) (pA (dC (.int 2)))) gq)) (gi (gk i5 (dC (.int 400)) (gk (oI (fun _ j=>0<j) fun i j=>.int (i%j)) (f6 2) (dC (.int 7)))) gq))))
 (gB (ig 9 (iN 2 zQ (gi (f6 3) (gi (f6 8) gq))))
 (gB (ig 10 (iN 2 zQ (gi (f6 3) (gi (gk (oI nG fun i j=>.int (i/j)) (f6 8) (dC (.int 512))) gq))))
 (gB (ig 11 (jG (jT (f6 3)) [none,some 6,some 7,some 9,some 10] (gJ 0) (gR (gk oEq (iN 5 xm (gi (f6 1) (gi (f6 2) (gi (f6 3) (gi (f6 4) (gi (f6 0) gq)))))) (dC (.int 1)))) (f6 0)))
 (gB (ig 6 (jG (jT (f6 6)) [none,some 11] (gJ 0) mU (wL (gR (gk (mR false) (f6 0) (f6 1))) (dC .non) (f6 0))))
 (gB (ig 7 (jG (jT (f6 7)) [none,some 11] (gJ 0) mU (wL (gR (gk (mR false) (f6 0) (f6 1))) (dC .non) (f6 0))))
 (gB (ig 9 (jG (jT (f6 9)) [none,some 11] (gJ 0) (gR (gk (mR true) (f6 0) (f6 1))) (f6 0)))
 (gB (ig 10 (jG (jT (f6 10)) [none,some 11] (gJ 0) (gR (gk (mR true) (f6 0) (f6 1))) (f6 0)))
 (gB (oA 12 (j5 gq))
 (gB (mS (w6 (gi (iQ x9 (gi (f6 3) gq)) gq)) (mQ 2 (il (gJ 13) (il (gJ 14) kW))) (gB (ig 15 (iN 2 t7 (gi (gk i5 (f6 2) (f6 13)) (gi (dC (.int 500)) gq))))
 (jJ (o7 (gR (gk oEq (gk (oI (fun _ j=>0<j) fun i j=>.int (i%j)) (f6 15) (dC (.int 4))) (dC (.int 0)))) (gR (gk (mH fun i j=>.bl (decide (j<i))) (iN 5 xm (gi (f6 6) (gi (f6 7) (gi (f6 9) (gi (f6 10) (gi (f6 14) gq)))))) (dC (.int 1))))) (nt 12 (l7 (gi (f6 14) (gi (gk i5 (dC (.int 2)) (gk (oI (fun _ j=>0<j) fun i j=>.int (i%j)) (gk (oI nG fun i j=>.int (i/j)) (f6 15) (dC (.int 4))) (dC (.int 2)))) gq)))) jI)))
 (gB (ig 16 (iN 4 Bu (gi (j5 (gi (f6 6) (gi (f6 7) (gi (f6 9) (gi (f6 10) gq))))) (gi (f6 3) (gi (f6 5) (gi (f6 2) gq))))))
 (gB (ig 17 (j5 gq))
 (gB (jJ (gR (gk oEq (gk (oI (fun _ j=>0<j) fun i j=>.int (i%j)) (gk (oI nG fun i j=>.int (i/j)) (f6 2) (dC (.int 97))) (dC (.int 3))) (dC (.int 0)))) (ig 17 (iN 3 Bt (gi (f6 4) (gi (f6 5) (gi (f6 2) gq))))) jI)
 (wX 12 (jt (j5 (gi (f6 6) (gi (f6 7) (gi (f6 9) (gi (f6 10) (gi (f6 12) (gi (f6 16) (gi (f6 17) gq))))))))))))))))))))))))))))
theorem W4:kM 2 Bn Hm ["_law_script","_law_most","_law_seed","_law_words","_law_width","_law_cells","_law_top","_law_bottom","_law_bits","_law_left","_law_right","_law_lone","_law_wide","_law_k","_law_word","_law_one","_law_bends_here","_law_keeps_here"]:=by
 intro ds Qr hl h;obtain⟨ns,most,rfl,hn,hm,oW,q⟩:=h;show Hm _ [.fz (dI ns),.fz (.int most),.un,.un,.un,.un,.un,.un,.un,.un,.un,.un,.un,.un,.un,.un,.un,.un];unfold Hm dI;have big:=kN;walk_at "px";generalize xx:((nO ns none (some 1)).sum%1000000000000000000000000000000*40014)%2147483563=gG;have s0:0<=gG:=by rw[<-xx];exact bx _ (by decide)
 clear xx;walk_at "go";refine⟨_,rfl,?_⟩;rw[FJ _ (by decide)];have hw:=L8 (Am ns);change vG _ _ [_,_,_,.fz (.lst ((vh (Am ns)).map .str)),_,_,_,_,_,_,_,_,_,_,_,_,_,_];generalize vh (Am ns)=ws at hw q ⊢;walk_at "go";refine⟨by omega,?_⟩;have m0:0<=gG%(most:Int):=bx _ (by omega);have m1:gG%(most:Int)<most:=bw _ (by omega);obtain⟨W,hW⟩:∃W:Nat,1+gG%(most:Int)=W:=⟨(1+gG%(most:Int)).toNat,by omega⟩
 rw[hW];walk_at "go";rw[Gf _ (by decide)];walk_at "go";refine⟨ws,ns.drop 1,gG,W,rfl,hw.len,by omega,fun top fZ ht hb pt pb=>?_⟩;walk_at "px";walk_at "go";refine⟨_,_,rfl,by have:=bx gG (show(7:Int)≠0 by decide);omega,by have:=bw gG (show(0:Int)<7 by decide);omega,?_⟩;generalize vF _ _=bits;walk_at "go";refine⟨ws,bits,rfl,hw.len,hw.nd,fun left XS XR NK XQ=>?_⟩;walk_at "go";refine⟨ws,_,rfl,hw.len,hw.nd,fun right XD XC NB XB=>?_⟩;walk_at "go";refine sv ws D.str D.str (fun w=>decide (iZ top fZ left right w=1)) (fun Q' h=>?_) (by have:=hw.len;omega) (fun w _ K1 K0 k1 k0=>?_) ?_
 ·walk_at "px";exact h
 ·walk_at "px";refine⟨top,fZ,left,right,w,rfl,by omega,?_⟩;walk_at "px";by_cases hc:iZ top fZ left right w=1
  ·rw[if_pos (by omega)];exact k1 (by simpa using hc)
  ·rw[if_neg (by omega)];exact k0 (by simpa using hc)
 generalize sN:ws.filter (fun w=>decide (iZ top fZ left right w=1))=gy;have yV:=MQ pt pb NK NB gy sN.symm;have N0:gy.length<=8:=by rw[<-sN];have:=bz (fun w=>decide (iZ top fZ left right w=1)) ws;have:=hw.len;omega
 walk_at "go";refine Du gy top 6 11 _ _ (by omega) rfl rfl ?_;walk_at "go";refine Du gy fZ 7 11 _ _ (by omega) rfl rfl ?_;walk_at "go";refine DW gy left 9 11 _ _ (by omega) rfl rfl ?_;walk_at "go";refine DW gy right 10 11 _ _ (by omega) rfl rfl ?_;have Em:jK ws (top.map (l8 gy)):=Eb pt;have xt:jK ws (fZ.map (l8 gy)):=Eb pb;have iP:(top.map (l8 gy)).length=W:=by simpa using ht
 have uS:(fZ.map (l8 gy)).length=W:=by simpa using hb
 have HQ:(left.filter fun x=>decide (x∉gy)).Pairwise pF:=(Gs XQ XR).sublist dU;have HG:(right.filter fun x=>decide (x∉gy)).Pairwise pF:=(Gs XB XC).sublist dU;have HP:∀w∈(left.filter fun x=>decide (x∉gy)),w∈ws:=fun w h=>NK w (aY.mp h).1
 have t9:∀w∈(right.filter fun x=>decide (x∉gy)),w∈ws:=fun w h=>NB w (aY.mp h).1
 have HR:(left.filter fun x=>decide (x∉gy)).length<=8:=aK (bz _ _) XS;have HH:(right.filter fun x=>decide (x∉gy)).length<=8:=aK (bz _ _) XD;generalize top.map (l8 gy)=jV at *;generalize fZ.map (l8 gy)=gO at *;generalize (left.filter fun x=>decide (x∉gy))=iO at *;generalize (right.filter fun x=>decide (x∉gy))=right' at *;walk_at "go";refine⟨by omega,?_⟩;walk_at "go";refine LV (fun ds=>∃ss:List Str,ss.Perm ws/\sortedS ss=true/\ds=se (ss.map .str)) (fun Q' h=>?_) ?_
 ·walk_at "px";simp only[x9,zK];refine⟨by have:=hw.len;omega,fun ss hp hs=>?_⟩;walk_at "px";exact h _ ⟨ss,hp,hs,rfl⟩
 rintro _ ⟨ss,hp,hs,rfl⟩;have Zm:ss.length=8:=by rw[hp.length_eq];exact hw.len
 have Xu:ss.Pairwise pF:=Gs hs (hp.nodup_iff.mpr hw.nd);refine Ub ss D.str (fun i ρ=>∃(wide:List (Str×Int)) (a b c:Sl),ρ=[.fz (D.lst (List.map D.int ns)),.fz (D.int most),.fz (D.int gG),.fz (D.lst (List.map D.str ws)),.fz (D.int W),.fz (D.lst (List.map D.int (List.drop 1 ns))),.fz (D.lst (jV.map dO)),.fz (D.lst (gO.map dO)),.fz (D.int bits),.fz (D.lst (iO.map D.str)),.fz (D.lst (right'.map D.str)),.fz (D.lst (gy.map D.str)),.ow (wide.map wJ),a,b,c,.un,.un]/\List.Sublist (wide.map (·.1)) (ss.take i)/\(∀p∈wide,(p.2=2\/p.2=3)/\1<iZ jV gO iO right' p.1)) ⟨[],_,_,_,rfl,by simp,by simp⟩ ?_ ?_
 ·rintro i x ρ hx ⟨wide,a,b,c,rfl,sub,wo⟩;have hi:i<8:=by have:=(aB.mp hx).1;omega
  have tk:ss.take (i+1)=ss.take i++[x]:=by rw[bL,hx];rfl
  have z8:wide.length<=8:=by have:=sub.length_le;simp at this;omega
  walk_at "px";refine⟨_,_,rfl,by omega,by omega,?_⟩;generalize vF _ _=one;walk_at "go";have skip:∃(ql:List (Str×Int)) (a' b' c':Sl),[Sl.fz (D.lst (List.map D.int ns)),.fz (D.int most),.fz (D.int gG),.fz (D.lst (List.map D.str ws)),.fz (D.int W),.fz (D.lst (List.map D.int (List.drop 1 ns))),.fz (D.lst (jV.map dO)),.fz (D.lst (gO.map dO)),.fz (D.int bits),.fz (D.lst (iO.map D.str)),.fz (D.lst (right'.map D.str)),.fz (D.lst (gy.map D.str)),.ow (wide.map wJ),.fz (D.int i),.fz (D.str x),.fz (D.int one),.un,.un]=[Sl.fz (D.lst (List.map D.int ns)),.fz (D.int most),.fz (D.int gG),.fz (D.lst (List.map D.str ws)),.fz (D.int W),.fz (D.lst (List.map D.int (List.drop 1 ns))),.fz (D.lst (jV.map dO)),.fz (D.lst (gO.map dO)),.fz (D.int bits),.fz (D.lst (iO.map D.str)),.fz (D.lst (right'.map D.str)),.fz (D.lst (gy.map D.str)),.ow (ql.map wJ),a',b',c',.un,.un]/\List.Sublist (ql.map (·.1)) (ss.take (i+1))/\(∀p∈ql,(p.2=2\/p.2=3)/\1<iZ jV gO iO right' p.1):=
   ⟨wide,_,_,_,rfl,by rw[tk];exact sub.trans (List.sublist_append_left _ _),wo⟩
  split
  ·refine⟨jV,gO,iO,right',x,rfl,by omega,?_⟩;walk_at "px";split
   ·rename_i hc;have e2:one/4%2=0\/one/4%2=1:=by omega
    refine⟨by omega,by simp;omega,wide++[(x,2+one/4%2)],_,_,_,by rw[aI];rfl,?_,fun p hp=>?_⟩
    ·rw[tk,aI];exact sub.append (List.Sublist.refl _)
    ·rcases av.mp hp with h | h
     ·exact wo p h
     ·have:p=(x,2+one/4%2):=by simpa using h
      subst this;exact⟨by dsimp only;omega,by dsimp only;omega⟩
   ·exact skip
  ·exact skip
 rintro ρ ⟨wide,a,b,c,rfl,sub,wo⟩;rw[bT] at sub;have z8:wide.length<=8:=by have:=sub.length_le;simp at this;omega
 have Xj:(wide.map (·.1)).Pairwise pF:=Xu.sublist sub;have ww:∀p∈wide,p.1∈ws/\(p.2=2\/p.2=3)/\1<iZ jV gO iO right' p.1:=fun p h=>⟨hp.subset (sub.subset (bD h)),wo p h⟩
 walk_at "go";refine⟨by omega,jV,gO,iO,right',ws,ns.drop 1,gG,rfl,by omega,by omega,by omega,by omega,hw.len,Em,by simp;omega,fun gF bo=>?_⟩;walk_at "go";refine⟨by omega,?_⟩;have fin:∀keeps,pM W keeps->Qr (R.ow [dP jV,dP gO,dS iO,dS right',dW wide,dB gF,dK keeps]):=fun keeps ko=>q ⟨jV,gO,iO,right',wide,gF,keeps⟩ ⟨by dsimp only;omega,by dsimp only;omega,by dsimp only;omega,Em,xt,HR,HP,HQ,HH,t9,HG,yV,z8,Xj,ww,bo,by dsimp only;rw[iP];exact ko⟩
 walk_at "go";split
 ·refine⟨W,ns.drop 1,gG,rfl,by omega,by omega,fun keeps ko=>?_⟩;walk_at "go";exact⟨by omega,fin keeps ko⟩
 ·walk_at "go";exact⟨by omega,fin [] ⟨by simp,by simp⟩⟩
def Bg:iF:=fun ds Q=>∃a b c d e f g:List D,ds=[.lst a,.lst b,.lst c,.lst d,.lst e,.lst f,.lst g]/\Q (.fz (.obj "Channel" [("top",.lst a),("bottom",.lst b),("left",.lst c),("right",.lst d),("wide",.lst e),("bends",.lst f),("keeps",.lst g)]))
def DZ:xJ:=(qZ "top" (iQ rB (gi (f6 1) gq)) (qZ "bottom" (iQ rB (gi (f6 2) gq)) (qZ "left" (iQ rB (gi (f6 3) gq)) (qZ "right" (iQ rB (gi (f6 4) gq)) (qZ "wide" (iQ rB (gi (f6 5) gq)) (qZ "bends" (iQ rB (gi (f6 6) gq)) (qZ "keeps" (iQ rB (gi (f6 7) gq)) AB)))))))
theorem U6(ds:List D)(Qr:R->Prop)(NA:List (Str×D)->Prop)(na:∀fs:List (Str×D),fs.map (·.1)=(["top","bottom","left","right","wide","bends","keeps"]:List Str)->NA fs)(h:Bg ds Qr) :
  DZ (vM ["self","top","bottom","left","right","wide","bends","keeps"] ds) [] fun fs=>NA fs/\Qr (.fz (.obj "Channel" fs)):=by
 obtain⟨a,b,c,d,e,f,g,rfl,q⟩:=h;show DZ [.un,.fz (.lst a),.fz (.lst b),.fz (.lst c),.fz (.lst d),.fz (.lst e),.fz (.lst f),.fz (.lst g)] [] _;unfold DZ;simp only[qZ,AB,iQ,gi,gq,f6,gt,rB,zo,xZ];exact⟨by decide,show 1<1000 by decide,show 2<1000 by decide,show 3<1000 by decide,show 4<1000 by decide,show 5<1000 by decide,show 6<1000 by decide,na _ rfl,q⟩
end Wc
open PySem L2 PyProof.Rows Wc
local macro_rules | `(tactic| walk_at "px")=>`(tactic| (repeat(first | walk_at "b" | simp only[t6,vT,tj,si,vL,AE])))
namespace Wc
open PySem L2 PyProof.Rows
inductive En where
 | lf | tp (n:Nat) | bt (n:Nat) | rt
noncomputable def dE:En->D
 | .lf=>.tup [.str "left"]
 | .tp n=>.tup [.str "top",.int n]
 | .bt n=>.tup [.str "bottom",.int n]
 | .rt=>.tup [.str "right"]
noncomputable def pY(c:gu)(w:Str)(n:Nat):List En:=(if c.top[n]?=some (some w) then [.tp n] else [])++(if c.fZ[n]?=some (some w) then [.bt n] else [])
noncomputable def nP(c:gu)(w:Str):List En:=(if w∈c.left then [.lf] else [])++(List.range c.top.length).flatMap (pY c w)++(if w∈c.right then [.rt] else [])
theorem T9(c:gu)(w:Str)(n:Nat):(pY c w n).length<=2:=by unfold pY;split<;>split<;>simp
theorem DV(c:gu)(w:Str)(i:Nat):((List.range i).flatMap (pY c w)).length<=2*i:=by
 induction i with
 | zero=>simp
 | succ i ih=>
  rw[fE,cz,au];have:=T9 c w i;simp only[bB,dg,ba];omega
structure pL (c:gu):Prop where
 w:c.top.length<=40
 b:c.fZ.length=c.top.length
 l:c.left.length<=100
 r:c.right.length<=100
def zJ:iF:=fun ds Q=>∃(c:gu) (w:Str),ds=[c.obj,.str w]/\pL c/\Q (.ow ((nP c w).map dE))
def Gq:TX:=(gB (oA 2 (j5 gq))
 (gB (jJ (gR (gk (mR false) (f6 1) (jL "left" (f6 0)))) (nt 2 (l7 (gi (dC (.str "left")) gq))) jI)
 (gB (mS (rg (gi (iQ oN (gi (jL "top" (f6 0)) gq)) gq)) (gJ 3) (gB (jJ (gR (gk oEq (gk gU (jL "top" (f6 0)) (f6 3)) (f6 1))) (nt 2 (l7 (gi (dC (.str "top")) (gi (f6 3) gq)))) jI)
 (jJ (gR (gk oEq (gk gU (jL "bottom" (f6 0)) (f6 3)) (f6 1))) (nt 2 (l7 (gi (dC (.str "bottom")) (gi (f6 3) gq)))) jI)))
 (gB (jJ (gR (gk (mR false) (f6 1) (jL "right" (f6 0)))) (nt 2 (l7 (gi (dC (.str "right")) gq))) jI)
 (rh 2)))))
theorem U5:kM 2 zJ Gq ["channel","name","ends","column"]:=by
 intro ds Qr hl h;obtain⟨c,w,rfl,sh,q⟩:=h;show Gq _ [.fz c.obj,.fz (.str w),.un,.un];unfold Gq;have big:=kN;unfold gu.obj;walk_at "px";refine⟨by omega,?_⟩;walk_at "go";refine⟨_,rfl,?_⟩;unfold dS;walk_at "px";refine⟨rC 8 _,?_⟩;have obj:D.obj (Str.ofString "Channel") [(Str.ofString "top",dP c.top),(Str.ofString "bottom",dP c.fZ),(Str.ofString "left",D.lst (c.left.map D.str)),(Str.ofString "right",D.lst (c.right.map D.str)),(Str.ofString "wide",dW c.wide),(Str.ofString "bends",dB c.gF),(Str.ofString "keeps",dK c.keeps)]=c.obj:=rfl;rw[obj];have oB:∀k:Sl,vG (gB (mS (rg (gi (iQ oN (gi (jL "top" (f6 0)) gq)) gq)) (gJ 3) (gB (jJ (gR (gk oEq (gk gU (jL "top" (f6 0)) (f6 3)) (f6 1))) (nt 2 (l7 (gi (dC (.str "top")) (gi (f6 3) gq)))) jI)
 (jJ (gR (gk oEq (gk gU (jL "bottom" (f6 0)) (f6 3)) (f6 1))) (nt 2 (l7 (gi (dC (.str "bottom")) (gi (f6 3) gq)))) jI)))
 (gB (jJ (gR (gk (mR false) (f6 1) (jL "right" (f6 0)))) (nt 2 (l7 (gi (dC (.str "right")) gq))) jI)
 (rh 2))) { nx:=fun x=>Qr (R.fz D.non),rt:=Qr } [.fz c.obj,.fz (.str w),.ow ((if w∈c.left then [En.lf] else []).map dE),k]:=by
  intro k;walk_at "go";refine xj c.top.length (fun Q' h=>?_) (fun i ρ=>∃k:Sl,ρ=[.fz c.obj,.fz (.str w),.ow (((if w∈c.left then [En.lf] else [])++(List.range i).flatMap (pY c w)).map dE),k]) ⟨k,by simp⟩ ?_ ?_
  ·unfold gu.obj;walk_at "px";refine⟨_,rfl,?_⟩;unfold dP;walk_at "px";rw[ae];have:=sh.w;exact⟨by omega,by omega,by simpa using h⟩
  ·rintro i ρ hi ⟨k,rfl⟩;have hle:=DV c w i;have hw:=sh.w;have II:∀(b:Prop) [Decidable b],(if b then [En.lf] else []).length<=1:=fun b _=>by split<;>simp
   have uO:=II (w∈c.left);rw[fE,cz,<-aM];generalize nB:(if w∈c.left then [En.lf] else [])++(List.range i).flatMap (pY c w)=acc;have Ob:acc.length<=1000:=by rw[<-nB,au];omega
   simp only[bB,dg,ba];have xB:i<c.fZ.length:=by rw[sh.b];exact hi
   unfold gu.obj;walk_at "px";refine⟨_,rfl,?_⟩;unfold dP;walk_at "px";refine⟨_,pf hi,?_⟩;unfold pY;rw[ai hi,ai xB];simp only[aW];split
   focus refine⟨by omega,by simp;omega,?_⟩
   all_goals
    walk_at "go";refine⟨_,rfl,?_⟩;walk_at "px";refine⟨_,pf xB,?_⟩;split
   ·exact⟨by omega,by simp;omega,_,by simp[dE];rfl⟩
   ·exact⟨_,by simp[dE];rfl⟩
   ·exact⟨by omega,by simp;omega,_,by simp[dE];rfl⟩
   ·exact⟨_,by simp;rfl⟩
  ·rintro ρ ⟨k,rfl⟩;have hle:=DV c w c.top.length;have hw:=sh.w;have II:∀(b:Prop) [Decidable b],(if b then [En.lf] else []).length<=1:=fun b _=>by split<;>simp
   have uO:=II (w∈c.left);unfold nP at q;generalize nB:(if w∈c.left then [En.lf] else [])++(List.range c.top.length).flatMap (pY c w)=acc at q ⊢;have Ob:acc.length<=1000:=by rw[<-nB,au];omega
   unfold gu.obj;walk_at "go";refine⟨_,rfl,?_⟩;unfold dS;walk_at "px";refine⟨rC 8 _,?_⟩;by_cases hr:w∈c.right
   ·rw[if_pos hr];rw[if_pos hr,aI] at q;refine⟨by omega,by simp;omega,?_⟩;walk_at "go";exact q
   ·rw[if_neg hr];rw[if_neg hr,ba] at q;walk_at "go";exact q
 by_cases hc:w∈c.left
 ·rw[if_pos hc];refine⟨by omega,by omega,?_⟩;have:=oB .un;rw[if_pos hc] at this;exact this
 ·rw[if_neg hc];have:=oB .un;rw[if_neg hc] at this;exact this
noncomputable def tT(c:gu):En->Int
 | .lf=>-1
 | .tp n=>n
 | .bt n=>n
 | .rt=>c.top.length
def zP:iF:=fun ds Q=>∃(c:gu) (e:En),ds=[c.obj,dE e]/\Q (.fz (.int (tT c e)))
def GS:TX:=(gB (jJ (gR (gk oEq (gk gU (f6 1) (dC (.int 0))) (dC (.str "left")))) (jt (tQ (dC (.int 1)))) jI)
 (gB (jJ (gR (gk oEq (gk gU (f6 1) (dC (.int 0))) (dC (.str "right")))) (jt (iQ oN (gi (jL "top" (f6 0)) gq))) jI)
 (jt (gk gU (f6 1) (dC (.int 1))))))
theorem V9:kM 2 zP GS ["channel","end"]:=by
 intro ds Qr hl h;obtain⟨c,e,rfl,q⟩:=h;show GS _ [.fz c.obj,.fz (dE e)];unfold GS;have n1:¬(Str.ofString "top"=Str.ofString "left"):=by decide +kernel
 have n2:¬(Str.ofString "bottom"=Str.ofString "left"):=by decide +kernel
 have n3:¬(Str.ofString "right"=Str.ofString "left"):=by decide +kernel
 have n4:¬(Str.ofString "top"=Str.ofString "right"):=by decide +kernel
 have n5:¬(Str.ofString "bottom"=Str.ofString "right"):=by decide +kernel
 cases e with
 | lf=>
  unfold dE;walk_at "px";refine⟨_,rfl,?_⟩;walk_at "px";exact q
 | tp n=>
  unfold dE;walk_at "px";refine⟨_,rfl,?_⟩;walk_at "px";rw[if_neg n1];walk_at "go";refine⟨_,rfl,?_⟩;walk_at "px";rw[if_neg n4];walk_at "go";exact⟨_,rfl,q⟩
 | bt n=>
  unfold dE;walk_at "px";refine⟨_,rfl,?_⟩;walk_at "px";rw[if_neg n2];walk_at "go";refine⟨_,rfl,?_⟩;walk_at "px";rw[if_neg n5];walk_at "go";exact⟨_,rfl,q⟩
 | rt=>
  unfold dE;walk_at "px";refine⟨_,rfl,?_⟩;walk_at "px";rw[if_neg n3];walk_at "go";refine⟨_,rfl,?_⟩;walk_at "px";unfold gu.obj;walk_at "px";refine⟨_,rfl,?_⟩;unfold dP;walk_at "px";rw[ae];exact q
noncomputable def pl(c:gu)(w:Str):List Int:=
 (if w∈c.left then [-1] else [])++(((List.range c.top.length).filter fun n=>c.top[n]?==some (some w)||c.fZ[n]?==some (some w)).map fun(n:Nat)=>(n:Int))++(if w∈c.right then [(c.top.length:Int)] else [])
theorem C5(c:gu)(w:Str):(pl c w).Pairwise (·<·):=by
 unfold pl;have yK:∀x∈(((List.range c.top.length).filter fun n=>c.top[n]?==some (some w)||c.fZ[n]?==some (some w)).map fun(n:Nat)=>(n:Int)),0<=x/\x<c.top.length:=by
  intro x hx;rw[aO] at hx;obtain⟨n,hn,rfl⟩:=hx;rw[aY,bU] at hn;omega
 have uK:(((List.range c.top.length).filter fun n=>c.top[n]?==some (some w)||c.fZ[n]?==some (some w)).map fun(n:Nat)=>(n:Int)).Pairwise (·<·):=by
  rw[bX];refine List.Pairwise.imp ?_ (List.Pairwise.filter _ List.pairwise_lt_range);intro a b h;omega
 generalize (((List.range c.top.length).filter fun n=>c.top[n]?==some (some w)||c.fZ[n]?==some (some w)).map fun(n:Nat)=>(n:Int))=mid at yK uK;rw[bF,bF];refine⟨⟨by split<;>simp,uK,fun a ha b hb=>?_⟩,by split<;>simp,fun a ha b hb=>?_⟩
 ·split at ha
  ·have:=yK b hb;simp at ha;omega
  ·cases ha
 ·split at hb
  ·rcases av.mp ha with ha | ha
   ·split at ha
    ·simp at ha hb;omega
    ·cases ha
   ·have:=yK a ha;simp at hb;omega
  ·cases hb
theorem Sv(c:gu)(w:Str)(k:Int):k∈(nP c w).map (tT c)↔k∈pl c w:=by
 unfold nP pl;simp only[aI,av];have h1:k∈(if w∈c.left then [En.lf] else []).map (tT c)↔k∈(if w∈c.left then [(-1:Int)] else []):=by split<;>simp[tT]
 have h3:k∈(if w∈c.right then [En.rt] else []).map (tT c)↔k∈(if w∈c.right then [(c.top.length:Int)] else []):=by split<;>simp[tT]
 rw[h1,h3];have h2:k∈((List.range c.top.length).flatMap (pY c w)).map (tT c)↔k∈(((List.range c.top.length).filter fun n=>c.top[n]?==some (some w)||c.fZ[n]?==some (some w)).map fun(n:Nat)=>(n:Int)):=by
  simp only[aO,dh,bU,aY,Bool.or_eq_true,ef];constructor
  ·rintro⟨e,⟨n,hn,he⟩,rfl⟩;unfold pY at he;rcases av.mp he with h | h
   ·split at h
    ·rename_i ht;simp at h;subst h;exact⟨n,⟨hn,.inl ht⟩,rfl⟩
    ·cases h
   ·split at h
    ·rename_i hb;simp at h;subst h;exact⟨n,⟨hn,.inr hb⟩,rfl⟩
    ·cases h
  ·rintro⟨n,⟨hn,ht | hb⟩,rfl⟩
   ·exact⟨.tp n,⟨n,hn,by simp[pY,ht]⟩,rfl⟩
   ·exact⟨.bt n,⟨n,hn,by simp[pY,hb]⟩,rfl⟩
 rw[h2]
noncomputable def Az:List Int->D
 | []=>.non
 | a::r=>if a=(a::r).getLast (by simp) then .non else .tup [.int a,.int ((a::r).getLast (by simp))]
def Bs:iF:=fun ds Q=>∃(c:gu) (w:Str),ds=[c.obj,.str w]/\pL c/\Q (.fz (Az (pl c w)))
def GK:TX:=(gB (ig 2 (jG (jT (iN 2 zJ (gi (f6 0) (gi (f6 1) gq)))) [none,some 0] (gJ 0) mU (iN 2 zP (gi (f6 1) (gi (f6 0) gq)))))
 (gB (jJ (gR (gk (mH fun i j=>.bl (decide (i<j))) (iQ Dx (gi (f6 2) gq)) (dC (.int 2)))) (jt (dC .non)) jI)
 (jt (l7 (gi (iQ uo (gi (f6 2) gq)) (gi (iQ tV (gi (f6 2) gq)) gq))))))
theorem AZ{a:Int}{r:List Int}(h:(a::r).Pairwise (·<·)):∀x∈a::r,x<=(a::r).getLast (by simp):=by
 induction r generalizing a with
 | nil=>intro x hx;simp at hx;simp[hx]
 | cons b r ih=>
  intro x hx;rw[br] at h;rw[List.getLast_cons (by simp)];rcases ar.mp hx with rfl | hx
  ·have:=h.1 b (by simp);have:=ih h.2 b (by simp);omega
  ·exact ih h.2 x hx
theorem WR:kM 2 Bs GK ["channel","name","columns"]:=by
 intro ds Qr hl h;obtain⟨c,w,rfl,sh,q⟩:=h;show GK _ [.fz c.obj,.fz (.str w),.un];unfold GK;have big:=kN;walk_at "px";have ZF:(nP c w).length<=2*c.top.length+2:=by
  unfold nP;simp only[au];have:=DV c w c.top.length;have a:∀(b:Prop) [Decidable b] (x:En),(if b then [x] else []).length<=1:=fun b _ x=>by split<;>simp
  have a1:=a (w∈c.left) .lf;have a2:=a (w∈c.right) .rt;omega
 have hw:=sh.w;refine sj (nP c w) dE (fun e=>.int (tT c e)) (fun Q' h=>?_) (by omega) (fun e he K1 k=>?_) ?_
 ·walk_at "px";exact⟨c,w,rfl,sh,h⟩
 ·walk_at "px";exact⟨c,e,rfl,k⟩
 have e0:(nP c w).map (fun e=>D.int (tT c e))=((nP c w).map (tT c)).map D.int:=by simp
 rw[e0];have hm:=Sv c w;have uK:=C5 c w;have Ae:(pl c w).Nodup:=uK.imp fun h=>by omega
 have yO:((nP c w).map (tT c)).length<=1000:=by rw[ae];omega
 generalize (nP c w).map (tT c)=cols at hm yO ⊢;generalize pl c w=p at hm uK Ae q ⊢;walk_at "go";simp only[Dx,zL];refine⟨by omega,fun l ln lm=>?_⟩;have mJ:l.Perm p:=(List.perm_ext_iff_of_nodup ln Ae).mpr fun k=>by rw[lm,hm]
 have hlen:=mJ.length_eq;walk_at "px";match p,uK,hm,hlen,q with
 | [],_,_,hlen,q=>
  rw[if_pos (by rw[hlen];decide)];exact q
 | [a],_,_,hlen,q=>
  rw[if_pos (by rw[hlen];simp)];simpa[Az] using q
 | a::b::r,uK,hm,hlen,q=>
  rw[if_neg (by rw[hlen];simp only[aG];omega)];walk_at "go";simp only[uo,tV,zL];have ij:cols≠[]:=fun z=>by have:=(hm a).mpr (by simp);rw[z] at this;cases this
  refine⟨ij,fun m ud oW=>⟨ij,fun M Ja I0=>⟨by omega,?_⟩⟩⟩;have em:m=a:=by
   have h1:=oW a ((hm a).mpr (by simp));have h2:=(hm m).mp ud;rcases ar.mp h2 with h | h
   ·exact h
   ·have:=(br.mp uK).1 m h;omega
  have eM:M=(a::b::r).getLast (by simp):=by
   have h1:=I0 _ ((hm _).mpr (fX (by simp:a::b::r≠[])));have h2:=AZ uK M ((hm M).mp Ja);omega
  have gL:a<(a::b::r).getLast (by simp):=by
   have h1:=(br.mp uK).1 b (by simp);have h2:=AZ uK b (by simp);omega
  subst em eM;simp only[Az] at q;rw[if_neg (by omega)] at q;exact q
def mI(c:gu)(w:Str):Prop:=some w∈c.top\/some w∈c.fZ\/w∈c.left\/w∈c.right
def xh:iF:=fun ds Q=>∃(c:gu) (ws:List Str),ds=[c.obj]/\pL c/\ws.length<=40/\(∀w,mI c w->w∈ws)/\∀l:List Str,l.Nodup->(∀w,w∈l↔mI c w)->sortedS l=true->Q (.ow (l.map D.str))
def Gp:TX:=(gB (ig 1 (jG (jT (gk i5 (jL "top" (f6 0)) (jL "bottom" (f6 0)))) [none] (gJ 0) (gR (gk (pz true) (f6 0) (dC .non))) (f6 0)))
 (jt (iQ xi (gi (gk i5 (gk i5 (f6 1) (jL "left" (f6 0))) (jL "right" (f6 0))) gq))))
theorem yc{l ws:List Str}(nd:l.Nodup)(h:∀w∈l,w∈ws):l.length<=ws.length:=by
 induction l generalizing ws with
 | nil=>simp
 | cons a r ih=>
  rw[bO] at nd;have ha:a∈ws:=h a (by simp);have:=ih (ws:=ws.erase a) nd.2 fun w hw=>(List.mem_erase_of_ne fun(z:w=a)=>nd.1 (z▸hw)).mpr (h w (by simp[hw]))
  rw[List.length_erase_of_mem ha] at this;have hp:0<ws.length:=List.length_pos_of_mem ha;simp only[aG];omega
theorem U4:kM 1 xh Gp ["channel","pins"]:=by
 intro ds Qr hl h;obtain⟨c,ws,rfl,sh,p4,hm,q⟩:=h;show Gp _ [.fz c.obj,.un];unfold Gp gu.obj;have big:=kN;have hw:=sh.w;have hb:=sh.b;walk_at "px";refine sv (c.top++c.fZ) dO dO (fun x=>x.isSome) (fun Q' h=>?_) (by simp;omega) (fun x hx K1 K0 k1 k0=>?_) ?_
 ·walk_at "px";refine⟨_,rfl,_,rfl,?_⟩;unfold dP;walk_at "px";refine⟨by simp;omega,?_⟩;rw[aI] at h;exact h
 ·walk_at "px";cases x with
  | none=>exact k0 rfl
  | some x=>exact k1 rfl
 rw[FZ];have kS:((c.top++c.fZ).filterMap id).length<=100:=by
  refine aK (di _ _) ?_;simp;omega
 have qB:∀w,w∈(c.top++c.fZ).filterMap id↔some w∈c.top\/some w∈c.fZ:=by
  intro w;simp[ec]
 generalize (c.top++c.fZ).filterMap id=Z8 at kS qB ⊢;walk_at "go";refine⟨_,rfl,?_⟩;unfold dS;walk_at "px";have Ag:=sh.l;have Zu:=sh.r;refine⟨by simp;omega,_,rfl,?_⟩;walk_at "px";refine⟨by simp;omega,?_⟩;rw[<-aI,<-aI];simp only[xi,zK];have mm:∀w,w∈Z8++c.left++c.right↔mI c w:=by
  intro w;simp only[av,qB,mI];constructor
  ·rintro(((h | h) | h) | h)
   ·exact .inl h
   ·exact .inr (.inl h)
   ·exact .inr (.inr (.inl h))
   ·exact .inr (.inr (.inr h))
  ·rintro(h | h | h | h)
   ·exact .inl (.inl (.inl h))
   ·exact .inl (.inl (.inr h))
   ·exact .inl (.inr h)
   ·exact .inr h
 refine⟨by simp;omega,fun l nd h=>?_,fun l nd h hs=>q l nd (fun w=>by rw[h,mm]) hs⟩;have:=yc nd fun w hw=>hm w ((mm w).mp (h w hw))
 omega
noncomputable def sV:List (Str×Int)->Str->Int
 | [],_=>1
 | p::r,w=>if p.1=w then p.2 else sV r w
def zS:iF:=fun ds Q=>∃(c:gu) (w:Str),ds=[c.obj,.str w]/\Q (.fz (.int (sV c.wide w)))
def Gz:TX:=(gB (mS (jT (jL "wide" (f6 0))) (mQ 2 (il (gJ 2) (il (gJ 3) kW))) (jJ (gR (gk oEq (f6 2) (f6 1))) (jt (f6 3)) jI))
 (jt (dC (.int 1))))
theorem Vq:kM 2 zS Gz ["channel","name","wide_name","width"]:=by
 intro ds Qr hl h;obtain⟨c,w,rfl,q⟩:=h;show Gz _ [.fz c.obj,.fz (.str w),.un,.un];unfold Gz;walk_at "px";refine vV c.wide wJ (fun Q' h=>?_) (fun i ρ=>∃a b:Sl,ρ=[.fz c.obj,.fz (.str w),a,b]/\sV c.wide w=sV (c.wide.drop i) w) ⟨_,_,rfl,rfl⟩ ?_ ?_
 ·unfold gu.obj;walk_at "px";exact⟨_,rfl,h⟩
 ·rintro i x ρ hx ⟨a,b,rfl,hd⟩;obtain⟨hi,sI⟩:=aB.mp hx;rw[bS hi,sI] at hd;unfold wJ;walk_at "px";by_cases hw:x.1=w
  ·rw[if_pos hw];simp only[sV,if_pos hw] at hd;rw[hd] at q;exact q
  ·rw[if_neg hw];simp only[sV,if_neg hw] at hd;exact⟨_,_,rfl,hd⟩
 ·rintro ρ ⟨a,b,rfl,hd⟩;rw[List.drop_length] at hd;simp only[sV] at hd;rw[hd] at q;walk_at "go";exact q
end Wc
open PySem L2 PyProof.Rows Wc
local macro_rules | `(tactic| walk_at "px")=>`(tactic| (repeat(first | walk_at "b" | simp only[t6,vT,tj,si])))
namespace Wc
open PySem L2 PyProof.Rows
structure Pc where
 n:Option Str
 l:Int
 r:Int
 k:Int
 deriving DecidableEq
noncomputable def jv(p:Pc):D:=.tup [dO p.n,.int p.l,.int p.r,.int p.k]
noncomputable def j8(ps:List Pc):D:=.lst (ps.map jv)
noncomputable def dJ:Option Int->D
 | none=>.non
 | some i=>.int i
noncomputable def oM(p:Pc)(c:Int):Bool:=decide (p.l<=c)&&decide (c<=p.r)
noncomputable def Ay(p q:Pc):Option Int:=
 if (if q.l>p.l then q.l else p.l)>(if q.r<p.r then q.r else p.r) then none else some (if q.l>p.l then q.l else p.l)
def Bf:iF:=fun ds Q=>∃p q:Pc,ds=[jv p,jv q]/\Q (.fz (dJ (Ay p q)))
def GR:TX:=(gB (ig 2 (iQ tV (gi (gk gU (f6 0) (dC (.int 1))) (gi (gk gU (f6 1) (dC (.int 1))) gq))))
 (gB (jJ (gR (gk (mH fun i j=>.bl (decide (j<i))) (f6 2) (iQ uo (gi (gk gU (f6 0) (dC (.int 2))) (gi (gk gU (f6 1) (dC (.int 2))) gq))))) (jt (dC .non)) jI)
 (jt (f6 2))))
theorem V8:kM 2 Bf GR ["one","other","column"]:=by
 intro ds Qr hl h;obtain⟨p,q,rfl,Q⟩:=h;show GR _ [.fz (jv p),.fz (jv q),.un];unfold GR jv;walk_at "px";refine⟨_,rfl,_,rfl,?_⟩;simp only[tV,zo,JI];walk_at "go";refine⟨_,rfl,_,rfl,?_⟩;unfold uo;walk_at "px";unfold Ay at Q;generalize (if q.l>p.l then q.l else p.l)=a at Q ⊢;generalize (if q.r<p.r then q.r else p.r)=b at Q ⊢;by_cases h:b<a
 ·rw[if_pos h] at Q;rw[if_pos h];exact Q
 ·rw[if_neg h] at Q;rw[if_neg h];walk_at "go";exact Q
theorem L7{α:Type}(f:α->List Int):∀L:List α,qf (L.map fun a=>D.tup ((f a).map D.int))=some (L.map f)
 | []=>rfl
 | a::L=>by
  rw[ay,ay];unfold qf;rw[zL,L7 f L]
noncomputable def ky(ps:List Pc)(n:Option Str)(c:Int):List Nat:=(ps.zipIdx.filter fun p=>decide (p.1.n=n)&&oM p.1 c).map (·.2)
def yf:iF:=fun ds Q=>∃(ps:List Pc) (n:Option Str) (c:Int),ds=[j8 ps,dO n,.int c]/\ps.length<=100000/\Q (.ow ((ky ps n c).map dN))
def GQ:TX:=(jt (jG (w6 (gi (f6 0) gq)) [none,none,some 1,some 2] (mQ 2 (il (gJ 0) (il (gJ 1) kW))) (o7 (gR (gk oEq (gk gU (f6 1) (dC (.int 0))) (f6 2))) (gR (Dk (mH fun i j=>.bl (decide (i<=j))) (mH fun i j=>.bl (decide (i<=j))) (gk gU (f6 1) (dC (.int 1))) (f6 3) (gk gU (f6 1) (dC (.int 2)))))) (f6 0)))
theorem V7:kM 3 yf GQ ["pieces","name","column"]:=by
 intro ds Qr hl h;obtain⟨ps,n,c,rfl,hn,q⟩:=h;show GQ _ [.fz (j8 ps),.fz (dO n),.fz (.int c)];unfold GQ j8;have big:=kN;walk_at "px";refine sv ps.zipIdx (fun p=>.tup [.int (p.2:Nat),jv p.1]) (fun p=>dN p.2) (fun p=>decide (p.1.n=n)&&oM p.1 c) (fun Q' h=>?_) (by simp;omega) (fun p hp K1 K0 k1 k0=>?_) ?_
 ·walk_at "px";rw[LU];exact h
 ·unfold jv;walk_at "px";refine⟨_,rfl,?_⟩;walk_at "px";unfold oM at k1 k0;by_cases h1:p.1.n=n
  ·rw[if_pos h1];refine⟨_,rfl,?_⟩;walk_at "px";by_cases h2:p.1.l<=c
   ·rw[if_pos h2];refine⟨_,rfl,?_⟩;walk_at "px";by_cases h3:c<=p.1.r
    ·rw[if_pos h3];exact k1 (by simp[h1,h2,h3])
    ·rw[if_neg h3];exact k0 (by simp[h1,h2,h3])
   ·rw[if_neg h2];exact k0 (by simp[h1,h2])
  ·rw[if_neg h1];exact k0 (by simp[h1])
 ·unfold ky at q;rw[aL] at q;exact q
end Wc
open PySem L2 PyProof.Rows Wc
local macro_rules | `(tactic| walk_at "px")=>`(tactic| (repeat(first | walk_at "b" | simp only[AD,AN,zm,AJ,JE,rh,vf])))
namespace Wc
open PySem L2 PyProof.Rows
theorem Gn{α:Type}{wi:oH}{m:List (Option Nat)}{g:lX}{te:TD}{ρ:Ev}{Q:R->Prop}(L:List α)(φ:α->D)(f:α->List D)(hw:∀Q':List D->Prop,Q' (L.map φ)->wi ρ Q')(hl:L.length<=sizeLine)
  (h:∀x∈L,∀(K1:List D->Prop),K1 (f x)->g (φ x) (j9 m ρ) fun jc=>te jc fun r=>match r with | .ow es=>K1 es | _=>False) (q:Q (.ov (.ll (L.map f)))):vi wi m g mU te ρ Q:=by
 unfold vi;refine hw _ ⟨fun i acc=>acc=(L.take i).map f,by simp,fun i d acc hd ha=>?_,fun acc ha=>?_⟩
 ·subst ha;rw[aH] at hd;cases hx:L[i]? with
  | none=>rw[hx] at hd;cases hd
  | some x=>
   rw[hx] at hd;cases hd;have gL:i<L.length:=(aB.mp hx).1;have:=h x (aU hx) (fun es=>((L.take i).map f).length<sizeLine/\(L.take i).map f++[es]=(L.take (i+1)).map f) ⟨by simp;omega,by rw[bL,hx];simp⟩;exact this
 ·subst ha;simpa using q
noncomputable abbrev Tr:=Nat×Nat×Int
noncomputable def dT(t:Tr):D:=.tup [.int t.1,.int t.2.1,.int t.2.2]
noncomputable def qc(ts:List Tr):D:=.lst (ts.map dT)
def E9(n:Nat)(ts:List Tr):Prop:=∀t∈ts,t.1<n/\t.2.1<n
noncomputable def keys(kv:List (Nat×Int)):List Nat:=kv.map (·.1)
theorem KH{n k:Nat}(h:k<n):rA n (k:Int)=some k:=by
 unfold rA;rw[if_pos (by omega),if_pos (by omega)];simp
theorem SM{α:Type}(n:Nat)(f:Nat->α)(u:Nat)(v:α):((List.range n).map f).set u v=(List.range n).map fun x=>if x=u then v else f x:=by
 apply eU;intro i;rw[List.getElem?_set,aH,aH];by_cases hi:i<n
 ·rw[List.getElem?_range hi];by_cases h:u=i
  ·subst h;simp[hi]
  ·rw[if_neg h];simp[Ne.symm h]
 ·rw[eQ (by simpa using hi)];simp only[Option.map_none,ae,cW];split
  ·rename_i h;rw[if_neg (by omega)]
  ·rfl
theorem Su{α:Type}{n:Nat}(f:Nat->α){u:Nat}(h:u<n):((List.range n).map f)[u]?=some (f u):=by rw[aH,List.getElem?_range h];rfl
theorem SK{α:Type}{n:Nat}(f:Nat->α){u:Nat}(h:u<n):iR ((List.range n).map f) (u:Int)=some (f u):=by
 rw[zC,pf (by simpa using h)];simp
end Wc
open PySem L2 PyProof.Rows Wc
local macro_rules | `(tactic| walk_at "px")=>`(tactic| (repeat(first | walk_at "b" | simp only[t6,vT,tj,si,vb,xR])))
namespace Wc
open PySem L2 PyProof.Rows
noncomputable def u9:List Int->Option (Int×Int)
 | []=>none
 | a::r=>if a=(a::r).getLast (by simp) then none else some (a,(a::r).getLast (by simp))
theorem QB(p:List Int):Az p=match u9 p with | none=>.non | some q=>.tup [.int q.1,.int q.2]:=by
 cases p with
 | nil=>rfl
 | cons a r=>
  simp only[Az,u9];by_cases h:a=(a::r).getLast (by simp)
  ·rw[if_pos h,if_pos h]
  ·rw[if_neg h,if_neg h]
noncomputable def o9(c:gu)(w:Str):List Int:=(c.gF.filter fun p=>decide (p.2=w)).map (·.1)
def Bm:iF:=fun ds Q=>∃(c:gu) (w:Str),ds=[c.obj,.str w]/\c.gF.length<=100/\Q (.ow ((o9 c w).map D.int))
def Hl:TX:=(jt (jG (jT (jL "bends" (f6 0))) [none,none,some 1] (mQ 2 (il (gJ 0) (il (gJ 1) kW))) (gR (gk oEq (f6 1) (f6 2))) (f6 0)))
theorem W3:kM 2 Bm Hl ["channel","name"]:=by
 intro ds Qr hl h;obtain⟨c,w,rfl,hb,q⟩:=h;show Hl _ [.fz c.obj,.fz (.str w)];unfold Hl;have big:=kN;walk_at "px";refine sv c.gF vB (fun p=>.int p.1) (fun p=>decide (p.2=w)) (fun Q' h=>?_) (by omega) (fun p hp K1 K0 k1 k0=>?_) ?_
 ·unfold gu.obj;walk_at "px";exact⟨_,rfl,h⟩
 ·unfold vB;walk_at "px";by_cases h1:p.2=w
  ·rw[if_pos h1];exact k1 (by simpa using h1)
  ·rw[if_neg h1];exact k0 (by simpa using h1)
 ·unfold o9 at q;rw[aL] at q;exact q
noncomputable def qY(w:Str)(k:Int)(bs:List Int):List Pc:=(bs.zip (bs.drop 1)).map fun p=>⟨some w,p.1,p.2,k⟩
noncomputable def px(c:gu)(gc:Bool)(w:Str):List Pc:=match u9 (pl c w) with
 | none=>[]
 | some p=>qY w (sV c.wide w) ([p.1]++(if gc then o9 c w else [])++[p.2])
def yh:iF:=fun ds Q=>∃(c:gu) (w:Str) (gc:Bool),ds=[c.obj,.str w,.bl gc]/\pL c/\c.gF.length<=100/\Q (.ow ((px c gc w).map jv))
def GJ:TX:=(gB (ig 3 (iN 2 Bs (gi (f6 0) (gi (f6 1) gq))))
 (gB (jJ (gR (gk (pz false) (f6 3) (dC .non))) (jt (j5 gq)) jI)
 (gB (ig 4 (wL (gR (f6 2)) (iN 2 Bm (gi (f6 0) (gi (f6 1) gq))) (j5 gq)))
 (gB (ig 5 (gk i5 (gk i5 (j5 (gi (gk gU (f6 3) (dC (.int 0))) gq)) (f6 4)) (j5 (gi (gk gU (f6 3) (dC (.int 1))) gq))))
 (gB (ig 6 (iN 2 zS (gi (f6 0) (gi (f6 1) gq))))
 (jt (jG (vb (gi (f6 5) (gi (qI (f6 5) (pA (dC (.int 1))) rG) gq))) [none,none,some 1,some 6] (mQ 2 (il (gJ 0) (il (gJ 1) kW))) mU (l7 (gi (f6 2) (gi (f6 0) (gi (f6 1) (gi (f6 3) gq))))))))))))
theorem WQ:kM 3 yh GJ ["channel","name","bent","stretch","cuts","borders","width"]:=by
 intro ds Qr hl h;obtain⟨c,w,gc,rfl,sh,hb,q⟩:=h;show GJ _ [.fz c.obj,.fz (.str w),.fz (.bl gc),.un,.un,.un,.un];unfold GJ;have big:=kN;walk_at "px";refine⟨c,w,rfl,sh,?_⟩;rw[QB];unfold px at q;generalize u9 (pl c w)=st at q ⊢;cases st with
 | none=>
  walk_at "go";exact⟨by omega,q⟩
 | some p=>
  walk_at "go";have yP:(if gc then o9 c w else []).length<=100:=by
   split
   ·unfold o9;rw[ae];exact aK (bz _ _) hb
   ·simp
  have fin:∀cs:List Int,cs=(if gc then o9 c w else [])->vG (gB (ig 5 (gk i5 (gk i5 (j5 (gi (gk gU (f6 3) (dC (.int 0))) gq)) (f6 4)) (j5 (gi (gk gU (f6 3) (dC (.int 1))) gq))))
 (gB (ig 6 (iN 2 zS (gi (f6 0) (gi (f6 1) gq))))
 (jt (jG (vb (gi (f6 5) (gi (qI (f6 5) (pA (dC (.int 1))) rG) gq))) [none,none,some 1,some 6] (mQ 2 (il (gJ 0) (il (gJ 1) kW))) mU (l7 (gi (f6 2) (gi (f6 0) (gi (f6 1) (gi (f6 3) gq))))))))) { nx:=fun _=>Qr (.fz .non),rt:=Qr } [.fz c.obj,.fz (.str w),.fz (.bl gc),.fz (.tup [.int p.1,.int p.2]),.fz (.lst (cs.map D.int)),.un,.un]:=by
   intro cs EB;rw[<-EB] at q yP;walk_at "go";refine⟨.int p.1,rfl,by omega,by simp;omega,.int p.2,rfl,by omega,by simp;omega,?_⟩;walk_at "go";refine⟨c,w,rfl,?_⟩;walk_at "go";have eb:(D.int p.1::(List.map D.int cs++[D.int p.2]))=([p.1]++cs++[p.2]).map D.int:=by simp
   simp only[eb];have IV:([p.1]++cs++[p.2]).length<=102:=by simp;omega
   dsimp only at q;generalize [p.1]++cs++[p.2]=bs at q IV ⊢;refine sj (bs.zip (bs.drop 1)) (fun p=>.tup [.int p.1,.int p.2]) (fun p=>jv ⟨some w,p.1,p.2,sV c.wide w⟩) (fun Q' h=>?_) (by simp;omega) (fun x hx K1 k=>?_) ?_
   ·walk_at "px";rw[Gf _ (by decide)];have e1:Int.toNat 1=1:=rfl;rw[DX];exact h
   ·walk_at "px";exact⟨by omega,k⟩
   ·unfold qY at q;rw[aL] at q;exact q
  cases gc with
  | true=>
   walk_at "go";refine⟨c,w,rfl,hb,?_⟩;exact fin _ rfl
  | false=>
   walk_at "go";exact⟨by omega,fin [] rfl⟩
structure m7 (c:gu) (l:List Str):Prop where
 nd:l.Nodup
 mem:∀w,w∈l↔mI c w
 BM:sortedS l=true
noncomputable def vJ(c:gu):List Pc:=c.keeps.map fun k=>⟨none,k.1,k.2.1,k.2.2⟩
noncomputable def gh(c:gu)(gc:Bool)(l:List Str):List Pc:=vJ c++l.flatMap (px c gc)
theorem DU(c:gu)(gc:Bool)(w:Str):(px c gc w).length<=c.gF.length+1:=by
 unfold px;split
 ·simp
 ·unfold qY;have:(o9 c w).length<=c.gF.length:=by unfold o9;rw[ae];exact bz _ _
  have:(if gc then o9 c w else []).length<=c.gF.length:=by split<;>simp[*]
  simp;omega
theorem FW{α β:Type}(f:α->List β)(k:Nat)(h:∀a,(f a).length<=k):∀l:List α,(l.flatMap f).length<=l.length*k:=by
 intro l;induction l with
 | nil=>simp
 | cons a r ih=>
  rw[bB,au,aG,Nat.succ_mul];have:=h a;omega
def Be:iF:=fun ds Q=>∃(c:gu) (gc:Bool) (ws:List Str),ds=[c.obj,.bl gc]/\pL c/\c.gF.length<=100/\c.keeps.length<=100/\ws.length<=40/\(∀w,mI c w->w∈ws)/\∀l,m7 c l->Q (.ow ((gh c gc l).map jv))
def Ea:TX:=(gB (oA 2 (jG (jT (jL "keeps" (f6 0))) [none,none,none] (mQ 3 (il (gJ 0) (il (gJ 1) (il (gJ 2) kW)))) mU (l7 (gi (dC .non) (gi (f6 0) (gi (f6 1) (gi (f6 2) gq)))))))
 (gB (mS (jT (iN 1 xh (gi (f6 0) gq))) (gJ 3) (xR 2 (iN 3 yh (gi (f6 0) (gi (f6 3) (gi (f6 1) gq))))))
 (rh 2)))
theorem V6:kM 2 Be Ea ["channel","bent","pieces","name"]:=by
 intro ds Qr hl h;obtain⟨c,gc,ws,rfl,sh,hb,hk,p4,hm,q⟩:=h;show Ea _ [.fz c.obj,.fz (.bl gc),.un,.un];unfold Ea;have big:=kN;walk_at "px";refine sj c.keeps CG (fun k=>jv ⟨none,k.1,k.2.1,k.2.2⟩) (fun Q' h=>?_) (by omega) (fun x hx K1 k=>?_) ?_
 ·unfold gu.obj;walk_at "px";exact⟨_,rfl,h⟩
 ·unfold CG;walk_at "px";exact⟨by omega,k⟩
 ·have ek:c.keeps.map (fun k=>jv ⟨none,k.1,k.2.1,k.2.2⟩)=(vJ c).map jv:=by unfold vJ;rw[aL];rfl
  rw[ek];walk_at "go";refine LV (fun ds=>∃l,m7 c l/\ds=l.map D.str) (fun Q' h=>?_) ?_
  ·walk_at "px";exact⟨c,ws,rfl,sh,p4,hm,fun l nd mem BM=>h _ ⟨l,⟨nd,mem,BM⟩,rfl⟩⟩
  rintro _ ⟨l,hN,rfl⟩;have N0:l.length<=40:=aK (yc hN.nd fun w hw=>hm w ((hN.mem w).mp hw)) p4;refine Uc l D.str (fun i ρ=>∃a:Sl,ρ=[.fz c.obj,.fz (.bl gc),.ow ((vJ c++(l.take i).flatMap (px c gc)).map jv),a]) ⟨.un,by simp⟩ ?_ ?_
  ·rintro i x ρ hx ⟨a,rfl⟩;walk_at "px";refine⟨c,x,gc,rfl,sh,hb,?_⟩;have h1:=FW (px c gc) 101 (fun w=>by have:=DU c gc w;omega) (l.take i);have h2:=DU c gc x;have h3:(vJ c).length<=100:=by unfold vJ;rw[ae];exact hk
   have h4:(l.take i).length<=40:=by rw[aN];omega
   refine⟨by simp only[au,ae];omega,.fz (.str x),?_⟩;rw[bL,hx];simp[cz]
  ·rintro ρ ⟨a,rfl⟩;walk_at "go";rw[bT];exact q l hN
end Wc
open PySem L2 PyProof.Rows Wc
local macro_rules | `(tactic| walk_at "px")=>`(tactic| (repeat(first | walk_at "b" | simp only[t6,vT,tj,si,xR])))
namespace Wc
open PySem L2 PyProof.Rows
noncomputable def wZ(p:Pc)(ps:List Pc):List (Nat×Option Int):=(ps.zipIdx.filter fun q=>q.1.n.isSome).map fun q=>(q.2,Ay p q.1)
noncomputable def xQ(p:Pc)(ps:List Pc):List (Nat×Int):=(wZ p ps).filterMap fun x=>x.2.map fun c=>(x.1,c)
def Bl:iF:=fun ds Q=>∃(p:Pc) (ps:List Pc),ds=[jv p,j8 ps]/\ps.length<=1000/\Q (.ow ((xQ p ps).map fun x=>.tup [dN x.1,.int x.2]))
def Hj:TX:=(gB (ig 2 (jG (w6 (gi (f6 1) gq)) [none,none,some 0] (mQ 2 (il (gJ 0) (il (gJ 1) kW))) (gR (gk (pz true) (gk gU (f6 1) (dC (.int 0))) (dC .non))) (l7 (gi (f6 0) (gi (iN 2 Bf (gi (f6 2) (gi (f6 1) gq))) gq)))))
 (jt (jG (jT (f6 2)) [none,none] (mQ 2 (il (gJ 0) (il (gJ 1) kW))) (gR (gk (pz true) (f6 1) (dC .non))) (l7 (gi (f6 0) (gi (f6 1) gq))))))
theorem W2:kM 2 Bl Hj ["keep","pieces","commons"]:=by
 intro ds Qr hl h;obtain⟨p,ps,rfl,hn,q⟩:=h;show Hj _ [.fz (jv p),.fz (j8 ps),.un];unfold Hj;have big:=kN;walk_at "px";refine sv ps.zipIdx (fun p=>.tup [.int (p.2:Nat),jv p.1]) (fun q=>.tup [dN q.2,dJ (Ay p q.1)]) (fun q=>q.1.n.isSome) (fun Q' h=>?_) (by simp;omega) (fun x hx K1 K0 k1 k0=>?_) ?_
 ·unfold j8;walk_at "px";rw[LU];exact h
 ·show mQ 2 (il (gJ 0) (il (gJ 1) kW)) (.tup [.int (x.2:Nat),jv x.1]) _ _;walk_at "px";have ed:jv x.1=.tup [dO x.1.n,.int x.1.l,.int x.1.r,.int x.1.k]:=rfl;simp only[ed];refine⟨_,rfl,?_⟩;cases uJ:x.1.n with
  | none=>simp only[dO];walk_at "px";exact k0 (by rw[uJ];rfl)
  | some w=>
   simp only[dO];walk_at "px";have e2:D.tup [D.str w,D.int x.1.l,D.int x.1.r,D.int x.1.k]=jv x.1:=by rw[ed,uJ];rfl
   rw[e2];refine⟨p,x.1,rfl,?_⟩;exact⟨by omega,k1 (by rw[uJ];rfl)⟩
 ·have e1:(ps.zipIdx.filter fun q=>q.1.n.isSome).map (fun q=>D.tup [dN q.2,dJ (Ay p q.1)])=(wZ p ps).map fun x=>.tup [dN x.1,dJ x.2]:=by unfold wZ;rw[aL];rfl
  rw[e1];have yO:(wZ p ps).length<=1000:=by
   unfold wZ;rw[ae];refine aK (bz _ _) ?_;simpa using hn
  unfold xQ at q;generalize wZ p ps=cs at q yO ⊢;walk_at "go";refine FQ cs (fun x=>.tup [dN x.1,dJ x.2]) (fun x=>(x.2.map fun c=>(x.1,c)).map fun x=>.tup [dN x.1,.int x.2]) (fun Q' h=>?_) (by omega) (fun x hx K1 K0 k1 k0=>?_) ?_
  ·walk_at "px";exact h
  ·walk_at "px";cases z7:x.2 with
   | none=>simp only[dJ];walk_at "px";exact k0 (by rw[z7];rfl)
   | some c=>
    simp only[dJ];walk_at "px";exact⟨by omega,k1 _ (by rw[z7];rfl)⟩
  ·rw[List.map_filterMap] at q;exact q
theorem KG(p:Pc)(ps:List Pc):(xQ p ps).length<=ps.length:=by
 unfold xQ wZ;refine aK (di _ _) ?_;rw[ae];refine aK (bz _ _) ?_;simp
noncomputable def vg(ps:List Pc)(p:Pc×Nat):List Tr:=if p.1.n=none then(xQ p.1 ps).map fun x=>(p.2,x.1,x.2) else []
noncomputable def nk(ps:List Pc):List Tr:=ps.zipIdx.flatMap (vg ps)
theorem MP(ps:List Pc)(p:Pc×Nat):(vg ps p).length<=ps.length:=by
 unfold vg;split
 ·rw[ae];exact KG _ _
 ·simp
theorem zN{α β:Type}(f:α->List β)(k:Nat)(h:∀a,(f a).length<=k):∀l:List α,(l.flatMap f).length<=l.length*k:=by
 intro l;induction l with
 | nil=>simp
 | cons a r ih=>
  rw[bB,au,aG,Nat.succ_mul];have:=h a;omega
def Bk:iF:=fun ds Q=>∃ps:List Pc,ds=[j8 ps]/\ps.length<=1000/\Q (.ow ((nk ps).map dT))
def Hi:TX:=(gB (oA 1 (j5 gq))
 (gB (mS (w6 (gi (f6 0) gq)) (mQ 2 (il (gJ 2) (il (gJ 3) kW))) (jJ (gR (gk (pz false) (gk gU (f6 3) (dC (.int 0))) (dC .non))) (xR 1 (jG (jT (iN 2 Bl (gi (f6 3) (gi (f6 0) gq)))) [none,none,some 2] (mQ 2 (il (gJ 0) (il (gJ 1) kW))) mU (l7 (gi (f6 2) (gi (f6 0) (gi (f6 1) gq)))))) jI))
 (rh 1)))
theorem W0:kM 1 Bk Hi ["pieces","triples","upper","keep"]:=by
 intro ds Qr hl h;obtain⟨ps,rfl,hn,q⟩:=h;show Hi _ [.fz (j8 ps),.un,.un,.un];unfold Hi;have big:=kN;walk_at "px";refine⟨by omega,?_⟩;walk_at "go";refine Ge ps jv (fun Q' h=>?_) (fun i ρ=>∃a b:Sl,ρ=[.fz (j8 ps),.ow ((((ps.zipIdx.take i).flatMap (vg ps))).map dT),a,b]) ⟨.un,.un,by simp⟩ ?_ ?_
 ·unfold j8;walk_at "px";exact h
 ·rintro i x ρ hx ⟨a,b,rfl⟩;have hi:i<ps.length:=(aB.mp hx).1;have hz:ps.zipIdx[i]?=some (x,i):=by rw[List.getElem?_zipIdx,hx];simp
  have tk:ps.zipIdx.take (i+1)=ps.zipIdx.take i++[(x,i)]:=by rw[bL,hz];rfl
  have len:=zN (vg ps) 1000 (fun a=>aK (MP ps a) hn) (ps.zipIdx.take i);have l4:(ps.zipIdx.take i).length<=1000:=by rw[aN];omega
  rw[tk,cz,bB,dg,ba];generalize (ps.zipIdx.take i).flatMap (vg ps)=acc at len ⊢;have ed:jv x=.tup [dO x.n,.int x.l,.int x.r,.int x.k]:=rfl;walk_at "px";simp only[ed];refine⟨_,rfl,?_⟩;cases uJ:x.n with
  | some w=>
   simp only[dO];walk_at "px";refine⟨.fz (.int i),.fz (jv x),?_⟩;unfold vg;rw[if_neg (by rw[uJ];exact fun z=>nomatch z),ba,ed,uJ];rfl
  | none=>
   simp only[dO];walk_at "px";have e2:D.tup [D.non,D.int x.l,D.int x.r,D.int x.k]=jv x:=by rw[ed,uJ];rfl
   rw[e2];have bl:=KG x ps;refine sj (xQ x ps) (fun y=>.tup [dN y.1,.int y.2]) (fun y=>dT (i,y.1,y.2)) (fun Q' h=>?_) (by omega) (fun y hy K1 k=>?_) ?_
   ·walk_at "px";exact⟨x,ps,rfl,hn,h⟩
   ·unfold dN;walk_at "px";exact⟨by omega,k⟩
   ·refine⟨by simp only[ae];omega,.fz (.int i),.fz (jv x),?_⟩;unfold vg;rw[if_pos (by exact uJ),aI,aL];rfl
 ·rintro ρ ⟨a,b,rfl⟩;walk_at "go";rw[show ps.length=ps.zipIdx.length by simp,bT];exact q
noncomputable def uu(c:gu)(ps:List Pc)(n:Nat):List Tr:=match c.top[n]?,c.fZ[n]? with
 | some (some u),some (some v)=>if u=v then [] else(ky ps (some u) n).flatMap fun a=>(ky ps (some v) n).map fun b=>(a,b,(n:Int))
 | _,_=>[]
noncomputable def qw(c:gu)(ps:List Pc):List Tr:=(List.range c.top.length).flatMap (uu c ps)
theorem Dt(ps:List Pc)(n:Option Str)(c:Int):(ky ps n c).length<=ps.length:=by
 unfold ky;rw[ae];refine aK (bz _ _) ?_;simp
theorem L6(c:gu)(ps:List Pc)(n:Nat):(uu c ps n).length<=ps.length*ps.length:=by
 unfold uu;split
 ·split
  ·simp
  ·rename_i u v _ _ _;refine aK (zN _ ps.length (fun a=>by rw[ae];exact Dt _ _ _) _) ?_;exact Nat.mul_le_mul_right _ (Dt _ _ _)
 ·simp
def Bj:iF:=fun ds Q=>∃(c:gu) (ps:List Pc),ds=[c.obj,j8 ps]/\pL c/\ps.length<=500/\Q (.ow ((qw c ps).map dT))
def Hs:TX:=(gB (oA 2 (j5 gq))
 (gB (mS (rg (gi (iQ oN (gi (jL "top" (f6 0)) gq)) gq)) (gJ 3) (gB (ig 4 (gk gU (jL "top" (f6 0)) (f6 3)))
 (gB (ig 5 (gk gU (jL "bottom" (f6 0)) (f6 3)))
 (jJ (o7 (gR (gk (pz true) (f6 4) (dC .non))) (o7 (gR (gk (pz true) (f6 5) (dC .non))) (gR (gk zY (f6 4) (f6 5))))) (gB (ig 6 (iN 3 yf (gi (f6 1) (gi (f6 5) (gi (f6 3) gq)))))
 (mS (jT (iN 3 yf (gi (f6 1) (gi (f6 4) (gi (f6 3) gq))))) (gJ 7) (xR 2 (jG (jT (f6 6)) [none,some 7,some 3] (gJ 0) mU (l7 (gi (f6 1) (gi (f6 0) (gi (f6 2) gq)))))))) jI))))
 (rh 2)))
theorem WM:kM 2 Bj Hs ["channel","pieces","triples","column","upper_name","lower_name","lowers","upper"]:=by
 intro ds Qr hl h;obtain⟨c,ps,rfl,sh,hn,q⟩:=h;show Hs _ [.fz c.obj,.fz (j8 ps),.un,.un,.un,.un,.un,.un];unfold Hs;have big:=kN;have hw:=sh.w;walk_at "px";refine⟨by omega,?_⟩;walk_at "go";refine xj c.top.length (fun Q' h=>?_) (fun i ρ=>∃a b d e f:Sl,ρ=[.fz c.obj,.fz (j8 ps),.ow (((List.range i).flatMap (uu c ps)).map dT),a,b,d,e,f]) ⟨.un,.un,.un,.un,.un,by simp⟩ ?_ ?_
 ·unfold gu.obj;walk_at "px";refine⟨_,rfl,?_⟩;unfold dP;walk_at "px";rw[ae];exact⟨by omega,by omega,by simpa using h⟩
 ·rintro i ρ hi ⟨a,b,d,e,f,rfl⟩;have xB:i<c.fZ.length:=by rw[sh.b];exact hi
  have sq:ps.length*ps.length<=250000:=Nat.mul_le_mul hn hn;have len:=zN (uu c ps) 250000 (fun a=>aK (L6 c ps a) sq) (List.range i);rw[cW] at len;rw[fE,cz,bB,dg,ba];generalize (List.range i).flatMap (uu c ps)=acc at len ⊢;walk_at "px";unfold gu.obj;walk_at "px";refine⟨_,rfl,?_⟩;unfold dP;walk_at "px";refine⟨_,pf hi,?_⟩;walk_at "go";refine⟨_,rfl,?_⟩;walk_at "px";refine⟨_,pf xB,?_⟩;have obj:D.obj (Str.ofString "Channel") [(Str.ofString "top",D.lst (c.top.map dO)),(Str.ofString "bottom",D.lst (c.fZ.map dO)),(Str.ofString "left",dS c.left),(Str.ofString "right",dS c.right),(Str.ofString "wide",dW c.wide),(Str.ofString "bends",dB c.gF),(Str.ofString "keeps",dK c.keeps)]=c.obj:=rfl;rw[obj];have pe:uu c ps i=match c.top[i],c.fZ[i] with | some u,some v=>(if u=v then [] else(ky ps (some u) i).flatMap fun a=>(ky ps (some v) i).map fun b=>(a,b,(i:Int))) | _,_=>[]:=by
   unfold uu;rw[ai hi,ai xB];cases c.top[i]<;>cases c.fZ[i]<;>rfl
  generalize c.top[i]=x at pe ⊢;generalize c.fZ[i]=y at pe ⊢;generalize uu c ps i=new at pe ⊢;subst pe;cases x with
  | none=>
   simp only[dO];walk_at "go";exact⟨_,_,_,_,_,by rw[ba]⟩
  | some u=>
   cases y with
   | none=>
    simp only[dO];walk_at "go";exact⟨_,_,_,_,_,by rw[ba]⟩
   | some v=>
    simp only[dO];walk_at "go";by_cases NT:u=v
    ·simp only[NT,cy,eF,aq,aP,aR];exact⟨_,_,_,_,_,by rw[ba]⟩
    ·simp only[NT,cE,Bool.not_false,aP,aR];refine⟨ps,some v,i,rfl,by omega,?_⟩;walk_at "go";have l1:=Dt ps (some u) i;have l2:=Dt ps (some v) i;have l3:=zN (fun a=>(ky ps (some v) i).map fun b=>((a,b,(i:Int)):Tr)) 500 (fun a=>by rw[ae];omega);generalize ky ps (some v) i=vs at l2 l3 ⊢;refine vV (ky ps (some u) i) dN (fun Q' h=>?_) (fun j ρ=>∃f:Sl,ρ=[.fz c.obj,.fz (j8 ps),.ow ((acc++((ky ps (some u) i).take j).flatMap fun a=>vs.map fun b=>(a,b,(i:Int))).map dT),.fz (.int i),.fz (.str u),.fz (.str v),.fz (.lst (vs.map dN)),f]) ⟨_,by rw[List.take_zero,dg,ba]⟩ ?_ ?_
     ·walk_at "px";exact⟨ps,some u,i,rfl,by omega,h⟩
     ·rintro j x ρ hx ⟨f,rfl⟩;have l5:=l3 ((ky ps (some u) i).take j);have l6:((ky ps (some u) i).take j).length<=500:=by rw[aN];omega
      rw[bL,hx,cz];generalize ((ky ps (some u) i).take j).flatMap (fun a=>vs.map fun b=>((a,b,(i:Int)):Tr))=Y7 at l5 ⊢;unfold dN;walk_at "px";refine sj vs dN (fun b=>dT (x,b,(i:Int))) (fun Q' h=>?_) (by omega) (fun b hb K1 k=>?_) ?_
      ·walk_at "px";exact h
      ·unfold dN;walk_at "px";exact⟨by omega,k⟩
      ·refine⟨by simp only[ae,au];omega,.fz (.int x),?_⟩;simp
     ·rintro ρ ⟨f,rfl⟩;exact⟨_,_,_,_,_,by rw[bT]⟩
 ·rintro ρ ⟨a,b,d,e,f,rfl⟩;walk_at "go";exact q
noncomputable def kT(t:Tr):List Int:=[(t.1:Int),(t.2.1:Int),t.2.2]
structure Above (c:gu) (ps:List Pc) (ts:List Tr):Prop where
 pm:ts.Perm (qw c ps++nk ps)
 BM:ts.Pairwise fun x y=>HT.gI (kT x) (kT y)=false
def Ba:iF:=fun ds Q=>∃(c:gu) (ps:List Pc),ds=[c.obj,j8 ps]/\pL c/\ps.length<=500/\∀ts,Above c ps ts->Q (.ow (ts.map dT))
def Gy:TX:=(jt (iQ DM (gi (gk i5 (iN 2 Bj (gi (f6 0) (gi (f6 1) gq))) (iN 1 Bk (gi (f6 1) gq))) gq)))
theorem LQ(c:gu)(ps:List Pc)(sh:pL c)(hn:ps.length<=500):(qw c ps).length<=10000000:=by
 have sq:ps.length*ps.length<=250000:=Nat.mul_le_mul hn hn;have:=zN (uu c ps) 250000 (fun a=>aK (L6 c ps a) sq) (List.range c.top.length);rw[cW] at this;have:=sh.w;unfold qw;omega
theorem L5(ps:List Pc)(hn:ps.length<=500):(nk ps).length<=250000:=by
 have:=zN (vg ps) 500 (fun a=>aK (MP ps a) hn) ps.zipIdx;rw[List.length_zipIdx] at this;unfold nk;omega
theorem Vp:kM 2 Ba Gy ["channel","pieces"]:=by
 intro ds Qr hl h;obtain⟨c,ps,rfl,sh,hn,q⟩:=h;show Gy _ [.fz c.obj,.fz (j8 ps)];unfold Gy;have big:=kN;have l1:=LQ c ps sh hn;have l2:=L5 ps hn;walk_at "px";refine⟨c,ps,rfl,sh,hn,?_⟩;walk_at "px";refine⟨ps,rfl,by omega,?_⟩;walk_at "px";refine⟨by simp only[au,ae];omega,?_⟩;rw[<-aI];have e:((qw c ps++nk ps).map dT)=(qw c ps++nk ps).map fun a=>D.tup ((kT a).map D.int):=rfl
 rw[e];simp only[DM,L7];refine⟨fun t ht=>?_,fun qo hp hs=>?_⟩
 ·obtain⟨a,_,rfl⟩:=aO.mp ht;simp[kT]
 ·obtain⟨ts,h1,rfl⟩:=D2 hp rfl;rw[aL];exact q ts ⟨h1,by rw[bX] at hs;exact hs⟩
end Wc
open PySem L2 PyProof.Rows Wc
local macro_rules | `(tactic| walk_at "px")=>`(tactic| (repeat(first | walk_at "b" | simp only[vb])))
namespace Wc
open PySem L2 PyProof.Rows
def zR:iF:=fun ds Q=>∃(ps:List Pc) (tr:List Int),ds=[j8 ps,dI tr]/\ps.length<=1000/\(ps.zip tr=[]->Q (.fz (.int 0)))/\∀p∈ps.zip tr,Q (.fz (.int (p.2+p.1.k)))
def Gx:TX:=(jt (C6 (jG (vb (gi (f6 0) (gi (f6 1) gq))) [none,none] (mQ 2 (il (gJ 0) (il (gJ 1) kW))) mU (gk i5 (f6 1) (gk gU (f6 0) (dC (.int 3))))) (dC (.int 0))))
theorem Vo:kM 2 zR Gx ["pieces","tracks"]:=by
 intro ds Qr hl h;obtain⟨ps,tr,rfl,hp,q0,q1⟩:=h;show Gx _ [.fz (j8 ps),.fz (dI tr)];unfold Gx;have big:=kN;show C6 _ _ _ _;unfold C6;refine sj (ps.zip tr) (fun p=>.tup [jv p.1,.int p.2]) (fun p=>.int (p.2+p.1.k)) (fun Q' h=>?_) (by rw[fD];omega) (fun p hp K1 k1=>?_) ?_
 ·unfold j8 dI;walk_at "px";rw[DX];exact h
 ·rw[show jv p.1=.tup [dO p.1.n,.int p.1.l,.int p.1.r,.int p.1.k] from rfl];walk_at "px";exact⟨_,rfl,k1⟩
 ·refine⟨(ps.zip tr).map fun p=>p.2+p.1.k,by rw[aL];rfl,fun e=>q0 (by simpa using e),fun n hn=>?_⟩;obtain⟨p,hp,rfl⟩:=aO.mp hn;exact q1 p hp
noncomputable def kh(ps:List Pc)(q:Nat):Pc:=ps[q]?.getD ⟨none,0,0,1⟩
noncomputable def l9(tr:List Int)(q:Nat):Int:=tr[q]?.getD 0
theorem Dn{ps:List Pc}{q:Nat}(h:q<ps.length):kh ps q=ps[q]:=by unfold kh;rw[ai h];rfl
theorem Fo{tr:List Int}{q:Nat}(h:q<tr.length):l9 tr q=tr[q]:=by unfold l9;rw[ai h];rfl
noncomputable def oK(x y:iG):Bool:=!Ts.jk y x
theorem KD(a b c:iG)(h1:oK a b=true)(h2:oK b c=true):oK a c=true:=by
 unfold oK at *;simp only[bP] at *;cases h:Ts.jk c a with
 | false=>rfl
 | true=>
  by_cases e:a=b
  ·subst e;rw[h2] at h;cases h
  ·rcases Ts.ki.Hv _ _ e with z | z
   ·rw[Ts.ki.tr _ _ _ h z] at h2;cases h2
   ·rw[z] at h1;cases h1
theorem LP(a b:iG):(oK a b||oK b a)=true:=by
 unfold oK;cases h1:Ts.jk b a<;>cases h2:Ts.jk a b<;>simp
 have:=Ts.ki.tr _ _ _ h1 h2;rw[Ts.ki.ir] at this;cases this
theorem L4(a b:iG)(h1:oK a b=true)(h2:oK b a=true):a=b:=by
 unfold oK at *;simp only[bP] at *;refine Decidable.byContradiction fun e=>?_
 rcases Ts.ki.Hv _ _ e with z | z
 ·rw[z] at h2;cases h2
 ·rw[z] at h1;cases h1
noncomputable def sE(g:List iG):List iG:=g.mergeSort oK
theorem Ds(g:List iG):(sE g).Perm g:=List.mergeSort_perm _ _
theorem D7{α:Type}{le:α->α->Prop}:∀{l m:List α},(∀a∈l,∀b∈l,le a b->le b a->a=b)->l.Perm m->l.Pairwise le->m.Pairwise le->l=m
 | [],m,_,p,_,_=>p.nil_eq
 | a::l,[],_,p,_,_=>absurd p.length_eq (by simp)
 | a::l,b::m,an,p,h1,h2=>by
  have hb:b∈a::l:=p.symm.subset bj;have ha:a∈b::m:=p.subset bj;obtain⟨YR,YQ⟩:=br.mp h1;obtain⟨YO,YN⟩:=br.mp h2;have e:a=b:=by
   rcases ar.mp hb with z | z
   ·exact z.symm
   ·rcases ar.mp ha with y | y
    ·exact y
    ·exact an _ bj _ hb (YR _ z) (YO _ y)
  subst e;rw[D7 (fun x hx y hy=>an x (aD _ hx) y (aD _ hy)) ((List.perm_cons a).mp p) YQ YN]
theorem Qh(g:List iG):(sE g).Pairwise (fun x y=>oK x y=true):=List.pairwise_mergeSort KD LP g
theorem JQ{g s:List iG}(h:s.Perm g)(p:s.Pairwise (fun x y=>Ts.jk y x=false)):s=sE g:=
 D7 (le:=fun x y=>oK x y=true) (fun a _ b _=>L4 a b) (h.trans (Ds g).symm) (p.imp fun h=>by unfold oK;rw[h];rfl) (Qh g)
theorem Qg{g:List iG}(h:g≠[]):jY (sE g)∈g:=by
 cases e:sE g with
 | nil=>exact absurd (List.perm_nil.mp ((Ds g).symm.trans (eP e))) h
 | cons a r=>exact(Ds g).subset (by rw[e];exact bj)
noncomputable def sG(gs:List (List iG)):List (List iG):=gs.mergeSort fun x y=>oK (jY x) (jY y)
theorem zA(g:List (List iG)):(sG g).Perm g:=List.mergeSort_perm _ _
theorem Fn(g:List (List iG)):(sG g).Pairwise (fun x y=>oK (jY x) (jY y)=true):=List.pairwise_mergeSort (le:=fun x y=>oK (jY x) (jY y)) (fun a b c=>KD (jY a) (jY b) (jY c)) (fun a b=>LP (jY a) (jY b)) g
theorem JP{gs:List (List iG)}(nd:(gs.map jY).Nodup):∀a∈gs,∀b∈gs,oK (jY a) (jY b)=true->oK (jY b) (jY a)=true->a=b:=fun a ha b hb h1 h2=>by
 have e:=L4 _ _ h1 h2;obtain⟨i,hi⟩:=cC ha;obtain⟨j,hj⟩:=cC hb;have e1:(gs.map jY)[i]?=some (jY a):=by rw[aH,hi];rfl
 have e2:(gs.map jY)[j]?=some (jY a):=by rw[aH,hj,e];rfl
 have:i=j:=(List.getElem?_inj (aB.mp e1).1 nd).mp (e1.trans e2.symm);subst this;rw[hi] at hj;exact bE hj
theorem Pq{gs s:List (List iG)}(nd:(gs.map jY).Nodup)(h:s.Perm gs)(p:s.Pairwise (fun x y=>Ts.jk (jY y) (jY x)=false)):s=sG gs:=by
 refine D7 (le:=fun x y=>oK (jY x) (jY y)=true) (fun a ha b hb=>JP nd a (h.subset ha) b (h.subset hb)) (h.trans (zA gs).symm) (p.imp fun h=>?_) (Fn gs);unfold oK;rw[h];rfl
theorem Qf{gs xG:List (List iG)}(nd:(gs.map jY).Nodup)(h:gs.Perm xG):sG gs=sG xG:=
 D7 (fun a ha b hb=>JP nd a ((zA gs).subset ha) b ((zA gs).subset hb)) (((zA gs).trans h).trans (zA xG).symm) (Fn gs) (Fn xG)
end Wc
open PySem L2 PyProof.Rows Wc
local macro_rules | `(tactic| walk_at "px")=>`(tactic| (repeat(first | walk_at "b" | simp only[AD,AN,AJ,Fv,DJ,Df,JU,rh])))
namespace Wc
open PySem L2 PyProof.Rows
noncomputable def nR(ts:List Tr)(q:Nat):List Nat:=(ts.filter fun t=>decide (t.2.1=q)).map (·.1)
theorem Ss(ts:List Tr)(t:Tr)(q:Nat):nR (ts++[t]) q=if q=t.2.1 then nR ts q++[t.1] else nR ts q:=by
 unfold nR;rw[List.filter_append,aI];by_cases h:q=t.2.1
 ·subst h;simp
 ·rw[if_neg h,List.filter_cons_of_neg (by simpa using fun z=>h z.symm)];simp
theorem KC(ts:List Tr)(q:Nat):(nR ts q).length<=ts.length:=by
 unfold nR;rw[ae];exact bz _ _
theorem wj{ts:List Tr}{p q:Nat}:p∈nR ts q↔∃t∈ts,t.1=p/\t.2.1=q:=by
 unfold nR;simp only[aO,aY,aS];exact⟨fun gD=>by obtain⟨t,⟨h1,h2⟩,h3⟩:=gD;exact⟨t,h1,h3,h2⟩,fun gD=>by obtain⟨t,h1,h2,h3⟩:=gD;exact⟨t,⟨h1,h3⟩,h2⟩⟩
def JO(n:Nat)(ts:List Tr):Prop:=∃S:List Nat,S≠[]/\(∀q∈S,q<n)/\∀q∈S,∃t∈ts,t.2.1=q/\t.1∈S
def Br:iF:=fun ds Q=>∃(n:Nat) (ts:List Tr) (gG:Int),ds=[.int n,qc ts,.int gG]/\n<=1000/\ts.length<=11000000/\E9 n ts/\(JO n ts->Q (.fz .non))/\∀tu:List Nat,tu.Perm (List.range n)->Q (.ow (tu.map dN))
noncomputable def wK(ts:List Tr)(n:Nat):List (List D):=(List.range n).map fun q=>(nR ts q).map dN
theorem Rf(w:List Nat)(x:Nat):(w.map fun(k:Nat)=>(k:Int)).erase (x:Int)=(w.erase x).map fun(k:Nat)=>(k:Int):=by
 induction w with
 | nil=>rfl
 | cons a r ih=>
  rw[ay,List.erase_cons,List.erase_cons];by_cases h:a=x
  ·subst h;simp
  ·rw[if_neg (by simpa using fun z=>h (by omega)),if_neg (by simpa using h),ay,ih]
theorem Pp(x:Nat)(l:List Nat):inD (dN x) (l.map dN)=decide (x∈l):=by
 unfold inD;rw[List.any_map];induction l with
 | nil=>rfl
 | cons a r ih=>
  rw[fj,ih];by_cases h:x=a
  ·subst h;simp[dN,iq]
  ·have:¬((a:Int)=(x:Int)):=fun z=>h (by omega)
   have h3:¬((x:Int)=(a:Int)):=fun z=>h (by omega)
   simp[dN,iq,h,this,h3]
theorem Rc(l:List Nat):∀e∈l.map dN,iE 8 e:=fun e he=>by
 obtain⟨k,_,rfl⟩:=aO.mp he;unfold dN;rw[FI];trivial
def GI:TX:=(gB (oA 3 (vi (rg (gi (f6 0) gq)) [none] (gJ 0) mU (j5 gq)))
 (gB (mS (jT (f6 1)) (mQ 3 (il (gJ 4) (il (gJ 5) (il (gJ 6) kW)))) (AJ 3 (f6 5) (f6 4)))
 (gB (oA 7 (Fv (gi (f6 0) gq)))
 (gB (oA 8 (j5 gq))
 (wX 3 (gB (Fs (gR (gk (mH fun i j=>.bl (decide (j<i))) (AH 7) (dC (.int 0)))) (gB (oA 9 (Df 7 (jG (jT (f6 7)) [none,some 7,some 3] (gJ 0) (wY (gR (iQ CW (gi (jG (jT (gk gU (f6 2) (f6 0))) [none,some 1] (gJ 0) mU (gk (mR false) (f6 0) (f6 1))) gq)))) (f6 0))))
 (wX 9 (gB (jJ (gR (gk oEq (iQ oN (gi (f6 9) gq)) (dC (.int 0)))) (jt (dC .non)) jI)
 (gB (nt 8 (gk gU (f6 9) (gk (oI (fun _ j=>0<j) fun i j=>.int (i%j)) (iN 2 t7 (gi (f6 2) (gi (gk i5 (AH 8) (dC (.int 600))) gq))) (iQ oN (gi (f6 9) gq)))))
 (DJ 7 (xS 8 (tQ (dC (.int 1))))))))))
 (rh 8)))))))
theorem V4:kM 3 Br GI ["_law_count","_law_above","_law_seed","_law_uppers","_law_p","_law_q","_law_c","_law_waiting","_law_turns_here","_law_ready"]:=by
 intro ds Qr hl h;obtain⟨n,ts,gG,rfl,hn,ht,hv,q1,q2⟩:=h;show GI _ [.fz (.int n),.fz (qc ts),.fz (.int gG),.un,.un,.un,.un,.un,.un,.un];unfold GI;have big:=kN;walk_at "px";refine Gn (List.range n) dN (fun _=>[]) (fun Q' h=>?_) (by simp;omega) (fun d hd K1 k=>?_) ?_
 ·walk_at "px";refine⟨by omega,by omega,?_⟩;rw[eT];have e1:(List.range n).map (fun(i:Nat)=>D.int (0+(i:Int)))=(List.range n).map dN:=List.map_congr_left fun i _=>by rw[Int.zero_add];rfl
  rw[e1];exact h
 ·walk_at "px";exact⟨by omega,k⟩
 have e0:(List.range n).map (fun _=>([]:List D))=wK (ts.take 0) n:=rfl;rw[e0];walk_at "go";refine vV ts dT (fun Q' h=>?_) (fun i ρ=>∃a b c:Sl,ρ=[.fz (.int n),.fz (qc ts),.fz (.int gG),.ov (.ll (wK (ts.take i) n)),a,b,c,.un,.un,.un]) ⟨_,_,_,rfl⟩ ?_ ?_
 ·unfold qc;walk_at "px";exact h
 ·rintro i t ρ hi ⟨a,b,c,rfl⟩;have Ii:t∈ts:=aU hi;obtain⟨v1,v2⟩:=hv t Ii;have tk:ts.take (i+1)=ts.take i++[t]:=by rw[bL,hi];rfl
  have l1:=KC (ts.take i) t.2.1;have l2:(ts.take i).length<=ts.length:=by rw[aN];omega
  unfold dT;walk_at "px";have hlen:(wK (ts.take i) n).length=n:=by unfold wK;simp
  refine⟨t.2.1,(nR (ts.take i) t.2.1).map dN,by rw[hlen];exact KH v2,Su (fun q=>(nR (ts.take i) q).map dN) v2,by rw[ae];omega,?_⟩;have:(wK (ts.take i) n).set t.2.1 ((nR (ts.take i) t.2.1).map dN++[.int t.1])=wK (ts.take (i+1)) n:=by
   unfold wK;rw[SM,tk];apply List.map_congr_left;intro x _;rw[Ss];by_cases hx:x=t.2.1
   ·rw[if_pos hx,if_pos hx,hx,aI];rfl
   ·rw[if_neg hx,if_neg hx]
  rw[this];exact⟨_,_,_,rfl⟩
 ·rintro ρ ⟨a,b,c,rfl⟩;rw[bT];walk_at "go";refine⟨by omega,by omega,?_⟩;rw[eT,show(List.range n).map (fun(i:Nat)=>D.int i)=(List.range n).map dN from rfl];walk_at "go";refine⟨by omega,?_⟩;walk_at "go";refine⟨fun m ρ=>∃(w tu:List Nat) (s:Sl),m=w.length/\(tu++w).Perm (List.range n)/\ρ=[.fz (.int n),.fz (qc ts),.fz (.int gG),.fz (.lst ((wK ts n).map .lst)),a,b,c,.ow (w.map dN),.ow (tu.map dN),s],⟨_,List.range n,[],_,rfl,by simp,rfl⟩,?_⟩;rintro m ρ ⟨w,tu,s,rfl,hp,rfl⟩;have hlen:=hp.length_eq;rw[au,cW] at hlen;walk_at "px";rw[ae];by_cases hw:0<(w.length:Int)
  ·rw[if_pos (by simpa using hw)];have NR:∀x∈w,x<n:=fun x hx=>bU.mp (hp.subset (bg _ hx))
   walk_at "px";refine sv w dN dN (fun q=>!(nR ts q).any fun p=>decide (p∈w)) (fun Q' h=>?_) (by omega) (fun x hx K1 K0 k1 k0=>?_) ?_
   ·walk_at "px";exact h
   ·have qG:iR (wK ts n) (x:Int)=some ((nR ts x).map dN):=SK (fun q=>(nR ts q).map dN) (NR x hx);rw[show dN x=D.int x from rfl];walk_at "px";refine sj (nR ts x) dN (fun p=>.bl (decide (p∈w))) (fun Q' h=>?_) (by have:=KC ts x;omega) (fun y hy K2 k2=>?_) ?_
    ·walk_at "px";exact⟨_,qG,h⟩
    ·rw[show dN y=D.int y from rfl];walk_at "px";have:=Pp y w;rw[show dN y=D.int y from rfl] at this;exact⟨Rc w,by rw[this];exact k2⟩
    ·rw[show((nR ts x).map fun p=>D.bl (decide (p∈w)))=((nR ts x).map fun p=>decide (p∈w)).map D.bl by rw[aL];rfl];simp only[xZ,CW,Tw];rw[List.any_map,show(id∘fun p=>decide (p∈w))=(fun p=>decide (p∈w)) from rfl];cases hb:(nR ts x).any fun p=>decide (p∈w)
     ·exact k1 (by simp[hb])
     ·exact k0 (by simp[hb])
   ·generalize hr:w.filter (fun q=>!(nR ts q).any fun p=>decide (p∈w))=r;have Yf:∀x∈r,x∈w:=fun x hx=>by rw[<-hr] at hx;exact(aY.mp hx).1
    refine⟨by simp[dN,vf],?_⟩;walk_at "go";rw[ae];by_cases h0:r=[]
    ·subst h0;rw[if_pos (by simp)];refine q1 ⟨w,fun z=>?_,NR,fun q hq=>?_⟩
     ·rw[z] at hw;simp at hw
     ·have:q∉w.filter (fun q=>!(nR ts q).any fun p=>decide (p∈w)):=by rw[hr];simp
      rw[aY] at this;have h2:(nR ts q).any (fun p=>decide (p∈w))=true:=by
       cases hb:(nR ts q).any fun p=>decide (p∈w) with
       | true=>rfl
       | false=>exact absurd ⟨hq,by rw[hb];rfl⟩ this
      obtain⟨p,yI,Iy⟩:=List.any_eq_true.mp h2;obtain⟨t,t1,t2,t3⟩:=wj.mp yI;exact⟨t,t1,t3,by rw[t2];simpa using Iy⟩
    ·have Zw:0<r.length:=List.length_pos_iff.mpr h0;rw[if_neg (by omega)];walk_at "go";rw[ae,ae];refine⟨_,_,rfl,by omega,by omega,?_⟩;generalize vF _ _=mx;have m0:=bx mx (show(r.length:Int)≠0 by omega);have m1:=bw mx (show(0:Int)<r.length by omega);obtain⟨gL,qG⟩:=yb (l:=r) m0 m1;have Ew:r[(mx%r.length).toNat]∈w:=Yf _ (cq gL);refine⟨by omega,r[(mx%r.length).toNat],qG,by omega,?_⟩;generalize r[(mx%r.length).toNat]=x at Ew;walk_at "go";refine⟨dN x,by rw[Sy _ (by simp)];simp,w.map (fun(k:Nat)=>(k:Int)),x,by rw[aL];rfl,rfl,aO.mpr ⟨x,Ew,rfl⟩,?_⟩;rw[Rf,aL];have hle:=List.length_erase_of_mem Ew;refine⟨(w.erase x).length,by omega,w.erase x,tu++[x],_,rfl,?_,by rw[aI];rfl⟩;rw[aM];exact(cM tu (List.perm_cons_erase Ew).symm).trans hp
  ·rw[if_neg (by simpa using hw)];have:w=[]:=bR (by omega);subst this;walk_at "go";exact q2 tu (by simpa using hp)
end Wc
open PySem L2 PyProof.Rows Wc
local macro_rules | `(tactic| walk_at "px")=>`(tactic| (repeat(first | walk_at "b" | simp only[AD,AN,tj,tV,uo,zm,rh,tQ,zY])))
namespace Wc
open PySem L2 PyProof.Rows
def wW(ps:List Pc)(tr:List Int)(o:Nat)(t:Int)(q:Nat):Prop:=
 0<=l9 tr q/\((kh ps q).n=none\/(kh ps q).n≠(kh ps o).n)/\max (kh ps q).l (kh ps o).l<=min (kh ps q).r (kh ps o).r/\l9 tr q<t+(kh ps o).k/\t<l9 tr q+(kh ps q).k
def Bq:iF:=fun ds Q=>∃(ps:List Pc) (tr:List Int) (o:Nat) (t:Int),ds=[j8 ps,.lst (tr.map .int),.int o,.int t]/\ps.length<=1000/\tr.length=ps.length/\o<ps.length/\
 ((∃q,q<ps.length/\wW ps tr o t q)->Q (.fz (.bl false)))/\((∀q,q<ps.length->¬wW ps tr o t q)->Q (.fz (.bl true)))
theorem Fd{α:Type}(a b c d:α):iR [a,b,c,d] 0=some a:=rfl
theorem JN{α:Type}(a b c d:α):iR [a,b,c,d] 1=some b:=rfl
theorem JY{α:Type}(a b c d:α):iR [a,b,c,d] 2=some c:=rfl
theorem JX{α:Type}(a b c d:α):iR [a,b,c,d] 3=some d:=rfl
def GH:TX:=(gB (mS (rg (gi (iQ oN (gi (f6 0) gq)) gq)) (gJ 4) (jJ (o7 (gR (gk (mH fun i j=>.bl (decide (j<=i))) (gk gU (f6 1) (f6 4)) (dC (.int 0)))) (Ar (gR (gk (pz false) (gk gU (gk gU (f6 0) (f6 4)) (dC (.int 0))) (dC .non))) (gR (gk zY (gk gU (gk gU (f6 0) (f6 4)) (dC (.int 0))) (gk gU (gk gU (f6 0) (f6 2)) (dC (.int 0))))))) (jJ (gR (gk (mH fun i j=>.bl (decide (i<=j))) (iQ tV (gi (gk gU (gk gU (f6 0) (f6 4)) (dC (.int 1))) (gi (gk gU (gk gU (f6 0) (f6 2)) (dC (.int 1))) gq))) (iQ uo (gi (gk gU (gk gU (f6 0) (f6 4)) (dC (.int 2))) (gi (gk gU (gk gU (f6 0) (f6 2)) (dC (.int 2))) gq))))) (jJ (o7 (gR (gk (mH fun i j=>.bl (decide (i<j))) (gk gU (f6 1) (f6 4)) (gk i5 (f6 3) (gk gU (gk gU (f6 0) (f6 2)) (dC (.int 3)))))) (gR (gk (mH fun i j=>.bl (decide (i<j))) (f6 3) (gk i5 (gk gU (f6 1) (f6 4)) (gk gU (gk gU (f6 0) (f6 4)) (dC (.int 3))))))) (jt (dC (.bl false))) jI) jI) jI))
 (jt (dC (.bl true))))
theorem V3:kM 4 Bq GH ["_law_pieces","_law_tracks_here","_law_one","_law_t","_law_q"]:=by
 intro ds Qr hl h;obtain⟨ps,tr,o,t,rfl,hn,ht,ho,q0,q1⟩:=h;show GH _ [.fz (j8 ps),.fz (.lst (tr.map .int)),.fz (.int o),.fz (.int t),.un];unfold GH;have big:=kN;have qG:∀i,i<ps.length->iR ps (i:Int)=some (kh ps i):=fun i hi=>by rw[Dn hi];exact pf hi
 have wG:∀i,i<ps.length->iR tr (i:Int)=some (l9 tr i):=fun i hi=>by rw[Fo (by omega)];exact pf (by omega)
 walk_at "px";refine xj ps.length (fun Q' h=>?_) (fun i ρ=>∃s:Sl,(∀q,q<i->¬wW ps tr o t q)/\ρ=[.fz (j8 ps),.fz (.lst (tr.map .int)),.fz (.int o),.fz (.int t),s]) ⟨_,fun q hq=>absurd hq (Nat.not_lt_zero _),rfl⟩ ?_ ?_
 ·unfold j8;walk_at "px";rw[ae];exact⟨by omega,by omega,by simpa using h⟩
 ·rintro i ρ hi ⟨s,hb,rfl⟩;have h1:=qG i hi;have h2:=qG o ho;have h3:=wG i hi;have nx:¬wW ps tr o t i->∀q,q<i+1->¬wW ps tr o t q:=fun hn q hq=>by
   by_cases Yg:q=i
   ·rw[Yg];exact hn
   ·exact hb q (by omega)
  have go:wW ps tr o t i->Qr (.fz (.bl false)):=fun h=>q0 ⟨i,hi,h⟩
  generalize hI:(∀q,q<i+1->¬wW ps tr o t q)=Inv at nx ⊢;unfold wW at nx go;generalize kh ps i=p at *;generalize kh ps o=po at *;generalize l9 tr i=ti at *;clear qG wG hb q0 q1 hl hI;unfold j8;walk_at "px";simp only[h1,h2,h3,jv,Fd,JN,JY,JX,aW,exists_eq_left'];walk_at "px";have hZ:Inv->∃s:Sl,Inv/\[Sl.fz (D.lst (List.map jv ps)),Sl.fz (D.lst (List.map D.int tr)),Sl.fz (D.int ↑o),Sl.fz (D.int t),Sl.fz (D.int ↑i)]=[Sl.fz (D.lst (List.map jv ps)),Sl.fz (D.lst (List.map D.int tr)),Sl.fz (D.int ↑o),Sl.fz (D.int t),s]:=fun h=>⟨_,h,rfl⟩
  generalize (∃s:Sl,Inv/\[Sl.fz (D.lst (List.map jv ps)),Sl.fz (D.lst (List.map D.int tr)),Sl.fz (D.int ↑o),Sl.fz (D.int t),Sl.fz (D.int ↑i)]=[Sl.fz (D.lst (List.map jv ps)),Sl.fz (D.lst (List.map D.int tr)),Sl.fz (D.int ↑o),Sl.fz (D.int t),s])=Z at hZ ⊢;have m1:(if po.l>p.l then po.l else p.l)=max p.l po.l:=by split<;>omega
  have m2:(if po.r<p.r then po.r else p.r)=min p.r po.r:=by split<;>omega
  rw[m1,m2];by_cases c0:0<=ti
  ·rw[if_pos c0];have core:(p.n=none\/p.n≠po.n)->if max p.l po.l<=min p.r po.r then if ti<t+po.k then if t<ti+p.k then Qr (R.fz (D.bl false)) else Z else Z else Z:=fun hc=>by
    split
    ·split
     ·split
      ·exact go ⟨c0,hc,by assumption,by assumption,by assumption⟩
      ·exact hZ (nx fun h=>absurd h.2.2.2.2 (by assumption))
     ·exact hZ (nx fun h=>absurd h.2.2.2.1 (by assumption))
    ·exact hZ (nx fun h=>absurd h.2.2.1 (by assumption))
   cases hp:p.n with
   | none=>exact core (.inl hp)
   | some w=>
    rw[hp] at core nx;refine⟨by rw[si];trivial,by rw[si];trivial,?_⟩;by_cases ce:some w=po.n
    ·rw[if_neg (by simpa using ce)];exact hZ (nx fun h=>by rcases h.2.1 with z | z;cases z;exact z ce)
    ·rw[if_pos (by simpa using ce)];exact core (.inr ce)
  ·rw[if_neg c0];exact hZ (nx fun h=>c0 h.1)
 ·rintro ρ ⟨s,hb,rfl⟩;walk_at "go";exact q1 hb
end Wc
open PySem L2 PyProof.Rows Wc
local macro_rules | `(tactic| walk_at "px")=>`(tactic| (repeat(first | walk_at "b" | simp only[AD,AN,tj,tV,uo,zm,rh,tQ])))
namespace Wc
open PySem L2 PyProof.Rows
def y7(ps:List Pc)(tr:List Int)(p q:Nat):Prop:=
 ((kh ps q).n=none\/(kh ps q).n≠(kh ps p).n)/\max (kh ps q).l (kh ps p).l<=min (kh ps q).r (kh ps p).r/\l9 tr q<l9 tr p+(kh ps p).k/\l9 tr p<l9 tr q+(kh ps q).k
theorem y7.symm{ps:List Pc}{tr:List Int}{p q:Nat}(h:y7 ps tr p q):y7 ps tr q p:=by
 obtain⟨h1,h2,h3,h4⟩:=h;refine⟨?_,by omega,h4,h3⟩;rcases h1 with h1 | h1
 ·rw[h1];cases (kh ps p).n with
  | none=>exact .inl rfl
  | some w=>exact .inr (by simp)
 ·exact .inr (Ne.symm h1)
structure wQ (ps:List Pc) (tr:List Int):Prop where
 len:tr.length=ps.length
 lo:∀q,q<ps.length->0<=l9 tr q
 no:∀p q,p<ps.length->q<ps.length->p≠q->¬y7 ps tr p q
def Bi:iF:=fun ds Q=>∃(ps:List Pc) (ts:List Tr) (tu:List Nat) (gG:Int),ds=[j8 ps,qc ts,.lst (tu.map dN),.int gG]/\ps.length<=1000/\E9 ps.length ts/\tu.Perm (List.range ps.length)/\∀tr,wQ ps tr->Q (.ow (tr.map .int))
theorem Rb(tr:List Int)(o:Nat)(t:Int)(h:o<tr.length)(q:Nat):l9 (tr.set o t) q=if q=o then t else l9 tr q:=by
 unfold l9;rw[List.getElem?_set];by_cases hq:q=o
 ·subst hq;simp[h]
 ·rw[if_neg (Ne.symm hq),if_neg hq]
theorem QA(f:Nat->Int)(n:Nat):∃B:Int,∀q,q<n->f q<=B:=by
 induction n with
 | zero=>exact⟨0,fun q h=>absurd h (Nat.not_lt_zero _)⟩
 | succ n ih=>
  obtain⟨B,hB⟩:=ih;refine⟨max B (f n),fun q hq=>?_⟩;by_cases h:q=n
  ·subst h;omega
  ·have:=hB q (by omega);omega
structure wO (ps:List Pc) (d:List Nat) (tr:List Int):Prop where
 len:tr.length=ps.length
 lo:∀q,q<ps.length->q∈d->0<=l9 tr q
 no:∀p q,p<ps.length->q<ps.length->p∈d->q∈d->p≠q->¬y7 ps tr p q
theorem wO.put{ps:List Pc}{d:List Nat}{tr:List Int}(P:wO ps d tr){o:Nat}{t:Int}(ho:o<ps.length)(hd:o∉d)(h0:0<=t)(hh:∀q,q<ps.length->¬wW ps tr o t q):wO ps (d++[o]) (tr.set o t):=by
 have hl:=P.len;have e:=fun q=>Rb tr o t (by omega) q
 refine⟨by simpa using hl,fun q hq hm=>?_,fun p q hp hq ud oW ij hb=>?_⟩
 ·rw[e];by_cases h:q=o
  ·rw[if_pos h];exact h0
  ·rw[if_neg h];rcases av.mp hm with z | z
   ·exact P.lo q hq z
   ·simp at z;exact absurd z h
 ·have k:∀q,q<ps.length->q∈d++[o]->q≠o->q∈d:=fun q _ hm h=>by
   rcases av.mp hm with z | z
   ·exact z
   ·simp at z;exact absurd z h
  have one:∀q,q<ps.length->q∈d++[o]->q≠o->¬y7 ps (tr.set o t) o q:=fun q hq hm h hb=>by
   obtain⟨b1,b2,b3,b4⟩:=hb;rw[e,if_neg h,e,if_pos rfl] at b3;rw[e,if_pos rfl,e,if_neg h] at b4;exact hh q hq ⟨P.lo q hq (k q hq hm h),b1,b2,b3,b4⟩
  by_cases h1:p=o
  ·subst h1;exact one q hq oW (Ne.symm ij) hb
  ·by_cases h2:q=o
   ·subst h2;exact one p hp ud h1 hb.symm
   ·unfold y7 at hb;rw[e,if_neg h2,e,if_neg h1] at hb;exact P.no p q hp hq (k p hp ud h1) (k q hq oW h2) ij hb
def Hr:TX:=(gB (oA 4 (jG (jT (f6 0)) [none] (gJ 0) mU (tQ (dC (.int 1)))))
 (gB (mS (w6 (gi (f6 2) gq)) (mQ 2 (il (gJ 5) (il (gJ 6) kW))) (gB (ig 7 (gk gU (j5 (gi (dC (.int 0)) (gi (dC (.int 0)) (gi (dC (.int 0)) (gi (dC (.int 1)) (gi (dC (.int 2)) gq)))))) (gk (oI (fun _ j=>0<j) fun i j=>.int (i%j)) (iN 2 t7 (gi (f6 3) (gi (gk i5 (f6 5) (dC (.int 700))) gq))) (dC (.int 5)))))
 (gB (mS (jT (f6 1)) (mQ 3 (il (gJ 8) (il (gJ 9) (il (gJ 10) kW)))) (jJ (gR (gk oEq (f6 9) (f6 6))) (ig 7 (iQ tV (gi (f6 7) (gi (gk i5 (xS 4 (f6 8)) (gk gU (gk gU (f6 0) (f6 8)) (dC (.int 3)))) gq)))) jI))
 (gB (Fs (wY (gR (C1 4 (iN 4 Bq (gi (f6 0) (gi (f6 4) (gi (f6 6) (gi (f6 7) gq)))))))) (ig 7 (gk i5 (f6 7) (dC (.int 1)))))
 (zm 4 (f6 6) (f6 7))))))
 (rh 4)))
theorem WL:kM 4 Bi Hr ["_law_pieces","_law_above","_law_turns_here","_law_seed","_law_tracks_here","_law_k","_law_one","_law_t","_law_p","_law_q","_law_c"]:=by
 intro ds Qr hl h;obtain⟨ps,ts,tu,gG,rfl,hn,hv,hp,q⟩:=h;show Hr _ [.fz (j8 ps),.fz (qc ts),.fz (.lst (tu.map dN)),.fz (.int gG),.un,.un,.un,.un,.un,.un,.un];unfold Hr;have big:=kN;have qG:∀i,i<ps.length->iR ps (i:Int)=some (kh ps i):=fun i hi=>by rw[Dn hi];exact pf hi
 have Ij:=hp.length_eq;rw[cW] at Ij;have Ii:∀o∈tu,o<ps.length:=fun o h=>bU.mp (hp.subset h)
 have Ae:tu.Nodup:=hp.nodup_iff.mpr List.nodup_range;walk_at "px";refine sj ps jv (fun _=>.int (-1)) (fun Q' h=>?_) (by omega) (fun p hp K1 k=>?_) ?_
 ·unfold j8;walk_at "px";exact h
 ·walk_at "px";exact k
 rw[show ps.map (fun _=>D.int (-1))=(ps.map fun _=>(-1:Int)).map D.int by rw[aL];rfl];walk_at "go";refine Ge tu dN (fun Q' h=>?_) (fun i ρ=>∃(tr:List Int) (a b c d e f:Sl),wO ps (tu.take i) tr/\ρ=[.fz (j8 ps),.fz (qc ts),.fz (.lst (tu.map dN)),.fz (.int gG),.ow (tr.map .int),a,b,c,d,e,f]) ⟨_,_,_,_,_,_,_,⟨by simp,fun q _ hq=>by simp at hq,fun p q _ _ h=>by simp at h⟩,rfl⟩ ?_ ?_
 ·walk_at "px";exact h
 ·rintro i o ρ hi ⟨tr,a,b,c,d,e,f,P,rfl⟩;have vx:i<tu.length:=(aB.mp hi).1;have ho:=Ii o (aU hi);have tk:tu.take (i+1)=tu.take i++[o]:=by rw[bL,hi];rfl
  have uN:o∉tu.take i:=by
   have h1:=(fK (i+1) tu).nodup Ae;rw[tk,fL] at h1;exact fun z=>h1.2.2 o z o (by simp) rfl
  rw[tk];rw[show dN o=D.int o from rfl];walk_at "px";refine⟨by omega,_,_,rfl,by omega,by omega,?_⟩;generalize vF _ _=mx;have m0:=bx mx (show(5:Int)≠0 by omega);have m1:=bw mx (show(0:Int)<5 by omega);obtain⟨t0,X7,IW⟩:∃t0:Int,0<=t0/\iR [D.int 0,D.int 0,D.int 0,D.int 1,D.int 2] (mx%5)=some (.int t0):=by
   have:mx%5=0\/mx%5=1\/mx%5=2\/mx%5=3\/mx%5=4:=by omega
   rcases this with z | z | z | z | z<;>rw[z]
   ·exact⟨0,by omega,rfl⟩
   ·exact⟨0,by omega,rfl⟩
   ·exact⟨0,by omega,rfl⟩
   ·exact⟨1,by omega,rfl⟩
   ·exact⟨2,by omega,rfl⟩
  refine⟨by omega,_,IW,?_⟩;have wG:∀i,i<ps.length->iR tr (i:Int)=some (l9 tr i):=fun i hi=>by rw[Fo (by rw[P.len];exact hi)];exact pf (by rw[P.len];exact hi)
  walk_at "go";refine vV ts dT (fun Q' h=>?_) (fun _ ρ=>∃(t:Int) (d e f:Sl),0<=t/\ρ=[.fz (j8 ps),.fz (qc ts),.fz (.lst (tu.map dN)),.fz (.int gG),.ow (tr.map .int),.fz (.int i),.fz (.int o),.fz (.int t),d,e,f]) ⟨_,_,_,_,X7,rfl⟩ ?_ ?_
  ·unfold qc;walk_at "px";exact h
  ·rintro j tt ρ hj ⟨t,d,e,f,h0,rfl⟩;obtain⟨v1,v2⟩:=hv tt (aU hj);have h1:=qG _ v1;have h2:=wG _ v1;unfold dT j8;walk_at "px";simp only[h1,h2,jv,JX,aW,exists_eq_left'];walk_at "px";split
   ·exact⟨_,_,_,_,by split<;>omega,rfl⟩
   ·exact⟨_,_,_,_,h0,rfl⟩
  ·rintro ρ ⟨t,d,e,f,h0,rfl⟩;walk_at "go";obtain⟨B,hB⟩:=QA (fun q=>l9 tr q+(kh ps q).k) ps.length;refine⟨fun m ρ=>∃t:Int,0<=t/\m=(B-t).toNat/\ρ=[.fz (j8 ps),.fz (qc ts),.fz (.lst (tu.map dN)),.fz (.int gG),.ow (tr.map .int),.fz (.int i),.fz (.int o),.fz (.int t),d,e,f],⟨_,_,h0,rfl,rfl⟩,?_⟩;rintro m ρ ⟨t,h0,rfl,rfl⟩;walk_at "px";refine⟨ps,tr,o,t,rfl,hn,P.len,ho,fun hh=>?_,fun hh=>?_⟩
   ·obtain⟨q,hq,h⟩:=hh;have h5:=hB q hq;have h6:=h.2.2.2.2;walk_at "px";exact⟨rfl,_,by omega,_,by omega,rfl,rfl⟩
   ·walk_at "px";refine⟨rfl,?_⟩;walk_at "go";refine⟨o,by rw[ae,P.len];exact KH ho,?_⟩;rw[<-List.map_set];exact⟨tr.set o t,_,_,_,_,_,_,P.put ho uN h0 hh,rfl⟩
 ·rintro ρ ⟨tr,a,b,c,d,e,f,P,rfl⟩;rw[bT] at P;walk_at "go";exact q tr ⟨P.len,fun q hq=>P.lo q hq (hp.symm.subset (bU.mpr hq)),fun p q h1 h2=>P.no p q h1 h2 (hp.symm.subset (bU.mpr h1)) (hp.symm.subset (bU.mpr h2))⟩
end Wc
open PySem L2 PyProof.Rows Wc
local macro_rules | `(tactic| walk_at "px")=>`(tactic| (repeat(first | walk_at "b" | simp only[t6,vT,tj,si,vL,AE])))
namespace Wc
open PySem L2 PyProof.Rows
theorem FG{ws:List Str}{most:Nat}{c:gu}(g:iM ws most c)(hm:most<=40):pL c:=⟨aK g.w2 hm,g.bl,aK g.ll (by decide),aK g.rl (by decide)⟩
theorem AY{ws:List Str}{most:Nat}{c:gu}(g:iM ws most c)(w:Str)(h:mI c w):w∈ws:=by
 rcases h with h | h | h | h
 ·exact g.pt w h
 ·exact g.pb w h
 ·exact g.lw w h
 ·exact g.rw_ w h
theorem Kb{l:List Str}(h:l.Pairwise pF):l.Nodup:=List.Pairwise.imp (S:=(·≠·)) (fun{a b} h e=>by
 rw[e] at h;unfold pF at h;rw[KJ] at h;cases h) h
theorem KA{α:Type}[DecidableEq α]{l:List α}(nd:l.Nodup)(w:α):l.count w=if w∈l then 1 else 0:=by
 by_cases h:w∈l
 ·rw[if_pos h];have h1:=(List.nodup_iff_count.mp nd) w;have h2:=List.count_pos_iff.mpr h;omega
 ·rw[if_neg h,cQ.mpr h]
theorem L1(c:gu)(w:Str)(k:Int):k∈pl c w↔k∈places c.top c.fZ c.left c.right w:=by
 unfold pl places;simp only[av];constructor
 ·rintro((h | h) | h)
  ·exact .inl (.inr h)
  ·exact .inl (.inl h)
  ·exact .inr h
 ·rintro((h | h) | h)
  ·exact .inl (.inr h)
  ·exact .inl (.inl h)
  ·exact .inr h
theorem Qz{c:gu}{w:Str}{k:Int}(h:k∈pl c w):mI c w:=by
 unfold pl at h;rcases av.mp h with h | h
 ·rcases av.mp h with h | h
  ·split at h
   ·rename_i h1;exact .inr (.inr (.inl h1))
   ·cases h
  ·obtain⟨n,hn,_⟩:=aO.mp h;have:=(aY.mp hn).2;simp only[Bool.or_eq_true,ef] at this;rcases this with h | h
   ·exact .inl (aU h)
   ·exact .inr (.inl (aU h))
 ·split at h
  ·rename_i h1;exact .inr (.inr (.inr h1))
  ·cases h
theorem Ra{ws:List Str}{most:Nat}{c:gu}(g:iM ws most c)(hm:most<=40){p:Int×Str}(hp:p∈c.gF):mI c p.2/\∃a b,u9 (pl c p.2)=some (a,b)/\a<p.1/\p.1<b:=by
 obtain⟨n,hn,Cg,_,⟨m,M,⟨i1,i2⟩,⟨j1,j2⟩,Zt,Zr⟩,_⟩:=g.be.at_ p hp;have hw:=g.w2;have m1:m∈pl c p.2:=by
  rw[L1];rcases av.mp i1 with h | h
  ·exact h
  ·simp at h;omega
 have M1:M∈pl c p.2:=by
  rw[L1];rcases av.mp j1 with h | h
  ·exact h
  ·simp at h;omega
 refine⟨Qz m1,?_⟩;have up:=C5 c p.2;generalize pl c p.2=l at m1 M1 up;cases l with
 | nil=>cases m1
 | cons a r=>
  have l1:=AZ up M M1;have l0:a<=m:=by
   rcases ar.mp m1 with h | h
   ·omega
   ·have:=(br.mp up).1 m h;omega
  refine⟨a,(a::r).getLast (by simp),?_,by omega,by omega⟩;simp only[u9];rw[if_neg (by omega)]
end Wc
open PySem L2 PyProof.Rows Wc
local macro_rules | `(tactic| walk_at "px")=>`(tactic| (repeat(first | walk_at "b" | simp only[t6,vT,tj,si,vb])))
namespace Wc
open PySem L2 PyProof.Rows
def Fm(c:gu):Prop:=∀(n:Nat) (u v:Str),c.top[n]?=some (some u)->c.fZ[n]?=some (some v)->False
noncomputable def vd(p:Option Str×Option Str):Option Str:=match p.1 with
 | none=>p.2
 | some _=>none
def Bp:iF:=fun ds Q=>∃(ws:List Str) (most:Nat) (c:gu),ds=[.lst c.parts]/\ws.length<=40/\most<=40/\iM ws most c/\∀c',iM ws most c'->c'.gF=[]->Fm c'->Q (.ow c'.parts)
def GG:TX:=(gB (zf (f6 0) (zb 7 (il (gJ 1) (il (gJ 2) (il (gJ 3) (il (gJ 4) (il (gJ 5) (il (gJ 6) (il (gJ 7) kW)))))))))
 (gB (ig 2 (jG (vb (gi (f6 1) (gi (f6 2) gq))) [none,none] (mQ 2 (il (gJ 0) (il (gJ 1) kW))) mU (wL (gR (gk (pz true) (f6 0) (dC .non))) (dC .non) (f6 1))))
 (gB (ig 8 (iQ xi (gi (jG (jT (gk i5 (gk i5 (gk i5 (f6 1) (f6 2)) (f6 3)) (f6 4))) [none] (gJ 0) (gR (gk (pz true) (f6 0) (dC .non))) (f6 0)) gq)))
 (gB (ig 9 (jG (jT (f6 8)) [none,some 1,some 2,some 3,some 4] (gJ 0) (gR (gk oEq (iN 5 xm (gi (f6 1) (gi (f6 2) (gi (f6 3) (gi (f6 4) (gi (f6 0) gq)))))) (dC (.int 1)))) (f6 0)))
 (gB (ig 1 (jG (jT (f6 1)) [none,some 9] (gJ 0) mU (wL (gR (gk (mR false) (f6 0) (f6 1))) (dC .non) (f6 0))))
 (gB (ig 2 (jG (jT (f6 2)) [none,some 9] (gJ 0) mU (wL (gR (gk (mR false) (f6 0) (f6 1))) (dC .non) (f6 0))))
 (gB (ig 3 (jG (jT (f6 3)) [none,some 9] (gJ 0) (gR (gk (mR true) (f6 0) (f6 1))) (f6 0)))
 (gB (ig 4 (jG (jT (f6 4)) [none,some 9] (gJ 0) (gR (gk (mR true) (f6 0) (f6 1))) (f6 0)))
 (gB (ig 5 (jG (jT (f6 5)) [none,some 1,some 2,some 3,some 4] (gJ 0) (gR (gk (mH fun i j=>.bl (decide (j<i))) (iN 5 xm (gi (f6 1) (gi (f6 2) (gi (f6 3) (gi (f6 4) (gi (gk gU (f6 0) (dC (.int 0))) gq)))))) (dC (.int 1)))) (f6 0)))
 (jt (j5 (gi (f6 1) (gi (f6 2) (gi (f6 3) (gi (f6 4) (gi (f6 5) (gi (j5 gq) (gi (f6 7) gq))))))))))))))))))
theorem V2:kM 1 Bp GG ["_law_lists","_law_top","_law_bottom","_law_left","_law_right","_law_wide","_law_bends_here","_law_keeps_here","_law_some","_law_lone"]:=by
 intro ds Qr hl h;obtain⟨ws,most,c,rfl,p4,hm,g,q⟩:=h;show GG _ [.fz (.lst c.parts),.un,.un,.un,.un,.un,.un,.un,.un,.un];unfold GG;have big:=kN;have w2:=g.w2;have bl:=g.bl;unfold gu.parts;walk_at "px";unfold dP;walk_at "go";refine sj (c.top.zip c.fZ) (fun p=>.tup [dO p.1,dO p.2]) (fun p=>dO (vd p)) (fun Q' h=>?_) (by simp;omega) (fun p hp K1 k=>?_) ?_
 ·walk_at "px";rw[DX];exact h
 ·walk_at "px";unfold vd at k;cases h1:p.1 with
  | none=>rw[h1] at k;exact k
  | some u=>rw[h1] at k;exact k
 rw[show(c.top.zip c.fZ).map (fun p=>dO (vd p))=((c.top.zip c.fZ).map vd).map dO by rw[aL];rfl];have pb:jK ws ((c.top.zip c.fZ).map vd):=fun w hw=>by
  obtain⟨p,hp,e⟩:=aO.mp hw;have:=(cw hp).2;unfold vd at e;cases h1:p.1 with
  | none=>rw[h1] at e;exact g.pb w (by rw[<-e];exact this)
  | some u=>rw[h1] at e;cases e
 have nb:∀(n:Nat) (u v:Str),c.top[n]?=some (some u)->((c.top.zip c.fZ).map vd)[n]?=some (some v)->False:=fun n u v h1 h2=>by
  rw[aH] at h2;obtain⟨p,hp,e⟩:=cX.mp h2;obtain⟨p1,p2⟩:=p;obtain⟨z1,z2⟩:=eh.mp hp;rw[h1] at z1;cases z1;simp[vd] at e
 have yP:((c.top.zip c.fZ).map vd).length=c.top.length:=by simp;omega
 generalize (c.top.zip c.fZ).map vd=bot at pb nb yP ⊢;walk_at "go";have ll:=g.ll;have rl:=g.rl;refine sv (c.top++bot++c.left.map some++c.right.map some) dO dO (fun x=>x.isSome) (fun Q' h=>?_) (by simp;omega) (fun x hx K1 K0 k1 k0=>?_) ?_
 ·unfold dS;walk_at "px";refine⟨by simp;omega,by simp;omega,by simp;omega,?_⟩;rw[aI,aI,aI,aL,aL] at h;exact h
 ·walk_at "px";cases x with
  | none=>exact k0 rfl
  | some x=>exact k1 rfl
 rw[FZ];have qB:∀w,w∈(c.top++bot++c.left.map some++c.right.map some).filterMap id↔some w∈c.top\/some w∈bot\/w∈c.left\/w∈c.right:=by
  intro w;simp[ec,or_assoc]
 have kS:((c.top++bot++c.left.map some++c.right.map some).filterMap id).length<=200:=by
  refine aK (di _ _) ?_;simp;omega
 generalize (c.top++bot++c.left.map some++c.right.map some).filterMap id=all at qB kS ⊢;have NO:∀w,w∈all->w∈ws:=fun w hw=>by
  rcases(qB w).mp hw with h | h | h | h
  ·exact g.pt w h
  ·exact pb w h
  ·exact g.lw w h
  ·exact g.rw_ w h
 simp only[xZ,xi,zK];refine⟨by omega,fun l nd h=>?_,fun l nd h hs=>?_⟩
 ·have:=yc nd fun w hw=>NO w (h w hw);omega
 have N0:l.length<=40:=by have:=yc nd fun w hw=>NO w ((h w).mp hw);omega
 walk_at "go";refine sv l D.str D.str (fun w=>decide (iZ c.top bot c.left c.right w=1)) (fun Q' h=>?_) (by omega) (fun w _ K1 K0 k1 k0=>?_) ?_
 ·walk_at "px";exact h
 ·walk_at "px";refine⟨c.top,bot,c.left,c.right,w,rfl,by omega,?_⟩;walk_at "px";by_cases hc:iZ c.top bot c.left c.right w=1
  ·rw[if_pos (by omega)];exact k1 (by simpa using hc)
  ·rw[if_neg (by omega)];exact k0 (by simpa using hc)
 generalize sN:l.filter (fun w=>decide (iZ c.top bot c.left c.right w=1))=gy;have yV:=MQ (ws:=l) (fun w z=>(h w).mpr ((qB w).mpr (.inl z))) (fun w z=>(h w).mpr ((qB w).mpr (.inr (.inl z)))) (fun w z=>(h w).mpr ((qB w).mpr (.inr (.inr (.inl z))))) (fun w z=>(h w).mpr ((qB w).mpr (.inr (.inr (.inr z))))) gy sN.symm;walk_at "go";refine Du gy c.top 1 9 _ _ (by omega) rfl rfl ?_;walk_at "go";refine Du gy bot 2 9 _ _ (by omega) rfl rfl ?_;walk_at "go";refine DW gy c.left 3 9 _ _ (by omega) rfl rfl ?_;walk_at "go";refine DW gy c.right 4 9 _ _ (by omega) rfl rfl ?_;have Em:jK ws (c.top.map (l8 gy)):=Eb g.pt;have xt:jK ws (bot.map (l8 gy)):=Eb pb;have HQ:(c.left.filter fun x=>decide (x∉gy)).Pairwise pF:=g.lo.sublist dU;have HG:(c.right.filter fun x=>decide (x∉gy)).Pairwise pF:=g.ro.sublist dU;have HP:∀w∈(c.left.filter fun x=>decide (x∉gy)),w∈ws:=fun w h=>g.lw w (aY.mp h).1
 have t9:∀w∈(c.right.filter fun x=>decide (x∉gy)),w∈ws:=fun w h=>g.rw_ w (aY.mp h).1
 have HR:(c.left.filter fun x=>decide (x∉gy)).length<=8:=aK (bz _ _) ll;have HH:(c.right.filter fun x=>decide (x∉gy)).length<=8:=aK (bz _ _) rl;have iP:(c.top.map (l8 gy)).length=c.top.length:=by simp
 have uS:(bot.map (l8 gy)).length=c.top.length:=by simpa using yP
 have we:∀(n:Nat) (u v:Str),(c.top.map (l8 gy))[n]?=some (some u)->(bot.map (l8 gy))[n]?=some (some v)->False:=fun n u v h1 h2=>by
  have un:∀(l:List (Option Str)) (u:Str),(l.map (l8 gy))[n]?=some (some u)->∃u',l[n]?=some (some u'):=fun l u h=>by
   rw[aH] at h;obtain⟨x,hx,e⟩:=cX.mp h;cases x with
   | none=>cases e
   | some x=>exact⟨x,hx⟩
  obtain⟨u',h1⟩:=un _ _ h1;obtain⟨v',h2⟩:=un _ _ h2;exact nb n u' v' h1 h2
 generalize c.top.map (l8 gy)=jV at *;generalize bot.map (l8 gy)=gO at *;generalize (c.left.filter fun x=>decide (x∉gy))=iO at *;generalize (c.right.filter fun x=>decide (x∉gy))=right' at *;unfold dW;walk_at "go";have wl:=g.wl;refine sv c.wide wJ wJ (fun p=>decide (1<iZ jV gO iO right' p.1)) (fun Q' h=>?_) (by omega) (fun p _ K1 K0 k1 k0=>?_) ?_
 ·walk_at "px";exact h
 ·rw[show wJ p=D.tup [.str p.1,.int p.2] from rfl];walk_at "px";refine⟨_,rfl,jV,gO,iO,right',p.1,rfl,by omega,?_⟩;walk_at "px";by_cases hc:1<iZ jV gO iO right' p.1
  ·rw[if_pos (by omega)];exact k1 (by simpa using hc)
  ·rw[if_neg (by omega)];exact k0 (by simpa using hc)
 have Nr:(c.wide.filter fun p=>decide (1<iZ jV gO iO right' p.1)).length<=8:=aK (bz _ _) wl;have Nq:((c.wide.filter fun p=>decide (1<iZ jV gO iO right' p.1)).map (·.1)).Pairwise pF:=g.wo.sublist (List.filter_sublist.map _);have Np:∀p∈(c.wide.filter fun p=>decide (1<iZ jV gO iO right' p.1)),p.1∈ws/\(p.2=2\/p.2=3)/\1<iZ jV gO iO right' p.1:=fun p hp=>by
  obtain⟨h1,h2⟩:=aY.mp hp;exact⟨(g.ww p h1).1,(g.ww p h1).2.1,by simpa using h2⟩
 generalize (c.wide.filter fun p=>decide (1<iZ jV gO iO right' p.1))=ql at Nr Nq Np ⊢;walk_at "go";have ke:=g.ke;have w1:=g.w1;refine⟨by omega,by omega,q ⟨jV,gO,iO,right',ql,[],c.keeps⟩ ⟨by dsimp only;omega,by dsimp only;omega,by dsimp only;omega,Em,xt,HR,HP,HQ,HH,t9,HG,yV,Nr,Nq,Np,⟨by simp,by simp,by simp⟩,by dsimp only;rw[iP];exact ke⟩ rfl we⟩
theorem DT(w:Str)(k a x:Int)(r:List Int):qY w k (a::x::r)=⟨some w,a,x,k⟩::qY w k (x::r):=by
 unfold qY;simp
theorem Fl(w:Str)(k:Int):∀(bs:List Int),bs.Pairwise (·<·)->∀p∈qY w k bs,p.n=some w/\p.k=k/\p.l<p.r/\p.l∈bs/\p.r∈bs
 | [],_,p,h=>by simp[qY] at h
 | [a],_,p,h=>by simp[qY] at h
 | a::x::r,u,p,h=>by
  rw[DT] at h;rcases ar.mp h with rfl | h
  ·exact⟨rfl,rfl,(br.mp u).1 x (by simp),by simp,by simp⟩
  ·obtain⟨h1,h2,h3,h4,h5⟩:=Fl w k (x::r) (br.mp u).2 p h;exact⟨h1,h2,h3,aD _ h4,aD _ h5⟩
theorem Qy(w:Str)(k a x:Int)(r:List Int)(u:(a::x::r).Pairwise (·<·)):(qY w k (a::x::r)).filter (fun p=>oM p a)=[⟨some w,a,x,k⟩]:=by
 have h1:=br.mp u;rw[DT,List.filter_cons_of_pos (by have:=h1.1 x (by simp);simp[oM];omega)];congr 1
 rw[dX];intro p hp;obtain⟨_,_,_,h4,_⟩:=Fl w k (x::r) h1.2 p hp;have:=h1.1 p.l h4;simp[oM];omega
theorem Ka(w:Str)(k:Int):∀(a x:Int) (r:List Int),(a::x::r).Pairwise (·<·)->((qY w k (a::x::r)).filter (fun p=>oM p ((x::r).getLast (by simp)))).length=1
 | a,x,[],u=>by
  have:=(br.mp u).1 x (by simp);have hb:oM ⟨some w,a,x,k⟩ x=true:=by
   show(decide (a<=x)&&decide (x<=x))=true;rw[cg (show a<=x by omega),cg (cZ x)];rfl
  rw[DT];show(List.filter (fun p=>oM p x) (⟨some w,a,x,k⟩::qY w k [x])).length=1;rw[List.filter_cons_of_pos (p:=fun p=>oM p x) hb];simp[qY]
 | a,x,y::r,u=>by
  have h1:=br.mp u;have h2:=br.mp h1.2;have ih:=Ka w k x y r h1.2;have e:(x::y::r).getLast (by simp)=(y::r).getLast (by simp):=List.getLast_cons (by simp);have hx:x<(y::r).getLast (by simp):=h2.1 _ (fX _);rw[DT,e,List.filter_cons_of_neg (by simp[oM];omega)];exact ih
section
variable {ws:List Str} {most:Nat} {c:gu} {w:Str}
theorem Kz(g:iM ws most c)(h:w∈c.left\/w∈c.right):∃a∈pl c w,∃b∈pl c w,a<b:=by
 have hc:=g.cnt w;have nl:=KA (Kb g.lo) w;have nr:=KA (Kb g.ro) w;have top:∀n:Nat,c.top[n]?=some (some w)->(n:Int)∈pl c w/\n<c.top.length:=fun n hn=>by
  have gL:=(aB.mp hn).1;refine⟨?_,gL⟩;unfold pl;exact dn _ (bg _ (aO.mpr ⟨n,aY.mpr ⟨bU.mpr gL,by simp[hn]⟩,rfl⟩))
 have bot:∀n:Nat,c.fZ[n]?=some (some w)->(n:Int)∈pl c w/\n<c.top.length:=fun n hn=>by
  have gL:n<c.top.length:=by rw[<-g.bl];exact(aB.mp hn).1
  refine⟨?_,gL⟩;unfold pl;exact dn _ (bg _ (aO.mpr ⟨n,aY.mpr ⟨bU.mpr gL,by simp[hn]⟩,rfl⟩))
 have lf:w∈c.left->(-1:Int)∈pl c w:=fun h=>by unfold pl;simp[h]
 have rt:w∈c.right->(c.top.length:Int)∈pl c w:=fun h=>by unfold pl;simp[h]
 have mid:(∃n:Nat,(n:Int)∈pl c w/\n<c.top.length)->∃a∈pl c w,∃b∈pl c w,a<b:=fun⟨n,h1,h2⟩=>by
  rcases h with h | h
  ·exact⟨_,lf h,_,h1,by omega⟩
  ·exact⟨_,h1,_,rt h,by omega⟩
 by_cases h1:some w∈c.top
 ·obtain⟨n,hn⟩:=eR.mp h1;exact mid ⟨n,top n hn⟩
 ·by_cases h2:some w∈c.fZ
  ·obtain⟨n,hn⟩:=eR.mp h2;exact mid ⟨n,bot n hn⟩
  ·unfold iZ at hc;rw[cQ.mpr h1,cQ.mpr h2,nl,nr] at hc;by_cases h3:w∈c.left
   ·by_cases h4:w∈c.right
    ·exact⟨_,lf h3,_,rt h4,by omega⟩
    ·simp[h3,h4] at hc
   ·by_cases h4:w∈c.right
    ·simp[h3,h4] at hc
    ·rcases h with h | h
     ·exact absurd h h3
     ·exact absurd h h4
theorem FV(h:∃a∈pl c w,∃b∈pl c w,a<b):∃a b,u9 (pl c w)=some (a,b)/\a<b/\(∀k∈pl c w,a<=k/\k<=b)/\a∈pl c w/\b∈pl c w:=by
 obtain⟨x,hx,y,hy,gL⟩:=h;have up:=C5 c w;generalize pl c w=l at hx hy up;cases l with
 | nil=>cases hx
 | cons a r=>
  have lm:=AZ up;have lo:∀k∈a::r,a<=k:=fun k hk=>by
   rcases ar.mp hk with rfl | hk
   ·omega
   ·have:=(br.mp up).1 k hk;omega
  have h1:=lo x hx;have h2:=lm y hy;refine⟨a,(a::r).getLast (by simp),?_,by omega,fun k hk=>⟨lo k hk,lm k hk⟩,by simp,fX _⟩;simp only[u9];rw[if_neg (by omega)]
theorem DY(k:Int)(h:k∈pl c w):-1<=k/\k<=c.top.length:=by
 unfold pl at h;rcases av.mp h with h | h
 ·rcases av.mp h with h | h
  ·split at h
   ·simp at h;omega
   ·cases h
  ·obtain⟨n,hn,rfl⟩:=aO.mp h;have:=bU.mp (aY.mp hn).1;omega
 ·split at h
  ·simp at h;omega
  ·cases h
theorem Gw(g:iM ws most c)(hm:most<=40)(gc:Bool){a b:Int}(h:u9 (pl c w)=some (a,b))(kU:a<b):([a]++(if gc then o9 c w else [])++[b]).Pairwise (·<·):=by
 have bi:∀x∈(if gc then o9 c w else []),a<x/\x<b:=fun x hx=>by
  cases gc with
  | false=>simp at hx
  | true=>
   simp only[aR] at hx;unfold o9 at hx;obtain⟨p,hp,rfl⟩:=aO.mp hx;obtain⟨yI,Iy⟩:=aY.mp hp;obtain⟨_,a',b',e,h1,h2⟩:=Ra g hm yI;rw[show p.2=w by simpa using Iy,h] at e;cases e;exact⟨h1,h2⟩
 have bu:(if gc then o9 c w else []).Pairwise (·<·):=by
  cases gc with
  | false=>simp
  | true=>
   simp only[aR];unfold o9;rw[bX];exact g.be.up.sublist dU
 rw[bF];refine⟨?_,by simp,fun x hx y hy=>?_⟩
 ·rw[bF];exact⟨by simp,bu,fun x hx y hy=>by simp at hx;subst hx;exact(bi y hy).1⟩
 ·simp at hy;subst hy;rcases av.mp hx with hx | hx
  ·simp at hx;subst hx;exact kU
  ·exact(bi x hx).2
theorem Kx(g:iM ws most c)(hm:most<=40)(gc:Bool){p:Pc}(h:p∈px c gc w):p.n=some w/\p.k=sV c.wide w/\p.l<p.r/\-1<=p.l/\p.r<=c.top.length:=by
 unfold px at h;split at h
 ·cases h
 ·rename_i q e;obtain⟨a,b⟩:=q;have kU:a<b/\(∀k∈pl c w,a<=k/\k<=b)/\a∈pl c w/\b∈pl c w:=by
   have:∃a∈pl c w,∃b∈pl c w,a<b:=by
    have up:=C5 c w;generalize pl c w=l at e up;cases l with
    | nil=>cases e
    | cons x r=>
     simp only[u9] at e;split at e
     ·cases e
     ·rename_i ij
      exact⟨x,by simp,_,fX (by simp),by
       have:=AZ up x (by simp);omega⟩
   obtain⟨a',b',e',h1,h2,h3,h4⟩:=FV this;rw[e] at e';cases e';exact⟨h1,h2,h3,h4⟩
  have bu:=Gw g hm gc e kU.1;obtain⟨h1,h2,h3,h4,h5⟩:=Fl w _ _ bu p h;have lo:∀x∈[a]++(if gc then o9 c w else [])++[b],a<=x/\x<=b:=fun x hx=>by
   have u2:=bu;rw[aM,eS] at hx u2;have z1:=br.mp u2;have z2:=(bF.mp z1.2).2.2;rcases ar.mp hx with rfl | hx
   ·exact⟨by omega,by omega⟩
   ·refine⟨by have:=z1.1 x hx;omega,?_⟩;rcases av.mp hx with hx | hx
    ·have:=z2 x hx b (by simp);omega
    ·simp at hx;omega
  have b1:=DY a kU.2.2.1;have b2:=DY b kU.2.2.2;have l1:=lo _ h4;have l2:=lo _ h5;exact⟨h1,h2,h3,by omega,by omega⟩
theorem Gd(gc:Bool){p:Pc}(h:p∈px c gc w):p.n=some w:=by
 unfold px at h;split at h
 ·cases h
 ·unfold qY at h;obtain⟨_,_,rfl⟩:=aO.mp h;rfl
theorem Hb(gc:Bool){l:List Str}(nd:l.Nodup)(hw:w∈l):(gh c gc l).filter (fun p=>decide (p.n=some w))=px c gc w:=by
 unfold gh
 rw[List.filter_append,show(vJ c).filter (fun p=>decide (p.n=some w))=[] by
  rw[dX];intro p hp;obtain⟨_,_,rfl⟩:=aO.mp hp;simp,fA]
 induction l with
 | nil=>cases hw
 | cons x r ih=>
  rw[bO] at nd;rw[bB,List.filter_append];by_cases h:x=w
  ·subst h;rw[List.filter_eq_self.mpr fun p hp=>by simp[Gd gc hp]];have:(r.flatMap (px c gc)).filter (fun p=>decide (p.n=some x))=[]:=by
    rw[dX];intro p hp;obtain⟨y,hy,hp⟩:=dh.mp hp;rw[Gd gc hp];simp only[aW,aS];exact fun z=>nd.1 (z▸hy)
   rw[this,ba]
  ·have:(px c gc x).filter (fun p=>decide (p.n=some w))=[]:=by
    rw[dX];intro p hp;rw[Gd gc hp];simpa using h
   rw[this,fA];exact ih nd.2 (by rcases ar.mp hw with z | z;exact absurd z.symm h;exact z)
theorem Nj(gc:Bool){l:List Str}(nd:l.Nodup)(hw:w∈l){p:Pc}(h:p∈gh c gc l)(hn:p.n=some w):p∈px c gc w:=by
 rw[<-Hb gc nd hw];exact aY.mpr ⟨h,by simpa using hn⟩
theorem J9(ps:List Pc)(k:Int):(ky ps (some w) k).length=((ps.filter fun p=>decide (p.n=some w)).filter fun p=>oM p k).length:=by
 unfold ky;rw[ae,List.filter_filter];have:∀(n:Nat),(List.filter (fun p=>decide (p.1.n=some w)&&oM p.1 k) (ps.zipIdx n)).length=(ps.filter fun a=>oM a k&&decide (a.n=some w)).length:=by
  induction ps with
  | nil=>intro n;rfl
  | cons p r ih=>
   intro n;rw[List.zipIdx_cons,List.filter_cons,List.filter_cons,Bool.and_comm];split
   ·simp[ih]
   ·exact ih _
 exact this 0
theorem FF(h:w∈c.left\/w∈c.right):mI c w:=by
 rcases h with h | h
 ·exact .inr (.inr (.inl h))
 ·exact .inr (.inr (.inr h))
theorem LO(g:iM ws most c)(hm:most<=40)(gc:Bool){l:List Str}(N:m7 c l)(h:w∈c.left):(ky (gh c gc l) (some w) (-1)).length=1:=by
 rw[J9,Hb gc N.nd ((N.mem w).mpr (FF (.inl h)))];obtain⟨a,b,e,kU,hb,ha,_⟩:=FV (Kz g (.inl h));have a1:a=-1:=by
  have h1:=(hb (-1) (by unfold pl;simp[h])).1;have h2:=(DY a ha).1;omega
 subst a1;have bu:=Gw g hm gc e kU;unfold px;rw[e];show(List.filter _ (qY w _ ([-1]++(if gc then o9 c w else [])++[b]))).length=1;rw[aM,eS] at bu ⊢;cases hr:(if gc then o9 c w else [])++[b] with
 | nil=>simp at hr
 | cons x r=>
  rw[hr] at bu;rw[Qy _ _ _ _ _ bu];rfl
theorem L0(g:iM ws most c)(hm:most<=40)(gc:Bool){l:List Str}(N:m7 c l)(h:w∈c.right):(ky (gh c gc l) (some w) c.top.length).length=1:=by
 rw[J9,Hb gc N.nd ((N.mem w).mpr (FF (.inr h)))];obtain⟨a,b,e,kU,hb,_,EC⟩:=FV (Kz g (.inr h));have b1:b=c.top.length:=by
  have h1:=(hb c.top.length (by unfold pl;simp[h])).2;have h2:=(DY b EC).2;omega
 subst b1;have bu:=Gw g hm gc e kU;unfold px;rw[e];show(List.filter _ (qY w _ ([a]++(if gc then o9 c w else [])++[(c.top.length:Int)]))).length=1;rw[aM,eS] at bu ⊢;cases hr:(if gc then o9 c w else [])++[(c.top.length:Int)] with
 | nil=>simp at hr
 | cons x r=>
  rw[hr] at bu;have Cm:(x::r).getLast (by simp)=(c.top.length:Int):=by
   have:((if gc then o9 c w else [])++[(c.top.length:Int)]).getLast (by simp)=(c.top.length:Int):=by simp
   rw[<-this];congr 1
   exact hr.symm
  have:=Ka w (sV c.wide w) a x r bu;rw[Cm] at this;exact this
end
section
noncomputable def u7(c:gu)(w:Str)(n:Nat):List iG:=(if c.top[n]?=some (some w) then [(("top":Str),(n:Int))] else [])++(if c.fZ[n]?=some (some w) then [(("bottom":Str),(n:Int))] else [])
noncomputable def v7(c:gu)(w:Str):List iG:=(List.range c.top.length).flatMap (u7 c w)
noncomputable def B5(c:gu)(ps:List Pc)(tr:List Int)(w:Str):List iG:=if w∈c.left then(ky ps (some w) (-1)).map fun j=>("left",l9 tr j) else []
noncomputable def BO(c:gu)(ps:List Pc)(tr:List Int)(w:Str):List iG:=if w∈c.right then(ky ps (some w) c.top.length).map fun j=>("right",l9 tr j) else []
noncomputable def oX(c:gu)(ps:List Pc)(tr:List Int)(w:Str):List iG:=B5 c ps tr w++v7 c w++BO c ps tr w
noncomputable def CF(c:gu)(ps:List Pc)(tr:List Int)(w:Str):En->iG
 | .lf=>("left",l9 tr ((ky ps (some w) (-1)).headD 0))
 | .tp n=>("top",n)
 | .bt n=>("bottom",n)
 | .rt=>("right",l9 tr ((ky ps (some w) c.top.length).headD 0))
structure i7 (c:gu) (gc:Bool) (l:List Str) (tr:List Int):Prop where
 good:∃(ws:List Str) (most:Nat),ws.length<=40/\most<=16/\iM ws most c
 nA:m7 c l
 vo:wQ (gh c gc l) tr
variable {c:gu} {gc:Bool} {l:List Str} {tr:List Int}
theorem J8{α β:Type}(f:α->β)(d:α){l:List α}(h:l.length=1):l.map f=[f (l.headD d)]:=by
 match l,h with
 | [a],_=>rfl
theorem C4(L:i7 c gc l tr)(w:Str):(nP c w).map (CF c (gh c gc l) tr w)=oX c (gh c gc l) tr w:=by
 obtain⟨ws,most,_,hm,g⟩:=L.good;unfold nP oX;rw[aI,aI];congr 1
 ·congr 1
  ·unfold B5;split
   ·rename_i h;rw[J8 _ 0 (LO g (by omega) gc L.nA h)];rfl
   ·rfl
  ·unfold v7;rw[List.map_flatMap];congr 1
   funext n
   unfold pY u7;rw[aI];by_cases h1:c.top[n]?=some (some w)<;>by_cases h2:c.fZ[n]?=some (some w)<;>simp only[h1,h2,aR,aP]<;>rfl
 ·unfold BO;split
  ·rename_i h;rw[J8 _ 0 (L0 g (by omega) gc L.nA h)];rfl
  ·rfl
theorem Qx{w:Str}{e:iG}(h:e∈v7 c w):∃n:Nat,e.2=n/\((e.1="top"/\c.top[n]?=some (some w))\/(e.1="bottom"/\c.fZ[n]?=some (some w))):=by
 unfold v7 at h;obtain⟨n,_,h⟩:=dh.mp h;unfold u7 at h;rcases av.mp h with h | h
 ·split at h
  ·rename_i z;simp at h;subst h;exact⟨n,rfl,.inl ⟨rfl,z⟩⟩
  ·cases h
 ·split at h
  ·rename_i z;simp at h;subst h;exact⟨n,rfl,.inr ⟨rfl,z⟩⟩
  ·cases h
theorem AV{ps:List Pc}{n:Option Str}{k:Int}{j:Nat}(h:j∈ky ps n k):j<ps.length/\(kh ps j).n=n/\(kh ps j).l<=k/\k<=(kh ps j).r:=by
 unfold ky at h;obtain⟨p,hp,rfl⟩:=aO.mp h;obtain⟨h1,h2⟩:=aY.mp hp;have h3:=List.mem_zipIdx h1;obtain⟨_,h3,h4⟩:=h3;have hl:p.2<ps.length:=by omega
 have e:kh ps p.2=p.1:=by
  rw[Dn hl];simpa using h4.symm
 rw[e];simp only[oM,cx,aS] at h2;exact⟨hl,h2.1,h2.2.1,h2.2.2⟩
theorem Q9{ws:List Str}{most:Nat}(g:iM ws most c)(w:Str):1<=sV c.wide w:=by
 have h:=fun p hp=>(g.ww p hp).2.1
 generalize c.wide=l at h;induction l with
 | nil=>exact cZ 1
 | cons p r ih=>
  unfold sV;split
  ·have:=h p (by simp);omega
  ·exact ih fun q hq=>h q (aD _ hq)
theorem LN(L:i7 c gc l tr){w v:Str}(ij:w≠v)(hw:w∈l)(hv:v∈l){k:Int}{i j:Nat}(hi:i∈ky (gh c gc l) (some w) k)(hj:j∈ky (gh c gc l) (some v) k):l9 tr i≠l9 tr j:=by
 obtain⟨ws,most,_,hm,g⟩:=L.good;obtain⟨i1,i2,i3,i4⟩:=AV hi;obtain⟨j1,j2,j3,j4⟩:=AV hj;intro e;have kk:∀(q:Nat) (u:Str),q<(gh c gc l).length->u∈l->(kh (gh c gc l) q).n=some u->1<=(kh (gh c gc l) q).k:=fun q u hq hu hn=>by
  have oW:kh (gh c gc l) q∈gh c gc l:=by rw[Dn hq];exact cq hq
  rw[(Kx g (by omega) gc (Nj gc L.nA.nd hu oW hn)).2.1];exact Q9 g u
 have k1:=kk i w i1 hw i2;have k2:=kk j v j1 hv j2;refine L.vo.no i j i1 j1 (fun z=>ij ?_) ⟨.inr ?_,by omega,by omega,by omega⟩
 ·rw[z,j2] at i2;exact(bE i2).symm
 ·rw[i2,j2];exact fun z=>ij (bE z).symm
theorem Q8(L:i7 c gc l tr){w v:Str}(hw:w∈l)(hv:v∈l){e:iG}(h1:e∈oX c (gh c gc l) tr w)(h2:e∈oX c (gh c gc l) tr v):w=v:=by
 refine Decidable.byContradiction fun ij=>?_
 have parts:∀u,e∈oX c (gh c gc l) tr u->(e.1="left"/\∃j∈ky (gh c gc l) (some u) (-1),e.2=l9 tr j)\/(e.1="right"/\∃j∈ky (gh c gc l) (some u) c.top.length,e.2=l9 tr j)\/∃n:Nat,e.2=n/\((e.1="top"/\c.top[n]?=some (some u))\/(e.1="bottom"/\c.fZ[n]?=some (some u))):=fun u h=>by
  unfold oX at h;rcases av.mp h with h | h
  ·rcases av.mp h with h | h
   ·unfold B5 at h;split at h
    ·obtain⟨j,hj,rfl⟩:=aO.mp h;exact .inl ⟨rfl,j,hj,rfl⟩
    ·cases h
   ·exact .inr (.inr (Qx h))
  ·unfold BO at h;split at h
   ·obtain⟨j,hj,rfl⟩:=aO.mp h;exact .inr (.inl ⟨rfl,j,hj,rfl⟩)
   ·cases h
 rcases parts w h1 with⟨s1,i,hi,ei⟩ | ⟨s1,i,hi,ei⟩ | ⟨n,en,hn⟩
 ·rcases parts v h2 with⟨s2,j,hj,ej⟩ | ⟨s2,_⟩ | ⟨m,em,hm⟩
  ·exact LN L ij hw hv hi hj (ei.symm.trans ej)
  ·rw[s1] at s2;exact absurd s2 (by decide)
  ·rcases hm with⟨s2,_⟩ | ⟨s2,_⟩<;>(rw[s1] at s2;exact absurd s2 (by decide))
 ·rcases parts v h2 with⟨s2,_⟩ | ⟨s2,j,hj,ej⟩ | ⟨m,em,hm⟩
  ·rw[s1] at s2;exact absurd s2 (by decide)
  ·exact LN L ij hw hv hi hj (ei.symm.trans ej)
  ·rcases hm with⟨s2,_⟩ | ⟨s2,_⟩<;>(rw[s1] at s2;exact absurd s2 (by decide))
 ·rcases parts v h2 with⟨s2,_⟩ | ⟨s2,_⟩ | ⟨m,em,hm⟩
  ·rcases hn with⟨s1,_⟩ | ⟨s1,_⟩<;>(rw[s1] at s2;exact absurd s2 (by decide))
  ·rcases hn with⟨s1,_⟩ | ⟨s1,_⟩<;>(rw[s1] at s2;exact absurd s2 (by decide))
  ·have:n=m:=by omega
   subst this;rcases hn with⟨s1,t1⟩ | ⟨s1,t1⟩<;>rcases hm with⟨s2,t2⟩ | ⟨s2,t2⟩
   ·rw[t1] at t2;exact ij (bE (bE t2))
   ·rw[s1] at s2;exact absurd s2 (by decide)
   ·rw[s1] at s2;exact absurd s2 (by decide)
   ·rw[t1] at t2;exact ij (bE (bE t2))
end
section
variable {c:gu} {gc:Bool} {l l':List Str} {tr:List Int}
theorem Q7{w:Str}(h:mI c w)(hb:c.fZ.length=c.top.length):nP c w≠[]:=by
 have key:∀n:Nat,n<c.top.length->pY c w n≠[]->nP c w≠[]:=fun n hn ij z=>by
  unfold nP at z;obtain⟨z1,_⟩:=List.append_eq_nil_iff.mp z;obtain⟨_,z2⟩:=List.append_eq_nil_iff.mp z1;exact ij (fJ.mp z2 n (bU.mpr hn))
 rcases h with h | h | h | h
 ·obtain⟨n,hn⟩:=eR.mp h;exact key n (aB.mp hn).1 (by unfold pY;simp[hn])
 ·obtain⟨n,hn⟩:=eR.mp h;exact key n (by rw[<-hb];exact(aB.mp hn).1) (by unfold pY;simp[hn])
 ·unfold nP;simp[h]
 ·unfold nP;simp[h]
noncomputable def sU(c:gu)(ps:List Pc)(tr:List Int)(l:List Str):List (List iG):=l.map fun w=>sE (oX c ps tr w)
theorem JW(L:i7 c gc l tr){w:Str}(h:mI c w):oX c (gh c gc l) tr w≠[]:=by
 obtain⟨ws,most,_,hm,g⟩:=L.good;rw[<-C4 L w];exact fun z=>Q7 h g.bl (List.map_eq_nil_iff.mp z)
theorem J7(L:i7 c gc l tr)(w:Str):(oX c (gh c gc l) tr w).length<=34:=by
 obtain⟨ws,most,_,hm,g⟩:=L.good;have h:=DV c w c.top.length;have w2:=g.w2;rw[<-C4 L w,ae];unfold nP;rw[au,au];split<;>split<;>simp only[aG,cD]<;>omega
theorem J6(L:i7 c gc l tr)(N:m7 c l'):∀g∈sU c (gh c gc l) tr l',g≠[]:=fun g hg=>by
 obtain⟨w,hw,rfl⟩:=aO.mp hg;intro z;have:=(Ds (oX c (gh c gc l) tr w)).length_eq;rw[z] at this;exact JW L ((N.mem w).mp hw) (bR this.symm)
theorem Dm(L:i7 c gc l tr)(N:m7 c l'):((sU c (gh c gc l) tr l').map jY).Nodup:=by
 have key:∀w∈l',jY (sE (oX c (gh c gc l) tr w))∈oX c (gh c gc l) tr w:=fun w hw=>Qg (JW L ((N.mem w).mp hw))
 unfold sU;rw[aL];unfold List.Nodup;rw[bX];refine List.Pairwise.imp_of_mem (fun{w v} hw hv ij e=>ij ?_) N.nd;have h1:=key w hw;have h2:=key v hv;have e':jY (sE (oX c (gh c gc l) tr w))=jY (sE (oX c (gh c gc l) tr v)):=e;rw[e'] at h1;exact Q8 L ((L.nA.mem w).mpr ((N.mem w).mp hw)) ((L.nA.mem v).mpr ((N.mem v).mp hv)) h1 h2
noncomputable def y4(c:gu)(gc:Bool)(l:List Str)(tr:List Int):List (List iG):=sG (sU c (gh c gc l) tr l)
theorem SJ(N:m7 c l)(N':m7 c l'):l'.Perm l:=
 (List.perm_ext_iff_of_nodup N'.nd N.nd).mpr fun w=>(N'.mem w).trans (N.mem w).symm
theorem J5(L:i7 c gc l tr)(N:m7 c l'){s:List (List iG)}(h:s.Perm (sU c (gh c gc l) tr l'))(p:s.Pairwise (fun x y=>Ts.jk (jY y) (jY x)=false)):s=y4 c gc l tr:=by
 rw[Pq (Dm L N) h p];exact Qf (Dm L N) ((SJ L.nA N).map _)
theorem DS(L:i7 c gc l tr)(N:m7 c l'):l'.length<=40:=by
 obtain⟨ws,most,hw,hm,g⟩:=L.good;have:=yc N.nd fun w hw=>AY g w ((N.mem w).mp hw)
 omega
end
end Wc
open PySem L2 PyProof.Rows Wc
local macro_rules | `(tactic| walk_at "px")=>`(tactic| (repeat(first | walk_at "b" | simp only[t6,vT,tj,si,vL,AE])))
namespace Wc
open PySem L2 PyProof.Rows
noncomputable def nN(c:gu)(gc:Bool)(ps:List Pc)(ts:List Tr)(tr:List Int)(n:Int):D:=.obj "Layout" [("channel",c.obj),("bent",.bl gc),("pieces",j8 ps),("above",qc ts),("tracks",.lst (tr.map .int)),("count",.int n)]
def Bd:iF:=fun ds Q=>∃(c:gu) (gc:Bool) (ps:List Pc) (ts:List Tr) (tr:List Int) (n:Int) (w:Str) (e:En),ds=[nN c gc ps ts tr n,.str w,dE e]/\ps.length<=100000/\tr.length=ps.length/\
 (e=.lf->ky ps (some w) (-1)≠[])/\(e=.rt->ky ps (some w) c.top.length≠[])/\Q (.fz (js (CF c ps tr w e)))
def Ha:TX:=(gB (jJ (gR (gk (mR false) (gk gU (f6 2) (dC (.int 0))) (l7 (gi (dC (.str "top")) (gi (dC (.str "bottom")) gq))))) (jt (f6 2)) jI)
 (gB (ig 3 (gk gU (iN 3 yf (gi (jL "pieces" (f6 0)) (gi (f6 1) (gi (iN 2 zP (gi (jL "channel" (f6 0)) (gi (f6 2) gq))) gq)))) (dC (.int 0))))
 (jt (l7 (gi (gk gU (f6 2) (dC (.int 0))) (gi (gk gU (jL "tracks" (f6 0)) (f6 3)) gq))))))
theorem V5:kM 3 Bd Ha ["layout","name","end","number"]:=by
 intro ds Qr hl h;obtain⟨c,gc,ps,ts,tr,n,w,e,rfl,hn,ht,h1,h2,q⟩:=h;show Ha _ [.fz (nN c gc ps ts tr n),.fz (.str w),.fz (dE e),.un];unfold Ha;have big:=kN;have fin:∀(k:Int) (s:Str),ky ps (some w) k≠[]->js (s,l9 tr ((ky ps (some w) k).headD 0))=js (CF c ps tr w e)->∀j r,ky ps (some w) k=j::r->∃x,iR tr (j:Int)=some x/\Qr (.fz (.tup [.str s,.int x])):=fun k s ij he j r hj=>by
  have hm:=AV (show j∈ky ps (some w) k by rw[hj];simp);refine⟨_,by rw[pf (show j<tr.length by omega)],?_⟩;rw[hj,List.headD_cons] at he;rw[<-Fo (show j<tr.length by omega)];rw[<-he] at q;exact q
 have Er:∀e∈[D.str "top",D.str "bottom"],iE 8 e:=rC 8 [("top":Str),"bottom"]
 have tb:∀s:Str,inD (.str s) [D.str "top",D.str "bottom"]=decide (s∈[("top":Str),"bottom"]):=fun s=>vL s [("top":Str),"bottom"]
 have side:∀s:Str,iE 8 (.str s):=fun s=>rC 8 [s] _ (by simp)
 cases e with
 | tp m=>
  rw[show dE (.tp m)=D.tup [.str "top",.int m] from rfl];walk_at "px";refine⟨_,rfl,by omega,side _,Er,?_⟩;rw[if_pos (by rw[tb];decide)];exact q
 | bt m=>
  rw[show dE (.bt m)=D.tup [.str "bottom",.int m] from rfl];walk_at "px";refine⟨_,rfl,by omega,side _,Er,?_⟩;rw[if_pos (by rw[tb];decide)];exact q
 | lf=>
  have ij:=h1 rfl;rw[show dE .lf=D.tup [.str "left"] from rfl];unfold nN;walk_at "px";refine⟨_,rfl,by omega,side _,Er,?_⟩;rw[if_neg (by rw[tb];decide)];walk_at "go";refine⟨_,rfl,_,rfl,?_⟩;refine⟨c,.lf,rfl,?_⟩;walk_at "px";refine⟨ps,some w,-1,rfl,hn,?_⟩;cases hj:ky ps (some w) (-1) with
  | nil=>exact absurd hj ij
  | cons j r=>
   walk_at "px";refine⟨_,LS _ _,?_⟩;rw[show dN j=D.int j from rfl];walk_at "go";obtain⟨x,x1,x2⟩:=fin (-1) "left" ij rfl j r hj;exact⟨_,rfl,_,rfl,.int x,by rw[zC,x1];rfl,by omega,x2⟩
 | rt=>
  have ij:=h2 rfl;rw[show dE .rt=D.tup [.str "right"] from rfl];unfold nN;walk_at "px";refine⟨_,rfl,by omega,side _,Er,?_⟩;rw[if_neg (by rw[tb];decide)];walk_at "go";refine⟨_,rfl,_,rfl,?_⟩;refine⟨c,.rt,rfl,?_⟩;walk_at "px";refine⟨ps,some w,c.top.length,rfl,hn,?_⟩;cases hj:ky ps (some w) c.top.length with
  | nil=>exact absurd hj ij
  | cons j r=>
   walk_at "px";refine⟨_,LS _ _,?_⟩;rw[show dN j=D.int j from rfl];walk_at "go";obtain⟨x,x1,x2⟩:=fin c.top.length "right" ij rfl j r hj;exact⟨_,rfl,_,rfl,.int x,by rw[zC,x1];rfl,by omega,x2⟩
def Bc:iF:=fun ds Q=>∃(c:gu) (gc:Bool) (l:List Str) (ts:List Tr) (tr:List Int) (n:Int) (w:Str),ds=[nN c gc (gh c gc l) ts tr n,.str w]/\i7 c gc l tr/\Q (.ow ((sE (oX c (gh c gc l) tr w)).map js))
theorem i7.CC{c:gu}{gc:Bool}{l:List Str}{tr:List Int}(L:i7 c gc l tr):(gh c gc l).length<=1000:=by
 obtain⟨ws,most,hw,hm,g⟩:=L.good;have h1:=DS L L.nA;have h2:=FW (px c gc) (c.gF.length+1) (DU c gc) l;have h3:=g.be.len;have h4:=g.w2;have h5:=g.ke.1;unfold gh;rw[au,show(vJ c).length=c.keeps.length from ae _];have:l.length*(c.gF.length+1)<=40*17:=Nat.mul_le_mul h1 (by omega);omega
def G9:TX:=(jt (iQ Fx (gi (jG (jT (iN 2 zJ (gi (jL "channel" (f6 0)) (gi (f6 1) gq)))) [none,some 0,some 1] (gJ 0) mU (iN 3 Bd (gi (f6 1) (gi (f6 2) (gi (f6 0) gq))))) gq)))
theorem Wy:kM 2 Bc G9 ["layout","name"]:=by
 intro ds Qr hl h;obtain⟨c,gc,l,ts,tr,n,w,rfl,L,q⟩:=h;show G9 _ [.fz (nN c gc (gh c gc l) ts tr n),.fz (.str w)];unfold G9;have big:=kN;obtain⟨ws,most,hw,hm,g⟩:=L.good;have hg:=J7 L w;walk_at "px";refine sj (nP c w) dE (fun e=>js (CF c (gh c gc l) tr w e)) (fun Q' h=>?_) (by rw[<-C4 L w,ae] at hg;omega) (fun e he K1 k=>?_) ?_
 ·unfold nN;walk_at "px";exact⟨_,rfl,c,w,rfl,FG g (by omega),h⟩
 ·walk_at "px";have inl:e=.lf->w∈c.left:=fun z=>by
   subst z;unfold nP at he;rcases av.mp he with he | he
   ·rcases av.mp he with he | he
    ·split at he
     ·assumption
     ·cases he
    ·obtain⟨m,_,he⟩:=dh.mp he;unfold pY at he;rcases av.mp he with he | he<;>(split at he<;>simp at he)
   ·split at he<;>simp at he
  have inr:e=.rt->w∈c.right:=fun z=>by
   subst z;unfold nP at he;rcases av.mp he with he | he
   ·rcases av.mp he with he | he
    ·split at he<;>simp at he
    ·obtain⟨m,_,he⟩:=dh.mp he;unfold pY at he;rcases av.mp he with he | he<;>(split at he<;>simp at he)
   ·split at he
    ·assumption
    ·cases he
  refine⟨c,gc,gh c gc l,ts,tr,n,w,e,rfl,by have:=L.CC;omega,L.vo.len,fun z y=>?_,fun z y=>?_,k⟩
  ·have:=LO g (by omega) gc L.nA (inl z);rw[y] at this;cases this
  ·have:=L0 g (by omega) gc L.nA (inr z);rw[y] at this;cases this
 ·have e:(nP c w).map (fun e=>js (CF c (gh c gc l) tr w e))=(oX c (gh c gc l) tr w).map js:=by rw[<-C4 L w,aL];rfl
  rw[e];refine⟨_,rfl,by omega,fun nJ hp hs=>?_⟩;rw[JQ hp hs];exact q
def zO:iF:=fun ds Q=>∃(c:gu) (gc:Bool) (l:List Str) (ts:List Tr) (tr:List Int) (n:Int),ds=[nN c gc (gh c gc l) ts tr n]/\i7 c gc l tr/\Q (.ov (.ll ((y4 c gc l tr).map fun g=>g.map js)))
theorem LZ{wi:oH}{m:List (Option Nat)}{g:lX}{tc:mT}{te:TD}{ρ:Ev}{Q:R->Prop}(P:List D->Prop)(hw:∀Q':List D->Prop,(∀ds,P ds->Q' ds)->wi ρ Q')(h:∀ds,P ds->vi (fun _ Q'=>Q' ds) m g tc te ρ Q):vi wi m g tc te ρ Q:=by
 unfold vi;exact hw _ fun ds hp=>h ds hp
def G8:TX:=(jt (zD (vi (jT (iN 1 xh (gi (jL "channel" (f6 0)) gq))) [none,some 0] (gJ 0) mU (iN 2 Bc (gi (f6 1) (gi (f6 0) gq))))))
theorem Wx:kM 1 zO G8 ["layout"]:=by
 intro ds Qr hl h;obtain⟨c,gc,l,ts,tr,n,rfl,L,q⟩:=h;show G8 _ [.fz (nN c gc (gh c gc l) ts tr n)];unfold G8;have big:=kN;obtain⟨ws,most,hw,hm,g⟩:=L.good;walk_at "px";unfold zD;refine LZ (fun ds=>∃l',m7 c l'/\ds=l'.map .str) (fun Q' h=>?_) ?_
 ·unfold nN;walk_at "px";exact⟨_,rfl,c,ws,rfl,FG g (by omega),hw,AY g,fun l' nd mem BM=>h _ ⟨l',⟨nd,mem,BM⟩,rfl⟩⟩
 rintro _ ⟨l',N,rfl⟩;have Ah:=DS L N;refine Gn l' D.str (fun w=>(sE (oX c (gh c gc l) tr w)).map js) (fun Q' h=>h) (by omega) (fun w hw K1 k=>?_) ?_
 ·walk_at "px";exact⟨c,gc,l,ts,tr,n,w,rfl,L,k⟩
 ·refine⟨sU c (gh c gc l) tr l',by unfold sU;rw[aL];rfl,by unfold sU;rw[ae];omega,J6 L N,Dm L N,fun xG hp hs=>?_⟩;rw[J5 L N hp hs];exact q
end Wc
open PySem L2 PyProof.Rows Wc
local macro_rules | `(tactic| walk_at "px")=>`(tactic| (repeat(first | walk_at "b" | simp only[t6,vT,tj,si,vL,AE,vb])))
namespace Wc
open PySem L2 PyProof.Rows
theorem LM{α β:Type}(f g:α->List β):∀l:List α,(l.flatMap fun x=>f x++g x).Perm (l.flatMap f++l.flatMap g)
 | []=>.nil
 | a::l=>by
  rw[bB,bB,bB,aM,aM];refine cM _ ?_;refine(cM _ (LM f g l)).trans ?_;rw[<-aM,<-aM];exact List.Perm.append_right _ cN
theorem Gv{α β:Type}{f g:α->List β}:∀{l:List α},(∀x∈l,f x=g x)->l.flatMap f=l.flatMap g
 | [],_=>rfl
 | a::l,h=>by rw[bB,bB,h a (by simp),Gv fun x hx=>h x (aD _ hx)]
theorem Fj{β:Type}(f:Pc->Bool)(s:Int->β):∀(ps:List Pc) (tr pre:List Int),tr.length=ps.length->((ps.zip tr).flatMap fun x=>if f x.1=true then [s x.2] else [])=(((ps.zipIdx pre.length).filter fun p=>f p.1).map (·.2)).map fun j=>s (l9 (pre++tr) j)
 | [],tr,pre,_=>by simp
 | p::ps,[],pre,h=>by simp at h
 | p::ps,t::tr,pre,h=>by
  have ih:=Fj f s ps tr (pre++[t]) (by simpa using h);rw[au,List.length_singleton,aM,eS] at ih;rw[eJ,bB,ih,List.zipIdx_cons,List.filter_cons];dsimp only;split
  ·rw[ay,ay];dsimp only;have:l9 (pre++t::tr) pre.length=t:=by unfold l9;simp
   rw[this];rfl
  ·rfl
noncomputable def um(c:gu)(w:Str)(x:Pc×Int):List iG:=(if x.1.n=some w/\w∈c.left/\x.1.l=-1 then [(("left":Str),x.2)] else [])++(if x.1.n=some w/\w∈c.right/\x.1.r=(c.top.length:Int) then [(("right":Str),x.2)] else [])
theorem Q6{c:gu}{gc:Bool}{l:List Str}{tr:List Int}(L:i7 c gc l tr)(w:Str):(v7 c w++((gh c gc l).zip tr).flatMap (um c w)).Perm (oX c (gh c gc l) tr w):=by
 obtain⟨ws,most,_,hm,g⟩:=L.good;have rL:(w∈c.left\/w∈c.right)->∀p∈gh c gc l,p.n=some w->p.l<p.r/\-1<=p.l/\p.r<=c.top.length:=fun h p hp hn=>
  (Kx g (by omega) gc (Nj gc L.nA.nd ((L.nA.mem w).mpr (FF h)) hp hn)).2.2
 have lf:((gh c gc l).zip tr).flatMap (fun x=>if x.1.n=some w/\w∈c.left/\x.1.l=-1 then [(("left":Str),x.2)] else [])=B5 c (gh c gc l) tr w:=by
  unfold B5;by_cases h:w∈c.left
  ·rw[if_pos h];have:=Fj (fun p=>decide (p.n=some w)&&oM p (-1)) (fun t=>(("left":Str),t)) (gh c gc l) tr [] L.vo.len;unfold ky;rw[show(([]:List Int)++tr)=tr from rfl] at this;refine Eq.trans ?_ this;refine Gv fun x hx=>?_
   have z7:=(cw (show(x.1,x.2)∈(gh c gc l).zip tr from hx)).1;by_cases hn:x.1.n=some w
   ·obtain⟨z1,z2,z3⟩:=rL (.inl h) x.1 z7 hn;have:(x.1.n=some w/\w∈c.left/\x.1.l=-1)↔(decide (x.1.n=some w)&&oM x.1 (-1))=true:=by
     simp only[hn,h,oM,cy,Bool.true_and,true_and,cx,aS];omega
    by_cases hc:x.1.n=some w/\w∈c.left/\x.1.l=-1
    ·rw[if_pos hc,if_pos (this.mp hc)]
    ·rw[if_neg hc,if_neg fun z=>hc (this.mpr z)]
   ·rw[if_neg fun z=>hn z.1,if_neg (by simp[hn])]
  ·rw[if_neg h,fJ];intro x _;rw[if_neg fun z=>h z.2.1]
 have rt:((gh c gc l).zip tr).flatMap (fun x=>if x.1.n=some w/\w∈c.right/\x.1.r=(c.top.length:Int) then [(("right":Str),x.2)] else [])=BO c (gh c gc l) tr w:=by
  unfold BO;by_cases h:w∈c.right
  ·rw[if_pos h];have:=Fj (fun p=>decide (p.n=some w)&&oM p c.top.length) (fun t=>(("right":Str),t)) (gh c gc l) tr [] L.vo.len;unfold ky;rw[show(([]:List Int)++tr)=tr from rfl] at this;refine Eq.trans ?_ this;refine Gv fun x hx=>?_
   have z7:=(cw (show(x.1,x.2)∈(gh c gc l).zip tr from hx)).1;by_cases hn:x.1.n=some w
   ·obtain⟨z1,z2,z3⟩:=rL (.inr h) x.1 z7 hn;have:(x.1.n=some w/\w∈c.right/\x.1.r=(c.top.length:Int))↔(decide (x.1.n=some w)&&oM x.1 c.top.length)=true:=by
     simp only[hn,h,oM,cy,Bool.true_and,true_and,cx,aS];omega
    by_cases hc:x.1.n=some w/\w∈c.right/\x.1.r=(c.top.length:Int)
    ·rw[if_pos hc,if_pos (this.mp hc)]
    ·rw[if_neg hc,if_neg fun z=>hc (this.mpr z)]
   ·rw[if_neg fun z=>hn z.1,if_neg (by simp[hn])]
  ·rw[if_neg h,fJ];intro x _;rw[if_neg fun z=>h z.2.1]
 have h2:=LM (fun x:Pc×Int=>if x.1.n=some w/\w∈c.left/\x.1.l=-1 then [(("left":Str),x.2)] else []) (fun x=>if x.1.n=some w/\w∈c.right/\x.1.r=(c.top.length:Int) then [(("right":Str),x.2)] else []) ((gh c gc l).zip tr);rw[lf,rt] at h2;unfold oX;refine(cM _ h2).trans ?_;rw[<-aM];exact List.Perm.append_right _ cN
def Bb:iF:=fun ds Q=>∃(c:gu) (gc:Bool) (l:List Str) (ts:List Tr) (tr:List Int) (n:Int) (w:Str),ds=[nN c gc (gh c gc l) ts tr n,.str w]/\i7 c gc l tr/\Q (.ow ((sE (oX c (gh c gc l) tr w)).map js))
theorem Sr(c:gu)(w:Str)(n:Nat):(u7 c w n).length<=2:=by unfold u7;split<;>split<;>simp
theorem J4(c:gu)(w:Str)(i:Nat):((List.range i).flatMap (u7 c w)).length<=2*i:=by
 induction i with
 | zero=>simp
 | succ i ih=>
  rw[fE,cz,au];have:=Sr c w i;simp only[bB,dg,ba];omega
theorem Sq(c:gu)(w:Str)(x:Pc×Int):(um c w x).length<=2:=by unfold um;split<;>split<;>simp
theorem Qw(c:gu)(w:Str)(l:List (Pc×Int)):(l.flatMap (um c w)).length<=2*l.length:=by
 induction l with
 | nil=>simp
 | cons a r ih=>
  rw[bB,au,aG];have:=Sq c w a;omega
theorem Ta{c:gu}{w:Str}{p:Pc}{t:Int}{D:DE}{A B:Sl}(acc:List iG)(hl:acc.length<=3000)(h:D.nx [A,.fz (.str w),.fz c.obj,.ow ((acc++(if p.n=some w/\w∈c.left/\p.l=-1 then [(("left":Str),t)] else [])).map js),B,.fz (jv p),.fz (.int t)]) :
  (jJ (o7 (gR (gk oEq (gk gU (f6 5) (dC (.int 0))) (f6 1))) (o7 (gR (gk (mR false) (f6 1) (jL "left" (f6 2)))) (gR (gk oEq (gk gU (f6 5) (dC (.int 1))) (tQ (dC (.int 1))))))) (nt 3 (l7 (gi (dC (.str "left")) (gi (f6 6) gq)))) jI) D [A,.fz (.str w),.fz c.obj,.ow (acc.map js),B,.fz (jv p),.fz (.int t)]:=by
 have big:=kN;have h0:¬(p.n=some w/\w∈c.left/\p.l=-1)->D.nx [A,.fz (.str w),.fz c.obj,.ow (acc.map js),B,.fz (jv p),.fz (.int t)]:=fun z=>by rw[if_neg z,ba] at h;exact h
 have h1:(p.n=some w/\w∈c.left/\p.l=-1)->D.nx [A,.fz (.str w),.fz c.obj,.ow (acc.map js++[js (("left":Str),t)]),B,.fz (jv p),.fz (.int t)]:=fun z=>by rw[if_pos z,aI] at h;exact h
 clear h;unfold gu.obj jv dS at *;walk_at "px";simp only[Fd,JN,aW,exists_eq_left'];walk_at "px";by_cases hn:p.n=some w
 ·rw[if_pos hn];refine⟨_,rfl,?_⟩;walk_at "px";refine⟨rC 8 _,?_⟩;by_cases hc:w∈c.left
  ·rw[if_pos (by simpa using hc)];by_cases hp:p.l=-1
   ·rw[if_pos hp];exact⟨by omega,by rw[ae];omega,h1 ⟨hn,hc,hp⟩⟩
   ·rw[if_neg hp];exact h0 fun z=>hp z.2.2
  ·rw[if_neg (by simpa using hc)];exact h0 fun z=>hc z.2.1
 ·rw[if_neg hn];exact h0 fun z=>hn z.1
theorem T8{c:gu}{w:Str}{p:Pc}{t:Int}{D:DE}{A B:Sl}(acc:List iG)(hl:acc.length<=3001)(h:D.nx [A,.fz (.str w),.fz c.obj,.ow ((acc++(if p.n=some w/\w∈c.right/\p.r=(c.top.length:Int) then [(("right":Str),t)] else [])).map js),B,.fz (jv p),.fz (.int t)]) :
  (jJ (o7 (gR (gk oEq (gk gU (f6 5) (dC (.int 0))) (f6 1))) (o7 (gR (gk (mR false) (f6 1) (jL "right" (f6 2)))) (gR (gk oEq (gk gU (f6 5) (dC (.int 2))) (iQ oN (gi (jL "top" (f6 2)) gq)))))) (nt 3 (l7 (gi (dC (.str "right")) (gi (f6 6) gq)))) jI) D [A,.fz (.str w),.fz c.obj,.ow (acc.map js),B,.fz (jv p),.fz (.int t)]:=by
 have big:=kN;have h0:¬(p.n=some w/\w∈c.right/\p.r=(c.top.length:Int))->D.nx [A,.fz (.str w),.fz c.obj,.ow (acc.map js),B,.fz (jv p),.fz (.int t)]:=fun z=>by rw[if_neg z,ba] at h;exact h
 have h1:(p.n=some w/\w∈c.right/\p.r=(c.top.length:Int))->D.nx [A,.fz (.str w),.fz c.obj,.ow (acc.map js++[js (("right":Str),t)]),B,.fz (jv p),.fz (.int t)]:=fun z=>by rw[if_pos z,aI] at h;exact h
 clear h;unfold gu.obj jv dS dP at *;walk_at "px";simp only[Fd,JY,aW,exists_eq_left'];walk_at "px";by_cases hn:p.n=some w
 ·rw[if_pos hn];refine⟨_,rfl,?_⟩;walk_at "px";refine⟨rC 8 _,?_⟩;by_cases hc:w∈c.right
  ·rw[if_pos (by simpa using hc)];refine⟨_,rfl,?_⟩;walk_at "px";rw[ae];by_cases hp:p.r=(c.top.length:Int)
   ·rw[if_pos hp];exact⟨by omega,by rw[ae];omega,h1 ⟨hn,hc,hp⟩⟩
   ·rw[if_neg hp];exact h0 fun z=>hp z.2.2
  ·rw[if_neg (by simpa using hc)];exact h0 fun z=>hc z.2.1
 ·rw[if_neg hn];exact h0 fun z=>hn z.1
def G7:TX:=(gB (ig 2 (jL "channel" (f6 0)))
 (gB (oA 3 (j5 gq))
 (gB (mS (rg (gi (iQ oN (gi (jL "top" (f6 2)) gq)) gq)) (gJ 4) (gB (jJ (gR (gk oEq (gk gU (jL "top" (f6 2)) (f6 4)) (f6 1))) (nt 3 (l7 (gi (dC (.str "top")) (gi (f6 4) gq)))) jI)
 (jJ (gR (gk oEq (gk gU (jL "bottom" (f6 2)) (f6 4)) (f6 1))) (nt 3 (l7 (gi (dC (.str "bottom")) (gi (f6 4) gq)))) jI)))
 (gB (mS (vb (gi (jL "pieces" (f6 0)) (gi (jL "tracks" (f6 0)) gq))) (mQ 2 (il (gJ 5) (il (gJ 6) kW))) (gB (jJ (o7 (gR (gk oEq (gk gU (f6 5) (dC (.int 0))) (f6 1))) (o7 (gR (gk (mR false) (f6 1) (jL "left" (f6 2)))) (gR (gk oEq (gk gU (f6 5) (dC (.int 1))) (tQ (dC (.int 1))))))) (nt 3 (l7 (gi (dC (.str "left")) (gi (f6 6) gq)))) jI)
 (jJ (o7 (gR (gk oEq (gk gU (f6 5) (dC (.int 0))) (f6 1))) (o7 (gR (gk (mR false) (f6 1) (jL "right" (f6 2)))) (gR (gk oEq (gk gU (f6 5) (dC (.int 2))) (iQ oN (gi (jL "top" (f6 2)) gq)))))) (nt 3 (l7 (gi (dC (.str "right")) (gi (f6 6) gq)))) jI)))
 (wX 3 (jt (iQ Fx (gi (f6 3) gq))))))))
theorem Ww:kM 2 Bb G7 ["_law_layout_here","_law_word","_law_channel_here","_law_ends_here","_law_c","_law_piece","_law_t"]:=by
 intro ds Qr hl h;obtain⟨c,gc,l,ts,tr,n,w,rfl,L,q⟩:=h;show G7 _ [.fz (nN c gc (gh c gc l) ts tr n),.fz (.str w),.un,.un,.un,.un,.un];unfold G7;have big:=kN;have CC:=L.CC;have tl:=L.vo.len;have Nx:=Q6 L w;have gl:=J7 L w;obtain⟨ws,most,hw,hm,g⟩:=L.good;have w2:=g.w2;generalize Ce:gh c gc l=ps at *;have Zp:∀e∈c.left.map D.str,iE 8 e:=rC 8 _
 have Zo:∀e∈c.right.map D.str,iE 8 e:=rC 8 _
 have e0:Sl.fz (nN c gc ps ts tr n)=.fz (.obj "Layout" [("channel",c.obj),("bent",.bl gc),("pieces",j8 ps),("above",qc ts),("tracks",.lst (tr.map .int)),("count",.int n)]):=rfl;rw[e0];walk_at "px";refine⟨_,rfl,?_⟩;rw[<-e0];walk_at "go";refine⟨by omega,?_⟩;walk_at "go";refine xj c.top.length (fun Q' h=>?_) (fun i ρ=>∃k:Sl,ρ=[.fz (nN c gc ps ts tr n),.fz (.str w),.fz c.obj,.ow (((List.range i).flatMap (u7 c w)).map js),k,.un,.un]) ⟨_,rfl⟩ ?_ ?_
 ·unfold gu.obj;walk_at "px";refine⟨_,rfl,?_⟩;unfold dP;walk_at "px";rw[ae];exact⟨by omega,by omega,by simpa using h⟩
 ·rintro i ρ hi ⟨k,rfl⟩;have xB:i<c.fZ.length:=by rw[g.bl];exact hi
  have a1:iR c.top (i:Int)=some c.top[i]:=pf hi;have a2:iR c.fZ (i:Int)=some c.fZ[i]:=pf xB;have Hw:=J4 c w i;rw[fE,cz];simp only[bB,dg,ba];generalize (List.range i).flatMap (u7 c w)=acc at Hw ⊢;unfold u7;rw[ai hi,ai xB];simp only[aW];generalize c.top[i]=u at a1 ⊢;generalize c.fZ[i]=v at a2 ⊢;unfold gu.obj dP;walk_at "px";refine⟨_,rfl,?_⟩;walk_at "px";refine⟨_,a1,?_⟩;split
  focus refine⟨by omega,by simp;omega,?_⟩
  all_goals
   walk_at "go";refine⟨_,rfl,?_⟩;walk_at "px";refine⟨_,a2,?_⟩;split
  ·exact⟨by omega,by simp;omega,_,by simp[js];rfl⟩
  ·exact⟨_,by simp[js];rfl⟩
  ·exact⟨by omega,by simp;omega,_,by simp[js];rfl⟩
  ·exact⟨_,by simp;rfl⟩
 ·rintro ρ ⟨k,rfl⟩;have Hw:=J4 c w c.top.length;rw[show(List.range c.top.length).flatMap (u7 c w)=v7 c w from rfl] at Hw ⊢;walk_at "go";refine vV (ps.zip tr) (fun p=>.tup [jv p.1,.int p.2]) (fun Q' h=>?_) (fun i ρ=>∃a b d:Sl,ρ=[.fz (nN c gc ps ts tr n),.fz (.str w),.fz c.obj,.ow ((v7 c w++((ps.zip tr).take i).flatMap (um c w)).map js),a,b,d]) ⟨_,_,_,by rw[List.take_zero,dg,ba]⟩ ?_ ?_
  ·unfold nN;walk_at "px";refine⟨_,rfl,_,rfl,?_⟩;unfold j8;walk_at "px";rw[DX];exact h
  ·rintro i x ρ hi ⟨a,b,d,rfl⟩;have tk:((ps.zip tr).take (i+1)).flatMap (um c w)=((ps.zip tr).take i).flatMap (um c w)++um c w x:=by rw[bL,hi,cz];simp
   have vx:=(aB.mp hi).1;have sl:=Qw c w ((ps.zip tr).take i);have gL:((ps.zip tr).take i).length<=1000:=by rw[aN,fD] ;omega
   rw[tk,<-aM];have CM:(v7 c w++((ps.zip tr).take i).flatMap (um c w)).length<=3000:=by rw[au];omega
   generalize v7 c w++((ps.zip tr).take i).flatMap (um c w)=acc at CM ⊢;unfold um;rw[<-aM];refine⟨rfl,?_⟩;simp only[il,gJ,kW,List.set_cons_succ,List.set_cons_zero];show gB _ _ _ [Sl.fz (nN c gc ps ts tr n),.fz (.str w),.fz c.obj,.ow (acc.map js),a,.fz (jv x.1),.fz (.int x.2)];refine Ta acc CM ?_;refine T8 _ (by rw[au];split<;>simp<;>omega) ?_;exact⟨_,_,_,rfl⟩
  ·rintro ρ ⟨a,b,d,rfl⟩;rw[bT];walk_at "go";refine⟨_,rfl,by rw[Nx.length_eq];omega,fun nJ hp hs=>?_⟩;rw[JQ (hp.trans Nx) hs];exact q
def A9:iF:=fun ds Q=>∃(c:gu) (gc:Bool) (l:List Str) (ts:List Tr) (tr:List Int) (n:Int),ds=[nN c gc (gh c gc l) ts tr n]/\i7 c gc l tr/\Q (.ov (.ll ((y4 c gc l tr).map fun g=>g.map js)))
def Gu:TX:=(gB (ig 1 (jL "channel" (f6 0)))
 (gB (ig 2 (gk i5 (gk i5 (gk i5 (jL "top" (f6 1)) (jL "bottom" (f6 1))) (jL "left" (f6 1))) (jL "right" (f6 1))))
 (gB (ig 2 (jG (jT (f6 2)) [none] (gJ 0) (gR (gk (pz true) (f6 0) (dC .non))) (f6 0)))
 (jt (zD (vi (jT (iQ xi (gi (f6 2) gq))) [none,some 0] (gJ 0) mU (iN 2 Bb (gi (f6 1) (gi (f6 0) gq)))))))))
theorem Vn:kM 1 A9 Gu ["_law_layout_here","_law_channel_here","_law_some"]:=by
 intro ds Qr hl h;obtain⟨c,gc,l,ts,tr,n,rfl,L,q⟩:=h;show Gu _ [.fz (nN c gc (gh c gc l) ts tr n),.un,.un];unfold Gu;have big:=kN;obtain⟨ws,most,hw,hm,g⟩:=L.good;have w2:=g.w2;have bl:=g.bl;have ll:=g.ll;have rl:=g.rl;have e0:Sl.fz (nN c gc (gh c gc l) ts tr n)=.fz (.obj "Layout" [("channel",c.obj),("bent",.bl gc),("pieces",j8 (gh c gc l)),("above",qc ts),("tracks",.lst (tr.map .int)),("count",.int n)]):=rfl;rw[e0];walk_at "px";refine⟨_,rfl,?_⟩;rw[<-e0];have e1:∀x:Sl,[x,Sl.fz c.obj,.un]=[x,Sl.fz (.obj "Channel" [("top",dP c.top),("bottom",dP c.fZ),("left",dS c.left),("right",dS c.right),("wide",dW c.wide),("bends",dB c.gF),("keeps",dK c.keeps)]),.un]:=fun _=>rfl
 rw[e1];unfold dP dS;walk_at "go";refine⟨_,rfl,_,rfl,?_⟩;walk_at "px";refine⟨by simp;omega,_,rfl,?_⟩;walk_at "px";refine⟨by simp;omega,_,rfl,?_⟩;walk_at "px";refine⟨by simp;omega,?_⟩;rw[show c.left.map D.str=(c.left.map some).map dO by rw[aL];rfl,show c.right.map D.str=(c.right.map some).map dO by rw[aL];rfl,<-aI,<-aI,<-aI];have qB:∀w,w∈(c.top++c.fZ++c.left.map some++c.right.map some).filterMap id↔mI c w:=by
  intro w;simp[ec,mI,or_assoc]
 have kS:(c.top++c.fZ++c.left.map some++c.right.map some).length<=200:=by simp;omega
 generalize c.top++c.fZ++c.left.map some++c.right.map some=all at qB kS ⊢;have ZE:(all.filterMap id).length<=200:=aK (di _ _) kS;walk_at "go";refine sv all dO dO (fun x=>x.isSome) (fun Q' h=>?_) (by omega) (fun x hx K1 K0 k1 k0=>?_) ?_
 ·walk_at "px";exact h
 ·walk_at "px";cases x with
  | none=>exact k0 rfl
  | some x=>exact k1 rfl
 rw[FZ];walk_at "go";unfold zD;refine LZ (fun ds=>∃l',m7 c l'/\ds=l'.map .str) (fun Q' h=>?_) ?_
 ·walk_at "px";simp only[xi,zK];refine⟨by omega,fun l nd h=>?_,fun l' nd h' hs=>h _ ⟨l',⟨nd,fun w=>(h' w).trans (qB w),hs⟩,rfl⟩⟩;have:=yc nd fun w hw=>AY g w ((qB w).mp (h w hw))
  omega
 rintro _ ⟨l',N,rfl⟩;have Ah:=DS L N;refine Gn l' D.str (fun w=>(sE (oX c (gh c gc l) tr w)).map js) (fun Q' h=>h) (by omega) (fun w hw K1 k=>?_) ?_
 ·walk_at "px";exact⟨c,gc,l,ts,tr,n,w,rfl,L,k⟩
 ·refine⟨sU c (gh c gc l) tr l',by unfold sU;rw[aL];rfl,by unfold sU;rw[ae];omega,J6 L N,Dm L N,fun xG hp hs=>?_⟩;rw[J5 L N hp hs];exact q
end Wc
open PySem L2 PyProof.Rows Wc
local macro_rules | `(tactic| walk_at "px")=>`(tactic| (repeat(first | walk_at "b" | simp only[Qn,Qm,Ql])))
namespace Wc
open PySem L2 PyProof.Rows
noncomputable def dG(gs:List (List iG)):D:=.lst ((gs.map fun g=>g.map js).map .lst)
theorem JV(gs:List (List iG)):dG gs=.lst (gs.map fun g=>.lst (g.map js)):=by unfold dG;rw[aL];rfl
theorem Q5(n:Nat)(e:iG):iE (n+1) (js e):=by
 intro d hd;simp only[ar,bK,eC] at hd;rcases hd with rfl | rfl
 ·exact rC _ [e.1] _ (by simp)
 ·rw[FI];trivial
theorem Fp(n:Nat)(gs:List (List iG)):iE (n+3) (dG gs):=by
 rw[JV];exact KI (fun g:List iG=>D.lst (g.map js)) gs fun g _=>KI js g fun e _=>Q5 n e
def zU:iF:=fun ds Q=>∃gs:List (List iG),ds=[dG gs,dG gs]/\Q (.fz (.bl true))
def Hh:TX:=(gB (jJ (Ar (wY (gR (zc "list" (f6 0)))) (gR (gk zY (iQ oN (gi (f6 0) gq)) (iQ oN (gi (f6 1) gq))))) (jt (dC (.bl false))) jI)
 (gB (mS (jT (f6 0)) (gJ 2) (gB (jJ (wY (gR (zc "list" (f6 2)))) (jt (dC (.bl false))) jI)
 (mS (jT (f6 2)) (gJ 3) (jJ (Ar (wY (gR (zc "tuple" (f6 3)))) (gR (zc "bool" (gk gU (f6 3) (tQ (dC (.int 1))))))) (jt (dC (.bl false))) jI))))
 (jt (gk oEq (f6 0) (f6 1)))))
theorem Xg:kM 2 zU Hh ["_law_found","_law_due_here","_law_row","_law_end"]:=by
 intro ds Qr hl h;obtain⟨gs,rfl,q⟩:=h;show Hh _ [.fz (dG gs),.fz (dG gs),.un,.un];unfold Hh;have big:=kN;have e0:=JV gs;rw[e0];walk_at "px";refine⟨rfl,?_⟩;rw[<-e0];walk_at "go";refine vV gs (fun g=>.lst (g.map js)) (fun Q' h=>?_) (fun _ ρ=>∃a b:Sl,ρ=[.fz (dG gs),.fz (dG gs),a,b]) ⟨_,_,rfl⟩ ?_ ?_
 ·rw[e0];walk_at "px";exact h
 ·rintro i g ρ _ ⟨a,b,rfl⟩;walk_at "px";refine⟨rfl,?_⟩;walk_at "go";refine vV g js (fun Q' h=>?_) (fun _ ρ=>∃b:Sl,ρ=[.fz (dG gs),.fz (dG gs),.fz (.lst (g.map js)),b]) ⟨_,rfl⟩ ?_ ?_
  ·walk_at "px";exact h
  ·rintro j e ρ _ ⟨b,rfl⟩;rw[show js e=D.tup [.str e.1,.int e.2] from rfl];walk_at "px";refine⟨rfl,_,rfl,rfl,?_⟩;walk_at "px";exact⟨_,rfl⟩
  ·rintro ρ ⟨b,rfl⟩;exact⟨_,_,rfl⟩
 ·rintro ρ ⟨a,b,rfl⟩;walk_at "go";refine⟨Fp _ gs,Fp _ gs,?_⟩;rw[DP 9 _ (Fp 6 gs)];exact q
end Wc
open PySem L2 PyProof.Rows Wc
local macro_rules | `(tactic| walk_at "px")=>`(tactic| (repeat(first | walk_at "b" | simp only[t6,vT,tj,si])))
namespace Wc
open PySem L2 PyProof.Rows
def A5:iF:=fun ds Q=>∃(c:gu) (gc:Bool) (ps:List Pc) (ts:List Tr) (tr:List Int),ds=[c.obj,.bl gc,j8 ps,qc ts,.lst (tr.map .int)]/\ps.length<=1000/\∀n,Q (.fz (nN c gc ps ts tr n))
def DR:xJ:=(qZ "channel" (f6 1) (qZ "bent" (f6 2) (qZ "pieces" (iQ rB (gi (f6 3) gq)) (qZ "above" (iQ rB (gi (f6 4) gq)) (qZ "tracks" (iQ rB (gi (f6 5) gq)) (qZ "count" (iN 2 zR (gi (f6 3) (gi (f6 5) gq))) AB))))))
theorem Vh(ds:List D)(Qr:R->Prop)(NA:List (Str×D)->Prop)(na:∀fs:List (Str×D),fs.map (·.1)=(["channel","bent","pieces","above","tracks","count"]:List Str)->NA fs)(h:A5 ds Qr) :
  DR (vM ["self","channel","bent","pieces","above","tracks"] ds) [] fun fs=>NA fs/\Qr (.fz (.obj "Layout" fs)):=by
 obtain⟨c,gc,ps,ts,tr,rfl,h2,q⟩:=h;show DR [.un,.fz c.obj,.fz (.bl gc),.fz (j8 ps),.fz (qc ts),.fz (.lst (tr.map .int))] [] _;unfold DR;unfold j8 qc;simp only[qZ,AB,iQ,gi,gq,f6,gt,rB,zo,xZ];refine⟨by decide,show 1<1000 by decide,show 2<1000 by decide,show 3<1000 by decide,show 4<1000 by decide,?_⟩;simp only[iN,gi,gq,f6,gt,zo];exact⟨rfl,ps,tr,rfl,h2,fun _=>⟨show 5<1000 by decide,na _ rfl,q _⟩,fun _ _=>⟨show 5<1000 by decide,na _ rfl,q _⟩⟩
theorem J3{ps:List Pc}{p:Pc×Nat}(h:p∈ps.zipIdx):p.2<ps.length:=(aB.mp (List.mem_zipIdx_iff_getElem?.mp h)).1
theorem J2{ps:List Pc}{p:Pc×Nat}(h:p∈ps.zipIdx):kh ps p.2=p.1:=by
 unfold kh;rw[List.mem_zipIdx_iff_getElem?.mp h];rfl
theorem J1{c:gu}{ps:List Pc}{t:Tr}(h:t∈qw c ps):(t.1<ps.length/\t.2.1<ps.length)/\∃(n:Nat) (u v:Str),c.top[n]?=some (some u)/\c.fZ[n]?=some (some v):=by
 unfold qw at h;obtain⟨n,_,ht⟩:=dh.mp h;unfold uu at ht;split at ht
 ·rename_i u v e1 e2;split at ht
  ·cases ht
  ·obtain⟨a,ha,ht⟩:=dh.mp ht;obtain⟨b,hb,rfl⟩:=aO.mp ht;exact⟨⟨(AV ha).1,(AV hb).1⟩,n,u,v,e1,e2⟩
 ·cases ht
theorem KP{ps:List Pc}{t:Tr}(h:t∈nk ps):(t.1<ps.length/\t.2.1<ps.length)/\(kh ps t.1).n=none/\(kh ps t.2.1).n≠none:=by
 unfold nk at h;obtain⟨p,hp,ht⟩:=dh.mp h;unfold vg at ht;split at ht
 ·rename_i hn;obtain⟨x,hx,rfl⟩:=aO.mp ht;unfold xQ wZ at hx;obtain⟨y,hy,e⟩:=ec.mp hx;obtain⟨z,hz,rfl⟩:=aO.mp hy;obtain⟨cc,_,rfl⟩:=cX.mp e;obtain⟨z1,z2⟩:=aY.mp hz;refine⟨⟨J3 hp,J3 z1⟩,by rw[J2 hp];exact hn,?_⟩;dsimp only;rw[J2 z1];intro z0;rw[z0] at z2;cases z2
 ·cases ht
theorem So{c:gu}{ps:List Pc}{ts:List Tr}(h:Above c ps ts):E9 ps.length ts:=fun t ht=>by
 rcases av.mp (h.pm.mem_iff.mp ht) with ht | ht
 ·exact(J1 ht).1
 ·exact(KP ht).1
theorem Sn{c:gu}{ps:List Pc}{ts:List Tr}(h:Above c ps ts)(nb:Fm c):¬JO ps.length ts:=fun⟨S,ij,_,hs⟩=>by
 have key:∀t∈ts,(kh ps t.1).n=none/\(kh ps t.2.1).n≠none:=fun t ht=>by
  rcases av.mp (h.pm.mem_iff.mp ht) with ht | ht
  ·obtain⟨_,n,u,v,e1,e2⟩:=J1 ht;exact(nb n u v e1 e2).elim
  ·exact(KP ht).2
 cases S with
 | nil=>exact ij rfl
 | cons q S=>
  obtain⟨t,ht,_,h1⟩:=hs q (by simp);obtain⟨t',iP,e,_⟩:=hs t.1 h1;have k1:=(key t ht).1;have k2:=(key t' iP).2;rw[e] at k2;exact k2 k1
def Bh:iF:=fun ds Q=>∃(ws:List Str) (most:Nat) (c:gu) (gG:Int),ds=[.lst c.parts,.int gG]/\ws.length<=8/\most<=16/\iM ws most c/\∀c gc l ts tr n,i7 c gc l tr->Q (.fz (nN c gc (gh c gc l) ts tr n))
def Hq:TX:=(gB (ig 2 (j5 (gi (j5 (gi (f6 0) (gi (gk oEq (gk (oI (fun _ j=>0<j) fun i j=>.int (i%j)) (f6 1) (dC (.int 2))) (dC (.int 1))) gq))) (gi (j5 (gi (f6 0) (gi (gk oEq (gk (oI (fun _ j=>0<j) fun i j=>.int (i%j)) (f6 1) (dC (.int 2))) (dC (.int 0))) gq))) (gi (j5 (gi (iN 1 Bp (gi (f6 0) gq)) (gi (gk oEq (gk (oI (fun _ j=>0<j) fun i j=>.int (i%j)) (f6 1) (dC (.int 4))) (dC (.int 1))) gq))) gq)))))
 (gB (mS (jT (f6 2)) (zb 2 (il (gJ 3) (il (gJ 4) kW))) (gB (ig 5 (iN 7 Bg (gi (gk gU (f6 3) (dC (.int 0))) (gi (gk gU (f6 3) (dC (.int 1))) (gi (gk gU (f6 3) (dC (.int 2))) (gi (gk gU (f6 3) (dC (.int 3))) (gi (gk gU (f6 3) (dC (.int 4))) (gi (gk gU (f6 3) (dC (.int 5))) (gi (gk gU (f6 3) (dC (.int 6))) gq)))))))))
 (gB (ig 6 (iN 2 Be (gi (f6 5) (gi (f6 4) gq))))
 (gB (ig 7 (iN 2 Ba (gi (f6 5) (gi (f6 6) gq))))
 (gB (ig 8 (iN 3 Br (gi (iQ oN (gi (f6 6) gq)) (gi (f6 7) (gi (f6 1) gq)))))
 (jJ (gR (gk (pz true) (f6 8) (dC .non))) (jt (iN 5 A5 (gi (f6 5) (gi (f6 4) (gi (f6 6) (gi (f6 7) (gi (iN 4 Bi (gi (f6 6) (gi (f6 7) (gi (f6 8) (gi (f6 1) gq))))) gq))))))) jI))))))
 (jt (dC .non))))
theorem WK:kM 2 Bh Hq ["_law_lists","_law_seed","_law_some","_law_row","_law_bent","_law_channel_here","_law_pieces","_law_above","_law_turns_here"]:=by
 intro ds Qr hl h;obtain⟨ws,most,c0,gG,rfl,p4,hm,g0,q⟩:=h;show Hq _ [.fz (.lst c0.parts),.fz (.int gG),.un,.un,.un,.un,.un,.un,.un];unfold Hq;have big:=kN;walk_at "px";refine⟨by omega,by omega,ws,most,c0,rfl,by omega,by omega,g0,fun c1 g1 xF nb=>⟨by omega,by omega,?_⟩⟩;obtain⟨L,hL,eL⟩:∃L:List (gu×Bool),L=[(c0,decide (gG%2=1)),(c0,decide (gG%2=0)),(c1,decide (gG%4=1))]/\D.lst [D.lst [D.lst c0.parts,D.bl (decide (gG%2=1))],D.lst [D.lst c0.parts,D.bl (decide (gG%2=0))],D.lst [(R.ow c1.parts).val,D.bl (decide (gG%4=1))]]=.lst (L.map fun x=>.lst [.lst x.1.parts,.bl x.2]):=⟨_,rfl,rfl⟩
 rw[eL];walk_at "go";refine vV L (fun x=>.lst [.lst x.1.parts,.bl x.2]) (fun Q' h=>?_) (fun i ρ=>i<=2/\∃a b d e f k:Sl,ρ=[.fz (.lst c0.parts),.fz (.int gG),.fz (.lst (L.map fun x=>.lst [.lst x.1.parts,.bl x.2])),a,b,d,e,f,k]) ⟨by omega,_,_,_,_,_,_,rfl⟩ ?_ ?_
 ·walk_at "px";exact h
 ·rintro i ⟨c,gc⟩ ρ hi ⟨xC,a,b,d,e,f,k,rfl⟩;have hg:iM ws most c/\(i=2->Fm c):=by
   rw[hL] at hi;match i,hi,xC with
   | 0,hi,_=>cases hi;exact⟨g0,fun z=>by omega⟩
   | 1,hi,_=>cases hi;exact⟨g0,fun z=>by omega⟩
   | 2,hi,_=>cases hi;exact⟨g1,fun _=>nb⟩
  clear hi;obtain⟨g,XO⟩:=hg;have sh:=FG g (by omega);have be:=g.be.len;have w2:=g.w2;have ke:=g.ke.1;generalize hP:(fun x:gu×Bool=>D.lst [D.lst x.1.parts,D.bl x.2])=F at *;rw[<-hP];dsimp only;generalize ZH:c0.parts=P0 at *;unfold gu.parts;walk_at "px";refine⟨_,rfl,_,rfl,_,rfl,_,rfl,_,rfl,_,rfl,_,rfl,_,_,_,_,_,_,_,rfl,?_⟩;show vG _ _ [_,_,_,_,_,.fz c.obj,_,_,_];walk_at "go";refine⟨c,gc,ws,rfl,sh,by omega,by omega,by omega,AY g,fun l N=>?_⟩;have kS:(gh c gc l).length<=500:=by
   have h1:=yc N.nd fun w hw=>AY g w ((N.mem w).mp hw)
   have h2:=FW (px c gc) (c.gF.length+1) (DU c gc) l;have h3:l.length*(c.gF.length+1)<=8*17:=Nat.mul_le_mul (by omega) (by omega);unfold gh;rw[au,show(vJ c).length=c.keeps.length from ae _];omega
  have lay:∀tr,wQ (gh c gc l) tr->i7 c gc l tr:=fun tr ok=>⟨⟨ws,most,by omega,hm,g⟩,N,ok⟩
  have fin:∀ts tr n,wQ (gh c gc l) tr->Qr (R.fz (nN c gc (gh c gc l) ts tr n)):=fun ts tr n ok=>q c gc l ts tr n (lay tr ok)
  clear lay;generalize gh c gc l=ps at kS fin ⊢;have e1:D.lst (ps.map jv)=j8 ps:=rfl;simp only[xZ];rw[e1];walk_at "go";refine⟨c,ps,rfl,sh,kS,fun ts ab=>?_⟩;have hv:=So ab;have Ij:ts.length<=11000000:=by
   have h1:=LQ c ps sh kS;have h2:=L5 ps kS;have h3:=ab.pm.length_eq;rw[au] at h3;omega
  simp only[xZ];rw[show D.lst (ts.map dT)=qc ts from rfl,show Sl.fz (j8 ps)=Sl.fz (.lst (ps.map jv)) from rfl];walk_at "go";rw[ae];refine⟨ps.length,ts,gG,rfl,by omega,Ij,hv,fun st=>?_,fun tu hp=>?_⟩
  ·walk_at "go";refine⟨?_,_,_,_,_,_,_,rfl⟩;have:i≠2:=fun z=>Sn ab (XO z) st
   omega
  ·walk_at "go";refine⟨ps,ts,tu,gG,rfl,by omega,hv,hp,fun tr ok=>?_⟩;exact⟨c,gc,ps,ts,tr,rfl,by omega,fun n=>fin ts tr n ok⟩
 ·rintro ρ ⟨h,_⟩;rw[hL] at h;exact absurd h (by simp)
end Wc
open PySem L2 PyProof.Rows Wc
local macro_rules | `(tactic| walk_at "px")=>`(tactic| (repeat(first | walk_at "b" | simp only[AD,AN,D4,C8,vf])))
namespace Wc
open PySem L2 PyProof.Rows
def AF:TX:=(gB (ig 1 (gk (oI (fun _ j=>0<j) fun i j=>.int (i%j)) (gk (oI mP fun i j=>.int (i*j)) (gk (oI (fun _ j=>0<j) fun i j=>.int (i%j)) (iQ xU (gi (qI (f6 0) rG (pA (dC (.int 1)))) gq)) (gk (oI ur fun i j=>.int (i ^ j.toNat)) (dC (.int 10)) (dC (.int 30)))) (dC (.int 40692))) (dC (.int 2147483399))))
 (gB (ig 2 (iN 2 Bh (gi (iN 2 Bn (gi (f6 0) (gi (dC (.int 16)) gq))) (gi (f6 1) gq))))
 (gB (ig 3 (iN 1 A9 (gi (f6 2) gq)))
 (gB (oA 4 (iN 1 zO (gi (f6 2) gq)))
 (gB (jJ (wY (gR (C1 4 (iN 2 zU (gi (f6 4) (gi (f6 3) gq)))))) (jt (dC (.bl false))) jI)
 (gB (D4 4 5)
 (gB (C8 4)
 (jt (iN 2 zU (gi (iN 1 zO (gi (f6 2) gq)) (gi (f6 3) gq)))))))))))
theorem Sm:kM 1 (Fi 63) AF ["_law_script","_law_seed","_law_layout_here","_law_due_here","_law_found","_law_group"]:=by
 intro ds Qr hl h;obtain⟨ns,rfl,hn,q⟩:=h;show AF _ [.fz (dI ns),.un,.un,.un,.un,.un];unfold AF dI;have big:=kN;walk_at "px";generalize (nO ns none (some 1)).sum%1000000000000000000000000000000*40692%2147483399=gG;walk_at "go";refine⟨ns,16,rfl,by omega,by decide,by decide,fun c0 g0=>?_⟩;have p4:=(L8 (Am ns)).len;refine⟨vh (Am ns),16,c0,gG,rfl,by omega,by omega,g0,fun c gc l ts tr n L=>?_⟩;walk_at "go";have ZD:(y4 c gc l tr).length<=40:=by
  have h1:=(zA (sU c (gh c gc l) tr l)).length_eq;have h2:=DS L L.nA;unfold y4;unfold sU at h1 ⊢;rw[ae] at h1;omega
 refine⟨c,gc,l,ts,tr,n,rfl,L,?_⟩;walk_at "go";refine⟨c,gc,l,ts,tr,n,rfl,L,?_⟩;walk_at "go";refine⟨y4 c gc l tr,rfl,rfl,?_⟩;walk_at "px";walk_at "go";refine⟨by decide,by decide,?_⟩;walk_at "go";refine⟨by rw[ae,ae];omega,?_⟩;walk_at "go";refine⟨c,gc,l,ts,tr,n,rfl,L,?_⟩;walk_at "px";exact⟨y4 c gc l tr,rfl,q⟩
end Wc
end
namespace Wc
open PySem PySem.Spec PyProof.Rows L2
local macro_rules | `(tactic| walk_at "sc")=>`(tactic| exact⟨rfl,rfl,rfl,by decide +kernel,rfl,by decide +kernel,by decide +kernel⟩)
local macro_rules | `(tactic| walk_at "bn")=>`(tactic| (intro _ _ _ _ _ _ us hl;first | (obtain⟨_,rfl⟩:=JC hl;exact rfl) | (obtain⟨_,_,rfl⟩:=JB hl;exact rfl) | (obtain⟨_,_,_,rfl⟩:=JA hl;exact rfl) | (obtain⟨_,_,_,_,rfl⟩:=Jz hl;exact rfl) | (obtain⟨_,_,_,_,_,rfl⟩:=Js hl;exact rfl) | (obtain⟨_,_,_,_,_,_,rfl⟩:=E5 hl;exact rfl) | (obtain⟨_,_,_,_,_,_,_,rfl⟩:=Jr hl;exact rfl)))
def top(i:Nat):Stmt:=PySem.Challenge.pw_wirechannel_k53_groups_told.main.body.getD i (.Pass ⟨0,0,0,0⟩)
structure Txt (K:Z9) (mg:Str->Option Value):Prop where
 b_any:mg "any"=none
 b_bool:mg "bool"=none
 b_enumerate:mg "enumerate"=none
 b_int:mg "int"=none
 b_isinstance:mg "isinstance"=none
 b_len:mg "len"=none
 b_list:mg "list"=none
 b_max:mg "max"=none
 b_min:mg "min"=none
 b_range:mg "range"=none
 b_set:mg "set"=none
 b_sorted:mg "sorted"=none
 b_sum:mg "sum"=none
 b_tuple:mg "tuple"=none
 b_zip:mg "zip"=none
section
variable {P:Program} {w:World} {K:Z9} {mg:Str->Option Value} {base:Heap}
abbrev lC:Stmt:=Lr (top 22) 0
theorem T7:gn ["self","top","bottom","left","right","wide","bends","keeps"] ("self"::["top","bottom","left","right","wide","bends","keeps"]) (gf lC):=by walk_at "sc"
theorem Vm(A:y8 K mg "Channel" "Channel.__init__" lC ["top","bottom","left","right","wide","bends","keeps"])(T:Txt K mg) :lZ P w K mg base 1 "Channel" 7 Bg:=by
 obtain⟨C,f,fd,hC,M,F,hm,na⟩:=A.ex;refine⟨C,f,fd,_,M,My (T:=DZ) F T7 hC (fun gN A outer s H E hr=>?_) (fun ds Qr _ h=>U6 ds Qr _ (fun fs e p hp=>na.all _ (by rw[<-e];exact bD hp)) h),hm,F.binds fun _ _ _ _ _ _ us hl=>by obtain⟨_,_,_,_,_,_,_,_,rfl⟩:=Jq hl;exact rfl⟩;have hu:=hr.units;exact(tw hC.cls na.1 (uy vj T.b_list eA (gj (f7 1) gr))
  (tw hC.cls na.2.1 (uy vj T.b_list eA (gj (f7 2) gr))
  (tw hC.cls na.2.2.1 (uy vj T.b_list eA (gj (f7 3) gr))
  (tw hC.cls na.2.2.2.1 (uy vj T.b_list eA (gj (f7 4) gr))
  (tw hC.cls na.2.2.2.2.1 (uy vj T.b_list eA (gj (f7 5) gr))
  (tw hC.cls na.2.2.2.2.2.1 (uy vj T.b_list eA (gj (f7 6) gr))
  (tw hC.cls na.2.2.2.2.2.2.1 (uy vj T.b_list eA (gj (f7 7) gr))
  Lc)))))))
abbrev mG:Stmt:=Lr (top 26) 0
theorem S9:gn ["self","channel","bent","pieces","above","tracks"] ("self"::["channel","bent","pieces","above","tracks"]) (gf mG):=by walk_at "sc"
theorem U3(A:y8 K mg "Layout" "Layout.__init__" mG ["channel","bent","pieces","above","tracks","count"])(T:Txt K mg)(kA:Known P w K mg base 1 "count_of" 2 zR):lZ P w K mg base 2 "Layout" 5 A5:=by
 obtain⟨C,f,fd,hC,M,F,hm,na⟩:=A.ex;refine⟨C,f,fd,_,M,My (T:=DR) F S9 hC (fun gN A outer s H E hr=>?_) (fun ds Qr _ h=>Vh ds Qr _ (fun fs e p hp=>na.all _ (by rw[<-e];exact bD hp)) h),hm,F.binds fun _ _ _ _ _ _ us hl=>by obtain⟨_,_,_,_,_,_,rfl⟩:=E5 hl;exact rfl⟩;have hu:=hr.units;exact(tw hC.cls na.1 (f7 1)
  (tw hC.cls na.2.1 (f7 2)
  (tw hC.cls na.2.2.1 (uy vj T.b_list eA (gj (f7 3) gr))
  (tw hC.cls na.2.2.2.1 (uy vj T.b_list eA (gj (f7 4) gr))
  (tw hC.cls na.2.2.2.2.1 (uy vj T.b_list eA (gj (f7 5) gr))
  (tw hC.cls na.2.2.2.2.2.1 (jd kA hr (gj (f7 3) (gj (f7 5) gr)))
  Lc))))))
theorem mE:gn ["_law_top","_law_bottom","_law_left","_law_right","_law_word","_law_some"] ["_law_top","_law_bottom","_law_left","_law_right","_law_word"] (gf (top 32)):=by walk_at "sc"
theorem lO:gn ["_law_lists","_law_top","_law_bottom","_law_left","_law_right","_law_wide","_law_bends_here","_law_keeps_here","_law_some","_law_lone"] ["_law_lists"] (gf (top 38)):=by walk_at "sc"
theorem Nh:(["_law_above","_law_below"]:List Str).Nodup:=by decide +kernel
theorem V1:(["_law_word"]:List Str).Nodup:=by decide +kernel
theorem V0:(["_law_word","_law_top","_law_bottom","_law_left","_law_right"]:List Str).Nodup:=by decide +kernel
theorem VZ:(["_law_word","_law_lone"]:List Str).Nodup:=by decide +kernel
theorem VY:(["_law_word","_law_lone"]:List Str).Nodup:=by decide +kernel
theorem VX:(["_law_word","_law_lone"]:List Str).Nodup:=by decide +kernel
theorem VW:(["_law_word","_law_lone"]:List Str).Nodup:=by decide +kernel
theorem VV:(["_law_pair","_law_top","_law_bottom","_law_left","_law_right"]:List Str).Nodup:=by decide +kernel
theorem nU:gn ["channel","pins"] ["channel"] (gf (top 2)):=by walk_at "sc"
theorem U2:(["name"]:List Str).Nodup:=by decide +kernel
theorem nV:gn ["channel","name","ends","column"] ["channel","name"] (gf (top 1)):=by walk_at "sc"
theorem mq:gn ["channel","end"] ["channel","end"] (gf (top 4)):=by walk_at "sc"
theorem lJ:gn ["channel","name","columns"] ["channel","name"] (gf (top 5)):=by walk_at "sc"
theorem VU:(["end","channel"]:List Str).Nodup:=by decide +kernel
theorem kH:gn ["channel","name"] ["channel","name"] (gf (top 9)):=by walk_at "sc"
theorem Nn:(["column","bent_name","name"]:List Str).Nodup:=by decide +kernel
theorem nc:gn ["channel","name","wide_name","width"] ["channel","name"] (gf (top 3)):=by walk_at "sc"
theorem lK:gn ["channel","name","bent","stretch","cuts","borders","width"] ["channel","name","bent"] (gf (top 8)):=by walk_at "sc"
theorem Ng:(["first","last","name","width"]:List Str).Nodup:=by decide +kernel
abbrev ip:Stmt:=top 7
theorem kg:gn ["channel","bent","pieces","name"] ["channel","bent"] (gf ip):=by walk_at "sc"
theorem Hg:(["first","last","tracks"]:List Str).Nodup:=by decide +kernel
theorem me:gn ["pieces","name","column"] ["pieces","name","column"] (gf (top 11)):=by walk_at "sc"
theorem Ni:(["number","piece","name","column"]:List Str).Nodup:=by decide +kernel
theorem k6:gn ["channel","pieces","triples","column","upper_name","lower_name","lowers","upper"] ["channel","pieces"] (gf (top 18)):=by walk_at "sc"
theorem WJ:(["lower","upper","column"]:List Str).Nodup:=by decide +kernel
theorem mn:gn ["one","other","column"] ["one","other"] (gf (top 10)):=by walk_at "sc"
theorem kG:gn ["keep","pieces","commons"] ["keep","pieces"] (gf (top 20)):=by walk_at "sc"
theorem Nm:(["number","piece","keep"]:List Str).Nodup:=by decide +kernel
theorem Nl:(["number","column"]:List Str).Nodup:=by decide +kernel
theorem kF:gn ["pieces","triples","upper","keep"] ["pieces"] (gf (top 19)):=by walk_at "sc"
theorem Nk:(["lower","column","upper"]:List Str).Nodup:=by decide +kernel
theorem nh:gn ["channel","pieces"] ["channel","pieces"] (gf (top 17)):=by walk_at "sc"
theorem ni:gn ["_law_cell","_law_k"] ["_law_cell","_law_k"] (gf (top 30)):=by walk_at "sc"
theorem lL:gn ["_law_count","_law_above","_law_seed","_law_uppers","_law_p","_law_q","_law_c","_law_waiting","_law_turns_here","_law_ready"] ["_law_count","_law_above","_law_seed"] (gf (top 39)):=by walk_at "sc"
theorem VT:(["_law_k"]:List Str).Nodup:=by decide +kernel
theorem VS:(["_law_q","_law_waiting","_law_uppers"]:List Str).Nodup:=by decide +kernel
theorem VR:(["_law_p","_law_waiting"]:List Str).Nodup:=by decide +kernel
theorem ng:gn ["pieces","tracks"] ["pieces","tracks"] (gf (top 24)):=by walk_at "sc"
theorem Nd:(["piece","track"]:List Str).Nodup:=by decide +kernel
theorem lP:gn ["_law_pieces","_law_tracks_here","_law_one","_law_t","_law_q"] ["_law_pieces","_law_tracks_here","_law_one","_law_t"] (gf (top 40)):=by walk_at "sc"
theorem k7:gn ["_law_pieces","_law_above","_law_turns_here","_law_seed","_law_tracks_here","_law_k","_law_one","_law_t","_law_p","_law_q","_law_c"] ["_law_pieces","_law_above","_law_turns_here","_law_seed"] (gf (top 41)):=by walk_at "sc"
theorem WI:(["_law_piece"]:List Str).Nodup:=by decide +kernel
theorem k8:gn ["_law_lists","_law_seed","_law_some","_law_row","_law_bent","_law_channel_here","_law_pieces","_law_above","_law_turns_here"] ["_law_lists","_law_seed"] (gf (top 42)):=by walk_at "sc"
theorem mv:gn ["_law_cell","_law_size","_law_signs","_law_stem_here","_law_k"] ["_law_cell","_law_size"] (gf (top 28)):=by walk_at "sc"
theorem lM:gn ["_law_cell","_law_size","_law_stem_here","_law_at","_law_other"] ["_law_cell"] (gf (top 29)):=by walk_at "sc"
theorem VQ:(["_law_sign","_law_stem_here","_law_at","_law_size"]:List Str).Nodup:=by decide +kernel
theorem VP:(["_law_k","_law_stem_here","_law_size"]:List Str).Nodup:=by decide +kernel
theorem VO:(["_law_k","_law_stem_here"]:List Str).Nodup:=by decide +kernel
theorem mB:gn ["_law_words","_law_cells","_law_seed","_law_width","_law_top","_law_bottom","_law_c","_law_row","_law_side","_law_k","_law_one"] ["_law_words","_law_cells","_law_seed","_law_width"] (gf (top 31)):=by walk_at "sc"
theorem mD:gn ["_law_words","_law_bits"] ["_law_words","_law_bits"] (gf (top 36)):=by walk_at "sc"
theorem Wv:(["_law_k","_law_words","_law_bits"]:List Str).Nodup:=by decide +kernel
theorem kI:gn ["_law_top","_law_bottom","_law_left","_law_right","_law_word","_law_places"] ["_law_top","_law_bottom","_law_left","_law_right","_law_word"] (gf (top 33)):=by walk_at "sc"
theorem Xf:(["_law_c","_law_word","_law_top","_law_bottom"]:List Str).Nodup:=by decide +kernel
theorem lQ:gn ["_law_lists","_law_words","_law_cells","_law_seed","_law_top","_law_bottom","_law_left","_law_right","_law_bends_here","_law_c","_law_one","_law_word","_law_l","_law_r","_law_here"] ["_law_lists","_law_words","_law_cells","_law_seed"] (gf (top 34)):=by walk_at "sc"
theorem VN:(["_law_x"]:List Str).Nodup:=by decide +kernel
theorem lN:gn ["_law_width","_law_cells","_law_seed","_law_keeps_here","_law_k","_law_cell","_law_one","_law_first"] ["_law_width","_law_cells","_law_seed"] (gf (top 35)):=by walk_at "sc"
theorem kK:gn ["_law_script","_law_most","_law_seed","_law_words","_law_width","_law_cells","_law_top","_law_bottom","_law_bits","_law_left","_law_right","_law_lone","_law_wide","_law_k","_law_word","_law_one","_law_bends_here","_law_keeps_here"] ["_law_script","_law_most"] (gf (top 37)):=by walk_at "sc"
theorem Xe:(["_law_word","_law_top","_law_bottom","_law_left","_law_right"]:List Str).Nodup:=by decide +kernel
theorem Xd:(["_law_word","_law_lone"]:List Str).Nodup:=by decide +kernel
theorem Xc:(["_law_word","_law_lone"]:List Str).Nodup:=by decide +kernel
theorem Xb:(["_law_word","_law_lone"]:List Str).Nodup:=by decide +kernel
theorem Xa:(["_law_word","_law_lone"]:List Str).Nodup:=by decide +kernel
theorem mF:gn ["_law_layout_here","_law_word","_law_channel_here","_law_ends_here","_law_c","_law_piece","_law_t"] ["_law_layout_here","_law_word"] (gf (top 43)):=by walk_at "sc"
theorem nj:gn ["_law_layout_here","_law_channel_here","_law_some"] ["_law_layout_here"] (gf (top 44)):=by walk_at "sc"
theorem Vl:(["_law_word"]:List Str).Nodup:=by decide +kernel
theorem Vk:(["_law_word","_law_layout_here"]:List Str).Nodup:=by decide +kernel
theorem ml:gn ["layout","name","end","number"] ["layout","name","end"] (gf (top 15)):=by walk_at "sc"
theorem mf:gn ["layout","name"] ["layout","name"] (gf (top 14)):=by walk_at "sc"
theorem Wu:(["end","layout","name"]:List Str).Nodup:=by decide +kernel
theorem mj:gn ["layout"] ["layout"] (gf (top 13)):=by walk_at "sc"
theorem Wt:(["name","layout"]:List Str).Nodup:=by decide +kernel
theorem kJ:gn ["_law_found","_law_due_here","_law_row","_law_end"] ["_law_found","_law_due_here"] (gf (top 45)):=by walk_at "sc"
theorem uC:gn ["_law_script","_law_seed","_law_layout_here","_law_due_here","_law_found","_law_group"] ["_law_script"] (gf (top 46)):=by walk_at "sc"
variable (T:Txt K mg)
variable (lF:lZ P w K mg base 1 "Channel" 7 Bg)
variable (mO:lZ P w K mg base 2 "Layout" 5 A5)
include T in
theorem VM(A:At K mg "_law_many" (top 32)):Known P w K mg base 1 "_law_many" 5 xm:=kX 0 A mE (fun f gN A outer s H E hr=>have hu:=hr.units;have nd:=mE.nd
 (gE (iK 5 (gH jq (gH jq (gH jq (f7 0) (f7 1)) (f7 2)) (f7 3)) nd)
   (gQ (jH (RU (RT hu) (.inl rfl) cB PySem.F.slot_list_count PySem.F.type_list_count (f7 5) (gj (f7 4) gr)))))) Wb (by walk_at "bn")
variable (g4:Known P w K mg base 1 "_law_many" 5 xm)
include T g4 in
theorem WH(A:At K mg "_law_eased" (top 38)):Known P w K mg base 2 "_law_eased" 1 Bp:=kX 1 A lO (fun f gN A outer s H E hr=>have hu:=hr.units;have nd:=lO.nd
 (gE (Di (f7 0) (FP rfl (je (gW 1 nd) (je (gW 2 nd) (je (gW 3 nd) (je (gW 4 nd) (je (gW 5 nd) (je (gW 6 nd) (je (gW 7 nd) oG)))))))))
   (gE (iK 2 (ny rfl (.of (N':=["_law_above","_law_below"]) (m:=[none,none]) (by kernel_rfl)) xk (DB T.b_zip (gj (f7 1) (gj (f7 2) gr))) (fun s3 H3 ex=>(pC rfl (je (gW 0 Nh) (je (gW 1 Nh) oG)))) (fun s3 H3 ex=>ph) (fun s3 H3 ex=>(zI (ik uw (f7 0) m9) m9 (f7 1)))) nd)
   (gE (iK 8 (GP rfl T.b_sorted T.b_set (gj (ny rfl (.of (N':=["_law_word"]) (m:=[none]) (by kernel_rfl)) lB (kR (gH jq (gH jq (gH jq (f7 1) (f7 2)) (f7 3)) (f7 4))) (fun s3 H3 ex=>(gW 0 V1)) (fun s3 H3 ex=>(pX (ik uw (f7 0) m9))) (fun s3 H3 ex=>(f7 0))) gr)) nd)
   (gE (iK 9 (ny rfl (.of (N':=["_law_word","_law_top","_law_bottom","_law_left","_law_right"]) (m:=[none,some 1,some 2,some 3,some 4]) (by kernel_rfl)) lB (kR (f7 8)) (fun s3 H3 ex=>(gW 0 V0)) (fun s3 H3 ex=>(pX (ik (lU hu) (jd g4 hr (gj (f7 1) (gj (f7 2) (gj (f7 3) (gj (f7 4) (gj (f7 0) gr)))))) gv))) (fun s3 H3 ex=>(f7 0))) nd)
   (gE (iK 1 (ny rfl (.of (N':=["_law_word","_law_lone"]) (m:=[none,some 9]) (by kernel_rfl)) lB (kR (f7 1)) (fun s3 H3 ex=>(gW 0 VZ)) (fun s3 H3 ex=>ph) (fun s3 H3 ex=>(zI (ik (r8 hu) (f7 0) (f7 1)) m9 (f7 0)))) nd)
   (gE (iK 2 (ny rfl (.of (N':=["_law_word","_law_lone"]) (m:=[none,some 9]) (by kernel_rfl)) lB (kR (f7 2)) (fun s3 H3 ex=>(gW 0 VY)) (fun s3 H3 ex=>ph) (fun s3 H3 ex=>(zI (ik (r8 hu) (f7 0) (f7 1)) m9 (f7 0)))) nd)
   (gE (iK 3 (ny rfl (.of (N':=["_law_word","_law_lone"]) (m:=[none,some 9]) (by kernel_rfl)) lB (kR (f7 3)) (fun s3 H3 ex=>(gW 0 VX)) (fun s3 H3 ex=>(pX (ik (DD hu) (f7 0) (f7 1)))) (fun s3 H3 ex=>(f7 0))) nd)
   (gE (iK 4 (ny rfl (.of (N':=["_law_word","_law_lone"]) (m:=[none,some 9]) (by kernel_rfl)) lB (kR (f7 4)) (fun s3 H3 ex=>(gW 0 VW)) (fun s3 H3 ex=>(pX (ik (DD hu) (f7 0) (f7 1)))) (fun s3 H3 ex=>(f7 0))) nd)
   (gE (zG 5 rfl (.of (N':=["_law_pair","_law_top","_law_bottom","_law_left","_law_right"]) (m:=[none,some 1,some 2,some 3,some 4]) (by kernel_rfl)) lB (kR (f7 5)) (fun s3 H3 ex=>(gW 0 VV)) (fun s3 H3 ex=>(pX (ik Ax (jd g4 hr (gj (f7 1) (gj (f7 2) (gj (f7 3) (gj (f7 4) (gj (g9 (f7 0) gv) gr)))))) gv))) (fun s3 H3 ex=>(f7 0)) nd)
   (gQ (jH (kQ (gj (f7 1) (gj (f7 2) (gj (f7 3) (gj (f7 4) (gj (f7 5) (gj (kQ gr) (gj (f7 7) gr)))))))))))))))))))) V2 (by walk_at "bn")
variable (jB:Known P w K mg base 2 "_law_eased" 1 Bp)
include T in
theorem Vj(A:At K mg "nets_of" (top 2)):Known P w K mg base 1 "nets_of" 1 xh:=kX 0 A nU (fun f gN A outer s H E hr=>have hu:=hr.units;have nd:=nU.nd
 (gE (zG 1 rfl (.of (N':=["name"]) (m:=[none]) (by kernel_rfl)) lB (kR (gH jq (kZ (f7 0)) (kZ (f7 0)))) (fun s3 H3 ex=>(gW 0 U2)) (fun s3 H3 ex=>(pX (ik uw (f7 0) m9))) (fun s3 H3 ex=>(f7 0)) nd)
   (gQ (jH (GP rfl T.b_sorted T.b_set (gj (gH jq (gH jq (f7 1) (kZ (f7 0))) (kZ (f7 0))) gr)))))) U4 (by walk_at "bn")
variable (iA:Known P w K mg base 1 "nets_of" 1 xh)
include T in
theorem Vi(A:At K mg "ends_of" (top 1)):Known P w K mg base 1 "ends_of" 2 zJ:=kX 0 A nV (fun f gN A outer s H E hr=>have hu:=hr.units;have nd:=nV.nd
 (gE (sf 2 (kQ gr) nd)
   (gE (kD (ik (r8 hu) (f7 1) (kZ (f7 0))) (gQ (qj 2 (oF (gj pd gr)))) kE)
   (gE (oQ aT rfl (tx T.b_range (gj (kY rf T.b_len du (gj (kZ (f7 0)) gr)) gr)) (gW 3 nd)
    (gE (kD (ik (lU hu) (g9 (kZ (f7 0)) (f7 3)) (f7 1)) (gQ (qj 2 (oF (gj pd (gj (f7 3) gr))))) kE)
   (gQ (kD (ik (lU hu) (g9 (kZ (f7 0)) (f7 3)) (f7 1)) (gQ (qj 2 (oF (gj pd (gj (f7 3) gr))))) kE))))
   (gE (kD (ik (r8 hu) (f7 1) (kZ (f7 0))) (gQ (qj 2 (oF (gj pd gr)))) kE)
   (gQ (xc 2))))))) U5 (by walk_at "bn")
variable (jb:Known P w K mg base 1 "ends_of" 2 zJ)
include T in
theorem VL(A:At K mg "column_of" (top 4)):Known P w K mg base 1 "column_of" 2 zP:=kX 0 A mq (fun f gN A outer s H E hr=>have hu:=hr.units;have nd:=mq.nd
 (gE (kD (ik (lU hu) (g9 (f7 1) gv) pd) (gQ (jH (xY gv))) kE)
   (gE (kD (ik (lU hu) (g9 (f7 1) gv) pd) (gQ (jH (kY rf T.b_len du (gj (kZ (f7 0)) gr)))) kE)
   (gQ (jH (g9 (f7 1) gv)))))) V9 (by walk_at "bn")
variable (iu:Known P w K mg base 1 "column_of" 2 zP)
include T jb iu in
theorem WG(A:At K mg "stretch_of" (top 5)):Known P w K mg base 2 "stretch_of" 2 Bs:=kX 1 A lJ (fun f gN A outer s H E hr=>have hu:=hr.units;have nd:=lJ.nd
 (gE (zG 2 rfl (.of (N':=["end","channel"]) (m:=[none,some 0]) (by kernel_rfl)) lB (kR (jd jb hr (gj (f7 0) (gj (f7 1) gr)))) (fun s3 H3 ex=>(gW 0 VU)) (fun s3 H3 ex=>ph) (fun s3 H3 ex=>(jd iu hr (gj (f7 1) (gj (f7 0) gr)))) nd)
   (gE (kD (ik zg (TY rfl T.b_len T.b_set (gj (f7 2) gr)) gv) (gQ (jH m9)) kE)
   (gQ (jH (oF (gj (kY (C2 rfl) T.b_min boot_min (gj (f7 2) gr)) (gj (kY (AG rfl) T.b_max boot_max (gj (f7 2) gr)) gr)))))))) WR (by walk_at "bn")
variable (jx:Known P w K mg base 2 "stretch_of" 2 Bs)
include T in
theorem WZ(A:At K mg "bend_columns" (top 9)):Known P w K mg base 1 "bend_columns" 2 Bm:=kX 0 A kH (fun f gN A outer s H E hr=>have hu:=hr.units;have nd:=kH.nd
 (gQ (jH (ny rfl (.of (N':=["column","bent_name","name"]) (m:=[none,none,some 1]) (by kernel_rfl)) xk (kR (kZ (f7 0))) (fun s3 H3 ex=>(pC rfl (je (gW 0 Nn) (je (gW 1 Nn) oG)))) (fun s3 H3 ex=>(pX (ik (lU hu) (f7 1) (f7 2)))) (fun s3 H3 ex=>(f7 0)))))) W3 (by walk_at "bn")
variable (iV:Known P w K mg base 1 "bend_columns" 2 Bm)
include T in
theorem Ws(A:At K mg "width_of" (top 3)):Known P w K mg base 1 "width_of" 2 zS:=kX 0 A nc (fun f gN A outer s H E hr=>have hu:=hr.units;have nd:=nc.nd
 (gE (oQ aT rfl (kR (kZ (f7 0))) (pC rfl (je (gW 2 nd) (je (gW 3 nd) oG)))
    (gQ (kD (ik (lU hu) (f7 2) (f7 1)) (gQ (jH (f7 3))) kE)))
   (gQ (jH gv)))) Vq (by walk_at "bn")
variable (kz:Known P w K mg base 1 "width_of" 2 zS)
include T jx iV kz in
theorem WE(A:At K mg "net_pieces" (top 8)):Known P w K mg base 3 "net_pieces" 3 yh:=kX 2 A lK (fun f gN A outer s H E hr=>have hu:=hr.units;have nd:=lK.nd
 (gE (iK 3 (jd jx hr (gj (f7 0) (gj (f7 1) gr))) nd)
   (gE (kD (ik E7 (f7 3) m9) (gQ (jH (kQ gr))) kE)
   (gE (iK 4 (zI (xa (f7 2)) (jd iV hr (gj (f7 0) (gj (f7 1) gr))) (kQ gr)) nd)
   (gE (iK 5 (gH jq (gH jq (kQ (gj (g9 (f7 3) gv) gr)) (f7 4)) (kQ (gj (g9 (f7 3) gv) gr))) nd)
   (gE (iK 6 (jd kz hr (gj (f7 0) (gj (f7 1) gr))) nd)
   (gQ (jH (ny rfl (.of (N':=["first","last","name","width"]) (m:=[none,none,some 1,some 6]) (by kernel_rfl)) xk (DB T.b_zip (gj (f7 5) (gj (sk (f7 5) (rm gv) tZ) gr))) (fun s3 H3 ex=>(pC rfl (je (gW 0 Ng) (je (gW 1 Ng) oG)))) (fun s3 H3 ex=>ph) (fun s3 H3 ex=>(oF (gj (f7 2) (gj (f7 0) (gj (f7 1) (gj (f7 3) gr))))))))))))))) WQ (by walk_at "bn")
variable (iB:Known P w K mg base 3 "net_pieces" 3 yh)
theorem U1(T:Txt K mg)(iA:Known P w K mg base 1 "nets_of" 1 xh)(iB:Known P w K mg base 3 "net_pieces" 3 yh){f:Addr}(gN:Value)(A:Around)(outer:List Env)(s:Shared)(H:Hp)(E:XK)(hr:iL 3 (A.deeper (envOfC "pieces_of" (gf ip) s.heap.objs.size f gN))) :
  rQ (tS qd P w K mg base ["channel","bent","pieces","name"] "pieces_of" (gf ip) f gN A outer s H E).vv (gZ ip) Ea:=by
 have hu:=hr.units
 exact(gE (FT 2 rfl (.of (N':=["first","last","tracks"]) (m:=[none,none,none]) (by kernel_rfl)) Vg (kR (kZ (f7 0))) (fun s3 H3 ex=>(pC rfl (je (gW 0 Hg) (je (gW 1 Hg) (je (gW 2 Hg) oG))))) (fun s3 H3 ex=>ph) (fun s3 H3 ex=>(oF (gj m9 (gj (f7 0) (gj (f7 1) (gj (f7 2) gr)))))) kg.nd)
   (gE (oQ aT rfl (kR (jd iA hr (gj (f7 0) gr))) (gW 3 kg.nd)
    (gQ (Fw 2 (jd iB hr (gj (f7 0) (gj (f7 3) (gj (f7 1) gr)))))))
   (gQ (xc 2))))
theorem VJ(A:EW K mg "pieces_of" ip [.bool false])(T:Txt K mg)(iA:Known P w K mg base 1 "nets_of" 1 xh)(iB:Known P w K mg base 3 "net_pieces" 3 yh):oi P w K mg base 4 "pieces_of" 2 Be false:=by
 obtain⟨_,f,fd,_,_,F,hm,lk,hd⟩:=A.ex;exact⟨f,fd,["channel","bent"],FR F kg (U1 T iA iB) V6,hm,F.kp,F.uY 2 lk hd (fun _ _ _ _ _ _ us hl=>match us,hl with | [_,_],_=>⟨_,rfl,rfl⟩),F.uY 1 lk hd (fun _ _ _ _ _ _ us hl=>match us,hl with | [_],_=>⟨_,rfl,rfl⟩)⟩
variable (jM:oi P w K mg base 4 "pieces_of" 2 Be false)
include T in
theorem VI(A:At K mg "pieces_at" (top 11)):Known P w K mg base 1 "pieces_at" 3 yf:=kX 0 A me (fun f gN A outer s H E hr=>have hu:=hr.units;have nd:=me.nd
 (gQ (jH (ny rfl (.of (N':=["number","piece","name","column"]) (m:=[none,none,some 1,some 2]) (by kernel_rfl)) xk (zH T.b_enumerate (gj (f7 0) gr)) (fun s3 H3 ex=>(pC rfl (je (gW 0 Ni) (je (gW 1 Ni) oG)))) (fun s3 H3 ex=>(pX (sr (ik (lU hu) (g9 (f7 1) gv) (f7 2)) (vQ (Sk Fg Fg (g9 (f7 1) gv) (f7 3) (g9 (f7 1) gv)))).pb)) (fun s3 H3 ex=>(f7 0)))))) V7 (by walk_at "bn")
variable (hU:Known P w K mg base 1 "pieces_at" 3 yf)
include T hU in
theorem W9(A:At K mg "pin_triples" (top 18)):Known P w K mg base 2 "pin_triples" 2 Bj:=kX 1 A k6 (fun f gN A outer s H E hr=>have hu:=hr.units;have nd:=k6.nd
 (gE (sf 2 (kQ gr) nd)
   (gE (oQ aT rfl (tx T.b_range (gj (kY rf T.b_len du (gj (kZ (f7 0)) gr)) gr)) (gW 3 nd)
    (gE (iK 4 (g9 (kZ (f7 0)) (f7 3)) nd)
   (gE (iK 5 (g9 (kZ (f7 0)) (f7 3)) nd)
   (gQ (kD (sr (ik uw (f7 4) m9) (sr (ik uw (f7 5) m9) (vQ (ik (E8 hu) (f7 4) (f7 5))))).pb (gE (iK 6 (jd hU hr (gj (f7 1) (gj (f7 5) (gj (f7 3) gr)))) nd)
   (gQ (oQ aT rfl (kR (jd hU hr (gj (f7 1) (gj (f7 4) (gj (f7 3) gr))))) (gW 7 nd)
    (gQ (Fw 2 (ny rfl (.of (N':=["lower","upper","column"]) (m:=[none,some 7,some 3]) (by kernel_rfl)) lB (kR (f7 6)) (fun s3 H3 ex=>(gW 0 WJ)) (fun s3 H3 ex=>ph) (fun s3 H3 ex=>(oF (gj (f7 1) (gj (f7 0) (gj (f7 2) gr))))))))))) kE)))))
   (gQ (xc 2))))) WM (by walk_at "bn")
variable (jg:Known P w K mg base 2 "pin_triples" 2 Bj)
include T in
theorem Wn(A:At K mg "common_of" (top 10)):Known P w K mg base 1 "common_of" 2 Bf:=kX 0 A mn (fun f gN A outer s H E hr=>have hu:=hr.units;have nd:=mn.nd
 (gE (iK 2 (kY (AG rfl) T.b_max boot_max (gj (g9 (f7 0) gv) (gj (g9 (f7 1) gv) gr))) nd)
   (gE (kD (ik Ax (f7 2) (kY (C2 rfl) T.b_min boot_min (gj (g9 (f7 0) gv) (gj (g9 (f7 1) gv) gr)))) (gQ (jH m9)) kE)
   (gQ (jH (f7 2)))))) V8 (by walk_at "bn")
variable (jP:Known P w K mg base 1 "common_of" 2 Bf)
include T jP in
theorem WY(A:At K mg "beneath_keep" (top 20)):Known P w K mg base 2 "beneath_keep" 2 Bl:=kX 1 A kG (fun f gN A outer s H E hr=>have hu:=hr.units;have nd:=kG.nd
 (gE (zG 2 rfl (.of (N':=["number","piece","keep"]) (m:=[none,none,some 0]) (by kernel_rfl)) xk (zH T.b_enumerate (gj (f7 1) gr)) (fun s3 H3 ex=>(pC rfl (je (gW 0 Nm) (je (gW 1 Nm) oG)))) (fun s3 H3 ex=>(pX (ik uw (g9 (f7 1) gv) m9))) (fun s3 H3 ex=>(oF (gj (f7 0) (gj (jd jP hr (gj (f7 2) (gj (f7 1) gr))) gr)))) nd)
   (gQ (jH (ny rfl (.of (N':=["number","column"]) (m:=[none,none]) (by kernel_rfl)) xk (kR (f7 2)) (fun s3 H3 ex=>(pC rfl (je (gW 0 Nl) (je (gW 1 Nl) oG)))) (fun s3 H3 ex=>(pX (ik uw (f7 1) m9))) (fun s3 H3 ex=>(oF (gj (f7 0) (gj (f7 1) gr))))))))) W2 (by walk_at "bn")
variable (iU:Known P w K mg base 2 "beneath_keep" 2 Bl)
include T iU in
theorem WX(A:At K mg "keep_triples" (top 19)):Known P w K mg base 3 "keep_triples" 1 Bk:=kX 2 A kF (fun f gN A outer s H E hr=>have hu:=hr.units;have nd:=kF.nd
 (gE (sf 1 (kQ gr) nd)
   (gE (oQ aT rfl (zH T.b_enumerate (gj (f7 0) gr)) (pC rfl (je (gW 2 nd) (je (gW 3 nd) oG)))
    (gQ (kD (ik E7 (g9 (f7 3) gv) m9) (gQ (Fw 1 (ny rfl (.of (N':=["lower","column","upper"]) (m:=[none,none,some 2]) (by kernel_rfl)) xk (kR (jd iU hr (gj (f7 3) (gj (f7 0) gr)))) (fun s3 H3 ex=>(pC rfl (je (gW 0 Nk) (je (gW 1 Nk) oG)))) (fun s3 H3 ex=>ph) (fun s3 H3 ex=>(oF (gj (f7 2) (gj (f7 0) (gj (f7 1) gr)))))))) kE)))
   (gQ (xc 1))))) W0 (by walk_at "bn")
variable (iT:Known P w K mg base 3 "keep_triples" 1 Bk)
include T jg iT in
theorem Wr(A:At K mg "above_of" (top 17)):Known P w K mg base 4 "above_of" 2 Ba:=kX 3 A nh (fun f gN A outer s H E hr=>have hu:=hr.units;have nd:=nh.nd
 (gQ (jH (kY (TH rfl) T.b_sorted fI (gj (gH jq (jd jg hr (gj (f7 0) (gj (f7 1) gr))) (jd iT hr (gj (f7 1) gr))) gr))))) Vp (by walk_at "bn")
variable (kB:Known P w K mg base 4 "above_of" 2 Ba)
include T in
theorem Wq(A:At K mg "_law_mix" (top 30)):Known P w K mg base 1 "_law_mix" 2 t7:=kX 0 A ni (fun f gN A outer s H E hr=>have hu:=hr.units;have nd:=ni.nd
 (gQ (jH (gH oR (gH j6 (gH jq (gH jq (gH vK (gH j6 (f7 0) (gH AL gv gv)) (gH jq (gH vK (f7 1) (f7 1)) gv)) (gH vK (gH vK (gH vK gv (f7 1)) (f7 1)) (f7 1))) gv) gv) gv)))) VE (by walk_at "bn")
variable (gA:Known P w K mg base 1 "_law_mix" 2 t7)
include T gA in
theorem WD(A:At K mg "_law_turns" (top 39)):Known P w K mg base 2 "_law_turns" 3 Br:=kX 1 A lL (fun f gN A outer s H E hr=>have hu:=hr.units;have nd:=lL.nd
 (gE (sf 3 (F3 rfl (.of (N':=["_law_k"]) (m:=[none]) (by kernel_rfl)) lB (tx T.b_range (gj (f7 0) gr)) (fun s3 H3 ex=>(gW 0 VT)) (fun s3 H3 ex=>ph) (fun s3 H3 ex=>(kQ gr))) nd)
   (gE (oQ aT rfl (kR (f7 1)) (pC rfl (je (gW 4 nd) (je (gW 5 nd) (je (gW 6 nd) oG))))
    (gQ (QR 3 (f7 5) (f7 4))))
   (gE (sf 7 (RZ rfl T.b_list T.b_range (gj (f7 0) gr)) nd)
   (gE (sf 8 (kQ gr) nd)
   (ya 3 (gE (LJ aT (ik Ax (KU 7 T.b_len) gv) (gE (R5 7 9 rfl (.of (N':=["_law_q","_law_waiting","_law_uppers"]) (m:=[none,some 7,some 3]) (by kernel_rfl)) lB (kR (f7 7)) (fun s3 H3 ex=>(gW 0 VS)) (fun s3 H3 ex=>(pX (zr (xa (kY (PF rfl) T.b_any boot_any (gj (ny rfl (.of (N':=["_law_p","_law_waiting"]) (m:=[none,some 1]) (by kernel_rfl)) lB (kR (g9 (f7 2) (f7 0))) (fun s3 H3 ex=>(gW 0 VR)) (fun s3 H3 ex=>ph) (fun s3 H3 ex=>(zu (r8 hu) (f7 0) (f7 1)))) gr)))))) (fun s3 H3 ex=>(f7 0)) nd)
   (ya 9 (gE (kD (ik (lU hu) (kY rf T.b_len du (gj (f7 9) gr)) gv) (gQ (jH m9)) kE)
   (gE (qj 8 (g9 (f7 9) (gH j6 (jd gA hr (gj (f7 2) (gj (gH jq (KU 8 T.b_len) gv) gr))) (kY rf T.b_len du (gj (f7 9) gr)))))
   (gQ (T4 7 (Dj 8 (xY gv)))))))))
   (gQ (xc 8))))))))) V4 (by walk_at "bn")
variable (jy:Known P w K mg base 2 "_law_turns" 3 Br)
include T in
theorem Wo(A:At K mg "count_of" (top 24)):Known P w K mg base 1 "count_of" 2 zR:=kX 0 A ng (fun f gN A outer s H E hr=>have hu:=hr.units;have nd:=ng.nd
 (gQ (jH (QG rfl (ny rfl (.of (N':=["piece","track"]) (m:=[none,none]) (by kernel_rfl)) xk (DB T.b_zip (gj (f7 0) (gj (f7 1) gr))) (fun s3 H3 ex=>(pC rfl (je (gW 0 Nd) (je (gW 1 Nd) oG)))) (fun s3 H3 ex=>ph) (fun s3 H3 ex=>(gH jq (f7 1) (g9 (f7 0) gv)))) gv T.b_max)))) Vo (by walk_at "bn")
variable (kA:Known P w K mg base 1 "count_of" 2 zR)
include T in
theorem WC(A:At K mg "_law_clear" (top 40)):Known P w K mg base 1 "_law_clear" 4 Bq:=kX 0 A lP (fun f gN A outer s H E hr=>have hu:=hr.units;have nd:=lP.nd
 (gE (oQ aT rfl (tx T.b_range (gj (kY rf T.b_len du (gj (f7 0) gr)) gr)) (gW 4 nd)
    (gQ (kD (sr (ik OG (g9 (f7 1) (f7 4)) gv) (vQ (Dl (ik E7 (g9 (g9 (f7 0) (f7 4)) gv) m9) (DC (ik (E8 hu) (g9 (g9 (f7 0) (f7 4)) gv) (g9 (g9 (f7 0) (f7 2)) gv)))).pb)).pb (gQ (kD (ik OH (kY (AG rfl) T.b_max boot_max (gj (g9 (g9 (f7 0) (f7 4)) gv) (gj (g9 (g9 (f7 0) (f7 2)) gv) gr))) (kY (C2 rfl) T.b_min boot_min (gj (g9 (g9 (f7 0) (f7 4)) gv) (gj (g9 (g9 (f7 0) (f7 2)) gv) gr)))) (gQ (kD (sr (ik zg (g9 (f7 1) (f7 4)) (gH jq (f7 3) (g9 (g9 (f7 0) (f7 2)) gv))) (vQ (ik zg (f7 3) (gH jq (g9 (f7 1) (f7 4)) (g9 (g9 (f7 0) (f7 4)) gv))))).pb (gQ (jH zj)) kE)) kE)) kE)))
   (gQ (jH zj)))) V3 (by walk_at "bn")
variable (jC:Known P w K mg base 1 "_law_clear" 4 Bq)
include T gA jC in
theorem W8(A:At K mg "_law_tracks" (top 41)):Known P w K mg base 2 "_law_tracks" 4 Bi:=kX 1 A k7 (fun f gN A outer s H E hr=>have hu:=hr.units;have nd:=k7.nd
 (gE (FT 4 rfl (.of (N':=["_law_piece"]) (m:=[none]) (by kernel_rfl)) lB (kR (f7 0)) (fun s3 H3 ex=>(gW 0 WI)) (fun s3 H3 ex=>ph) (fun s3 H3 ex=>(xY gv)) nd)
   (gE (oQ aT rfl (zH T.b_enumerate (gj (f7 2) gr)) (pC rfl (je (gW 5 nd) (je (gW 6 nd) oG)))
    (gE (iK 7 (g9 (kQ (gj gv (gj gv (gj gv (gj gv (gj gv gr)))))) (gH j6 (jd gA hr (gj (f7 3) (gj (gH jq (f7 5) gv) gr))) gv)) nd)
   (gE (oQ aT rfl (kR (f7 1)) (pC rfl (je (gW 8 nd) (je (gW 9 nd) (je (gW 10 nd) oG))))
    (gQ (kD (ik (lU hu) (f7 9) (f7 6)) (gQ (iK 7 (kY (AG rfl) T.b_max boot_max (gj (f7 7) (gj (gH jq (Dj 4 (f7 8)) (g9 (g9 (f7 0) (f7 8)) gv)) gr))) nd)) kE)))
   (gE (LJ aT (zr (xa (Lb 4 (jd jC hr (gj (f7 0) (gj (f7 4) (gj (f7 6) (gj (f7 7) gr)))))))) (gQ (iK 7 (gH jq (f7 7) gv) nd)))
   (gQ (R7 4 (f7 6) (f7 7)))))))
   (gQ (xc 4))))) WL (by walk_at "bn")
variable (jh:Known P w K mg base 2 "_law_tracks" 4 Bi)
include T lF mO jB jM kB jy jh in
theorem W7(A:At K mg "_law_layout" (top 42)):Known P w K mg base 5 "_law_layout" 2 Bh:=kX 4 A k8 (fun f gN A outer s H E hr=>have hu:=hr.units;have nd:=k8.nd
 (gE (iK 2 (kQ (gj (kQ (gj (f7 0) (gj (zu (lU hu) (gH j6 (f7 1) gv) gv) gr))) (gj (kQ (gj (f7 0) (gj (zu (lU hu) (gH j6 (f7 1) gv) gv) gr))) (gj (kQ (gj (jd jB hr (gj (f7 0) gr)) (gj (zu (lU hu) (gH j6 (f7 1) gv) gv) gr))) gr)))) nd)
   (gE (oQ aT rfl (kR (f7 2)) (FP rfl (je (gW 3 nd) (je (gW 4 nd) oG)))
    (gE (iK 5 (LB lF hr (gj (g9 (f7 3) gv) (gj (g9 (f7 3) gv) (gj (g9 (f7 3) gv) (gj (g9 (f7 3) gv) (gj (g9 (f7 3) gv) (gj (g9 (f7 3) gv) (gj (g9 (f7 3) gv) gr)))))))) nd)
   (gE (iK 6 (jd jM.all hr (gj (f7 5) (gj (f7 4) gr))) nd)
   (gE (iK 7 (jd kB hr (gj (f7 5) (gj (f7 6) gr))) nd)
   (gE (iK 8 (jd jy hr (gj (kY rf T.b_len du (gj (f7 6) gr)) (gj (f7 7) (gj (f7 1) gr)))) nd)
   (gQ (kD (ik uw (f7 8) m9) (gQ (jH (LB mO hr (gj (f7 5) (gj (f7 4) (gj (f7 6) (gj (f7 7) (gj (jd jh hr (gj (f7 6) (gj (f7 7) (gj (f7 8) (gj (f7 1) gr))))) gr)))))))) kE)))))))
   (gQ (jH m9))))) WK (by walk_at "bn")
variable (ji:Known P w K mg base 5 "_law_layout" 2 Bh)
include T in
theorem Wm(A:At K mg "_law_stem" (top 28)):Known P w K mg base 1 "_law_stem" 2 Bz:=kX 0 A mv (fun f gN A outer s H E hr=>have hu:=hr.units;have nd:=mv.nd
 (gE (iK 2 pd nd)
   (gE (iK 3 pd nd)
   (gE (oQ aT rfl (tx T.b_range (gj (f7 1) gr)) (gW 4 nd)
    (gE (iK 3 (gH jq (f7 3) (g9 (f7 2) (gH j6 (f7 0) gv))) nd)
   (gQ (iK 0 (gH oR (f7 0) gv) nd))))
   (gQ (jH (f7 3))))))) We (by walk_at "bn")
variable (jQ:Known P w K mg base 1 "_law_stem" 2 Bz)
include T jQ in
theorem WB(A:At K mg "_law_named" (top 29)):Known P w K mg base 2 "_law_named" 1 Bv:=kX 1 A lM (fun f gN A outer s H E hr=>have hu:=hr.units;have nd:=lM.nd
 (gE (iK 0 (gH j6 (gH vK (gH jq (gH j6 (f7 0) (gH AL gv gv)) gv) gv) (gH jq (gH AL gv gv) gv)) nd)
   (gE (iK 1 (gH j6 (f7 0) gv) nd)
   (gE (iK 2 (jd jQ hr (gj (gH oR (f7 0) gv) (gj gv gr))) nd)
   (gE (iK 3 (gH j6 (gH oR (f7 0) gv) (gH jq (f7 1) gv)) nd)
   (gE (kD (ik (lU hu) (gH j6 (gH oR (f7 0) gv) gv) gv) (gQ (jH (ny rfl (.of (N':=["_law_sign","_law_stem_here","_law_at","_law_size"]) (m:=[none,some 2,some 3,some 1]) (by kernel_rfl)) lB (kR pd) (fun s3 H3 ex=>(gW 0 VQ)) (fun s3 H3 ex=>ph) (fun s3 H3 ex=>(gH jq (gH jq (sk (f7 1) tZ (rm (f7 2))) (f7 0)) (sk (f7 1) (rm (f7 2)) (rm (f7 3)))))))) kE)
   (gE (kD (ik (lU hu) (gH j6 (gH oR (f7 0) gv) gv) gv) (gQ (jH (ny rfl (.of (N':=["_law_k","_law_stem_here","_law_size"]) (m:=[none,some 2,some 1]) (by kernel_rfl)) lB (tx T.b_range (gj gv gr)) (fun s3 H3 ex=>(gW 0 VP)) (fun s3 H3 ex=>ph) (fun s3 H3 ex=>(gH jq (gH jq (gH jq (sk (f7 1) tZ (rm (gH j6 (f7 2) gv))) (g9 pd (gH oR (f7 0) gv))) (g9 pd (gH j6 (gH oR (f7 0) gv) gv))) (g9 pd (gH j6 (f7 0) gv))))))) kE)
   (gE (iK 4 (gH jq (g9 pd (uy Py T.b_int boot_int (gj (zu (lU hu) (g9 (f7 2) gv) pd) gr))) (sk (f7 2) (rm gv) tZ)) nd)
   (gQ (jH (gH jq (ny rfl (.of (N':=["_law_k","_law_stem_here"]) (m:=[none,some 2]) (by kernel_rfl)) lB (tx T.b_range (gj gv gr)) (fun s3 H3 ex=>(gW 0 VO)) (fun s3 H3 ex=>ph) (fun s3 H3 ex=>(sk (f7 1) tZ (rm (gH jq (f7 0) gv))))) (kQ (gj (sk (f7 4) tZ (rm gv)) (gj (sk (f7 4) tZ (rm gv)) gr)))))))))))))) WU (by walk_at "bn")
variable (jz:Known P w K mg base 2 "_law_named" 1 Bv)
include T gA in
theorem Wl(A:At K mg "_law_pins" (top 31)):Known P w K mg base 2 "_law_pins" 4 By:=kX 1 A mB (fun f gN A outer s H E hr=>have hu:=hr.units;have nd:=mB.nd
 (gE (sf 4 (kQ gr) nd)
   (gE (sf 5 (kQ gr) nd)
   (gE (oQ aT rfl (tx T.b_range (gj (f7 3) gr)) (gW 6 nd)
    (gE (sf 7 (kQ gr) nd)
   (gE (oQ aT rfl (tx T.b_range (gj gv gr)) (gW 8 nd)
    (gE (iK 9 (gH jq (gH vK gv (f7 6)) (f7 8)) nd)
   (gE (iK 10 (jd gA hr (gj (f7 2) (gj (f7 9) gr))) nd)
   (gE (kD (ik zg (f7 9) (kY rf T.b_len du (gj (f7 1) gr))) (gQ (iK 10 (jd gA hr (gj (g9 (f7 1) (f7 9)) (gj (f7 9) gr))) nd)) kE)
   (gQ (qj 7 (g9 (kQ (gj (g9 (f7 0) (gH j6 (f7 10) gv)) (gj (g9 (f7 0) (gH j6 (gH oR (f7 10) gv) gv)) (gj (g9 (f7 0) (gH j6 (gH oR (f7 10) gv) gv)) (gj m9 gr))))) (gH j6 (gH oR (f7 10) gv) gv))))))))
   (gE (qj 4 (Dj 7 gv))
   (gQ (qj 5 (Dj 7 gv)))))))
   (ya 5 (ya 4 (gQ (jH (oF (gj (f7 4) (gj (f7 5) gr))))))))))) Wd (by walk_at "bn")
variable (jR:Known P w K mg base 2 "_law_pins" 4 By)
include T in
theorem Wk(A:At K mg "_law_open" (top 36)):Known P w K mg base 1 "_law_open" 2 zQ:=kX 0 A mD (fun f gN A outer s H E hr=>have hu:=hr.units;have nd:=mD.nd
 (gE (kD (ik (lU hu) (gH j6 (gH oR (f7 1) gv) gv) gv) (gQ (jH (kQ gr))) kE)
   (gQ (jH (kY (LD rfl) T.b_sorted fI (gj (ny rfl (.of (N':=["_law_k","_law_words","_law_bits"]) (m:=[none,some 0,some 1]) (by kernel_rfl)) lB (tx T.b_range (gj gv gr)) (fun s3 H3 ex=>(gW 0 Wv)) (fun s3 H3 ex=>(pX (ik (lU hu) (gH j6 (gH oR (f7 2) (g9 (kQ (gj gv (gj gv (gj gv (gj gv (gj gv (gj gv (gj gv (gj gv gr))))))))) (f7 0))) gv) gv))) (fun s3 H3 ex=>(g9 (f7 1) (f7 0)))) gr)))))) Wa (by walk_at "bn")
variable (jn:Known P w K mg base 1 "_law_open" 2 zQ)
include T in
theorem zev(A:At K mg "_law_stretch" (top 33)):Known P w K mg base 1 "_law_stretch" 5 Bo:=kX 0 A kI (fun f gN A outer s H E hr=>have hu:=hr.units;have nd:=kI.nd
 (gE (FT 5 rfl (.of (N':=["_law_c","_law_word","_law_top","_law_bottom"]) (m:=[none,some 4,some 0,some 1]) (by kernel_rfl)) lB (tx T.b_range (gj (kY rf T.b_len du (gj (f7 0) gr)) gr)) (fun s3 H3 ex=>(gW 0 Xf)) (fun s3 H3 ex=>(pX (ik (r8 hu) (f7 1) (kQ (gj (g9 (f7 2) (f7 0)) (gj (g9 (f7 3) (f7 0)) gr)))))) (fun s3 H3 ex=>(f7 0)) nd)
   (gE (kD (ik (r8 hu) (f7 4) (f7 2)) (gQ (qj 5 (xY gv))) kE)
   (gE (kD (ik (r8 hu) (f7 4) (f7 3)) (gQ (qj 5 (kY rf T.b_len du (gj (f7 0) gr)))) kE)
   (ya 5 (gQ (jH (oF (gj (kY (C2 rfl) T.b_min boot_min (gj (gH jq (f7 5) (kQ (gj gv gr))) gr)) (gj (kY (AG rfl) T.b_max boot_max (gj (gH jq (f7 5) (kQ (gj (xY gv) gr))) gr)) gr)))))))))) W5 (by walk_at "bn")
variable (iW:Known P w K mg base 1 "_law_stretch" 5 Bo)
include T gA iW in
theorem WA(A:At K mg "_law_bends" (top 34)):Known P w K mg base 2 "_law_bends" 4 Bu:=kX 1 A lQ (fun f gN A outer s H E hr=>have hu:=hr.units;have nd:=lQ.nd
 (gE (Di (f7 0) (FP rfl (je (gW 4 nd) (je (gW 5 nd) (je (gW 6 nd) (je (gW 7 nd) oG))))))
   (gE (sf 8 (kQ gr) nd)
   (gE (oQ aT rfl (tx T.b_range (gj (kY rf T.b_len du (gj (f7 4) gr)) gr)) (gW 9 nd)
    (gE (iK 10 (jd gA hr (gj (g9 (gH jq (f7 2) (kQ (gj (f7 3) gr))) (gH j6 (f7 9) (gH jq (kY rf T.b_len du (gj (f7 2) gr)) gv))) (gj (gH jq (f7 9) gv) gr))) nd)
   (gE (iK 11 (g9 (f7 1) (gH j6 (f7 10) gv)) nd)
   (gE (kD (sr (ik (lU hu) (gH j6 (gH oR (f7 10) gv) gv) gv) (vQ (ik uw (g9 (f7 4) (f7 9)) m9))).pb (gQ (iK 11 (g9 (f7 4) (f7 9)) nd)) kE)
   (gE (Di (jd iW hr (gj (f7 4) (gj (f7 5) (gj (f7 6) (gj (f7 7) (gj (f7 11) gr)))))) (pC rfl (je (gW 12 nd) (je (gW 13 nd) oG))))
   (gE (zG 14 rfl (.of (N':=["_law_x"]) (m:=[none]) (by kernel_rfl)) lB (kR (kQ (gj (g9 (f7 4) (f7 9)) (gj (g9 (f7 5) (f7 9)) gr)))) (fun s3 H3 ex=>(gW 0 VN)) (fun s3 H3 ex=>(pX (ik uw (f7 0) m9))) (fun s3 H3 ex=>(f7 0)) nd)
   (gQ (kD (sr (ik zg (f7 12) (f7 9)) (sr (ik zg (f7 9) (f7 13)) (sr (Dl (ik (lU hu) (f7 14) (kQ gr)) (DC (ik (r8 hu) (f7 11) (f7 14)))).pb (vQ (ik Ax (gH j6 (gH oR (f7 10) gv) gv) gv))))).pb (gQ (qj 8 (oF (gj (f7 9) (gj (f7 11) gr))))) kE))))))))
   (gQ (xc 8)))))) WT (by walk_at "bn")
variable (jD:Known P w K mg base 2 "_law_bends" 4 Bu)
include T gA in
theorem Wz(A:At K mg "_law_keeps" (top 35)):Known P w K mg base 2 "_law_keeps" 3 Bt:=kX 1 A lN (fun f gN A outer s H E hr=>have hu:=hr.units;have nd:=lN.nd
 (gE (sf 3 (kQ gr) nd)
   (gE (oQ aT rfl (zH T.b_enumerate (gj (sk (f7 1) tZ (rm gv)) gr)) (pC rfl (je (gW 4 nd) (je (gW 5 nd) oG)))
    (gE (iK 6 (jd gA hr (gj (gH jq (f7 5) (f7 2)) (gj (gH jq (f7 4) gv) gr))) nd)
   (gE (iK 7 (gH j6 (f7 6) (f7 0)) nd)
   (gQ (kD (ik (lU hu) (gH j6 (gH oR (f7 6) gv) gv) gv) (gQ (qj 3 (oF (gj (f7 7) (gj (gH jq (f7 7) (gH j6 (gH oR (f7 6) gv) (gH PH (f7 0) (f7 7)))) (gj (gH jq gv (gH j6 (gH oR (f7 6) gv) gv)) gr)))))) kE)))))
   (gQ (xc 3))))) WS (by walk_at "bn")
variable (jA:Known P w K mg base 2 "_law_keeps" 3 Bt)
include T g4 gA jz jR jn jD jA in
theorem WW(A:At K mg "_law_channel" (top 37)):Known P w K mg base 3 "_law_channel" 2 Bn:=kX 2 A kK (fun f gN A outer s H E hr=>have hu:=hr.units;have nd:=kK.nd
 (gE (iK 2 (gH j6 (gH vK (gH j6 (kY (C3 rfl) T.b_sum boot_sum (gj (sk (f7 0) tZ (rm gv)) gr)) (gH AL gv gv)) gv) gv) nd)
   (gE (iK 3 (jd jz hr (gj (kY (C3 rfl) T.b_sum boot_sum (gj (sk (f7 0) tZ (rm gv)) gr)) gr)) nd)
   (gE (iK 4 (gH jq gv (gH j6 (f7 2) (f7 1))) nd)
   (gE (iK 5 (sk (f7 0) (rm gv) tZ) nd)
   (gE (Di (jd jR hr (gj (f7 3) (gj (f7 5) (gj (f7 2) (gj (f7 4) gr))))) (pC rfl (je (gW 6 nd) (je (gW 7 nd) oG))))
   (gE (iK 8 (jd gA hr (gj (kY (C3 rfl) T.b_sum boot_sum (gj (sk (f7 0) (rm gv) (rm gv)) gr)) (gj (gH jq gv (gH j6 (f7 2) gv)) gr))) nd)
   (gE (iK 9 (jd jn hr (gj (f7 3) (gj (f7 8) gr))) nd)
   (gE (iK 10 (jd jn hr (gj (f7 3) (gj (gH oR (f7 8) gv) gr))) nd)
   (gE (iK 11 (ny rfl (.of (N':=["_law_word","_law_top","_law_bottom","_law_left","_law_right"]) (m:=[none,some 6,some 7,some 9,some 10]) (by kernel_rfl)) lB (kR (f7 3)) (fun s3 H3 ex=>(gW 0 Xe)) (fun s3 H3 ex=>(pX (ik (lU hu) (jd g4 hr (gj (f7 1) (gj (f7 2) (gj (f7 3) (gj (f7 4) (gj (f7 0) gr)))))) gv))) (fun s3 H3 ex=>(f7 0))) nd)
   (gE (iK 6 (ny rfl (.of (N':=["_law_word","_law_lone"]) (m:=[none,some 11]) (by kernel_rfl)) lB (kR (f7 6)) (fun s3 H3 ex=>(gW 0 Xd)) (fun s3 H3 ex=>ph) (fun s3 H3 ex=>(zI (ik (r8 hu) (f7 0) (f7 1)) m9 (f7 0)))) nd)
   (gE (iK 7 (ny rfl (.of (N':=["_law_word","_law_lone"]) (m:=[none,some 11]) (by kernel_rfl)) lB (kR (f7 7)) (fun s3 H3 ex=>(gW 0 Xc)) (fun s3 H3 ex=>ph) (fun s3 H3 ex=>(zI (ik (r8 hu) (f7 0) (f7 1)) m9 (f7 0)))) nd)
   (gE (iK 9 (ny rfl (.of (N':=["_law_word","_law_lone"]) (m:=[none,some 11]) (by kernel_rfl)) lB (kR (f7 9)) (fun s3 H3 ex=>(gW 0 Xb)) (fun s3 H3 ex=>(pX (ik (DD hu) (f7 0) (f7 1)))) (fun s3 H3 ex=>(f7 0))) nd)
   (gE (iK 10 (ny rfl (.of (N':=["_law_word","_law_lone"]) (m:=[none,some 11]) (by kernel_rfl)) lB (kR (f7 10)) (fun s3 H3 ex=>(gW 0 Xa)) (fun s3 H3 ex=>(pX (ik (DD hu) (f7 0) (f7 1)))) (fun s3 H3 ex=>(f7 0))) nd)
   (gE (sf 12 (kQ gr) nd)
   (gE (oQ aT rfl (zH T.b_enumerate (gj (kY (LD rfl) T.b_sorted fI (gj (f7 3) gr)) gr)) (pC rfl (je (gW 13 nd) (je (gW 14 nd) oG)))
    (gE (iK 15 (jd gA hr (gj (gH jq (f7 2) (f7 13)) (gj gv gr))) nd)
   (gQ (kD (sr (ik (lU hu) (gH j6 (f7 15) gv) gv) (vQ (ik Ax (jd g4 hr (gj (f7 6) (gj (f7 7) (gj (f7 9) (gj (f7 10) (gj (f7 14) gr)))))) gv))).pb (gQ (qj 12 (oF (gj (f7 14) (gj (gH jq gv (gH j6 (gH oR (f7 15) gv) gv)) gr))))) kE))))
   (gE (iK 16 (jd jD hr (gj (kQ (gj (f7 6) (gj (f7 7) (gj (f7 9) (gj (f7 10) gr))))) (gj (f7 3) (gj (f7 5) (gj (f7 2) gr))))) nd)
   (gE (iK 17 (kQ gr) nd)
   (gE (kD (ik (lU hu) (gH j6 (gH oR (f7 2) gv) gv) gv) (gQ (iK 17 (jd jA hr (gj (f7 4) (gj (f7 5) (gj (f7 2) gr)))) nd)) kE)
   (ya 12 (gQ (jH (kQ (gj (f7 6) (gj (f7 7) (gj (f7 9) (gj (f7 10) (gj (f7 12) (gj (f7 16) (gj (f7 17) gr)))))))))))))))))))))))))))))) W4 (by walk_at "bn")
variable (iX:Known P w K mg base 3 "_law_channel" 2 Bn)
include T in
theorem Wj(A:At K mg "_law_ends" (top 43)):Known P w K mg base 1 "_law_ends" 2 Bb:=kX 0 A mF (fun f gN A outer s H E hr=>have hu:=hr.units;have nd:=mF.nd
 (gE (iK 2 (kZ (f7 0)) nd)
   (gE (sf 3 (kQ gr) nd)
   (gE (oQ aT rfl (tx T.b_range (gj (kY rf T.b_len du (gj (kZ (f7 2)) gr)) gr)) (gW 4 nd)
    (gE (kD (ik (lU hu) (g9 (kZ (f7 2)) (f7 4)) (f7 1)) (gQ (qj 3 (oF (gj pd (gj (f7 4) gr))))) kE)
   (gQ (kD (ik (lU hu) (g9 (kZ (f7 2)) (f7 4)) (f7 1)) (gQ (qj 3 (oF (gj pd (gj (f7 4) gr))))) kE))))
   (gE (oQ aT rfl (DB T.b_zip (gj (kZ (f7 0)) (gj (kZ (f7 0)) gr))) (pC rfl (je (gW 5 nd) (je (gW 6 nd) oG)))
    (gE (kD (sr (ik (lU hu) (g9 (f7 5) gv) (f7 1)) (sr (ik (r8 hu) (f7 1) (kZ (f7 2))) (vQ (ik (lU hu) (g9 (f7 5) gv) (xY gv))))).pb (gQ (qj 3 (oF (gj pd (gj (f7 6) gr))))) kE)
   (gQ (kD (sr (ik (lU hu) (g9 (f7 5) gv) (f7 1)) (sr (ik (r8 hu) (f7 1) (kZ (f7 2))) (vQ (ik (lU hu) (g9 (f7 5) gv) (kY rf T.b_len du (gj (kZ (f7 2)) gr)))))).pb (gQ (qj 3 (oF (gj pd (gj (f7 6) gr))))) kE))))
   (ya 3 (gQ (jH (kY (Lf rfl) T.b_sorted fI (gj (f7 3) gr)))))))))) Ww (by walk_at "bn")
variable (jS:Known P w K mg base 1 "_law_ends" 2 Bb)
include T jS in
theorem VA(A:At K mg "_law_due" (top 44)):Known P w K mg base 2 "_law_due" 1 A9:=kX 1 A nj (fun f gN A outer s H E hr=>have hu:=hr.units;have nd:=nj.nd
 (gE (iK 1 (kZ (f7 0)) nd)
   (gE (iK 2 (gH jq (gH jq (gH jq (kZ (f7 1)) (kZ (f7 1))) (kZ (f7 1))) (kZ (f7 1))) nd)
   (gE (zG 2 rfl (.of (N':=["_law_word"]) (m:=[none]) (by kernel_rfl)) lB (kR (f7 2)) (fun s3 H3 ex=>(gW 0 Vl)) (fun s3 H3 ex=>(pX (ik uw (f7 0) m9))) (fun s3 H3 ex=>(f7 0)) nd)
   (gQ (jH (MK hu T.b_sorted (F3 rfl (.of (N':=["_law_word","_law_layout_here"]) (m:=[none,some 0]) (by kernel_rfl)) lB (kR (GP rfl T.b_sorted T.b_set (gj (f7 2) gr))) (fun s3 H3 ex=>(gW 0 Vk)) (fun s3 H3 ex=>ph) (fun s3 H3 ex=>(jd jS hr (gj (f7 1) (gj (f7 0) gr)))))))))))) Vn (by walk_at "bn")
variable (kC:Known P w K mg base 2 "_law_due" 1 A9)
include T iu hU in
theorem Wi(A:At K mg "drawn_end" (top 15)):Known P w K mg base 2 "drawn_end" 3 Bd:=kX 1 A ml (fun f gN A outer s H E hr=>have hu:=hr.units;have nd:=ml.nd
 (gE (kD (ik (r8 hu) (g9 (f7 2) gv) (oF (gj pd (gj pd gr)))) (gQ (jH (f7 2))) kE)
   (gE (iK 3 (g9 (jd hU hr (gj (kZ (f7 0)) (gj (f7 1) (gj (jd iu hr (gj (kZ (f7 0)) (gj (f7 2) gr))) gr)))) gv) nd)
   (gQ (jH (oF (gj (g9 (f7 2) gv) (gj (g9 (kZ (f7 0)) (f7 3)) gr)))))))) V5 (by walk_at "bn")
variable (jO:Known P w K mg base 2 "drawn_end" 3 Bd)
include T jb jO in
theorem Wh(A:At K mg "net_group" (top 14)):Known P w K mg base 3 "net_group" 2 Bc:=kX 2 A mf (fun f gN A outer s H E hr=>have hu:=hr.units;have nd:=mf.nd
 (gQ (jH (kY (Lf rfl) T.b_sorted fI (gj (ny rfl (.of (N':=["end","layout","name"]) (m:=[none,some 0,some 1]) (by kernel_rfl)) lB (kR (jd jb hr (gj (kZ (f7 0)) (gj (f7 1) gr)))) (fun s3 H3 ex=>(gW 0 Wu)) (fun s3 H3 ex=>ph) (fun s3 H3 ex=>(jd jO hr (gj (f7 1) (gj (f7 2) (gj (f7 0) gr)))))) gr))))) Wy (by walk_at "bn")
variable (jN:Known P w K mg base 3 "net_group" 2 Bc)
include T iA jN in
theorem Wg(A:At K mg "groups_of" (top 13)):Known P w K mg base 4 "groups_of" 1 zO:=kX 3 A mj (fun f gN A outer s H E hr=>have hu:=hr.units;have nd:=mj.nd
 (gQ (jH (MK hu T.b_sorted (F3 rfl (.of (N':=["name","layout"]) (m:=[none,some 0]) (by kernel_rfl)) lB (kR (jd iA hr (gj (kZ (f7 0)) gr))) (fun s3 H3 ex=>(gW 0 Wt)) (fun s3 H3 ex=>ph) (fun s3 H3 ex=>(jd jN hr (gj (f7 1) (gj (f7 0) gr))))))))) Wx (by walk_at "bn")
variable (jm:Known P w K mg base 4 "groups_of" 1 zO)
include T in
theorem WV(A:At K mg "_law_grouped" (top 45)):Known P w K mg base 1 "_law_grouped" 2 zU:=kX 0 A kJ (fun f gN A outer s H E hr=>have hu:=hr.units;have nd:=kJ.nd
 (gE (kD (Dl (zr (xa (Dh (f7 0) T.b_isinstance T.b_list eA))) (DC (ik (E8 hu) (kY rf T.b_len du (gj (f7 0) gr)) (kY rf T.b_len du (gj (f7 1) gr))))).pb (gQ (jH zj)) kE)
   (gE (oQ aT rfl (kR (f7 0)) (gW 2 nd)
    (gE (kD (zr (xa (Dh (f7 2) T.b_isinstance T.b_list eA))) (gQ (jH zj)) kE)
   (gQ (oQ aT rfl (kR (f7 2)) (gW 3 nd)
    (gQ (kD (Dl (zr (xa (Dh (f7 3) T.b_isinstance T.b_tuple boot_tuple))) (DC (xa (Dh (g9 (f7 3) (xY gv)) T.b_isinstance T.b_bool boot_bool)))).pb (gQ (jH zj)) kE))))))
   (gQ (jH (zu (lU hu) (f7 0) (f7 1))))))) Xg (by walk_at "bn")
variable (iw:Known P w K mg base 1 "_law_grouped" 2 zU)
include T ji iX kC jm iw in
theorem Qv  {f:Addr} (gN:Value) (A:Around) (outer:List Env) (s:Shared) (H:Hp) (E:XK) (hr:iL 5 (A.deeper (envOfC "law" (gf (top 46)) s.heap.objs.size f gN))) :
  rQ (tS qd P w K mg base ["_law_script","_law_seed","_law_layout_here","_law_due_here","_law_found","_law_group"] "law" (gf (top 46)) f gN A outer s H E).vv (gZ (top 46)) AF:=
 have hu:=hr.units;have nd:=uC.nd
 (gE (iK 1 (gH j6 (gH vK (gH j6 (kY (C3 rfl) T.b_sum boot_sum (gj (sk (f7 0) tZ (rm gv)) gr)) (gH AL gv gv)) gv) gv) nd)
   (gE (iK 2 (jd ji hr (gj (jd iX hr (gj (f7 0) (gj gv gr))) (gj (f7 1) gr))) nd)
   (gE (iK 3 (jd kC hr (gj (f7 2) gr)) nd)
   (gE (sf 4 (jd jm hr (gj (f7 2) gr)) nd)
   (gE (kD (zr (xa (Lb 4 (jd iw hr (gj (f7 4) (gj (f7 3) gr)))))) (gQ (jH zj)) kE)
   (gE (Vw 4 5 rfl nd aT)
   (gE (QI 4 m9)
   (gQ (jH (jd iw hr (gj (jd jm hr (gj (f7 2) gr)) (gj (f7 3) gr))))))))))))
theorem yA{fa:Addr}(T:Txt K mg)(m8:y8 K mg "Channel" "Channel.__init__" lC ["top","bottom","left","right","wide","bends","keeps"])(oz:y8 K mg "Layout" "Layout.__init__" mG ["channel","bent","pieces","above","tracks","count"])(AA:At K mg "_law_many" (top 32)/\At K mg "_law_eased" (top 38)/\At K mg "nets_of" (top 2)/\At K mg "ends_of" (top 1)/\At K mg "column_of" (top 4)/\At K mg "stretch_of" (top 5)/\At K mg "bend_columns" (top 9)/\At K mg "width_of" (top 3)/\At K mg "net_pieces" (top 8)/\At K mg "pieces_at" (top 11)/\At K mg "pin_triples" (top 18)/\At K mg "common_of" (top 10)/\At K mg "beneath_keep" (top 20)/\At K mg "keep_triples" (top 19)/\At K mg "above_of" (top 17)/\At K mg "_law_mix" (top 30)/\At K mg "_law_turns" (top 39)/\At K mg "count_of" (top 24)/\At K mg "_law_clear" (top 40)/\At K mg "_law_tracks" (top 41)/\At K mg "_law_layout" (top 42)/\At K mg "_law_stem" (top 28)/\At K mg "_law_named" (top 29)/\At K mg "_law_pins" (top 31)/\At K mg "_law_open" (top 36)/\At K mg "_law_stretch" (top 33)/\At K mg "_law_bends" (top 34)/\At K mg "_law_keeps" (top 35)/\At K mg "_law_channel" (top 37)/\At K mg "_law_ends" (top 43)/\At K mg "_law_due" (top 44)/\At K mg "drawn_end" (top 15)/\At K mg "net_group" (top 14)/\At K mg "groups_of" (top 13)/\At K mg "_law_grouped" (top 45)/\At K mg "law" (top 46)/\True)(lr:EW K mg "pieces_of" ip [.bool false])  (wy:mg "law"=some (.ref fa)):∃fd:FuncData,(∀(s:Shared) (u:Value),BindsTo s fd ⟨[u],[]⟩ [("_law_script",u)])/\∀base:Heap,lH P w K mg base qd 6 fa fd ["_law_script"] (y3 K 1 (Fi 63)):=by
 obtain⟨qV,pT,tN,tO,qR,pO,oo,rV,pP,qM,o4,qQ,om,oj,rX,rY,pQ,rW,pU,o5,o6,qS,pR,qT,qU,oq,pV,pS,ou,qW,rZ,qP,qN,qO,ot,CS,_⟩:=AA;refine PR (T:=fun _=>AF) CS wy uC (by walk_at "bn") (fun base f gN A outer s H E hr=>?_) (fun _=>Sm);have lF:lZ P w K mg base 1 "Channel" 7 Bg:=Vm m8 T;have g4:Known P w K mg base 1 "_law_many" 5 xm:=VM T qV;have jB:Known P w K mg base 2 "_law_eased" 1 Bp:=WH T g4 pT;have iA:Known P w K mg base 1 "nets_of" 1 xh:=Vj T tN;have jb:Known P w K mg base 1 "ends_of" 2 zJ:=Vi T tO;have iu:Known P w K mg base 1 "column_of" 2 zP:=VL T qR;have jx:Known P w K mg base 2 "stretch_of" 2 Bs:=WG T jb iu pO;have iV:Known P w K mg base 1 "bend_columns" 2 Bm:=WZ T oo;have kz:Known P w K mg base 1 "width_of" 2 zS:=Ws T rV;have iB:Known P w K mg base 3 "net_pieces" 3 yh:=WE T jx iV kz pP;have jM:oi P w K mg base 4 "pieces_of" 2 Be false:=VJ lr T iA iB;have hU:Known P w K mg base 1 "pieces_at" 3 yf:=VI T qM;have jg:Known P w K mg base 2 "pin_triples" 2 Bj:=W9 T hU o4;have jP:Known P w K mg base 1 "common_of" 2 Bf:=Wn T qQ;have iU:Known P w K mg base 2 "beneath_keep" 2 Bl:=WY T jP om;have iT:Known P w K mg base 3 "keep_triples" 1 Bk:=WX T iU oj;have kB:Known P w K mg base 4 "above_of" 2 Ba:=Wr T jg iT rX;have gA:Known P w K mg base 1 "_law_mix" 2 t7:=Wq T rY;have jy:Known P w K mg base 2 "_law_turns" 3 Br:=WD T gA pQ;have kA:Known P w K mg base 1 "count_of" 2 zR:=Wo T rW;have mO:lZ P w K mg base 2 "Layout" 5 A5:=U3 oz T kA;have jC:Known P w K mg base 1 "_law_clear" 4 Bq:=WC T pU;have jh:Known P w K mg base 2 "_law_tracks" 4 Bi:=W8 T gA jC o5;have ji:Known P w K mg base 5 "_law_layout" 2 Bh:=W7 T lF mO jB jM kB jy jh o6;have jQ:Known P w K mg base 1 "_law_stem" 2 Bz:=Wm T qS;have jz:Known P w K mg base 2 "_law_named" 1 Bv:=WB T jQ pR;have jR:Known P w K mg base 2 "_law_pins" 4 By:=Wl T gA qT;have jn:Known P w K mg base 1 "_law_open" 2 zQ:=Wk T qU;have iW:Known P w K mg base 1 "_law_stretch" 5 Bo:=zev T oq;have jD:Known P w K mg base 2 "_law_bends" 4 Bu:=WA T gA iW pV;have jA:Known P w K mg base 2 "_law_keeps" 3 Bt:=Wz T gA pS;have iX:Known P w K mg base 3 "_law_channel" 2 Bn:=WW T g4 gA jz jR jn jD jA ou;have jS:Known P w K mg base 1 "_law_ends" 2 Bb:=Wj T qW;have kC:Known P w K mg base 2 "_law_due" 1 A9:=VA T jS rZ;have jO:Known P w K mg base 2 "drawn_end" 3 Bd:=Wi T iu hU qP;have jN:Known P w K mg base 3 "net_group" 2 Bc:=Wh T jb jO qN;have jm:Known P w K mg base 4 "groups_of" 1 zO:=Wg T iA jN qO;have iw:Known P w K mg base 1 "_law_grouped" 2 zU:=WV T ot;exact Qv T ji iX kC jm iw gN A outer s H E hr
end
end Wc
open PySem PySem.W PyProof.Rows
theorem PySem.W.Fast.te14238620742275392765:True:=trivial
noncomputable def PySem.W.Fast.tw12027705122147344488:PySem.Program:=PySem.Challenge.pw_wirechannel_k53_groups_told
theorem PySem.W.Fast.te12027705122147344488:PySem.Challenge.pw_wirechannel_k53_groups_told=PySem.W.Fast.tw12027705122147344488:=rfl
noncomputable def PySem.W.Fast.tw16294210368982829244:List PySem.Stmt:=(PySem.Challenge.pw_wirechannel_k53_groups_told.main.body.drop 0).take 16
theorem PySem.W.Fast.te16294210368982829244:(PySem.Challenge.pw_wirechannel_k53_groups_told.main.body.drop 0).take 16=PySem.W.Fast.tw16294210368982829244:=rfl
noncomputable def PySem.W.Fast.tw17293888206687011266:List PySem.Stmt:=(PySem.Challenge.pw_wirechannel_k53_groups_told.main.body.drop 16).take 9
theorem PySem.W.Fast.te17293888206687011266:(PySem.Challenge.pw_wirechannel_k53_groups_told.main.body.drop 16).take 9=PySem.W.Fast.tw17293888206687011266:=rfl
noncomputable def PySem.W.Fast.tw4652463135570636850:List PySem.Stmt:=(PySem.Challenge.pw_wirechannel_k53_groups_told.main.body.drop 25).take 7
theorem PySem.W.Fast.te4652463135570636850:(PySem.Challenge.pw_wirechannel_k53_groups_told.main.body.drop 25).take 7=PySem.W.Fast.tw4652463135570636850:=rfl
noncomputable def PySem.W.Fast.tw10425249657407618046:List PySem.Stmt:=(PySem.Challenge.pw_wirechannel_k53_groups_told.main.body.drop 32).take 13
theorem PySem.W.Fast.te10425249657407618046:(PySem.Challenge.pw_wirechannel_k53_groups_told.main.body.drop 32).take 13=PySem.W.Fast.tw10425249657407618046:=rfl
noncomputable def PySem.W.Fast.tw6991373401696185061:List PySem.Stmt:=(PySem.Challenge.pw_wirechannel_k53_groups_told.main.body.drop 45).take 2
theorem PySem.W.Fast.te6991373401696185061:(PySem.Challenge.pw_wirechannel_k53_groups_told.main.body.drop 45).take 2=PySem.W.Fast.tw6991373401696185061:=rfl
inductive PySem.W.Fast|tw7683522080262745937|tw4140570142343779596|tw190227158110867322|tw298475524324124880|tw10755405947073073058|tw3566465374015954486|tw7185697034497208224|tw12216020748337988123|tw77041406761242682|tw9773350996289789820|tw14313897492862296776|tw15712771979591333110|tw629140942431096076|tw8200789012058996769|tw12607383657219791228|tw1479682796866960986|tw18032713854640738408|tw18057665195221665263|tw16737143618665667708|tw835548010223050444|tw1499276479423928810|tw7846684113145783062|tw15834028080766936173|tw8781760393680217519|tw1198581984086993783|tw11371566895863822559|tw7255529194215028279|tw6493749435828234163|tw6621359800563145023|tw14033298264262835101|tw5582740005178801310|tw9403497897892056175|tw13480483826132892529|tw9278106863307358590|tw8201967129331764729|tw14739779124739231989|tw5767456100200256563|tw17054076484280290285|tw5904391802871998153|tw12281012575488436845|tw8220635982412513078|tw12131118477030623780|tw6830168190066737043|tw7188173830764200539|tw12432086685348002096|tw11288176633950262544|tw3749505879682828400|tw17492963991964261447|tw9033517921445684978|tw6208447416865684715|tw9382021242775057090|tw10436891227434019720|tw12569618082688245538|tw16667502883868304518|tw7849975396387948892|tw6127233188314846039|tw17715485836287526674|tw15679092993159934484|tw2318283574799220265|tw2873414929979559498|tw13627795058040389383|tw15753875741757482521|tw17473292161606082149|tw13941626663186184513|tw4311021781055399445|tw10196562250835873872|tw7150291619209521101|tw17022831483972984960|tw16288348095804958354|tw575358877840220360|tw6781094574001528159|tw15916098672719696059|tw13751182502245463267|tw7279011067177853729|tw15076775164821907745|tw14726616028244176536|tw9152398279441622182|tw7688716015472416029|tw11380214144482983376|tw12302049447255009014|tw4405594084410297369|tw14492141137521140823|tw12922818649514809107|tw10468247619762573357|tw18094233365351000160|tw15603169546511193940|tw13628772531231309836|tw5151352034740605753
noncomputable def PySem.W.Fast.tw15853691729029889112:PySem.Program:={ PySem.Challenge.pw_wirechannel_k53_groups_told with main:={ PySem.Challenge.pw_wirechannel_k53_groups_told.main with body:=[1,2,3,4,5,8,9,10,11,13,14,15,17,18,19,20,22,24,26,28,29,30,31,32,33,34,35,36,37,38,39,40,41,42,43,44,45,46].map fun i=>PySem.Challenge.pw_wirechannel_k53_groups_told.main.body.getD i (.Pass ⟨0,0,0,0⟩) } }
theorem PySem.W.Fast.te15853691729029889112:({ PySem.Challenge.pw_wirechannel_k53_groups_told with main:={ PySem.Challenge.pw_wirechannel_k53_groups_told.main with body:=[1,2,3,4,5,8,9,10,11,13,14,15,17,18,19,20,22,24,26,28,29,30,31,32,33,34,35,36,37,38,39,40,41,42,43,44,45,46].map fun i=>PySem.Challenge.pw_wirechannel_k53_groups_told.main.body.getD i (.Pass ⟨0,0,0,0⟩) } }:PySem.Program)=PySem.W.Fast.tw15853691729029889112:=rfl
local macro_rules | `(tactic| walk_at "A")=>`(tactic| ((try dsimp only[L2.wU]);refine' L2.CL KX G ?a ?l ?c ?k;(case a=>k_is);(case l=>k_is);(case c=>k_is);(case k=>k_is)))
theorem PySem.Challenge.cw_wirechannel_k53_groups_told_holds : PySem.Challenge.rw_wirechannel_k53_groups_told.Holds := by
 w_on;o_law;k_head;(case hw=>w_witness2)
 k_fill
 refine L2.tE (l:=PySem.Challenge.rw_wirechannel_k53_groups_told) (n:=63) (k:=6) (x:="_law_script") rfl (by decide) rfl ⟨rfl,by decide,by decide⟩ (fun w h Y=>PySem.W.kIn_of Y) ?F
 case F=>
  intro w mg fa h KX G wy;have m8:L2.y8 (L2.wU KX) mg "Channel" "Channel.__init__" Wc.lC ["top","bottom","left","right","wide","bends","keeps"]:=by
   dsimp only[L2.wU];refine' L2.uZ KX G ?aC ?a1 ?i1 ?l1 ?c1 ?k1 ?pg ?hd ?po ?sa ?mk ?kc ⟨?n0,?n1,?n2,?n3,?n4,?n5,?n6,trivial⟩
   (case aC=>k_is)
   (case a1=>k_is)
   (case i1=>k_is)
   (case l1=>k_is)
   (case c1=>k_is)
   (case k1=>k_is)
   (case pg=>k_is)
   (case hd=>k_is)
   (case po=>k_is)
   (case sa=>k_is)
   (case mk=>k_is)
   (case kc=>k_is)
   (case n0=>unfold L2.gP;k_is)
   (case n1=>unfold L2.gP;k_is)
   (case n2=>unfold L2.gP;k_is)
   (case n3=>unfold L2.gP;k_is)
   (case n4=>unfold L2.gP;k_is)
   (case n5=>unfold L2.gP;k_is)
   (case n6=>unfold L2.gP;k_is)
  have oz:L2.y8 (L2.wU KX) mg "Layout" "Layout.__init__" Wc.mG ["channel","bent","pieces","above","tracks","count"]:=by
   dsimp only[L2.wU];refine' L2.uZ KX G ?aC ?a1 ?i1 ?l1 ?c1 ?k1 ?pg ?hd ?po ?sa ?mk ?kc ⟨?n0,?n1,?n2,?n3,?n4,?n5,trivial⟩
   (case aC=>k_is)
   (case a1=>k_is)
   (case i1=>k_is)
   (case l1=>k_is)
   (case c1=>k_is)
   (case k1=>k_is)
   (case pg=>k_is)
   (case hd=>k_is)
   (case po=>k_is)
   (case sa=>k_is)
   (case mk=>k_is)
   (case kc=>k_is)
   (case n0=>unfold L2.gP;k_is)
   (case n1=>unfold L2.gP;k_is)
   (case n2=>unfold L2.gP;k_is)
   (case n3=>unfold L2.gP;k_is)
   (case n4=>unfold L2.gP;k_is)
   (case n5=>unfold L2.gP;k_is)
  have lr:L2.EW (L2.wU KX) mg "pieces_of" Wc.ip [.bool false]:=by
   dsimp only[L2.wU];refine' L2.yY KX G ?a ?l ?c ?k ?t
   (case a=>k_is);(case l=>k_is);(case c=>k_is);(case k=>k_is);(case t=>k_is)
  have T:Wc.Txt (L2.wU KX) mg:=by
   dsimp only[L2.wU];refine' ⟨bC KX G ?b_any,bC KX G ?b_bool,bC KX G ?b_enumerate,bC KX G ?b_int,bC KX G ?b_isinstance,bC KX G ?b_len,bC KX G ?b_list,bC KX G ?b_max,bC KX G ?b_min,bC KX G ?b_range,bC KX G ?b_set,bC KX G ?b_sorted,bC KX G ?b_sum,bC KX G ?b_tuple,bC KX G ?b_zip⟩
   (case b_any=>k_is)
   (case b_bool=>k_is)
   (case b_enumerate=>k_is)
   (case b_int=>k_is)
   (case b_isinstance=>k_is)
   (case b_len=>k_is)
   (case b_list=>k_is)
   (case b_max=>k_is)
   (case b_min=>k_is)
   (case b_range=>k_is)
   (case b_set=>k_is)
   (case b_sorted=>k_is)
   (case b_sum=>k_is)
   (case b_tuple=>k_is)
   (case b_zip=>k_is)
  exact Wc.yA T m8 oz ⟨by walk_at "A",by walk_at "A",by walk_at "A",by walk_at "A",by walk_at "A",by walk_at "A",by walk_at "A",by walk_at "A",by walk_at "A",by walk_at "A",by walk_at "A",by walk_at "A",by walk_at "A",by walk_at "A",by walk_at "A",by walk_at "A",by walk_at "A",by walk_at "A",by walk_at "A",by walk_at "A",by walk_at "A",by walk_at "A",by walk_at "A",by walk_at "A",by walk_at "A",by walk_at "A",by walk_at "A",by walk_at "A",by walk_at "A",by walk_at "A",by walk_at "A",by walk_at "A",by walk_at "A",by walk_at "A",by walk_at "A",by walk_at "A",trivial⟩ lr wy
#print axioms PySem.Challenge.cw_wirechannel_k53_groups_told_holds
