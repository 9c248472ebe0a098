import PyProof.Rows.All
import Wide.All
import OpenK.AllK
import Wide.FinOn
import Lean
import PyProof.EqAt
import PyProof.EqKinds
import PyProof.TupleCall
import PyProof.NeKinds
import PyProof.SliceStr2
import PyProof.ConsumeWalk
import KE.KDictSum
import PyProof.DictWalks
import PyProof.AttrMissSeq
import KE.KDictOf
import PyProof.WalksS
import PyProof.Walks
import PyProof.DictList
import PyProof.MeetsDict
import PyProof.FactsAll.dict_3
import PyProof.MinMaxWalk
import PyProof.WalkInts
import PyProof.Rows.CallKwBuiltin
import PyProof.MaxThree
import PyProof.Rows.SortRunsK
import PyProof.Rows.SortShellK
import KE.KSortTup
import PyProof.DictRoadsH
import PyProof.DictIter
import KE.KDictList
import PyProof.ZipIter
import PyProof.TupleIter
import PyProof.WalksMore
import PyProof.SumWalkG
import PyProof.DictValues
import PyProof.FactsAll.dict_4
import PySem.SetOps
import PySem.Challenge.RW_wirechannel_k35_loads
set_option Elab.async false
set_option linter.all false
set_option maxRecDepth 100000
namespace L2
open PySem PySem.Spec PyProof.Rows
abbrev Key := Sum Int Str
def keyIs : Key → Value → Bool
  | .inl k, v => Value.isInt k v
  | .inr x, v => Value.isStrOf x v
def keyH (w : World) : Key → Int
  | .inl k => hashInt k
  | .inr x => hashStr w x
theorem keyIs_shape : ∀ {k : Key} {v : Value}, keyIs k v = true → (∃ i t, k = Sum.inl i ∧ v = Value.int i t) ∨ (∃ x t, k = Sum.inr x ∧ v = Value.str x t)
  | .inl i, v, h => by
    obtain ⟨t, e⟩ := Value.isInt_shape (k := i) (v := v) h
    exact .inl ⟨i, t, rfl, e⟩
  | .inr x, v, h => by
    obtain ⟨t, e⟩ := Value.isStrOf_shape (x := x) (v := v) h
    exact .inr ⟨x, t, rfl, e⟩
theorem keyIs_int (i : Int) (t : Tok) : keyIs (.inl i) (.int i t) = true := by simp [keyIs, Value.isInt]
theorem keyIs_str (x : Str) (t : Tok) : keyIs (.inr x) (.str x t) = true := by simp [keyIs, Value.isStrOf]
theorem key_ll (a b : Int) : decide ((Sum.inl a : Key) = Sum.inl b) = (a == b) := by
  by_cases e : a = b
  · subst e; simp
  · have h : ¬ (Sum.inl a : Key) = Sum.inl b := fun q => e (Sum.inl.inj q)
    rw [decide_eq_false h]
    exact (beq_eq_false_iff_ne.mpr e).symm
theorem key_rr (a b : Str) : decide ((Sum.inr a : Key) = Sum.inr b) = decide (a = b) := by
  by_cases e : a = b
  · subst e; simp
  · have h : ¬ (Sum.inr a : Key) = Sum.inr b := fun q => e (Sum.inr.inj q)
    rw [decide_eq_false h, decide_eq_false e]
theorem key_lr (a : Int) (b : Str) : decide ((Sum.inl a : Key) = Sum.inr b) = false := decide_eq_false (fun q => nomatch q)
theorem key_rl (a : Str) (b : Int) : decide ((Sum.inr a : Key) = Sum.inl b) = false := decide_eq_false (fun q => nomatch q)
def mixKind (prog : Program) (w : World) : PySem.KeyKind prog w Key where
  is := keyIs
  hash := keyH w
  inj := fun v a b ha hb => by
    rcases keyIs_shape ha with ⟨i, t, rfl, rfl⟩ | ⟨x, t, rfl, rfl⟩
    · rcases keyIs_shape hb with ⟨j, u, rfl, e⟩ | ⟨y, u, rfl, e⟩
      · injection e with e1 _; rw [e1]
      · exact nomatch e
    · rcases keyIs_shape hb with ⟨j, u, rfl, e⟩ | ⟨y, u, rfl, e⟩
      · exact nomatch e
      · injection e with e1 _; rw [e1]
  byValue := fun k v h => by
    rcases keyIs_shape h with ⟨i, t, rfl, rfl⟩ | ⟨x, t, rfl, rfl⟩ <;> rfl
  pyHash := fun hv h => by
    rcases keyIs_shape hv with ⟨i, t, rfl, rfl⟩ | ⟨x, t, rfl, rfl⟩
    · exact wpAny_pyHash_int h
    · exact wpAny_pyHash_str h
  eqBool := fun hu hv h => by
    rcases keyIs_shape hu with ⟨i, t, rfl, rfl⟩ | ⟨x, t, rfl, rfl⟩
    · rcases keyIs_shape hv with ⟨j, u, rfl, rfl⟩ | ⟨y, u, rfl, rfl⟩
      · rw [key_ll] at h; exact wpAny_eqBool_int h
      · rw [key_lr] at h; exact SeqAt.EqAt.int_str i t y u _ _ _ _ h
    · rcases keyIs_shape hv with ⟨j, u, rfl, rfl⟩ | ⟨y, u, rfl, rfl⟩
      · rw [key_rl] at h; exact SeqAt.EqAt.str_int x t j u _ _ _ _ h
      · rw [key_rr] at h; exact wpAny_eqBool_str h
  «strs» := fun k x t v h => by
    rcases keyIs_shape h with ⟨i, u, rfl, e⟩ | ⟨y, u, rfl, e⟩
    · exact nomatch e
    · injection e with e1 _
      subst e1
      cases v <;> rfl
theorem mixKind_int (prog : Program) (w : World) (i : Int) (t : Tok) : (mixKind prog w).is (.inl i) (.int i t) = true := keyIs_int i t
theorem mixKind_str (prog : Program) (w : World) (x : Str) (t : Tok) : (mixKind prog w).is (.inr x) (.str x t) = true := keyIs_str x t
end L2
namespace L2
open PySem PySem.Spec PyProof.Rows
inductive V where
  | non | bl (b : Bool) | int (i : Int) | str (x : Str) | byt (b : Array UInt8) | flt (b : UInt64) | ref (a : Addr) | ty (n : String)
  deriving DecidableEq
def RelV : V → Value → Prop
  | .non, u => u = Value.none
  | .bl b, u => u = Value.bool b
  | .int i, u => ∃ t, u = Value.int i t
  | .str x, u => ∃ t, u = Value.str x t
  | .byt b, u => ∃ t, u = Value.bytes b t
  | .flt b, u => ∃ t, u = Value.float b t
  | .ref a, u => u = Value.ref a
  | .ty n, u => u = Value.type n
abbrev Vals : List V → List Value → Prop := Paired RelV
theorem Vals.length {xs : List V} {us : List Value} (r : Vals xs us) : xs.length = us.length := Paired.length r
theorem Vals.get : ∀ {xs : List V} {us : List Value} {i : Nat} {x : V}, Vals xs us → xs[i]? = some x → ∃ u, us[i]? = some u ∧ RelV x u
  | _, _, _, _, .nil, e => by simp at e
  | _, _, 0, _, .cons r _, e => by simp at e; subst e; exact ⟨_, rfl, r⟩
  | _, _, i + 1, x, .cons _ t, e => by
    obtain ⟨u, h1, h2⟩ := Vals.get (i := i) (x := x) t (by simpa using e)
    exact ⟨u, by simpa using h1, h2⟩
theorem Vals.set {x : V} {u : Value} (r : RelV x u) : ∀ {xs : List V} {us : List Value} (i : Nat), Vals xs us → Vals (xs.set i x) (us.set i u)
  | _, _, _, .nil => .nil
  | _, _, 0, .cons _ t => .cons r t
  | _, _, i + 1, .cons q t => .cons q (Vals.set r i t)
theorem Vals.append : ∀ {xs ys : List V} {us ws : List Value}, Vals xs us → Vals ys ws → Vals (xs ++ ys) (us ++ ws)
  | _, _, _, _, .nil, s => s
  | _, _, _, _, .cons r t, s => .cons r (Vals.append t s)
theorem Vals.take : ∀ {xs : List V} {us : List Value} (n : Nat), Vals xs us → Vals (xs.take n) (us.take n)
  | _, _, 0, _ => .nil
  | _, _, _ + 1, .nil => .nil
  | _, _, n + 1, .cons r t => .cons r (Vals.take n t)
theorem Vals.drop : ∀ {xs : List V} {us : List Value} (n : Nat), Vals xs us → Vals (xs.drop n) (us.drop n)
  | _, _, 0, r => r
  | _, _, _ + 1, .nil => .nil
  | _, _, n + 1, .cons _ t => Vals.drop n t
def RelO : Option V → Option Value → Prop
  | some v, some u => RelV v u
  | none, none => True
  | _, _ => False
def KV {κ : Type} : List (κ × V) → List (κ × Value) → Prop := Paired fun (p : κ × V) (q : κ × Value) => p.1 = q.1 ∧ RelV p.2 q.2
def kV : Key → V
  | .inl i => .int i
  | .inr x => .str x
inductive HO where
  /-- a list -/
  | lst (xs : List V)
  /-- a tuple (never changes) -/
  | tup (xs : List V)
  /-- a dict whose keys are ints and texts; one whose keys are tuples of ints and texts (the empty one is both) -/
  | dK (kvs : List (Key × V)) (ep : Nat) | dT (kvs : List (List Key × V)) (bs : List Addr)
  /-- a set of ints: its members, its size -/
  | set (S : Int → Bool) (n : Nat)
  /-- an instance of the class at C, its dict at dx, its attributes -/
  | ins (C dx : Addr) (fs : List (Str × V))
  /-- the dict of the instance at x -/
  | own (x : Addr)
  /-- the dict of an exception -/
  | xd (fs : List (Str × V))
  /-- a bound method, f of x -/
  | met (f x : Addr)
  /-- a range object lo, lo + 1, .. below hi -/
  | rng (lo hi : Int)
  /-- a thing that is known to the object (the script; a dict while a loop walks it): read, never written while it is so -/
  | frz (o : Obj) (u : HO)
  /-- a code object's table -/
  | tbl (ps : Array Value)
  /-- any other thing, by what is true of its one object (a def of one's own: SetO a S n := HO.ext fun h => ..) -/
  | ext (φ : Heap → Prop)
abbrev Hp := Addr → Option HO
def upd (H : Hp) (a : Addr) (o : HO) : Hp := fun b => if b = a then some o else H b
theorem upd_same {H : Hp} {a : Addr} {o : HO} : upd H a o a = some o := by unfold upd; rw [if_pos rfl]
theorem upd_ne {H : Hp} {a b : Addr} {o : HO} (h : b ≠ a) : upd H a o b = H b := by unfold upd; rw [if_neg h]
theorem ne_of_none {H : Hp} {a b : Addr} {o : HO} (h : H a = some o) (h' : H b = none) : a ≠ b := by
  intro e; subst e; rw [h] at h'; cases h'
section
variable (P : Program) (w : World)
def ObjOk (H : Hp) (h : Heap) (a : Addr) : HO → Prop
  | .lst xs => xs.length ≤ sizeLine ∧ ∃ (its : List Value) (n : Nat), Vals xs its ∧ h.get? a = some { cls := .type "list", data := .seq its.toArray n }
  | .tup xs => xs.length ≤ sizeLine ∧ ∃ its : List Value, Vals xs its ∧ IsTup h a its.toArray
  | .dK kvs ep => kvs.length ≤ sizeLine ∧ (a == sysModules) = false ∧ ∃ vs, KV kvs vs ∧ h.DictAt (mixKind P w) a vs ep
  | .dT kvs bs => kvs.length ≤ sizeLine ∧ (a == sysModules) = false ∧ ∃ xs : List (List Key × Addr × Value), xs.map (fun x => x.2.1) = bs ∧
      Paired (fun (p : List Key × V) (q : List Key × Addr × Value) => p.1 = q.1 ∧ H q.2.1 = some (.tup (p.1.map kV)) ∧ RelV p.2 q.2.2) kvs xs ∧
      ∃ o es ep, h.get? a = some o ∧ o.ExactDict ∧ o.data = .dict es ep ∧ es.toList = xs.map (entryOfKey (tupleKind (mixKind P w))) ∧ (xs.map (·.1)).Nodup
  | .set S n => h.SetOf (intKind P w) a S n
  | .ins C dx fs => H dx = some (.own a) ∧ fs.length ≤ 1000 ∧ dx ≠ a ∧ h.get? a = some (PySem.W.instObj C dx) ∧
      ∃ mA, h.Ns1 dx mA ∧ (∀ f, RelO (fs.lookup f) (mA f)) ∧ PySem.Within mA (fs.map (·.1))
  | .own _ => ∃ o, h.get? a = some o
  | .xd fs => ∃ mA, h.Ns1 a mA ∧ ∀ f, RelO (fs.lookup f) (mA f)
  | .rng lo hi => ∃ t u v, h.get? a = some { cls := .type "range", data := .fields #[.int lo t, .int hi u, .int 1 v] }
  | .frz o u => h.get? a = some o ∧ ObjOk H h a u
  | .tbl ps => h.get? a = some { cls := .none, data := .fields ps }
  | .met f x => h.get? a = some (PySem.W.methodObj (.ref f) (.ref x))
  | .ext φ => φ h ∧ (∃ o, h.get? a = some o) ∧ ∀ h1 h2 : Heap, φ h1 → (∀ o, h1.get? a = some o → h2.get? a = some o) → φ h2
def HOk (H : Hp) (h : Heap) : Prop := ∀ a o, H a = some o → ObjOk P w H h a o
end
section
variable {P : Program} {w : World} {H H' : Hp} {h h' : Heap} {a : Addr} {o : HO}
theorem ObjOk.lt (x : ObjOk P w H h a o) : a < h.objs.size := by
  cases o with
  | lst xs => obtain ⟨_, _, _, _, e⟩ := x; exact Heap.lt_size e
  | tup xs => obtain ⟨_, _, _, p⟩ := x; exact p.lt
  | dK kvs ep => obtain ⟨_, _, _, _, o, _, e, _⟩ := x; exact Heap.lt_size e
  | dT kvs bs => obtain ⟨_, _, _, _, _, o, _, _, e, _⟩ := x; exact Heap.lt_size e
  | set S n => obtain ⟨o, _, _, _, e, _⟩ := x; exact Heap.lt_size e
  | ins C dx fs => obtain ⟨_, _, _, e, _⟩ := x; exact Heap.lt_size e
  | own y => obtain ⟨_, e⟩ := x; exact Heap.lt_size e
  | xd fs => obtain ⟨_, ⟨_, _, _, e, _⟩, _⟩ := x; exact Heap.lt_size e
  | rng lo hi => obtain ⟨_, _, _, e⟩ := x; exact Heap.lt_size e
  | frz ob u => obtain ⟨e, _⟩ := x; exact Heap.lt_size e
  | tbl ps => exact Heap.lt_size (show h.get? a = some _ from x)
  | met f y => exact Heap.lt_size (show h.get? a = some _ from x)
  | ext φ => obtain ⟨_, ⟨_, e⟩, _⟩ := x; exact Heap.lt_size e
theorem Paired.mapP {α β : Type} {F G : α → β → Prop} : ∀ {l₁ : List α} {l₂ : List β}, Paired F l₁ l₂ → (∀ a b, F a b → G a b) → Paired G l₁ l₂
  | _, _, .nil, _ => .nil
  | _, _, .cons r t, f => .cons (f _ _ r) (Paired.mapP t f)
theorem ObjOk.stay (x : ObjOk P w H h a o) (k : ∀ b u, (b = a ∨ H b = some (.own a)) → h.get? b = some u → h'.get? b = some u)
    (ho : ∀ b, H b = some (.own a) → H' b = some (.own a)) (ht : ∀ b xs, H b = some (.tup xs) → H' b = some (.tup xs)) : ObjOk P w H' h' a o := by
  induction o with
  | lst xs => obtain ⟨z, its, n, r, e⟩ := x; exact ⟨z, its, n, r, k _ _ (.inl rfl) e⟩
  | tup xs => obtain ⟨z, its, r, ob, e, c⟩ := x; exact ⟨z, its, r, ob, k _ _ (.inl rfl) e, c⟩
  | dK kvs ep => obtain ⟨z, y, vs, r, ob, es, e, c⟩ := x; exact ⟨z, y, vs, r, ob, es, k _ _ (.inl rfl) e, c⟩
  | dT kvs bs =>
    obtain ⟨z, y, xs, bq, r, ob, es, ep, e, c⟩ := x
    exact ⟨z, y, xs, bq, Paired.mapP r fun p q z => ⟨z.1, ht _ _ z.2.1, z.2.2⟩, ob, es, ep, k _ _ (.inl rfl) e, c⟩
  | set S n => obtain ⟨ob, es, ep, t, e, c⟩ := x; exact ⟨ob, es, ep, t, k _ _ (.inl rfl) e, c⟩
  | ins C dx fs =>
    obtain ⟨d, z, ne, e, mA, ⟨od, es, ep, e2, c⟩, r⟩ := x
    exact ⟨ho _ d, z, ne, k _ _ (.inl rfl) e, mA, ⟨od, es, ep, k _ _ (.inr d) e2, c⟩, r⟩
  | own y => obtain ⟨ob, e⟩ := x; exact ⟨ob, k _ _ (.inl rfl) e⟩
  | xd fs => obtain ⟨mA, ⟨od, es, ep, e, c⟩, r⟩ := x; exact ⟨mA, ⟨od, es, ep, k _ _ (.inl rfl) e, c⟩, r⟩
  | rng lo hi => obtain ⟨t, u, v, e⟩ := x; exact ⟨t, u, v, k _ _ (.inl rfl) e⟩
  | frz ob u ih => obtain ⟨e, q⟩ := x; exact ⟨k _ _ (.inl rfl) e, ih q⟩
  | tbl ps =>
    have e : h.get? a = some { cls := .none, data := .fields ps } := x
    show h'.get? a = some { cls := .none, data := .fields ps }
    exact k a _ (.inl rfl) e
  | met f y =>
    have e : h.get? a = some (PySem.W.methodObj (.ref f) (.ref y)) := x
    show h'.get? a = some (PySem.W.methodObj (.ref f) (.ref y))
    exact k a _ (.inl rfl) e
  | ext φ => obtain ⟨p, ⟨o, e⟩, st⟩ := x; exact ⟨st _ _ p fun o q => k _ _ (.inl rfl) q, ⟨o, k _ _ (.inl rfl) e⟩, st⟩
theorem HOk.lt (x : HOk P w H h) (e : H a = some o) : a < h.objs.size := (x a o e).lt
theorem HOk.fresh (x : HOk P w H h) (e : h.objs.size ≤ a) : H a = none := by
  cases q : H a with
  | none => rfl
  | some u => exact absurd (Nat.lt_of_lt_of_le (x.lt q) e) (Nat.lt_irrefl _)
theorem HOk.kept (x : HOk P w H h) (k : ∀ b u, h.get? b = some u → h'.get? b = some u) : HOk P w H h' := fun a o e =>
  (x a o e).stay (fun b u _ q => k b u q) (fun _ q => q) fun _ _ q => q
theorem HOk.laid (x : HOk P w H h) (k : ∀ b u, h.get? b = some u → h'.get? b = some u) (hp : h.objs.size ≤ a) (new : ObjOk P w (upd H a o) h' a o) : HOk P w (upd H a o) h' := fun b u e => by
  have hn := x.fresh hp
  by_cases hb : b = a
  · subst hb; rw [upd_same] at e; cases e; exact new
  · rw [upd_ne hb] at e
    exact (x b u e).stay (fun c v _ q => k c v q) (fun c q => by rw [upd_ne (ne_of_none q hn)]; exact q) fun c xs q => by rw [upd_ne (ne_of_none q hn)]; exact q
end
def Rd (H : Hp) (a : Addr) (u : HO) : Prop := H a = some u ∨ ∃ o, H a = some (.frz o u)
theorem Rd.of {H : Hp} {a : Addr} {u : HO} (h : H a = some u) : Rd H a u := .inl h
theorem Rd.ok {P : Program} {w : World} {H : Hp} {h : Heap} {a : Addr} {u : HO} (r : Rd H a u) (x : HOk P w H h) : ObjOk P w H h a u := by
  rcases r with r | ⟨o, r⟩
  · exact x a u r
  · obtain ⟨_, q⟩ := x a _ r
    exact q
def Mut : Option HO → Prop
  | some (.lst _) => True
  | some (.dK _ _) => True
  | some (.dT _ _) => True
  | some (.set _ _) => True
  | some (.ins _ _ _) => True
  | some (.ext _) => True
  | _ => False
section
variable {P : Program} {w : World} {H : Hp} {h h' : Heap} {x e : Addr} {o' : HO}
theorem HOk.write (ok : HOk P w H h) (mu : Mut (H x)) (he : e = x ∨ H e = some (.own x)) (k : ∀ b u, b ≠ e → h.get? b = some u → h'.get? b = some u) (heo : ∃ u, h'.get? e = some u)
    (new : ObjOk P w (upd H x o') h' x o') : HOk P w (upd H x o') h' := fun b u q => by
  have nown : ∀ c y, H c = some (.own y) → c ≠ x := fun c y r z => by subst z; rw [r] at mu; exact mu
  have ntup : ∀ c xs, H c = some (.tup xs) → c ≠ x := fun c xs r z => by subst z; rw [r] at mu; exact mu
  by_cases hb : b = x
  · subst hb; rw [upd_same] at q; cases q; exact new
  · rw [upd_ne hb] at q
    by_cases hbe : b = e
    · have q' : H b = some (.own x) := by
        rcases he with z | z
        · exact absurd (hbe.trans z) hb
        · rw [hbe]; exact z
      rw [q] at q'; cases q'
      obtain ⟨v, hv⟩ := heo
      exact ⟨v, by rw [hbe]; exact hv⟩
    · refine (ok b u q).stay (fun c v hc r => k c v ?_ r) (fun c r => by rw [upd_ne (nown c b r)]; exact r) fun c xs r => by rw [upd_ne (ntup c xs r)]; exact r
      rcases hc with rfl | hc
      · exact hbe
      · rintro rfl
        rcases he with z | z
        · exact nown c b hc z
        · rw [hc] at z; cases z; exact hb rfl
end
structure Un (fs ex : List Addr) (H H' : Hp) (h h' : Heap) : Prop where
  keep : ∀ b o, h.get? b = some o → H b = none → b ∉ fs → b ∉ ex → h'.get? b = some o
  slot : ∀ b o, h.get? b = some o → H b = none → b ∈ fs → b ∉ ex → ∃ sl, h'.get? b = some { o with slots := sl }
  free : ∀ b o, h.get? b = some o → H b = none → b ∉ ex → H' b = none
  there : ∀ b o, h.get? b = some o → b ∉ ex → ∃ o', h'.get? b = some o'
  tups : ∀ b xs, H b = some (.tup xs) → H' b = some (.tup xs)
  frzs : ∀ b o u, H b = some (.frz o u) → H' b = some (.frz o u)
  tbls : ∀ b ps, H b = some (.tbl ps) → ∃ more, H' b = some (.tbl (ps ++ more))
section
variable {fs fs' ex ex' : List Addr} {H H1 H2 : Hp} {h h1 h2 h' : Heap} {a x e : Addr} {o : HO}
theorem Un.any (u : Un fs ex H H1 h h1) {b : Addr} {ob : Obj} (q : h.get? b = some ob) (n : H b = none) (hx : b ∉ ex) : ∃ sl, h1.get? b = some { ob with slots := sl } := by
  by_cases hb : b ∈ fs
  · exact u.slot b ob q n hb hx
  · exact ⟨ob.slots, u.keep b ob q n hb hx⟩
theorem Un.trans (a : Un fs ex H H1 h h1) (b : Un fs ex H1 H2 h1 h2) : Un fs ex H H2 h h2 where
  keep := fun c ob q n hc hx => b.keep c ob (a.keep c ob q n hc hx) (a.free c ob q n hx) hc hx
  slot := fun c ob q n hc hx => by
    obtain ⟨sl, e1⟩ := a.slot c ob q n hc hx
    obtain ⟨sl', e2⟩ := b.slot c _ e1 (a.free c ob q n hx) hc hx
    exact ⟨sl', e2⟩
  free := fun c ob q n hx => by
    obtain ⟨o', e1⟩ := a.there c ob q hx
    exact b.free c o' e1 (a.free c ob q n hx) hx
  there := fun c ob q hx => by
    obtain ⟨o', e1⟩ := a.there c ob q hx
    exact b.there c o' e1 hx
  tups := fun c xs q => b.tups c xs (a.tups c xs q)
  frzs := fun c ob xs q => b.frzs c ob xs (a.frzs c ob xs q)
  tbls := fun c ps q => by
    obtain ⟨m1, e1⟩ := a.tbls c ps q
    obtain ⟨m2, e2⟩ := b.tbls c _ e1
    exact ⟨m1 ++ m2, by rw [e2, Array.append_assoc]⟩
theorem Un.kept (k : ∀ b u, h.get? b = some u → h'.get? b = some u) : Un fs ex H H h h' :=
  ⟨fun b ob q _ _ _ => k b ob q, fun b ob q _ _ _ => ⟨ob.slots, k b ob q⟩, fun _ _ _ n _ => n, fun b ob q _ => ⟨ob, k b ob q⟩, fun _ _ q => q, fun _ _ _ q => q, fun _ ps q => ⟨#[], by rw [q]; simp⟩⟩
theorem Un.refl : Un fs ex H H h h := Un.kept fun _ _ q => q
theorem Un.laid (k : ∀ b u, h.get? b = some u → h'.get? b = some u) (hp : h.objs.size ≤ a) (hn : H a = none) : Un fs ex H (upd H a o) h h' where
  keep := fun b u q _ _ _ => k b u q
  slot := fun b u q _ _ _ => ⟨u.slots, k b u q⟩
  free := fun b u q n _ => by rw [upd_ne (Nat.ne_of_lt (Nat.lt_of_lt_of_le (Heap.lt_size q) hp))]; exact n
  there := fun b u q _ => ⟨u, k b u q⟩
  tups := fun b xs q => by rw [upd_ne (ne_of_none q hn)]; exact q
  frzs := fun b u xs q => by rw [upd_ne (ne_of_none q hn)]; exact q
  tbls := fun b ps q => ⟨#[], by rw [upd_ne (ne_of_none q hn), q]; simp⟩
theorem Un.write (mu : Mut (H x)) (he : e = x ∨ H e = some (.own x)) (k : ∀ b u, b ≠ e → h.get? b = some u → h'.get? b = some u) (heo : ∃ u, h'.get? e = some u) : Un fs ex H (upd H x o) h h' := by
  have hx : ∀ b, H b = none → b ≠ x := fun b n z => by subst z; rw [n] at mu; exact mu
  have hb : ∀ b, H b = none → b ≠ e := fun b n z => by
    subst z
    rcases he with r | r
    · exact hx b n r
    · rw [n] at r; cases r
  have hm : ∀ b u, H b = some u → ¬ Mut (some u) → b ≠ x := fun b u q nm z => by subst z; rw [q] at mu; exact nm mu
  refine ⟨fun b u q n _ _ => k b u (hb b n) q, fun b u q n _ _ => ⟨u.slots, k b u (hb b n) q⟩, fun b u q n _ => by rw [upd_ne (hx b n)]; exact n, fun b u q _ => ?_,
    fun b xs q => by rw [upd_ne (hm b _ q fun z => z)]; exact q, fun b u xs q => by rw [upd_ne (hm b _ q fun z => z)]; exact q, fun b ps q => ⟨#[], by rw [upd_ne (hm b _ q fun z => z), q]; simp⟩⟩
  by_cases hbe : b = e
  · subst hbe; exact heo
  · exact ⟨u, k b u hbe q⟩
theorem Un.mono (u : Un fs ex H H1 h h1) (hs : ∀ b ∈ fs, b ∈ fs') (hx : ∀ b ∈ ex, b ∈ ex') : Un fs' ex' H H1 h h1 :=
  ⟨fun b ob q n hb he => u.keep b ob q n (fun z => hb (hs b z)) fun z => he (hx b z), fun _ _ q n _ he => u.any q n fun z => he (hx _ z), fun b ob q n he => u.free b ob q n fun z => he (hx b z), fun b ob q he => u.there b ob q fun z => he (hx b z), u.tups, u.frzs, u.tbls⟩
end
def trk (h : Heap) (H : Hp) : List Addr := (List.range h.objs.size).filter fun a => (H a).isSome
def hidT (h : Heap) (H : Hp) : Heap := PySem.W.hideAll h (trk h H)
theorem hidT_size (h : Heap) (H : Hp) : (hidT h H).objs.size = h.objs.size := PySem.W.hideAll_size _ _
theorem hidT_get {h : Heap} {H : Hp} {b : Addr} {o : Obj} (e : h.get? b = some o) (n : H b = none) : (hidT h H).get? b = some o :=
  PySem.W.hideAll_get _ e fun hm => by
    have q : (H b).isSome = true := (List.mem_filter.mp hm).2
    rw [n] at q; simp at q
theorem of_hidT {h : Heap} {H : Hp} {b : Addr} {o : Obj} (e : (hidT h H).get? b = some o) : h.get? b = some o ∧ H b = none := by
  have e' : h.get? b = some o := PySem.W.of_hideAll (trk h H) e
  refine ⟨e', ?_⟩
  cases q : H b with
  | none => rfl
  | some x =>
    have hm : b ∈ trk h H := List.mem_filter.mpr ⟨List.mem_range.mpr (Heap.lt_size e'), by simp [q]⟩
    have z : (hidT h H).get? b = none := PySem.W.hideAll_none (trk h H) hm
    rw [z] at e; cases e
def allNews (g h : Heap) (L : Addr) : List (Addr × Obj) := (List.range h.objs.size).filterMap fun a => if a = L ∨ (g.get? a).isSome = true then none else (h.get? a).map fun o => (a, o)
def rest (g h : Heap) (L d : Addr) : List (Addr × Obj) := (allNews g h L).filter fun p => decide (p.1 ≠ d)
end L2
namespace L2
open PySem PySem.Spec PyProof.Rows
structure Mod (K : PySem.W.Frag) (mg : Str → Option Value) (base : Heap) : Prop where
  kin : K.In base
  glob : base.Ns mainGlobals mg
  blt : ∃ mb, base.Ns builtinsNs mb ∧ ∀ x : Str, x ≠ "__name__" → mb x = bootBuiltins x
  nolimit : base.NoLimit
structure Cx where
  prog : Program
  w : World
  K : PySem.W.Frag
  mg : Str → Option Value
  base : Heap
  A : Around
  N : List Str
  s₀ : Shared
  H₀ : Hp
  env : Env
  outer : List Env
  stack : List Env
  ex : List Addr
  fn : Str → Bool
  calm : Bool
  pn : List (Addr × Obj)
  xe : Value → Shared → Prop
def frs (l : List Env) : List Addr := l.filterMap (·.frame)
abbrev Cx.fs (X : Cx) : List Addr := frs X.outer
def Vis (sc : Scope) (x : Str) : Prop := sc.names.lookup x = some .local ∨ sc.names.lookup x = some .cell ∨ sc.names.lookup x = some .free
def Loc (sc : Scope) (x : Str) : Prop := sc.names.lookup x = some .local ∨ sc.names.lookup x = some .cell
def Look (env : Env) (h : Heap) (m : Str → Option Value) (x : Str) (u : Value) : Prop :=
  (env.kindOf x = some .local ∧ m x = some u) ∨ ((env.kindOf x = some .cell ∨ env.kindOf x = some .free) ∧ ∃ c, env.cells.lookup x = some c ∧ h.IsCell c (some u))
structure Cx.Ok (X : Cx) : Prop where
  mod : Mod X.K X.mg X.base
  kind : X.env.scope.kind = .function
  glob : X.env.globals = mainGlobals
  blt : X.env.builtins = builtinsNs
  above : X.s₀.heap.objs.size ≤ X.env.locals
  inj : ∀ x y c, X.env.cells.lookup x = some c → X.env.cells.lookup y = some c → x = y
  has : ∀ x, (X.env.kindOf x = some .cell ∨ X.env.kindOf x = some .free) → ∃ c, X.env.cells.lookup x = some c
  cab : ∀ x c, X.fn x = true → X.env.cells.lookup x = some c → X.s₀.heap.objs.size ≤ c
  hd : X.calm = true → X.A.handled = none
  frames : X.A.frames = some X.stack
  stk : X.stack = X.outer ∨ (X.stack = X.env :: X.outer ∧ X.env.frame = some X.env.locals)
  exf : ∀ b ∈ X.ex, b ≠ X.env.locals ∧ ∀ x c, X.env.cells.lookup x = some c → c ≠ b
  bs : ∀ b o, X.base.get? b = some o → X.s₀.heap.get? b = some o ∧ X.H₀ b = none
  bsz : X.base.objs.size ≤ X.s₀.heap.objs.size
  noex : ∀ b o, X.base.get? b = some o → b ∉ X.ex
  exfs : ∀ b ∈ X.ex, b ∉ X.fs
  funs : X.s₀.heap.FunFrames X.base X.outer
  frf : ∀ b ∈ X.fs, X.H₀ b = none
structure Inv (X : Cx) (pins : List (Addr × Obj)) (σ : List (Option V)) (H : Hp) (s : Shared) : Prop where
  ok : X.Ok
  os : s.os = X.s₀.os
  bare : AllBare s.gens
  base : Un X.fs X.ex X.H₀ H X.s₀.heap s.heap
  loc : ∃ m, s.heap.Ns X.env.locals m ∧ ∀ (i : Nat) (x : Str) (v : V), X.N[i]? = some x → σ[i]? = some (some v) → Vis X.env.scope x → ∃ u, RelV v u ∧ Look X.env s.heap m x u
  cell : ∀ x c, X.env.cells.lookup x = some c → ∃ v, s.heap.IsCell c v
  free : H X.env.locals = none
  freeC : ∀ x c, X.env.cells.lookup x = some c → H c = none
  pin : ∀ p ∈ X.pn ++ pins, s.heap.get? p.1 = some p.2 ∧ H p.1 = none ∧ p.1 ≠ X.env.locals ∧ p.1 ∉ X.fs ∧ ∀ v, p.2.data ≠ .cell v
  hok : HOk X.prog X.w H s.heap
  len : σ.length = X.N.length
section
variable {X : Cx} {pins : List (Addr × Obj)} {σ : List (Option V)} {H H' : Hp} {s : Shared} {h' : Heap}
theorem Cx.Ok.nofr (ok : X.Ok) {b : Addr} {o : Obj} (e : X.base.get? b = some o) : b ∉ X.fs := fun hb => by
  have := (ok.funs.mem hb).1
  rw [e] at this; cases this
theorem Inv.bs (I : Inv X pins σ H s) : ∀ b o, X.base.get? b = some o → s.heap.get? b = some o ∧ H b = none := fun b o e =>
  ⟨I.base.keep b o (I.ok.bs b o e).1 (I.ok.bs b o e).2 (I.ok.nofr e) (I.ok.noex b o e), I.base.free b o (I.ok.bs b o e).1 (I.ok.bs b o e).2 (I.ok.noex b o e)⟩
theorem Inv.bk (I : Inv X pins σ H s) : ∀ b o, X.base.get? b = some o → s.heap.get? b = some o := fun b o e => (I.bs b o e).1
theorem Inv.mod (I : Inv X pins σ H s) : Mod X.K X.mg X.base := I.ok.mod
theorem Inv.kIn (I : Inv X pins σ H s) : X.K.In s.heap := I.ok.mod.kin.keeps I.bk
theorem Inv.nolimit (I : Inv X pins σ H s) : s.heap.NoLimit := I.ok.mod.nolimit.keeps I.bk
theorem Inv.lt (I : Inv X pins σ H s) : X.env.locals < s.heap.objs.size := let ⟨_, hn, _⟩ := I.loc; hn.lt
theorem Inv.sz (I : Inv X pins σ H s) : X.s₀.heap.objs.size ≤ s.heap.objs.size := Nat.le_trans I.ok.above (Nat.le_of_lt I.lt)
theorem Inv.nofs (I : Inv X pins σ H s) {a : Addr} (h : s.heap.objs.size ≤ a) : a ∉ X.fs := fun hb => by
  obtain ⟨_, o, ho, _⟩ := I.ok.funs.mem hb
  exact absurd (Nat.lt_of_lt_of_le (Heap.lt_size ho) (Nat.le_trans I.sz h)) (Nat.lt_irrefl _)
theorem Inv.cne (I : Inv X pins σ H s) : ∀ x c, X.env.cells.lookup x = some c → c ≠ X.env.locals := fun x c e z => by
  obtain ⟨v, o, ho, hd⟩ := I.cell x c e
  obtain ⟨m, ⟨o', es, ep, ho', hd', _⟩, _⟩ := I.loc
  rw [z, ho'] at ho; cases ho; rw [hd'] at hd; cases hd
theorem Inv.funs (I : Inv X pins σ H s) : s.heap.FunFrames X.base X.outer := by
  have all : ∀ (l : List Env), (∀ b ∈ frs l, b ∈ X.fs) → X.s₀.heap.FunFrames X.base l → s.heap.FunFrames X.base l := by
    intro l
    induction l with
    | nil => intro _ _; trivial
    | cons env r ih =>
      intro hs hl
      obtain ⟨hk, ⟨L, o, hf, hn, ho, hd⟩, hr⟩ := hl
      have hL : L ∈ X.fs := hs L (by unfold frs; rw [List.filterMap_cons, hf]; exact List.mem_cons_self)
      obtain ⟨sl, e⟩ := I.base.slot L o ho (I.ok.frf L hL) hL fun z => I.ok.exfs L z hL
      exact ⟨hk, ⟨L, _, hf, hn, e, hd⟩, ih (fun b hb => hs b (by unfold frs; rw [List.filterMap_cons, hf]; exact List.mem_cons_of_mem _ hb)) hr⟩
  exact all X.outer (fun _ hb => hb) I.ok.funs
theorem Inv.stack (I : Inv X pins σ H s) : s.heap.FunFrames X.base X.stack := by
  rcases I.ok.stk with e | ⟨e, hf⟩
  · rw [e]; exact I.funs
  · rw [e]
    obtain ⟨m, hn, _⟩ := I.loc
    refine .cons (by rw [I.ok.kind]; decide) hf hn ?_ I.funs
    exact Heap.get?_none_of_le (Nat.le_trans I.ok.bsz I.ok.above)
theorem Inv.stkSub (I : Inv X pins σ H s) : ∀ b ∈ frs X.stack, b ∈ X.env.locals :: X.fs := fun b hb => by
  rcases I.ok.stk with e | ⟨e, hf⟩
  · rw [e] at hb; exact List.mem_cons_of_mem _ hb
  · rw [e] at hb
    unfold frs at hb
    rw [List.filterMap_cons, hf] at hb
    exact hb
theorem Inv.stkFree (I : Inv X pins σ H s) : ∀ b ∈ frs X.stack, H b = none := fun b hb => by
  rcases List.mem_cons.mp (I.stkSub b hb) with e | hb
  · rw [e]; exact I.free
  · obtain ⟨_, o, ho, _⟩ := I.ok.funs.mem hb
    exact I.base.free b o ho (I.ok.frf b hb) fun z => I.ok.exfs b z hb
theorem Inv.step {g' : Array GenState} {t' : Nat} {d' : Drawn} {ch : List Addr} (I : Inv X pins σ H s)
    (hch : ∀ b ∈ ch, (b ∈ X.ex ∨ X.s₀.heap.objs.size ≤ b) ∧ b ≠ X.env.locals ∧ (∀ x c, X.env.cells.lookup x = some c → c ≠ b) ∧ ∀ p ∈ X.pn ++ pins, p.1 ≠ b)
    (keep : ∀ b o, b ≠ X.env.locals → b ∉ X.fs → b ∉ ch → s.heap.get? b = some o → H b = none → h'.get? b = some o)
    (slot : ∀ b o, b ≠ X.env.locals → b ∈ X.fs → b ∉ ch → s.heap.get? b = some o → H b = none → ∃ sl, h'.get? b = some { o with slots := sl }) (free : ∀ b o, b ∉ ch → s.heap.get? b = some o → H b = none → H' b = none)
    (there : ∀ b o, b ∉ ch → s.heap.get? b = some o → ∃ o', h'.get? b = some o')
    (tups : ∀ b xs, H b = some (.tup xs) → H' b = some (.tup xs)) (frzs : ∀ b o u, H b = some (.frz o u) → H' b = some (.frz o u)) (tbls : ∀ b ps, H b = some (.tbl ps) → ∃ more, H' b = some (.tbl (ps ++ more)))
    (ns : ∀ m, s.heap.Ns X.env.locals m → h'.Ns X.env.locals m) (hok : HOk X.prog X.w H' h') (hg : AllBare g') :
    Inv X pins σ H' { s with heap := h', gens := g', drawn := d', toks := t' } := by
  have neL : ∀ b o, X.s₀.heap.get? b = some o → b ≠ X.env.locals := fun b o e => Nat.ne_of_lt (Nat.lt_of_lt_of_le (Heap.lt_size e) I.ok.above)
  have neC : ∀ b o, X.s₀.heap.get? b = some o → b ∉ X.ex → b ∉ ch := fun b o e hx hb => by
    rcases (hch b hb).1 with z | z
    · exact hx z
    · exact absurd (Nat.lt_of_lt_of_le (Heap.lt_size e) z) (Nat.lt_irrefl _)
  have cellK : ∀ x c, X.env.cells.lookup x = some c → ∀ v, s.heap.IsCell c v → h'.IsCell c v := fun x c e v ⟨o, ho, hd⟩ => by
    have nch : c ∉ ch := fun z => (hch c z).2.2.1 x c e rfl
    by_cases hc : c ∈ X.fs
    · obtain ⟨sl, q⟩ := slot c o (I.cne x c e) hc nch ho (I.freeC x c e)
      exact ⟨_, q, hd⟩
    · exact ⟨o, keep c o (I.cne x c e) hc nch ho (I.freeC x c e), hd⟩
  refine ⟨I.ok, I.os, hg, ⟨fun b o e n hb hx => ?_, fun b o e n hb hx => ?_, fun b o e n hx => ?_, fun b o e hx => ?_, fun b xs e => tups b xs (I.base.tups b xs e), fun b o xs e => frzs b o xs (I.base.frzs b o xs e), fun b ps e => ?_⟩, ?_, fun x c e => ?_, ?_, fun x c e => ?_, fun p hp => ?_, hok, I.len⟩
  · exact keep b o (neL b o e) hb (neC b o e hx) (I.base.keep b o e n hb hx) (I.base.free b o e n hx)
  · obtain ⟨sl, e1⟩ := I.base.slot b o e n hb hx
    obtain ⟨sl', e2⟩ := slot b _ (neL b o e) hb (neC b o e hx) e1 (I.base.free b o e n hx)
    exact ⟨sl', e2⟩
  · obtain ⟨o', e1⟩ := I.base.there b o e hx
    exact free b o' (neC b o e hx) e1 (I.base.free b o e n hx)
  · obtain ⟨o', e1⟩ := I.base.there b o e hx
    exact there b o' (neC b o e hx) e1
  · obtain ⟨m1, e1⟩ := I.base.tbls b ps e
    obtain ⟨m2, e2⟩ := tbls b _ e1
    exact ⟨m1 ++ m2, by rw [e2, Array.append_assoc]⟩
  · obtain ⟨m, hn, hl⟩ := I.loc
    refine ⟨m, ns m hn, fun i x v e1 e2 e3 => ?_⟩
    obtain ⟨u, r, l⟩ := hl i x v e1 e2 e3
    refine ⟨u, r, ?_⟩
    rcases l with l | ⟨k, c, e, z⟩
    · exact .inl l
    · exact .inr ⟨k, c, e, cellK x c e _ z⟩
  · obtain ⟨v, z⟩ := I.cell x c e
    exact ⟨v, cellK x c e v z⟩
  · obtain ⟨m, ⟨o, _, _, ho, _⟩, _⟩ := I.loc
    exact free _ o (fun z => (hch _ z).2.1 rfl) ho I.free
  · obtain ⟨v, o, ho, hd⟩ := I.cell x c e
    exact free c o (fun z => (hch c z).2.2.1 x c e rfl) ho (I.freeC x c e)
  · obtain ⟨e, n, ne, nf, d⟩ := I.pin p hp
    have nch : p.1 ∉ ch := fun z => (hch p.1 z).2.2.2 p hp rfl
    exact ⟨keep p.1 p.2 ne nf nch e n, free p.1 p.2 nch e n, ne, nf, d⟩
theorem Inv.un {t' : Nat} (I : Inv X pins σ H s) (u : Un X.fs [] H H' s.heap h') (hok : HOk X.prog X.w H' h') : Inv X pins σ H' { s with heap := h', toks := t' } := by
  obtain ⟨m, ⟨o, es, ep, ho, r⟩, _⟩ := id I.loc
  obtain ⟨sl, hL⟩ := u.any ho I.free (by simp)
  exact I.step (g' := s.gens) (d' := s.drawn) (ch := []) (fun _ z => nomatch z) (fun b o _ hb _ e n => u.keep b o e n hb (by simp)) (fun b o _ hb _ e n => u.slot b o e n hb (by simp)) (fun b o _ e n => u.free b o e n (by simp)) (fun b o _ e => u.there b o e (by simp)) u.tups u.frzs u.tbls (fun m' hm => by
    obtain ⟨o', es', ep', ho', r'⟩ := hm
    rw [ho] at ho'; cases ho'
    exact ⟨_, es', ep', hL, r'⟩) hok I.bare
theorem Inv.call {g' : Array GenState} {t' : Nat} {d' : Drawn} {ch : List Addr} (I : Inv X pins σ H s) (u : Un (frs X.stack) ch H H' s.heap h') (hok : HOk X.prog X.w H' h') (hg : AllBare g')
    (hch : ∀ b ∈ ch, (b ∈ X.ex ∨ X.s₀.heap.objs.size ≤ b) ∧ b ≠ X.env.locals ∧ (∀ x c, X.env.cells.lookup x = some c → c ≠ b) ∧ ∀ p ∈ X.pn ++ pins, p.1 ≠ b) :
    Inv X pins σ H' { s with heap := h', gens := g', drawn := d', toks := t' } := by
  obtain ⟨m, ⟨o, es, ep, ho, r⟩, _⟩ := id I.loc
  obtain ⟨sl, hL⟩ := u.any ho I.free fun z => (hch _ z).2.1 rfl
  exact I.step (ch := ch) hch (fun b o hL hb hc e n => u.keep b o e n (fun z => (List.mem_cons.mp (I.stkSub b z)).elim hL hb) hc) (fun b o _ _ hc e n => u.any e n hc) (fun b o hc e n => u.free b o e n hc) (fun b o hc e => u.there b o e hc) u.tups u.frzs u.tbls (fun m' hm => by
    obtain ⟨o', es', ep', ho', r'⟩ := hm
    rw [ho] at ho'; cases ho'
    exact ⟨_, es', ep', hL, r'⟩) hok hg
theorem Inv.turned {t' : Nat} {it : Addr} (I : Inv X pins σ H s) (k : ∀ b o, b ≠ it → s.heap.get? b = some o → h'.get? b = some o) (hn : H it = none) (hL : it ≠ X.env.locals)
    (h1 : it ∈ X.ex ∨ X.s₀.heap.objs.size ≤ it) (h2 : ∀ x c, X.env.cells.lookup x = some c → c ≠ it) (h3 : ∀ p ∈ X.pn ++ pins, p.1 ≠ it) : Inv X pins σ H { s with heap := h', toks := t' } := by
  have nit : ∀ b u, H b = some u → b ≠ it := fun b u e z => by rw [z, hn] at e; cases e
  refine I.step (g' := s.gens) (d' := s.drawn) (ch := [it]) (fun b hb => ?_) (fun b o _ _ hc e _ => k b o (fun z => hc (by simp [z])) e) (fun b o _ _ hc e _ => ⟨o.slots, k b o (fun z => hc (by simp [z])) e⟩) (fun _ _ _ _ n => n)
    (fun b o hc e => ⟨o, k b o (fun z => hc (by simp [z])) e⟩) (fun _ _ e => e) (fun _ _ _ e => e) (fun b ps e => ⟨#[], by rw [e]; simp⟩) (fun m hm => ?_) (fun b u e => ?_) I.bare
  · have e : b = it := by simpa using hb
    subst e
    exact ⟨h1, hL, h2, h3⟩
  · obtain ⟨o, es, ep, ho, r⟩ := hm
    exact ⟨o, es, ep, k _ o (Ne.symm hL) ho, r⟩
  · refine (I.hok b u e).stay (fun c v hc q => k c v ?_ q) (fun _ q => q) fun _ _ q => q
    rcases hc with z | z
    · rw [z]; exact nit b u e
    · exact nit c _ z
theorem Inv.tok (I : Inv X pins σ H s) (t : Nat) : Inv X pins σ H { s with toks := t } := I.un (h' := s.heap) (t' := t) Un.refl I.hok
theorem Inv.kept {t' : Nat} (I : Inv X pins σ H s) (k : ∀ b u, s.heap.get? b = some u → h'.get? b = some u) : Inv X pins σ H { s with heap := h', toks := t' } := I.un (Un.kept k) (I.hok.kept k)
theorem Inv.laid {a : Addr} {o : HO} {t' : Nat} (I : Inv X pins σ H s) (k : ∀ b u, s.heap.get? b = some u → h'.get? b = some u) (hp : s.heap.objs.size ≤ a) (new : ObjOk X.prog X.w (upd H a o) h' a o) :
    Inv X pins σ (upd H a o) { s with heap := h', toks := t' } := I.un (Un.laid k hp (I.hok.fresh hp)) (I.hok.laid k hp new)
theorem Inv.write {x e : Addr} {o : HO} {t' : Nat} (I : Inv X pins σ H s) (mu : Mut (H x)) (he : e = x ∨ H e = some (.own x)) (k : ∀ b u, b ≠ e → s.heap.get? b = some u → h'.get? b = some u) (heo : ∃ u, h'.get? e = some u)
    (new : ObjOk X.prog X.w (upd H x o) h' x o) : Inv X pins σ (upd H x o) { s with heap := h', toks := t' } := I.un (Un.write mu he k heo) (I.hok.write mu he k heo new)
theorem Inv.weak {σ' : List (Option V)} (I : Inv X pins σ H s) (hl : σ'.length = σ.length) (w : ∀ (i : Nat) v, σ'[i]? = some (some v) → σ[i]? = some (some v)) : Inv X pins σ' H s :=
  ⟨I.ok, I.os, I.bare, I.base, let ⟨m, hn, hl'⟩ := I.loc; ⟨m, hn, fun i x v e1 e2 e3 => hl' i x v e1 (w i v e2) e3⟩, I.cell, I.free, I.freeC, I.pin, I.hok, hl.trans I.len⟩
theorem Inv.pins_of {pins' : List (Addr × Obj)} (I : Inv X pins σ H s) (h : ∀ p ∈ pins', s.heap.get? p.1 = some p.2 ∧ H p.1 = none ∧ p.1 ≠ X.env.locals ∧ p.1 ∉ X.fs ∧ ∀ v, p.2.data ≠ .cell v) : Inv X pins' σ H s :=
  ⟨I.ok, I.os, I.bare, I.base, I.loc, I.cell, I.free, I.freeC, fun p hp => (List.mem_append.mp hp).elim (fun z => I.pin p (List.mem_append_left _ z)) (h p), I.hok, I.len⟩
theorem nodup_ix {N : List Str} (hN : N.Nodup) {i j : Nat} {x : Str} (a : N[i]? = some x) (b : N[j]? = some x) : i = j := by
  obtain ⟨h1, e1⟩ := List.getElem?_eq_some_iff.mp a
  obtain ⟨h2, e2⟩ := List.getElem?_eq_some_iff.mp b
  exact (List.getElem_inj hN).mp (e1.trans e2.symm)
theorem store_ok2 {M : Model} {A : Around} {E : Value → Shared → Prop} {i : Nat} {x : Str} {v : V} {u : Value} {Q : Unit → Shared → Prop} (I : Inv X pins σ H s) (hN : X.N.Nodup) (hi : X.N[i]? = some x) (hx : Loc X.env.scope x) (r : RelV v u)
    (h : ∀ s', Inv X pins (σ.set i (some v)) H s' → (∃ a, Heap.SameBut a s.heap s'.heap ∧ (a = X.env.locals ∨ X.env.cells.lookup x = some a)) → Q () s') (hf : X.fn x = true ∨ X.env.scope.names.lookup x = some .local := by first | exact .inl rfl | exact .inr rfl | assumption) : wpAny M A (storeName X.env x u) Q E s := by
  obtain ⟨m, hn, hl⟩ := id I.loc
  have hcls : (X.env.scope.kind == .class || (X.env.scope.kind == .module && X.env.locals != X.env.globals)) = false := by rw [I.ok.kind]; rfl
  have hiσ : i < σ.length := by rw [I.len]; exact (List.getElem?_eq_some_iff.mp hi).1
  have cne := I.cne
  have tracked : ∀ {a : Addr} {h' : Heap}, (∃ o, s.heap.get? a = some o ∧ H a = none) → Heap.SameBut a s.heap h' → HOk X.prog X.w H h' := fun {a h'} ha hs b ob e => by
    obtain ⟨_, _, hfree⟩ := ha
    refine (I.hok b ob e).stay (fun c w' hc q => (hs.2 c ?_).trans q) (fun _ q => q) fun _ _ q => q
    rintro rfl
    rcases hc with rfl | hc
    · rw [hfree] at e; cases e
    · rw [hfree] at hc; cases hc
  rcases hx with hk | hk
  · refine wpAny_storeName_local hk hn (fun h' hn' hs => ?_) hcls
    obtain ⟨oL, _, _, hoL, _⟩ := id hn
    refine h _ ⟨I.ok, I.os, I.bare, ⟨fun b o e n hb hx => ?_, fun b o e n hb hx => ?_, I.base.free, fun b o e hx => ?_, I.base.tups, I.base.frzs, I.base.tbls⟩, ⟨_, hn', fun j y v' e1 e2 e3 => ?_⟩, fun y c e => ?_, I.free, I.freeC, fun p hp => ?_, tracked ⟨oL, hoL, I.free⟩ hs, by simpa using I.len⟩ ⟨_, hs, .inl rfl⟩
    · exact (hs.2 b (Nat.ne_of_lt (Nat.lt_of_lt_of_le (Heap.lt_size e) I.ok.above))).trans (I.base.keep b o e n hb hx)
    · obtain ⟨sl, e1⟩ := I.base.slot b o e n hb hx
      exact ⟨sl, (hs.2 b (Nat.ne_of_lt (Nat.lt_of_lt_of_le (Heap.lt_size e) I.ok.above))).trans e1⟩
    · obtain ⟨o', e1⟩ := I.base.there b o e hx
      exact ⟨o', (hs.2 b (Nat.ne_of_lt (Nat.lt_of_lt_of_le (Heap.lt_size e) I.ok.above))).trans e1⟩
    · by_cases hj : j = i
      · subst hj
        rw [hi] at e1; cases e1
        rw [List.getElem?_set_self hiσ] at e2
        cases e2
        exact ⟨u, r, .inl ⟨hk, by simp⟩⟩
      · rw [List.getElem?_set_ne (Ne.symm hj)] at e2
        obtain ⟨u', r', q⟩ := hl j y v' e1 e2 e3
        refine ⟨u', r', ?_⟩
        rcases q with ⟨k, e⟩ | ⟨k, c, e, z⟩
        · refine .inl ⟨k, ?_⟩
          have : y ≠ x := fun e => hj (nodup_ix hN e1 (e ▸ hi))
          simp [this, e]
        · exact .inr ⟨k, c, e, z.sameBut hs (cne y c e)⟩
    · obtain ⟨w', z⟩ := I.cell y c e
      exact ⟨w', z.sameBut hs (cne y c e)⟩
    · obtain ⟨e, n, ne, nf, d⟩ := I.pin p hp
      exact ⟨(hs.2 p.1 ne).trans e, n, ne, nf, d⟩
  · have hfn : X.fn x = true := by
      rcases hf with z | z
      · exact z
      · rw [z] at hk; cases hk
    obtain ⟨c, hc⟩ := I.ok.has x (.inl hk)
    obtain ⟨w', z⟩ := I.cell x c hc
    refine wpAny_storeName_cell I.ok.kind hk hc z (fun h' hc' hs => ?_)
    obtain ⟨oc, hoc, hocd⟩ := id z
    refine h { s with heap := h' } ⟨I.ok, I.os, I.bare, ⟨fun b o e n hb hx => ?_, fun b o e n hb hx => ?_, I.base.free, fun b o e hx => ?_, I.base.tups, I.base.frzs, I.base.tbls⟩, ⟨m, hn.sameBut hs (Ne.symm (cne x c hc)), fun j y v' e1 e2 e3 => ?_⟩, fun y c' e => ?_, I.free, I.freeC, fun p hp => ?_, tracked ⟨oc, hoc, I.freeC x c hc⟩ hs, by simpa using I.len⟩ ⟨c, hs, .inr hc⟩
    · exact (hs.2 b (Nat.ne_of_lt (Nat.lt_of_lt_of_le (Heap.lt_size e) (I.ok.cab x c hfn hc)))).trans (I.base.keep b o e n hb hx)
    · obtain ⟨sl, e1⟩ := I.base.slot b o e n hb hx
      exact ⟨sl, (hs.2 b (Nat.ne_of_lt (Nat.lt_of_lt_of_le (Heap.lt_size e) (I.ok.cab x c hfn hc)))).trans e1⟩
    · obtain ⟨o', e1⟩ := I.base.there b o e hx
      exact ⟨o', (hs.2 b (Nat.ne_of_lt (Nat.lt_of_lt_of_le (Heap.lt_size e) (I.ok.cab x c hfn hc)))).trans e1⟩
    · by_cases hj : j = i
      · subst hj
        rw [hi] at e1; cases e1
        rw [List.getElem?_set_self hiσ] at e2
        cases e2
        exact ⟨u, r, .inr ⟨.inl hk, c, hc, hc'⟩⟩
      · rw [List.getElem?_set_ne (Ne.symm hj)] at e2
        obtain ⟨u', r', q⟩ := hl j y v' e1 e2 e3
        refine ⟨u', r', ?_⟩
        rcases q with q | ⟨k, c', e, z'⟩
        · exact .inl q
        · refine .inr ⟨k, c', e, z'.sameBut hs ?_⟩
          rintro rfl
          exact hj (nodup_ix hN e1 (I.ok.inj _ _ _ e hc ▸ hi))
    · by_cases hcc : c' = c
      · subst hcc; exact ⟨_, hc'⟩
      · obtain ⟨w2, z2⟩ := I.cell y c' e
        exact ⟨w2, z2.sameBut hs hcc⟩
    · obtain ⟨e, n, ne, nf, d⟩ := I.pin p hp
      refine ⟨(hs.2 p.1 ?_).trans e, n, ne, nf, d⟩
      intro q
      rw [q, hoc] at e
      have q' : oc = p.2 := Option.some.inj e
      exact d w' (by rw [← q']; exact hocd)
theorem store_ok {M : Model} {A : Around} {E : Value → Shared → Prop} {i : Nat} {x : Str} {v : V} {u : Value} {Q : Unit → Shared → Prop} (I : Inv X pins σ H s) (hN : X.N.Nodup) (hi : X.N[i]? = some x) (hx : Loc X.env.scope x) (r : RelV v u)
    (h : ∀ s', Inv X pins (σ.set i (some v)) H s' → Q () s') (hf : X.fn x = true ∨ X.env.scope.names.lookup x = some .local := by first | exact .inl rfl | exact .inr rfl | assumption) : wpAny M A (storeName X.env x u) Q E s :=
  store_ok2 I hN hi hx r (fun s' I' _ => h s' I') hf
theorem Inv.call' {s' : Shared} {ch : List Addr} (I : Inv X pins σ H s) (ho : s'.os = s.os) (u : Un (frs X.stack) ch H H' s.heap s'.heap) (hok : HOk X.prog X.w H' s'.heap) (hg : AllBare s'.gens)
    (hch : ∀ b ∈ ch, (b ∈ X.ex ∨ X.s₀.heap.objs.size ≤ b) ∧ b ≠ X.env.locals ∧ (∀ x c, X.env.cells.lookup x = some c → c ≠ b) ∧ ∀ p ∈ X.pn ++ pins, p.1 ≠ b) : Inv X pins σ H' s' := by
  obtain ⟨h', g', d', t', o'⟩ := s'
  have e : o' = s.os := ho
  subst e
  exact I.call (g' := g') (t' := t') (d' := d') u hok hg hch
end
abbrev XK := Value → Option Addr → Hp → Prop
abbrev St := List (Option V)
abbrev VK := V → Hp → Prop
abbrev TE := St → Hp → VK → Prop
abbrev TT := St → Hp → (Bool → Hp → Prop) → Prop
abbrev TA := St → Hp → (List V → Hp → Prop) → Prop
structure Ends where
  nx : St → Hp → Prop
  rt : VK
  bk : St → Hp → Prop := fun _ _ => False
  ct : St → Hp → Prop := fun _ _ => False
abbrev TS := Ends → St → Hp → Prop
def EP (X : Cx) (pins : List (Addr × Obj)) (σ : St) (Q : VK) (u : Value) (s' : Shared) : Prop := ∃ v H', Inv X pins σ H' s' ∧ RelV v u ∧ Q v H'
def TP (X : Cx) (pins : List (Addr × Obj)) (σ : St) (Q : Bool → Hp → Prop) (b : Bool) (s' : Shared) : Prop := ∃ H', Inv X pins σ H' s' ∧ Q b H'
def AP (X : Cx) (pins : List (Addr × Obj)) (σ : St) (Q : List V → Hp → Prop) (us : List Value) (s' : Shared) : Prop := ∃ vs H', Inv X pins σ H' s' ∧ Vals vs us ∧ Q vs H'
def SP (X : Cx) (pins : List (Addr × Obj)) (D : Ends) (f : Flow) (s' : Shared) : Prop :=
  match f with
  | .next => ∃ σ' H', Inv X pins σ' H' s' ∧ D.nx σ' H'
  | .brk => ∃ σ' H', Inv X pins σ' H' s' ∧ D.bk σ' H'
  | .cont => ∃ σ' H', Inv X pins σ' H' s' ∧ D.ct σ' H'
  | .ret u => ∃ v σ' H', Inv X pins σ' H' s' ∧ RelV v u ∧ D.rt v H'
def PE (X : Cx) (e : Expr) (t : TE) : Prop :=
  ∀ (pins : List (Addr × Obj)) (s : Shared) (σ : St) (H : Hp) (Q : VK), Inv X pins σ H s → t σ H Q → wpAny (model X.prog X.w) X.A (eval e X.env) (EP X pins σ Q) X.xe s
def PT (X : Cx) (e : Expr) (t : TT) : Prop :=
  ∀ (pins : List (Addr × Obj)) (s : Shared) (σ : St) (H : Hp) (Q : Bool → Hp → Prop), Inv X pins σ H s → t σ H Q → wpAny (model X.prog X.w) X.A (isTrue e X.env (eval e X.env)) (TP X pins σ Q) X.xe s
def PW (X : Cx) (e : Expr) (t : TT) : Prop :=
  ∀ (whole : Sem Value) (pins : List (Addr × Obj)) (s : Shared) (σ : St) (H : Hp) (Q : Bool → Hp → Prop), Inv X pins σ H s → t σ H Q → wpAny (model X.prog X.w) X.A (isTrue e X.env whole) (TP X pins σ Q) X.xe s
theorem PW.pt {X : Cx} {e : Expr} {t : TT} (h : PW X e t) : PT X e t := h _
def PA (X : Cx) (es : List Expr) (t : TA) : Prop :=
  ∀ (pos : Pos) (pins : List (Addr × Obj)) (s : Shared) (σ : St) (H : Hp) (Q : List V → Hp → Prop), Inv X pins σ H s → t σ H Q → wpAny (model X.prog X.w) X.A (spliced (backTo pos (starEach es X.env))) (AP X pins σ Q) X.xe s
def PS (X : Cx) (st : Stmt) (t : TS) : Prop :=
  ∀ (pins : List (Addr × Obj)) (s : Shared) (σ : St) (H : Hp) (D : Ends), Inv X pins σ H s → t D σ H → wpAny (model X.prog X.w) X.A (exec st X.env) (SP X pins D) X.xe s
def PSs (X : Cx) (st : List Stmt) (t : TS) : Prop :=
  ∀ (pins : List (Addr × Obj)) (s : Shared) (σ : St) (H : Hp) (D : Ends), Inv X pins σ H s → t D σ H → wpAny (model X.prog X.w) X.A (execs st X.env) (SP X pins D) X.xe s
theorem thn {α : Type} {t : Sem α} {Q Q' : α → Shared → Prop} {M : Model} {A : Around} {E : Value → Shared → Prop} {s : Shared} (h : wpAny M A t Q E s) (hQ : ∀ a s, Q a s → Q' a s) : wpAny M A t Q' E s := wpAny_mono h hQ fun _ _ x => x
end L2
namespace L2
open PySem PySem.Spec PyProof.Rows
section
variable {X : Cx}
def tVar (i : Nat) : TE := fun σ H Q => ∃ v, σ[i]? = some (some v) ∧ Q v H
def tC (v : V) : TE := fun _ H Q => Q v H
theorem pe_var {i : Nat} {x : Str} {pos : Pos} (hN : X.N[i]? = some x) (hv : Vis X.env.scope x) (hd : (x == ("__debug__" : Str)) = false := by decide) (hcd : (x == ("__classdict__" : Str)) = false := by decide) : PE X (.Name x pos) (tVar i) := by
  intro pins s σ H Q I h
  obtain ⟨v, e, h⟩ := h
  obtain ⟨m, hn, hl⟩ := I.loc
  obtain ⟨u, r, l⟩ := hl i x v hN e hv
  have fin : EP X pins σ Q u s := ⟨v, H, I, r, h⟩
  rcases l with ⟨hk, hm⟩ | ⟨hk, c, hc, hcell⟩
  · exact wpAny_Name (wpAny_loadName_local I.ok.kind hk hn hm fin) hd
  · rcases hk with hk | hk
    · exact wpAny_Name (wpAny_loadName_cell I.ok.kind hk hc hcell fin) hd
    · exact wpAny_Name (wpAny_loadName_free I.ok.kind hk hc hcell fin hcd) hd
theorem pe_int {i j pos} : PE X (.Constant (.int i) j pos) (tC (.int i)) := fun _ _ _ H _ I h => wpAny_Constant_int ⟨.int i, H, I.tok _, ⟨_, rfl⟩, h⟩
theorem pe_bl {b j pos} : PE X (.Constant (.bool b) j pos) (tC (.bl b)) := fun _ _ _ H _ I h => Constant_bool ⟨.bl b, H, I, rfl, h⟩
theorem pe_non {j pos} : PE X (.Constant .none j pos) (tC .non) := fun _ _ _ H _ I h => Constant_none ⟨.non, H, I, rfl, h⟩
theorem pe_str {x j pos} : PE X (.Constant (.str x) j pos) (tC (.str x)) := fun _ _ _ H _ I h => Calls.Constant_str ⟨.str x, H, I.tok _, ⟨_, rfl⟩, h⟩
def Gl (X : Cx) (x : Str) : Prop := X.env.kindOf x = some .globalImplicit
theorem ld_glob {E : Value → Shared → Prop} {pins : List (Addr × Obj)} {s : Shared} {σ : St} {H : Hp} {x : Str} {u : Value} {pos : Pos} {Q : Value → Shared → Prop} (I : Inv X pins σ H s) (hg : Gl X x) (hm : X.mg x = some u) (h : Q u s)
    (hd : (x == ("__debug__" : Str)) = false := by decide) : wpAny (model X.prog X.w) X.A (eval (.Name x pos) X.env) Q E s :=
  Calls.Name_function_global I.ok.kind hg (Calls.loadGlobal_global (by rw [I.ok.glob]; exact I.mod.glob.keeps I.bk) hm h) hd
theorem ld_blt {E : Value → Shared → Prop} {pins : List (Addr × Obj)} {s : Shared} {σ : St} {H : Hp} {x : Str} {u : Value} {pos : Pos} {Q : Value → Shared → Prop} (I : Inv X pins σ H s) (hg : Gl X x) (hm : X.mg x = none) (hv : bootBuiltins x = some u) (h : Q u s)
    (hn : x ≠ "__name__" := by decide) (hd : (x == ("__debug__" : Str)) = false := by decide) : wpAny (model X.prog X.w) X.A (eval (.Name x pos) X.env) Q E s := by
  obtain ⟨mb, h1, h2⟩ := I.mod.blt
  exact Calls.Name_function_global I.ok.kind hg (Calls.loadGlobal_builtin (by rw [I.ok.glob]; exact I.mod.glob.keeps I.bk) hm (by rw [I.ok.blt]; exact h1.keeps I.bk) ((h2 x hn).trans hv) h) hd
theorem pe_bltn {x : Str} {v : V} {u : Value} {pos : Pos} (hg : Gl X x) (hm : X.mg x = none) (hv : bootBuiltins x = some u) (r : RelV v u) (hn : x ≠ "__name__" := by decide) (hd : (x == ("__debug__" : Str)) = false := by decide) : PE X (.Name x pos) (tC v) :=
  fun _ _ _ H _ I h => ld_blt I hg hm hv ⟨v, H, I, r, h⟩ hn hd
variable {a b : Expr} {ta tb : TE} {pos : Pos}
def tB (t : TE) : TT := fun σ H Q => t σ H fun x H1 => ∃ c, x = .bl c ∧ Q c H1
theorem pt_val {e : Expr} {t : TE} (h : PE X e t) (he : ∀ whole, isTrue e X.env whole = (do let v ← whole; standAt e.pos; holding [v] (truthy v)) := by intro _; rfl) : PT X e (tB t) := by
  intro pins s σ H Q I hw
  refine isTrue_plain (thn (h pins s σ H _ I hw) fun v s1 ⟨x, H1, I1, r1, q1⟩ => ?_) (he _)
  obtain ⟨d, rfl, q⟩ := q1
  cases r1
  exact wpAny_truthy_bool ⟨H1, I1, q⟩
variable {tA tB' : TT} {rest : List Expr}
def tOr (t u : TT) : TT := fun σ H Q => t σ H fun c H1 => if c = true then Q true H1 else u σ H1 Q
def tNot (t : TT) : TT := fun σ H Q => t σ H fun c H1 => Q (!c) H1
theorem pw_or1 (ha : PT X a tA) : PW X (.BoolOp .Or [a] pos) tA := by
  intro wh pins s σ H Q I h
  refine isTrue_or (thn (ha pins s σ H Q I h) fun c s1 e => ?_)
  cases c with
  | false => exact isTrue_or_nil e
  | true => exact e
theorem pw_or (ha : PT X a tA) (hb : PW X (.BoolOp .Or (b :: rest) pos) tB') : PW X (.BoolOp .Or (a :: b :: rest) pos) (tOr tA tB') := by
  intro wh pins s σ H Q I h
  refine isTrue_or (thn (ha pins s σ H _ I h) fun c s1 ⟨H1, I1, q1⟩ => ?_)
  cases c with
  | true => exact ⟨H1, I1, q1⟩
  | false => exact hb wh pins s1 σ H1 Q I1 q1
theorem pt_not (ha : PT X a tA) : PT X (.UnaryOp .Not a pos) (tNot tA) := by
  intro pins s σ H Q I h
  exact isTrue_not (ha pins s σ H (fun c H1 => Q (!c) H1) I h)
def tAndV (ta tb : TE) : TE := fun σ H Q => ta σ H fun x H1 => ∃ c, x = .bl c ∧ if c = true then tb σ H1 Q else Q (.bl false) H1
def tNotV (ta : TE) : TE := fun σ H Q => ta σ H fun x H1 => ∃ c, x = .bl c ∧ Q (.bl (!c)) H1
theorem pe_one {op} {t : TE} (h : PE X a t) : PE X (.BoolOp op [a] pos) t := fun pins s σ H Q I hw => BoolOp_one (h pins s σ H Q I hw)
theorem pe_and (ha : PE X a ta) (hb : PE X (.BoolOp .And (b :: rest) pos) tb) : PE X (.BoolOp .And (a :: b :: rest) pos) (tAndV ta tb) := by
  intro pins s σ H Q I h
  refine BoolOp_and (thn (ha pins s σ H _ I h) fun v s1 ⟨x, H1, I1, r1, q1⟩ => ?_)
  obtain ⟨c, rfl, q1⟩ := q1
  cases r1
  refine wpAny_truthy_bool ?_
  cases c with
  | true => exact hb pins s1 σ H1 Q I1 q1
  | false => exact ⟨.bl false, H1, I1, rfl, q1⟩
theorem pe_not (ha : PE X a ta) : PE X (.UnaryOp .Not a pos) (tNotV ta) := by
  intro pins s σ H Q I h
  refine UnaryOp_ (thn (ha pins s σ H _ I h) fun v s1 ⟨x, H1, I1, r1, q1⟩ => ?_)
  obtain ⟨c, rfl, q1⟩ := q1
  cases r1
  exact not_of (wpAny_truthy_bool ⟨.bl (!c), H1, I1, rfl, q1⟩)
end
end L2
namespace L2
open PySem PySem.Spec PyProof.Rows
def SqL (K : PySem.W.Frag) (H : Hp) (a : Addr) (xs : List V) : Prop :=
  Rd H a (.lst xs) ∨
    ∃ (o : Obj) (its : Array Value) (n : Nat), K.lookup a = some o ∧ o.cls = .type "list" ∧ o.dict = none ∧ o.data = .seq its n ∧ its.size ≤ sizeLine ∧ Vals xs its.toList
def SqT (K : PySem.W.Frag) (H : Hp) (a : Addr) (xs : List V) : Prop :=
  Rd H a (.tup xs) ∨
    ∃ (o : Obj) (its : Array Value) (n : Nat), K.lookup a = some o ∧ o.cls = .type "tuple" ∧ o.data = .seq its n ∧ its.size ≤ sizeLine ∧ Vals xs its.toList
def absV : Value → Option V
  | .none => some .non
  | .bool b => some (.bl b)
  | .int i _ => some (.int i)
  | .str x _ => some (.str x)
  | .bytes b _ => some (.byt b)
  | .float b _ => some (.flt b)
  | .ref a => some (.ref a)
  | .type n => some (.ty n)
  | _ => none
theorem RelV.abs {x : V} {u : Value} (r : RelV x u) : absV u = some x := by
  cases x with
  | non => cases r; rfl
  | bl _ => cases r; rfl
  | int _ => obtain ⟨t, rfl⟩ := r; rfl
  | str _ => obtain ⟨t, rfl⟩ := r; rfl
  | byt _ => obtain ⟨t, rfl⟩ := r; rfl
  | flt _ => obtain ⟨t, rfl⟩ := r; rfl
  | ref _ => cases r; rfl
  | ty _ => cases r; rfl
theorem RelV.inj {x y : V} {u : Value} (r : RelV x u) (q : RelV y u) : x = y := Option.some.inj (r.abs.symm.trans q.abs)
theorem Vals.inj : ∀ {xs ys : List V} {us : List Value}, Vals xs us → Vals ys us → xs = ys
  | _, _, _, .nil, .nil => rfl
  | _, _, _, .cons r t, .cons r' t' => by rw [r.inj r', Vals.inj t t']
section
variable {X : Cx} {pins : List (Addr × Obj)} {σ : St} {H : Hp} {s : Shared} {a : Addr} {xs ys : List V}
theorem SqL.of {K : PySem.W.Frag} (h : H a = some (.lst xs)) : SqL K H a xs := .inl (.inl h)
theorem SqT.of {K : PySem.W.Frag} (h : H a = some (.tup xs)) : SqT K H a xs := .inl (.inl h)
theorem Inv.list (I : Inv X pins σ H s) (h : SqL X.K H a xs) : ∃ its : List Value, Vals xs its ∧ PlainL s.heap a its.toArray ∧ xs.length ≤ sizeLine := by
  rcases h with h | ⟨o, its, n, hk, hc, hd, hs, hz, r⟩
  · obtain ⟨z, its, n, r, e⟩ := h.ok I.hok
    exact ⟨its, r, ⟨_, n, e, rfl, rfl, rfl⟩, z⟩
  · refine ⟨its.toList, r, ⟨o, n, I.kIn a o hk, hc, hd, by simpa using hs⟩, ?_⟩
    have e := r.length
    simp only [Array.length_toList] at e
    omega
theorem Inv.tuple (I : Inv X pins σ H s) (h : SqT X.K H a xs) : ∃ its : List Value, Vals xs its ∧ IsTup s.heap a its.toArray ∧ xs.length ≤ sizeLine := by
  rcases h with h | ⟨o, its, n, hk, hc, hs, hz, r⟩
  · obtain ⟨z, its, r, p⟩ := h.ok I.hok
    exact ⟨its, r, p, z⟩
  · refine ⟨its.toList, r, ⟨o, I.kIn a o hk, hc, n, by simpa using hs⟩, ?_⟩
    have e := r.length
    simp only [Array.length_toList] at e
    omega
theorem Inv.list_inj (I : Inv X pins σ H s) (h : SqL X.K H a xs) (h' : SqL X.K H a ys) : xs = ys := by
  obtain ⟨its, r, ⟨o, n, e, _, _, d⟩, _⟩ := I.list h
  obtain ⟨its', r', ⟨o', n', e', _, _, d'⟩, _⟩ := I.list h'
  rw [e] at e'; cases e'
  rw [d] at d'
  injection d' with d1 _
  have : its = its' := by simpa using congrArg Array.toList d1
  subst this
  exact r.inj r'
theorem Inv.tuple_inj (I : Inv X pins σ H s) (h : SqT X.K H a xs) (h' : SqT X.K H a ys) : xs = ys := by
  obtain ⟨its, r, ⟨o, e, _, n, d⟩, _⟩ := I.tuple h
  obtain ⟨its', r', ⟨o', e', _, n', d'⟩, _⟩ := I.tuple h'
  rw [e] at e'; cases e'
  rw [d] at d'
  injection d' with d1 _
  have : its = its' := by simpa using congrArg Array.toList d1
  subst this
  exact r.inj r'
end
abbrev Cx.wish (X : Cx) (E : Value → Shared → Prop) : Cx := { X with xe := E }
abbrev Cx.nox (X : Cx) : Cx := X.wish fun _ _ => False
theorem Cx.Ok.wish {X : Cx} (ok : X.Ok) (E : Value → Shared → Prop) : (X.wish E).Ok :=
  ⟨ok.mod, ok.kind, ok.glob, ok.blt, ok.above, ok.inj, ok.has, ok.cab, ok.hd, ok.frames, ok.stk, ok.exf, ok.bs, ok.bsz, ok.noex, ok.exfs, ok.funs, ok.frf⟩
theorem Cx.Ok.unwish {X : Cx} {E : Value → Shared → Prop} (ok : (X.wish E).Ok) : X.Ok :=
  ⟨ok.mod, ok.kind, ok.glob, ok.blt, ok.above, ok.inj, ok.has, ok.cab, ok.hd, ok.frames, ok.stk, ok.exf, ok.bs, ok.bsz, ok.noex, ok.exfs, ok.funs, ok.frf⟩
section
variable {X : Cx} {pins : List (Addr × Obj)} {σ : St} {H : Hp} {s : Shared} {E : Value → Shared → Prop}
theorem Inv.wish (I : Inv X pins σ H s) (E : Value → Shared → Prop) : Inv (X.wish E) pins σ H s := ⟨I.ok.wish E, I.os, I.bare, I.base, I.loc, I.cell, I.free, I.freeC, I.pin, I.hok, I.len⟩
theorem Inv.unwish (I : Inv (X.wish E) pins σ H s) : Inv X pins σ H s := ⟨I.ok.unwish, I.os, I.bare, I.base, I.loc, I.cell, I.free, I.freeC, I.pin, I.hok, I.len⟩
theorem SP.unwish {D : Ends} {f : Flow} {s' : Shared} (h : SP (X.wish E) pins D f s') : SP X pins D f s' := by
  cases f with
  | next => obtain ⟨σ', H', I, q⟩ := h; exact ⟨σ', H', I.unwish, q⟩
  | brk => obtain ⟨σ', H', I, q⟩ := h; exact ⟨σ', H', I.unwish, q⟩
  | cont => obtain ⟨σ', H', I, q⟩ := h; exact ⟨σ', H', I.unwish, q⟩
  | ret u => obtain ⟨v, σ', H', I, r, q⟩ := h; exact ⟨v, σ', H', I.unwish, r, q⟩
theorem PE.nox {e : Expr} {t : TE} (h : PE X.nox e t) : PE X e t := fun pins s σ H Q I hw =>
  wpAny_mono (h pins s σ H Q (I.wish _) hw) (fun _ _ ⟨v, H', I', r, q⟩ => ⟨v, H', I'.unwish, r, q⟩) fun _ _ z => False.elim z
theorem PT.nox {e : Expr} {t : TT} (h : PT X.nox e t) : PT X e t := fun pins s σ H Q I hw =>
  wpAny_mono (h pins s σ H Q (I.wish _) hw) (fun _ _ ⟨H', I', q⟩ => ⟨H', I'.unwish, q⟩) fun _ _ z => False.elim z
theorem PSs.nox {st : List Stmt} {t : TS} (h : PSs X.nox st t) : PSs X st t := fun pins s σ H D I hw =>
  wpAny_mono (h pins s σ H D (I.wish _) hw) (fun _ _ q => q.unwish) fun _ _ z => False.elim z
end
section
variable {X : Cx} {st : Stmt} {rest : List Stmt} {t u : TS} {e : Expr} {te : TE} {pos : Pos}
def tNext : TS := fun D σ H => D.nx σ H
def tSeq (t u : TS) : TS := fun D σ H => t { D with nx := u D } σ H
theorem pss_nil : PSs X [] tNext := fun _ _ σ H _ I h => wpAny_execs_nil ⟨σ, H, I, h⟩
theorem pss_cons (h1 : PS X st t) (h2 : PSs X rest u) : PSs X (st :: rest) (tSeq t u) := by
  intro pins s σ H D I h
  refine wpAny_execs_cons (thn (h1 pins s σ H { D with nx := u D } I h) fun f s1 q => ?_)
  cases f with
  | next =>
    obtain ⟨σ', H', I', q⟩ := q
    exact h2 pins s1 σ' H' D I' q
  | ret v => exact q
  | brk => exact q
  | cont => exact q
theorem pss_one (h1 : PS X st t) : PSs X [st] t := by
  intro pins s σ H D I h
  refine wpAny_execs_cons (thn (h1 pins s σ H D I h) fun f s1 q => ?_)
  cases f with
  | next => exact wpAny_execs_nil q
  | ret v => exact q
  | brk => exact q
  | cont => exact q
theorem Inv.quiet {pins : List (Addr × Obj)} {σ : St} {H : Hp} {s : Shared} (I : Inv X pins σ H s) : interactive X.env = false := by simp [interactive, I.ok.kind]
def tDrop (te : TE) : TS := fun D σ H => te σ H fun _ H1 => D.nx σ H1
theorem ps_expr (he : PE X e te) (hs : swapsWith e none pos.line X.env = pure false := by rfl) : PS X (.Expr e pos) (tDrop te) := by
  intro pins s σ H D I h
  exact wpAny_Expr_any (thn (he pins s σ H _ I h) fun v s1 ⟨x, H1, I1, r1, q1⟩ => ⟨σ, H1, I1, q1⟩) I.quiet hs
def tRet (te : TE) : TS := fun D σ H => te σ H D.rt
theorem ps_ret (he : PE X e te) : PS X (.Return (some e) pos) (tRet te) := by
  intro pins s σ H D I h
  exact wpAny_Return_some (thn (he pins s σ H _ I h) fun v s1 ⟨x, H1, I1, r1, q1⟩ => ⟨x, σ, H1, I1, r1, q1⟩)
def tIfS (c : TT) (t u : TS) : TS := fun D σ H => c σ H fun b H1 => if b = true then t D σ H1 else u D σ H1
theorem ps_if {c : Expr} {a b : List Stmt} {tc : TT} (hc : PT X c tc) (ha : PSs X a t) (hb : PSs X b u) : PS X (.If c a b pos) (tIfS tc t u) := by
  intro pins s σ H D I h
  refine wpAny_If (thn (hc pins s σ H _ I h) fun d s1 ⟨H1, I1, q1⟩ => ?_)
  cases d with
  | true => exact ha pins s1 σ H1 D I1 q1
  | false => exact hb pins s1 σ H1 D I1 q1
end
abbrev TG := V → St → Hp → (St → Hp → Prop) → Prop
abbrev TGs := List V → St → Hp → (St → Hp → Prop) → Prop
def PG (X : Cx) (target : Expr) (t : TG) : Prop :=
  ∀ (pins : List (Addr × Obj)) (s : Shared) (σ : St) (H : Hp) (v : V) (u : Value) (Q : St → Hp → Prop), Inv X pins σ H s → RelV v u → t v σ H Q →
    wpAny (model X.prog X.w) X.A (assign target X.env u) (fun _ s' => ∃ σ' H', Inv X pins σ' H' s' ∧ Q σ' H') X.xe s
def PGs (X : Cx) (ts : List Expr) (t : TGs) : Prop :=
  ∀ (pins : List (Addr × Obj)) (s : Shared) (σ : St) (H : Hp) (vs : List V) (us : List Value) (Q : St → Hp → Prop), Inv X pins σ H s → Vals vs us → t vs σ H Q →
    wpAny (model X.prog X.w) X.A (assignInOrder ((assignEach ts X.env).map (·.2)) us) (fun _ s' => ∃ σ' H', Inv X pins σ' H' s' ∧ Q σ' H') X.xe s
section
variable {X : Cx} {pos : Pos}
def gName (i : Nat) : TG := fun v σ H Q => Q (σ.set i (some v)) H
theorem pg_name {i : Nat} {x : Str} (hN : X.N.Nodup) (hi : X.N[i]? = some x) (hx : Loc X.env.scope x) (hf : X.fn x = true ∨ X.env.scope.names.lookup x = some .local := by first | exact .inl rfl | exact .inr rfl | assumption) : PG X (.Name x pos) (gName i) := by
  intro pins s σ H v u Q I r h
  exact wpAny_assign_Name (store_ok I hN hi hx r (fun s' I' => ⟨_, H, I', h⟩) hf)
def gNil : TGs := fun vs σ H Q => vs = [] ∧ Q σ H
def gCons (t : TG) (u : TGs) : TGs := fun vs σ H Q => ∃ v r, vs = v :: r ∧ t v σ H fun σ' H' => u r σ' H' Q
theorem pgs_nil : PGs X [] gNil := by
  intro pins s σ H vs us Q I r h
  obtain ⟨e, h⟩ := h
  subst e
  cases r
  exact assignInOrder_nil ⟨σ, H, I, h⟩
theorem pgs_cons {e : Expr} {es : List Expr} {t : TG} {u : TGs} (h1 : PG X e t) (h2 : PGs X es u)
    (hs : (assignEach (e :: es) X.env).map (·.2) = assign e X.env :: (assignEach es X.env).map (·.2) := by rfl) : PGs X (e :: es) (gCons t u) := by
  intro pins s σ H vs us Q I r h
  obtain ⟨v, vr, e1, h⟩ := h
  subst e1
  cases r with
  | cons r rr =>
    rw [hs]
    refine assignInOrder_cons (thn (h1 pins s σ H _ _ _ I r h) fun _ s1 ⟨σ1, H1, I1, q1⟩ => ?_)
    exact h2 pins s1 σ1 H1 _ _ Q I1 rr q1
def gTup (K : PySem.W.Frag) (n : Nat) (t : TGs) : TG := fun v σ H Q => ∃ a xs, v = .ref a ∧ SqT K H a xs ∧ xs.length = n ∧ t xs σ H Q
theorem pg_tup {es : List Expr} {k : Nat} {t : TGs} {n : Nat} (hc : X.calm = true) (h : PGs X es t)
    (hn : (assignEach es X.env).length = n := by rfl) (hst : (assignEach es X.env).findIdx? (·.1) = none := by rfl) : PG X (.Tuple es k pos) (gTup X.K n t) := by
  intro pins s σ H v u Q I r hw
  obtain ⟨a, xs, e1, hq, hl, hw⟩ := hw
  subst e1
  cases r
  obtain ⟨its, rv, ht, hz⟩ := I.tuple hq
  refine assign_Tuple_tuple (I.ok.hd hc) ht (by simp [hn, ← hl, rv.length]) hst fun h' hx => ?_
  have I1 : Inv X pins σ H { s with heap := h' } := I.kept (t' := s.toks) fun b o e => hx b o (Nat.ne_of_lt (Heap.lt_size e)) e
  exact h pins _ σ H xs _ Q I1 (by simpa using rv) hw
def tAsg (te : TE) (g : TG) : TS := fun D σ H => te σ H fun x H1 => g x σ H1 D.nx
theorem ps_set {i : Nat} {x : Str} {e : Expr} {te : TE} {pos' : Pos} (hN : X.N.Nodup) (hi : X.N[i]? = some x) (hx : Loc X.env.scope x) (he : PE X e te) (hs : swapsWith e (some (.Name x pos')) pos.line X.env = pure false := by rfl) (hf : X.fn x = true ∨ X.env.scope.names.lookup x = some .local := by first | exact .inl rfl | exact .inr rfl | assumption) :
    PS X (.Assign [.Name x pos'] e pos) (tAsg te (gName i)) := by
  intro pins s σ H D I h
  refine wpAny_Assign_Name (thn (he pins s σ H _ I h) fun v s1 ⟨y, H1, I1, r1, q1⟩ => ?_) hs
  exact store_ok I1 hN hi hx r1 (fun s2 I2 => ⟨_, H1, I2, q1⟩) hf
end
section
variable {X : Cx} {pos : Pos}
end
structure It where
  go : Nat → Hp → Prop
  yld : Nat → Hp → V → Hp → Prop
  stop : Nat → Hp → Prop
def FpOk (X : Cx) (pins : List (Addr × Obj)) (H : Hp) (b : Addr) : Prop :=
  H b = none ∧ b ≠ X.env.locals ∧ b ∉ X.fs ∧ (b ∈ X.ex ∨ X.s₀.heap.objs.size ≤ b) ∧ (∀ x c, X.env.cells.lookup x = some c → c ≠ b) ∧ ∀ p ∈ X.pn ++ pins, p.1 ≠ b
theorem Inv.fpOk {X : Cx} {pins : List (Addr × Obj)} {σ : St} {H H' : Hp} {s : Shared} {b : Addr} (I : Inv X pins σ H s) (hb : s.heap.objs.size ≤ b) (hn : H' b = none) : FpOk X pins H' b := by
  refine ⟨hn, Nat.ne_of_gt (Nat.lt_of_lt_of_le I.lt hb), I.nofs hb, .inr (Nat.le_trans I.sz hb), fun x c e z => ?_, fun p hp z => ?_⟩
  · obtain ⟨v, q⟩ := I.cell x c e
    exact absurd (Nat.lt_of_lt_of_le q.lt (by rw [z]; exact hb)) (Nat.lt_irrefl _)
  · exact absurd (Nat.lt_of_lt_of_le (Heap.lt_size (I.pin p hp).1) (by rw [z]; exact hb)) (Nat.lt_irrefl _)
structure Turn (P : Program) (w : World) (K : PySem.W.Frag) (tg : Expr) (J : It) (fp : List Addr) (it : Addr) (tn : Nat → Heap → Prop) : Prop where
  mem : it ∈ fp
  obj : ∀ i h, tn i h → ∀ b ∈ fp, ∃ o, h.get? b = some o ∧ ∀ v, o.data ≠ .cell v
  keep : ∀ i h h', tn i h → (∀ b ∈ fp, ∀ o, h.get? b = some o → h'.get? b = some o) → tn i h'
  item : ∀ (X : Cx), X.prog = P → X.w = w → X.K = K → X.calm = true → ∀ (i : Nat) (pins : List (Addr × Obj)) (s : Shared) (σ : St) (H : Hp) (E : Value → Shared → Prop), Inv X pins σ H s → (∀ b ∈ fp, FpOk X pins H b) → tn i s.heap → J.go i H →
    wpAny (model P w) X.A (pyNext (.ref it)) (fun r s1 => ∃ u, r = some u ∧
      wpAny (model P w) X.A (letOwnedTupleGo tg (.ref it) u) (fun _ s2 => ∃ x H', Inv X pins σ H' s2 ∧ RelV x u ∧ J.yld i H x H' ∧ tn (i + 1) s2.heap ∧ ∀ b ∈ fp, H' b = none) E s1) E s
  done : ∀ (X : Cx), X.prog = P → X.w = w → X.K = K → X.calm = true → ∀ (i : Nat) (pins : List (Addr × Obj)) (s : Shared) (σ : St) (H : Hp) (E : Value → Shared → Prop), Inv X pins σ H s → (∀ b ∈ fp, FpOk X pins H b) → tn i s.heap → J.stop i H →
    wpAny (model P w) X.A (pyNext (.ref it)) (fun r s1 => r = none ∧ Inv X pins σ H s1) E s
  self : ∀ (A : Around) (i : Nat) (s : Shared) (Q : Value → Shared → Prop) (E : Value → Shared → Prop), tn i s.heap → Q (.ref it) s → wpAny (model P w) A (pyIter (.ref it)) Q E s
abbrev TI := St → Hp → (It → Hp → Prop) → Prop
def PIE (X : Cx) (pins : List (Addr × Obj)) (σ : St) (tg : Expr) (R : It → Hp → Prop) (itv : Value) (s2 : Shared) : Prop :=
  ∃ (it : Addr) (fp : List Addr) (tn : Nat → Heap → Prop) (J : It) (H' : Hp), itv = .ref it ∧ Inv X pins σ H' s2 ∧ Turn X.prog X.w X.K tg J fp it tn ∧ tn 0 s2.heap ∧ (∀ b ∈ fp, FpOk X pins H' b) ∧ R J H'
def PI (X : Cx) (tg iter : Expr) (wi : TI) : Prop :=
  ∀ (pins : List (Addr × Obj)) (s : Shared) (σ : St) (H : Hp) (R : It → Hp → Prop), Inv X pins σ H s → wi σ H R →
    wpAny (model X.prog X.w) X.A (eval iter X.env) (fun v s1 => wpAny (model X.prog X.w) X.A (pyIter v) (PIE X pins σ tg R) X.xe s1) X.xe s
theorem go_of {M : Model} {A : Around} {E : Value → Shared → Prop} {s : Shared} {tg : Expr} {it : Addr} {u : Value} {o : Obj} {n : String} {vs : Array Value} {Q : Unit → Shared → Prop} (ho : s.heap.get? it = some o) (hc : o.cls = .type n) (hd : o.data = .fields vs)
    (hn : ["enumerate", "zip", "dict_itemiterator", "dict_reverseitemiterator", "odict_iterator", "itertools.zip_longest", "itertools.pairwise"].contains n = false) (hQ : Q () s) : wpAny M A (letOwnedTupleGo tg (.ref it) u) Q E s := by
  unfold letOwnedTupleGo
  cases tg <;> first
    | exact wpAny_pure hQ
    | (cases u <;> first
        | exact wpAny_pure hQ
        | (refine wpAny_bind (wpAny_load ho ?_)
           rw [hc, hd]
           show wpAny M A (if (["enumerate", "zip", "dict_itemiterator", "dict_reverseitemiterator", "odict_iterator", "itertools.zip_longest", "itertools.pairwise"].contains n && vs[0]? == some (rawInt _)) = true then _ else _) Q E s
           rw [if_neg (by intro h; rw [hn, Bool.false_and] at h; cases h)]
           exact wpAny_pure hQ))
def Itl (K : PySem.W.Frag) (a : Addr) : It :=
  ⟨fun i H => ∃ xs x, SqL K H a xs ∧ xs[i]? = some x, fun i H x H' => H' = H ∧ ∀ xs, SqL K H a xs → xs[i]? = some x, fun i H => ∃ xs, SqL K H a xs ∧ xs.length ≤ i⟩
def Itt (K : PySem.W.Frag) (a : Addr) : It :=
  ⟨fun i H => ∃ xs x, SqT K H a xs ∧ xs[i]? = some x, fun i H x H' => H' = H ∧ ∀ xs, SqT K H a xs → xs[i]? = some x, fun i H => ∃ xs, SqT K H a xs ∧ xs.length ≤ i⟩
def Itr (lo : Int) (n : Nat) : It := ⟨fun i _ => i < n, fun i H x H' => H' = H ∧ x = .int (lo + i), fun i _ => n ≤ i⟩
theorem turn_list {P : Program} {w : World} {K : PySem.W.Frag} {tg : Expr} (a it : Addr) : Turn P w K tg (Itl K a) [it] it (fun i h => h.IsListIter it a i) where
  mem := by simp
  obj := fun i h st b hb => by
    have e : b = it := by simpa using hb
    subst e
    obtain ⟨o, e, c, d⟩ := st
    exact ⟨o, e, fun v z => by rw [d] at z; cases z⟩
  keep := fun i h h' st k => st.at fun o e => k it (by simp) o e
  item := by
    intro X hP hw hK hc i pins s σ H E I hf st hg
    subst hP hw hK
    obtain ⟨xs, x, hq, hx⟩ := hg
    obtain ⟨its, rv, p, hz⟩ := I.list hq
    obtain ⟨u, hu, ru⟩ := rv.get hx
    obtain ⟨f0, f1, f2, f3, f4, f5⟩ := hf it (by simp)
    refine wpAny_pyNext_list_item st p.isList (x := u) (by simpa using hu) fun h' st' sb => ?_
    have I1 : Inv X pins σ H { s with heap := h' } := I.turned (t' := s.toks) (fun b o hb e => (sb.2 b hb).trans e) f0 f1 f3 f4 f5
    obtain ⟨o, e, c, d⟩ := id st'
    exact ⟨u, rfl, go_of (s := { s with heap := h' }) e c d (by decide) ⟨x, H, I1, ru, ⟨rfl, fun ys hy => by rw [I.list_inj hy hq]; exact hx⟩, st', fun b hb => (hf b hb).1⟩⟩
  done := by
    intro X hP hw hK hc i pins s σ H E I hf st hg
    subst hP hw hK
    obtain ⟨xs, hq, hx⟩ := hg
    obtain ⟨its, rv, p, hz⟩ := I.list hq
    obtain ⟨f0, f1, f2, f3, f4, f5⟩ := hf it (by simp)
    have hl := rv.length
    exact wpAny_pyNext_list_end (I.ok.hd hc) st p.isList (by simp; omega) fun h' eb => ⟨rfl, I.turned (t' := s.toks) (fun b o hb e => eb b o hb e) f0 f1 f3 f4 f5⟩
  self := fun _ _ _ _ _ st h => wpAny_pyIter_listiter st h
theorem turn_tuple {P : Program} {w : World} {K : PySem.W.Frag} {tg : Expr} (a it : Addr) : Turn P w K tg (Itt K a) [it] it (fun i h => h.IsTupleIter it a i) where
  mem := by simp
  obj := fun i h st b hb => by
    have e : b = it := by simpa using hb
    subst e
    obtain ⟨o, e, c, d⟩ := st
    exact ⟨o, e, fun v z => by rw [d] at z; cases z⟩
  keep := fun i h h' st k => st.at fun o e => k it (by simp) o e
  item := by
    intro X hP hw hK hc i pins s σ H E I hf st hg
    subst hP hw hK
    obtain ⟨xs, x, hq, hx⟩ := hg
    obtain ⟨its, rv, p, hz⟩ := I.tuple hq
    obtain ⟨u, hu, ru⟩ := rv.get hx
    obtain ⟨f0, f1, f2, f3, f4, f5⟩ := hf it (by simp)
    refine wpAny_pyNext_tuple_item st (show s.heap.IsTuple a its.toArray from p) (x := u) (by simpa using hu) fun h' st' sb => ?_
    have I1 : Inv X pins σ H { s with heap := h' } := I.turned (t' := s.toks) (fun b o hb e => (sb.2 b hb).trans e) f0 f1 f3 f4 f5
    obtain ⟨o, e, c, d⟩ := id st'
    exact ⟨u, rfl, go_of (s := { s with heap := h' }) e c d (by decide) ⟨x, H, I1, ru, ⟨rfl, fun ys hy => by rw [I.tuple_inj hy hq]; exact hx⟩, st', fun b hb => (hf b hb).1⟩⟩
  done := by
    intro X hP hw hK hc i pins s σ H E I hf st hg
    subst hP hw hK
    obtain ⟨xs, hq, hx⟩ := hg
    obtain ⟨its, rv, p, hz⟩ := I.tuple hq
    obtain ⟨f0, f1, f2, f3, f4, f5⟩ := hf it (by simp)
    have hl := rv.length
    exact wpAny_pyNext_tuple_end (I.ok.hd hc) st (show s.heap.IsTuple a its.toArray from p) (by simp; omega) fun h' eb => ⟨rfl, I.turned (t' := s.toks) (fun b o hb e => eb b o hb e) f0 f1 f3 f4 f5⟩
  self := fun _ _ _ _ _ st h => wpAny_pyIter_tupleiter st h
theorem turn_range {P : Program} {w : World} {K : PySem.W.Frag} {tg : Expr} (it : Addr) (lo : Int) (n : Nat) : Turn P w K tg (Itr lo n) [it] it (fun i h => IsRangeIter h it (lo + (i : Nat) * 1) ((n : Int) - (i : Nat)) 1) where
  mem := by simp
  obj := fun i h st b hb => by
    have e : b = it := by simpa using hb
    subst e
    exact ⟨_, st, fun v z => by
      have z' : Data.fields _ = Data.cell v := z
      cases z'⟩
  keep := fun i h h' st k => k it (by simp) _ st
  item := by
    intro X hP hw hK hc i pins s σ H E I hf st hg
    subst hP hw hK
    obtain ⟨f0, f1, f2, f3, f4, f5⟩ := hf it (by simp)
    have W := Walks.range (prog := X.prog) (w := X.w) (I.ok.hd hc) it lo 1 n
    refine W.item i s _ _ hg st fun v h' tk hv st' kk => ?_
    obtain ⟨t, rfl⟩ := hv
    have I1 : Inv X pins σ H { s with heap := h', toks := tk } := I.turned (fun b o hb e => kk b o (by simpa using hb) e) f0 f1 f3 f4 f5
    refine ⟨_, rfl, go_of (s := { s with heap := h', toks := tk }) (n := "range_iterator") st' rfl rfl (by decide) ⟨.int (lo + i), H, I1, ⟨t, ?_⟩, ⟨rfl, rfl⟩, st', fun b hb => (hf b hb).1⟩⟩
    rw [Int.mul_one]
  done := by
    intro X hP hw hK hc i pins s σ H E I hf st hg
    subst hP hw hK
    obtain ⟨f0, f1, f2, f3, f4, f5⟩ := hf it (by simp)
    exact wpAny_pyNext_range_end (I.ok.hd hc) st (by have : n ≤ i := hg; omega) fun h' eb => ⟨rfl, I.turned (t' := s.toks) (fun b o hb e => eb b o hb e) f0 f1 f3 f4 f5⟩
  self := fun _ _ _ _ _ st h => wpAny_pyIter_rangeiter st h
end L2
namespace L2
open PySem PySem.Spec PyProof.Rows
section
variable {X : Cx} {tg : Expr}
theorem range_it {pins : List (Addr × Obj)} {σ : St} {H : Hp} {s : Shared} {R : It → Hp → Prop} {E : Value → Shared → Prop} {lo hi : Int} {t u v : Tok} {tk : Nat} (I : Inv X pins σ H s) (h1 : -(2 ^ 62) ≤ lo) (h2 : lo < 2 ^ 62) (h3 : -(2 ^ 62) ≤ hi) (h4 : hi < 2 ^ 62)
    (q : R (Itr lo (hi - lo).toNat) H) : wpAny (model X.prog X.w) X.A (pyIter (.ref s.heap.objs.size)) (PIE X pins σ tg R) E { s with heap := s.heap.push { cls := .type "range", data := .fields #[.int lo t, .int hi u, .int 1 v] }, toks := tk } := by
  refine wpAny_pyIter_range (IsRange.new ..) (small_one h1 h2 h3 h4) ?_
  have I1 : Inv X pins σ H { s with heap := s.heap.push { cls := .type "range", data := .fields #[.int lo t, .int hi u, .int 1 v] }, toks := tk } := I.kept fun b o e => Heap.get?_push_of_some _ e
  refine ⟨(s.heap.push { cls := .type "range", data := .fields #[.int lo t, .int hi u, .int 1 v] }).objs.size, [(s.heap.push { cls := .type "range", data := .fields #[.int lo t, .int hi u, .int 1 v] }).objs.size], _, _, H, rfl,
    I1.kept (t' := tk) fun b o e => Heap.get?_push_of_some _ e, turn_range _ lo (hi - lo).toNat, ?_, fun b hb => ?_, q⟩
  · have e1 : lo + ((0 : Nat) : Int) * 1 = lo := by simp
    have e2 : (((hi - lo).toNat : Nat) : Int) - ((0 : Nat) : Int) = Builtin.Range.rangeSize lo hi 1 := by rw [rangeSize_one]; split <;> omega
    show IsRangeIter _ _ (lo + ((0 : Nat) : Int) * 1) ((((hi - lo).toNat : Nat) : Int) - ((0 : Nat) : Int)) 1
    rw [e1, e2]
    exact Heap.get?_push_size _ rfl
  · have e : b = (s.heap.push { cls := .type "range", data := .fields #[.int lo t, .int hi u, .int 1 v] }).objs.size := by simpa using hb
    subst e
    exact I1.fpOk (Nat.le_refl _) (I1.hok.fresh (Nat.le_refl _))
def iRng1 (ta : TA) : TI := fun σ H R => ta σ H fun vs H1 => ∃ j : Int, vs = [.int j] ∧ -(2 ^ 62) ≤ j ∧ j < 2 ^ 62 ∧ R (Itr 0 j.toNat) H1
def iRng2 (ta : TA) : TI := fun σ H R => ta σ H fun vs H1 => ∃ i j : Int, vs = [.int i, .int j] ∧ (-(2 ^ 62) ≤ i ∧ i < 2 ^ 62 ∧ -(2 ^ 62) ≤ j ∧ j < 2 ^ 62) ∧ R (Itr i (j - i).toNat) H1
theorem pi_range1 {a : Expr} {ta : TA} {p pos : Pos} (hg : Gl X "range") (hm : X.mg "range" = none) (ha : PA X [a] ta) (hs : starEach [a] X.env = [(false, eval a X.env)] := by rfl) : PI X tg (.Call (.Name "range" p) [a] [] pos) (iRng1 ta) := by
  intro pins s σ H R I h
  refine Call_ (ld_blt I hg hm boot_range (PyProof.Rows.callWith_type1 (thn (ha pos pins s σ H _ I h) fun us s1 ⟨vs, H1, I1, r1, q1⟩ => ?_) hs rfl))
  obtain ⟨j, e, q1, q2, q⟩ := q1
  subst e
  cases r1 with
  | cons r rr =>
    cases rr
    obtain ⟨t, rfl⟩ := r
    exact call_range_1 (range_it I1 (by omega) (by omega) q1 q2 (by simpa using q))
theorem pi_range2 {a b : Expr} {ta : TA} {p pos : Pos} (hg : Gl X "range") (hm : X.mg "range" = none) (ha : PA X [a, b] ta) (hs : starEach [a, b] X.env = [(false, eval a X.env), (false, eval b X.env)] := by rfl) (hs2 : starEach [b] X.env = [(false, eval b X.env)] := by rfl) :
    PI X tg (.Call (.Name "range" p) [a, b] [] pos) (iRng2 ta) := by
  intro pins s σ H R I h
  refine Call_ (ld_blt I hg hm boot_range (PyProof.Rows.callWith_type1 (thn (ha pos pins s σ H _ I h) fun us s1 ⟨vs, H1, I1, r1, q1⟩ => ?_) (by rw [hs, hs2]) (by rw [hs2]; rfl)))
  obtain ⟨i, j, e, ⟨q1, q2, q3, q4⟩, q⟩ := q1
  subst e
  cases r1 with
  | cons r rr =>
    cases rr with
    | cons r' rr =>
      cases rr
      obtain ⟨t, rfl⟩ := r
      obtain ⟨t', rfl⟩ := r'
      exact call_range_2 (range_it I1 q1 q2 q3 q4 q)
def tFor (wi : TI) (g : TG) (tb : TS) : TS := fun D σ H => wi σ H fun J H1 => ∃ W : Nat → Nat → St → Hp → Prop, (∃ m, W 0 m σ H1) ∧ ∀ i m σ H, W i m σ H →
  (J.stop i H ∧ D.nx σ H) ∨ (J.go i H ∧ ∃ N : St → Hp → Prop, (∀ σ' H', N σ' H' → ∃ m', m' < m ∧ W (i + 1) m' σ' H') ∧ ∀ x H', J.yld i H x H' → g x σ H' fun σ2 H2 => tb { D with nx := N, ct := N, bk := D.nx } σ2 H2)
def pinsAt (fp : List Addr) (h : Heap) : List (Addr × Obj) := fp.filterMap fun b => (h.get? b).map fun o => (b, o)
theorem mem_pinsAt {fp : List Addr} {h : Heap} {b : Addr} {o : Obj} (hb : b ∈ fp) (e : h.get? b = some o) : (b, o) ∈ pinsAt fp h := List.mem_filterMap.mpr ⟨b, hb, by rw [e]; rfl⟩
theorem of_pinsAt {fp : List Addr} {h : Heap} {p : Addr × Obj} (hp : p ∈ pinsAt fp h) : p.1 ∈ fp ∧ h.get? p.1 = some p.2 := by
  obtain ⟨b, hb, e⟩ := List.mem_filterMap.mp hp
  cases q : h.get? b with
  | none => rw [q] at e; cases e
  | some o =>
    rw [q] at e
    have e' : (b, o) = p := Option.some.inj e
    subst e'
    exact ⟨hb, q⟩
theorem Inv.pinned {pins : List (Addr × Obj)} {σ : St} {H : Hp} {s : Shared} {fp : List Addr} (I : Inv X pins σ H s) (hf : ∀ b ∈ fp, FpOk X pins H b) (ho : ∀ b ∈ fp, ∃ o, s.heap.get? b = some o ∧ ∀ v, o.data ≠ .cell v) : Inv X (pins ++ pinsAt fp s.heap) σ H s :=
  I.pins_of fun p hp => (List.mem_append.mp hp).elim (fun z => I.pin p (List.mem_append_right _ z)) fun z => by
    obtain ⟨hb, e⟩ := of_pinsAt z
    obtain ⟨f0, f1, f2, _⟩ := hf p.1 hb
    obtain ⟨o, e', d⟩ := ho p.1 hb
    rw [e] at e'; cases e'
    exact ⟨e, f0, f1, f2, d⟩
theorem Inv.unpinned {pins pl : List (Addr × Obj)} {σ : St} {H : Hp} {s : Shared} (I : Inv X (pins ++ pl) σ H s) : Inv X pins σ H s := I.pins_of fun p hp => I.pin p (List.mem_append_right _ (List.mem_append_left _ hp))
theorem ps_for {iter : Expr} {body : List Stmt} {wi : TI} {g : TG} {tb : TS} {pos : Pos} (hp : PassesOwn (model X.prog X.w) X.A X.env X.xe) (hc : X.calm = true) (hi : PI X tg iter wi) (hg : PG X tg g) (hb : PSs X body tb)
    (hs : ∀ x, foldedSetIterable iter X.env x = pure x := by intro _; rfl) : PS X (.For tg iter body [] pos) (tFor wi g tb) := by
  intro pins s σ H D I h
  refine wpAny_For (thn (hi pins s σ H _ I h) fun v s1 h1 => thn h1 fun itv s2 h2 => ?_) hs
  obtain ⟨it, fp, tn, J, H2, e, I2, T, st2, f2, W, ⟨m0, w0⟩, turn⟩ := h2
  subst e
  -- what stays true of the iterator's objects through the loop
  have stat : ∀ {H' : Hp}, (∀ b ∈ fp, H' b = none) → ∀ b ∈ fp, FpOk X pins H' b := fun hn b hb => ⟨hn b hb, (f2 b hb).2⟩
  refine codeAny_forLoop_any (fun n s' => ∃ i σ' H', Inv X pins σ' H' s' ∧ tn i s'.heap ∧ (∀ b ∈ fp, H' b = none) ∧ W i n σ' H') ?_ m0 ⟨0, σ, H2, I2, st2, fun b hb => (f2 b hb).1, w0⟩
  rintro n s3 ⟨i, σ3, H3, I3, st3, fr3, w3⟩
  rcases turn i n σ3 H3 w3 with ⟨stop, qn⟩ | ⟨go, N, hN, step⟩
  · refine wpAny_passesOwn hp (thn (T.done X rfl rfl rfl hc i pins s3 σ3 H3 X.xe I3 (stat fr3) st3 stop) fun r s4 ⟨hr, I4⟩ => ?_)
    subst hr
    exact wpAny_execs_nil ⟨σ3, H3, I4, qn⟩
  · refine wpAny_passesOwn hp (thn (T.item X rfl rfl rfl hc i pins s3 σ3 H3 X.xe I3 (stat fr3) st3 go) fun r s4 ⟨u, hr, h4⟩ => ?_)
    subst hr
    refine wpAny_passesOwn hp (thn h4 fun _ s5 ⟨x, H5, I5, r5, y5, st5, fr5⟩ => ?_)
    have I5' := I5.pinned (stat fr5) (T.obj _ _ st5)
    refine wpAny_passesOwn hp (thn (hg _ s5 σ3 H5 x u _ I5' r5 (step x H5 y5)) fun _ s6 ⟨σ6, H6, I6, q6⟩ => ?_)
    refine wpAny_passesOwn hp (thn (hb _ s6 σ6 H6 _ I6 q6) fun f s7 q7 => ?_)
    have again : ∀ {σ7 : St} {H7 : Hp}, Inv X (pins ++ pinsAt fp s5.heap) σ7 H7 s7 → N σ7 H7 → ∃ m, m < n ∧ ∃ i σ' H', Inv X pins σ' H' s7 ∧ tn i s7.heap ∧ (∀ b ∈ fp, H' b = none) ∧ W i m σ' H' := fun {σ7 H7} I7 n7 => by
      obtain ⟨m', hm, w7⟩ := hN σ7 H7 n7
      refine ⟨m', hm, i + 1, σ7, H7, I7.unpinned, T.keep _ _ _ st5 fun b hb o e => (I7.pin (b, o) (List.mem_append_right _ (List.mem_append_right _ (mem_pinsAt hb e)))).1, fun b hb => ?_, w7⟩
      obtain ⟨o, e, d⟩ := T.obj _ _ st5 b hb
      exact (I7.pin (b, o) (List.mem_append_right _ (List.mem_append_right _ (mem_pinsAt hb e)))).2.1
    cases f with
    | next => obtain ⟨σ7, H7, I7, n7⟩ := q7; exact again I7 n7
    | cont => obtain ⟨σ7, H7, I7, n7⟩ := q7; exact again I7 n7
    | brk => obtain ⟨σ7, H7, I7, q7⟩ := q7; exact ⟨σ7, H7, I7.unpinned, q7⟩
    | ret v => obtain ⟨x7, σ7, H7, I7, r7, q7⟩ := q7; exact ⟨x7, σ7, H7, I7.unpinned, r7, q7⟩
end
end L2
namespace L2
open PySem PySem.Spec PyProof.Rows
abbrev R2 := V → V → Hp → VK → Prop
def OpR (X : Cx) (f : Value → Value → Sem Value) (r : R2) : Prop :=
  ∀ (pins : List (Addr × Obj)) (s : Shared) (σ : St) (H : Hp) (x y : V) (v u : Value) (Q : VK), Inv X pins σ H s → RelV x v → RelV y u → r x y H Q →
    wpAny (model X.prog X.w) X.A (f v u) (EP X pins σ Q) X.xe s
def UnR (X : Cx) (f : Value → Sem Value) (r : V → Hp → VK → Prop) : Prop :=
  ∀ (pins : List (Addr × Obj)) (s : Shared) (σ : St) (H : Hp) (x : V) (v : Value) (Q : VK), Inv X pins σ H s → RelV x v → r x H Q →
    wpAny (model X.prog X.w) X.A (f v) (EP X pins σ Q) X.xe s
def CallR (X : Cx) (f : Value) (r : List V → Hp → VK → Prop) : Prop :=
  ∀ (pins : List (Addr × Obj)) (s : Shared) (σ : St) (H : Hp) (xs : List V) (us : List Value) (Q : VK), Inv X pins σ H s → Vals xs us → r xs H Q →
    wpAny (model X.prog X.w) X.A (call f us) (EP X pins σ Q) X.xe s
def tOp (r : R2) (ta tb : TE) : TE := fun σ H Q => ta σ H fun x H1 => tb σ H1 fun y H2 => r x y H2 Q
def tUn (r : V → Hp → VK → Prop) (ta : TE) : TE := fun σ H Q => ta σ H fun x H1 => r x H1 Q
def rI (C : Int → Int → Prop) (g : Int → Int → V) : R2 := fun x y H Q => ∃ i j, x = .int i ∧ y = .int j ∧ C i j ∧ Q (g i j) H
def rI0 (g : Int → Int → V) : R2 := fun x y H Q => ∃ i j, x = .int i ∧ y = .int j ∧ Q (g i j) H
def rU (g : Int → V) : V → Hp → VK → Prop := fun x H Q => ∃ i, x = .int i ∧ Q (g i) H
section
variable {X : Cx} {a b c : Expr} {ta tb tc : TE} {pos : Pos}
theorem binT (ha : PE X a ta) (hb : PE X b tb) {pins : List (Addr × Obj)} {s : Shared} {σ : St} {H : Hp} {R : V → V → Hp → Prop} (I : Inv X pins σ H s)
    (h : ta σ H fun x H1 => tb σ H1 fun y H2 => R x y H2) {Q : Value → Shared → Prop} {f : Value → Value → Sem Value}
    (hf : ∀ v u s2 x y H2, Inv X pins σ H2 s2 → RelV x v → RelV y u → R x y H2 → wpAny (model X.prog X.w) X.A (f v u) Q X.xe s2) :
    wpAny (model X.prog X.w) X.A (eval a X.env) (fun v s₁ => wpAny (model X.prog X.w) X.A (eval b X.env) (fun u s₂ => wpAny (model X.prog X.w) X.A (f v u) Q X.xe s₂) X.xe s₁) X.xe s := by
  refine thn (ha pins s σ H _ I h) fun v s1 ⟨x, H1, I1, r1, q1⟩ => ?_
  refine thn (hb pins s1 σ H1 _ I1 q1) fun u s2 ⟨y, H2, I2, r2, q2⟩ => ?_
  exact hf v u s2 x y H2 I2 r1 r2 q2
theorem pe_op {op : Operator} {r : R2} (ho : OpR X (binaryOp op) r) (ha : PE X a ta) (hb : PE X b tb) : PE X (.BinOp a op b pos) (tOp r ta tb) := by
  intro pins s σ H Q I h
  exact wpAny_BinOp (binT ha hb I h fun v u s2 x y H2 I2 rx ry q => ho pins s2 σ H2 x y v u Q I2 rx ry q)
theorem pe_un {op : UnaryOp} {r : V → Hp → VK → Prop} (ho : UnR X (unaryOp op) r) (ha : PE X a ta) : PE X (.UnaryOp op a pos) (tUn r ta) := by
  intro pins s σ H Q I h
  exact UnaryOp_ (thn (ha pins s σ H _ I h) fun v s1 ⟨x, H1, I1, r1, q1⟩ => ho pins s1 σ H1 x v Q I1 r1 q1)
theorem opI {f : Value → Value → Sem Value} {C : Int → Int → Prop} {g : Int → Int → Int}
    (rule : ∀ (i j : Int) (t u : Tok) (s : Shared) (Q : Value → Shared → Prop) (E : Value → Shared → Prop), C i j → Q (.int (g i j) s.toks) { s with toks := s.toks + 1 } → wpAny (model X.prog X.w) X.A (f (.int i t) (.int j u)) Q E s) :
    OpR X f (rI C fun i j => .int (g i j)) := by
  intro pins s σ H x y v u Q I rx ry h
  obtain ⟨i, j, rfl, rfl, hc, q⟩ := h
  obtain ⟨t, rfl⟩ := rx
  obtain ⟨t', rfl⟩ := ry
  exact rule i j t t' s _ _ hc ⟨.int (g i j), H, I.tok _, ⟨_, rfl⟩, q⟩
theorem opI0 {f : Value → Value → Sem Value} {g : Int → Int → Int}
    (rule : ∀ (i j : Int) (t u : Tok) (s : Shared) (Q : Value → Shared → Prop) (E : Value → Shared → Prop), Q (.int (g i j) s.toks) { s with toks := s.toks + 1 } → wpAny (model X.prog X.w) X.A (f (.int i t) (.int j u)) Q E s) :
    OpR X f (rI0 fun i j => .int (g i j)) := by
  intro pins s σ H x y v u Q I rx ry h
  obtain ⟨i, j, rfl, rfl, q⟩ := h
  obtain ⟨t, rfl⟩ := rx
  obtain ⟨t', rfl⟩ := ry
  exact rule i j t t' s _ _ ⟨.int (g i j), H, I.tok _, ⟨_, rfl⟩, q⟩
theorem opB0 {f : Value → Value → Sem Value} {g : Int → Int → Bool}
    (rule : ∀ (i j : Int) (t u : Tok) (s : Shared) (Q : Value → Shared → Prop) (E : Value → Shared → Prop), Q (.bool (g i j)) s → wpAny (model X.prog X.w) X.A (f (.int i t) (.int j u)) Q E s) :
    OpR X f (rI0 fun i j => .bl (g i j)) := by
  intro pins s σ H x y v u Q I rx ry h
  obtain ⟨i, j, rfl, rfl, q⟩ := h
  obtain ⟨t, rfl⟩ := rx
  obtain ⟨t', rfl⟩ := ry
  exact rule i j t t' s _ _ ⟨.bl (g i j), H, I, rfl, q⟩
def CDiv (i j : Int) : Prop := 0 < j ∧ j < 1073741824
def CPow (i j : Int) : Prop := 0 ≤ j ∧ j ≤ 1000000 ∧ i.natAbs < 2 ^ 64
def CMul (i j : Int) : Prop := (-(2 ^ 64) < i ∧ i < 2 ^ 64) ∨ (-(2 ^ 64) < j ∧ j < 2 ^ 64)
theorem CMul.ok {i j : Int} (h : CMul i j) : IntMulOk i j := by
  rcases h with ⟨h1, h2⟩ | ⟨h1, h2⟩
  · exact .of_left (intBits_le_64 h1 h2)
  · exact .of_right (intBits_le_64 h1 h2)
theorem op_add : OpR X (binaryOp .Add) (rI0 fun i j => .int (i + j)) := opI0 fun _ _ _ _ _ _ _ q => add_int q
theorem op_sub : OpR X (binaryOp .Sub) (rI0 fun i j => .int (i - j)) := opI0 fun _ _ _ _ _ _ _ q => sub_int q
theorem op_mul : OpR X (binaryOp .Mult) (rI CMul fun i j => .int (i * j)) := opI fun _ _ _ _ _ _ _ hc q => mul_int q hc.ok
theorem op_fdiv : OpR X (binaryOp .FloorDiv) (rI CDiv fun i j => .int (i / j)) := opI fun i j _ _ _ _ _ hc q => by
  have h1 : (0 : Int) < j := hc.1
  have h2 : j < 1073741824 := hc.2
  exact floordiv_int (by omega) (by rw [Int.fdiv_eq_ediv_of_nonneg i (by omega)]; exact q) (.inl (PyProof.noPylong_small (by omega)))
theorem op_mod : OpR X (binaryOp .Mod) (rI (fun _ j => 0 < j) fun i j => .int (i % j)) := opI fun i j _ _ _ _ _ hc q => by
  have h1 : (0 : Int) < j := hc
  exact mod_int' (by omega) (by rw [Int.fmod_eq_emod_of_nonneg i (by omega)]; exact q)
theorem op_pow : OpR X (binaryOp .Pow) (rI CPow fun i j => .int (i ^ j.toNat)) := opI fun _ _ _ _ _ _ _ hc q => pow_int_small hc.1 hc.2.1 hc.2.2 q
theorem unI {f : Value → Sem Value} {g : Int → Int}
    (rule : ∀ (i : Int) (t : Tok) (s : Shared) (Q : Value → Shared → Prop) (E : Value → Shared → Prop), Q (.int (g i) s.toks) { s with toks := s.toks + 1 } → wpAny (model X.prog X.w) X.A (f (.int i t)) Q E s) :
    UnR X f (rU fun i => .int (g i)) := by
  intro pins s σ H x v Q I rx h
  obtain ⟨i, rfl, q⟩ := h
  obtain ⟨t, rfl⟩ := rx
  exact rule i t s _ _ ⟨.int (g i), H, I.tok _, ⟨_, rfl⟩, q⟩
theorem un_neg : UnR X (unaryOp .USub) (rU fun i => .int (-i)) := unI fun _ _ _ _ _ q => neg_int q
end
section
variable {X : Cx} {a b c : Expr} {ta tb tc : TE} {pos : Pos}
theorem fin_bl {pins : List (Addr × Obj)} {σ : St} {H : Hp} {s : Shared} {Q : VK} {k k' : Bool} (I : Inv X pins σ H s) (q : Q (.bl k) H) (e : k = k') : EP X pins σ Q (.bool k') s := by
  subst e
  exact ⟨.bl k, H, I, rfl, q⟩
theorem op_le : OpR X (compareOp .LtE) (rI0 fun i j => .bl (decide (i ≤ j))) := opB0 fun _ _ _ _ _ _ _ q => le_int q
theorem op_gt : OpR X (compareOp .Gt) (rI0 fun i j => .bl (decide (j < i))) := opB0 fun _ _ _ _ _ _ _ q => gt_int q
theorem op_isN : OpR X (compareOp .Is) (fun x y H Q => y = .non ∧ Q (.bl (decide (x = .non))) H) := by
  intro pins s σ H x y v u Q I rx ry h
  obtain ⟨rfl, q⟩ := h
  cases ry
  refine is_none_gen (fin_bl I q ?_)
  cases x <;> first
    | (cases rx; rfl)
    | (obtain ⟨t, rfl⟩ := rx; rfl)
theorem op_notN : OpR X (compareOp .IsNot) (fun x y H Q => y = .non ∧ Q (.bl (!decide (x = .non))) H) := by
  intro pins s σ H x y v u Q I rx ry h
  obtain ⟨rfl, q⟩ := h
  cases ry
  refine isnot_none_gen (fin_bl I q ?_)
  cases x <;> first
    | (cases rx; rfl)
    | (obtain ⟨t, rfl⟩ := rx; rfl)
theorem OpR.or {f : Value → Value → Sem Value} {r r' : R2} (h : OpR X f r) (h' : OpR X f r') : OpR X f (fun x y H Q => r x y H Q ∨ r' x y H Q) := by
  intro pins s σ H x y v u Q I rx ry q
  rcases q with q | q
  · exact h pins s σ H x y v u Q I rx ry q
  · exact h' pins s σ H x y v u Q I rx ry q
theorem nomark (b : Expr) {op : CmpOp} (h : op ≠ .In := by decide) (h2 : op ≠ .NotIn := by decide) : behindInMarks op b = false := by
  have e1 : (op == CmpOp.In) = false := by cases op <;> first | rfl | exact absurd rfl h
  have e2 : (op == CmpOp.NotIn) = false := by cases op <;> first | rfl | exact absurd rfl h2
  cases b <;> simp [behindInMarks, e1, e2]
theorem pe_cmpR {op : CmpOp} {r : R2} (ho : OpR X (compareOp op) r) (ha : PE X a ta) (hb : PE X b tb) (hm : behindInMarks op b = false) : PE X (.Compare a [op] [b] pos) (tOp r ta tb) := by
  intro pins s σ H Q I h
  exact wpAny_Compare1 (binT ha hb I h fun v u s2 x y H2 I2 rx ry q => ho pins s2 σ H2 x y v u Q I2 rx ry q) hm
def tTest (t : TE) : TT := fun σ H Q => t σ H fun x H' => ∃ k, x = .bl k ∧ Q k H'
theorem pt_cmpR {op : CmpOp} {r : R2} (ho : OpR X (compareOp op) r) (ha : PE X a ta) (hb : PE X b tb) (hm : behindInMarks op b = false) : PT X (.Compare a [op] [b] pos) (tTest (tOp r ta tb)) := by
  intro pins s σ H Q I h
  refine wpAny_isTrue_Compare1 (thn (ha pins s σ H _ I h) fun v s1 ⟨x, H1, I1, r1, q1⟩ => thn (hb pins s1 σ H1 _ I1 q1) fun u s2 ⟨y, H2, I2, r2, q2⟩ =>
    thn (ho pins s2 σ H2 x y v u _ I2 r1 r2 q2) fun c s3 ⟨z, H3, I3, r3, k, e, q3⟩ => ?_) hm
  subst e
  cases r3
  exact wpAny_truthy_bool ⟨H3, I3, q3⟩
def tChain (r r' : R2) (ta tb tc : TE) : TE := fun σ H Q => ta σ H fun x H1 => tb σ H1 fun y H2 => r x y H2 fun z H3 => ∃ k, z = .bl k ∧
  (if k = true then tc σ H3 fun w' H4 => r' y w' H4 Q else Q (.bl false) H3)
theorem pt_chain {op op' : CmpOp} {r r' : R2} (ho : OpR X (compareOp op) r) (ho' : OpR X (compareOp op') r') (ha : PE X a ta) (hb : PE X b tb) (hc : PE X c tc)
    (hm : lastMarks [op, op'] [b, c] = false := by with_unfolding_all rfl) : PT X (.Compare a [op, op'] [b, c] pos) (tTest (tChain r r' ta tb tc)) := by
  intro pins s σ H Q I h
  refine isTrue_chain (thn (ha pins s σ H _ I h) fun v s1 ⟨x, H1, I1, r1, q1⟩ => test_link (thn (hb pins s1 σ H1 _ I1 q1) fun u s2 ⟨y, H2, I2, r2, q2⟩ =>
    thn (ho pins s2 σ H2 x y v u _ I2 r1 r2 q2) fun d s3 ⟨z, H3, I3, r3, k, e, q3⟩ => ?_)) hm
  subst e
  cases r3
  refine wpAny_truthy_bool ?_
  cases k with
  | false =>
    obtain ⟨k', e', q'⟩ := q3
    cases e'
    exact ite_ff ⟨H3, I3, q'⟩
  | true =>
    refine ite_tt (test_last (thn (hc pins s3 σ H3 _ I3 q3) fun w' s4 ⟨z', H4, I4, r4, q4⟩ => thn (ho' pins s4 σ H4 y z' u w' _ I4 r2 r4 q4) fun d' s5 ⟨z2, H5, I5, r5, k2, e2, q5⟩ => ?_))
    subst e2
    cases r5
    exact wpAny_truthy_bool ⟨H5, I5, q5⟩
theorem line63 : (sizeLine : Nat) < 2 ^ 63 := by rw [sizeLine_eq]; decide
theorem op_add_str : OpR X (binaryOp .Add) (fun x y H Q => ∃ i j, x = .str i ∧ y = .str j ∧ i.length + j.length ≤ sizeLine ∧ Q (.str (i ++ j)) H) := by
  intro pins s σ H x y v u Q I rx ry h
  obtain ⟨i, j, rfl, rfl, hz, q⟩ := h
  obtain ⟨t, rfl⟩ := rx
  obtain ⟨t', rfl⟩ := ry
  exact add_str (fun t' tk => ⟨.str (i ++ j), H, I.tok _, ⟨_, rfl⟩, q⟩) hz
theorem vals1 {x : V} {us : List Value} (r : Vals [x] us) : ∃ u, us = [u] ∧ RelV x u := by
  cases r with
  | cons r1 r2 => cases r2; exact ⟨_, rfl, r1⟩
theorem vals2 {x y : V} {us : List Value} (r : Vals [x, y] us) : ∃ u w', us = [u, w'] ∧ RelV x u ∧ RelV y w' := by
  cases r with
  | cons r1 r2 =>
    cases r2 with
    | cons r3 r4 => cases r4; exact ⟨_, _, rfl, r1, r3⟩
theorem call_min2 (hc : X.calm = true) : CallR X (.builtin "min") (fun xs H Q => ∃ i j, xs = [.int i, .int j] ∧ Q (.int (if j < i then j else i)) H) := by
  intro pins s σ H xs us Q I r h
  obtain ⟨i, j, rfl, q⟩ := h
  obtain ⟨u, w', rfl, ⟨t, rfl⟩, ⟨t', rfl⟩⟩ := vals2 r
  refine min_two_ints (I.ok.hd hc) fun h' tk k => ⟨_, H, I.kept k, ?_, q⟩
  by_cases hj : j < i
  · rw [if_pos hj, if_pos hj]; exact ⟨_, rfl⟩
  · rw [if_neg hj, if_neg hj]; exact ⟨_, rfl⟩
theorem call_int1 : CallR X (.type "int") (fun xs H Q => (∃ i, xs = [.int i] ∧ Q (.int i) H) ∨ ∃ k, xs = [.bl k] ∧ Q (.int (if k then 1 else 0)) H) := by
  intro pins s σ H xs us Q I r h
  rcases h with ⟨i, rfl, q⟩ | ⟨k, rfl, q⟩
  · obtain ⟨u, rfl, t, rfl⟩ := vals1 r
    exact call_int_int ⟨.int i, H, I, ⟨_, rfl⟩, q⟩
  · obtain ⟨u, rfl, r1⟩ := vals1 r
    cases r1
    exact call_int_bool ⟨.int (if k then 1 else 0), H, I.tok _, ⟨_, rfl⟩, q⟩
end
end L2
namespace L2
open PySem PySem.Spec PyProof.Rows
structure ObjM (h : Heap) (x dx C : Addr) (mA : Str → Option Value) : Prop where
  obj : h.get? x = some (PySem.W.instObj C dx)
  ns : h.Ns1 dx mA
  ne : dx ≠ x
theorem lookIn_ns {h : Heap} {dx : Addr} {mA : Str → Option Value} (n : h.Ns1 dx mA) : ∃ od, h.get? dx = some od ∧ ∀ name, PySem.W.lookIn name od = some (mA name) := by
  obtain ⟨o, es, ep, ho, hd, hk, _, hm⟩ := n
  refine ⟨o, ho, fun name => ?_⟩
  have e := hm name
  unfold nsFind findBy at e
  rw [← Array.find?_toList] at e
  unfold PySem.W.lookIn
  rw [hd]
  dsimp only
  split
  · rename_i y q
    rw [q] at e
    exact congrArg some e
  · rename_i q
    rw [q] at e
    have a : es.toList.any (·.refKey) = false := by
      rw [List.any_eq_false]
      intro y hy
      obtain ⟨z, t, hkey⟩ := hk y (Array.mem_toList_iff.mp hy)
      simp [DictEntry.refKey, hkey]
    have a' : ¬ es.toList.any (·.refKey) = true := by rw [a]; exact Bool.false_ne_true
    rw [if_neg a']
    exact congrArg some e
theorem ObjM.look {h : Heap} {x dx C : Addr} {mA : Str → Option Value} (I : ObjM h x dx C mA) : ∃ od, PySem.W.InstAt h x (PySem.W.instObj C dx) C (some od) ∧ ∀ name, PySem.W.lookIn name od = some (mA name) :=
  let ⟨od, ho, hl⟩ := lookIn_ns I.ns
  ⟨od, ⟨I.obj, rfl, rfl, ho⟩, hl⟩
section
variable {prog : Program} {w : World} {A : Around} {E : Value → Shared → Prop} {s : Shared} {K : PySem.W.Frag} {x dx C f : Addr} {mA : Str → Option Value} {name : Str} {v : Value}
end
def putF (f : Str) (v : V) : List (Str × V) → List (Str × V)
  | [] => [(f, v)]
  | (g, x) :: r => if g = f then (g, v) :: r else (g, x) :: putF f v r
section
variable {P : Program} {w : World} {H H' : Hp} {h h' : Heap} {a C dx : Addr} {fs fs' : List (Str × V)}
end
structure Cls (K : PySem.W.Frag) (C : Addr) : Prop where
  pg : PySem.W.plainGet K C Str.empty = true
  hd : PySem.W.hasDictIn K C = true
  po : PySem.W.plainOver K C = true
  sa : PySem.W.findIn K (.ref C) "__setattr__" = some (some (.builtin "object.__setattr__"))
theorem Cls.get {K : PySem.W.Frag} {C : Addr} (c : Cls K C) (f : Str) : PySem.W.plainGet K C f = true := c.pg
def NoAttr (K : PySem.W.Frag) (C : Addr) (f : Str) : Prop := PySem.W.findIn K (.ref C) f = some none
section
variable {X : Cx} {pins : List (Addr × Obj)} {σ : St} {H : Hp} {s : Shared} {a C dx : Addr} {fs : List (Str × V)} {f : Str} {v : V} {A : Around} {E : Value → Shared → Prop}
theorem Inv.made (I : Inv X pins σ H s) : Inv X pins σ (upd (upd H s.heap.objs.size (.own (s.heap.objs.size + 1))) (s.heap.objs.size + 1) (.ins C s.heap.objs.size []))
    { s with heap := (s.heap.push PySem.W.emptyDict).push (PySem.W.instObj C s.heap.objs.size) } := by
  have e1 : (s.heap.push PySem.W.emptyDict).get? s.heap.objs.size = some PySem.W.emptyDict := Heap.get?_push_size s.heap rfl
  have e2 : ((s.heap.push PySem.W.emptyDict).push (PySem.W.instObj C s.heap.objs.size)).get? (s.heap.objs.size + 1) = some (PySem.W.instObj C s.heap.objs.size) := by
    have := Heap.get?_push_size (s.heap.push PySem.W.emptyDict) (o := PySem.W.instObj C s.heap.objs.size) rfl
    rwa [Heap.size_push] at this
  have e3 : (s.heap.push PySem.W.emptyDict).Ns s.heap.objs.size (fun _ => none) := ⟨PySem.W.emptyDict, #[], _, e1, rfl, (fun e he => absurd he (by simp)), fun _ => rfl⟩
  have I1 := I.laid (a := s.heap.objs.size) (o := .own (s.heap.objs.size + 1)) (h' := s.heap.push PySem.W.emptyDict) (t' := s.toks) (fun b u q => Heap.get?_push_of_some _ q) (Nat.le_refl _) ⟨_, e1⟩
  refine I1.laid (a := s.heap.objs.size + 1) (o := .ins C s.heap.objs.size []) (t' := s.toks) (fun b u q => Heap.get?_push_of_some _ q) (Nat.le_of_eq (Heap.size_push _ _)) ?_
  have ne : s.heap.objs.size ≠ s.heap.objs.size + 1 := Nat.ne_of_lt (Nat.lt_succ_self _)
  refine ⟨by rw [upd_ne ne, upd_same], Nat.zero_le _, ne, e2, fun _ => none, (Heap.Ns1.of_empty e3).at fun o q => Heap.get?_push_of_some _ q, fun _ => True.intro, fun y hy => absurd rfl hy⟩
end
section
variable {X : Cx} {o e value : Expr} {f : Str} {pos pos' tpos : Pos} {ta tv : TE}
end
section
variable {X : Cx} {pins : List (Addr × Obj)} {σ : St} {H : Hp} {s : Shared} {A : Around} {E : Value → Shared → Prop} {Q : Value → Shared → Prop} {c : Value} {b : Bool}
end
end L2
namespace L2
open PySem PySem.Spec PyProof.Rows
structure Room (k : Nat) (A : Around) : Prop where
  hd : A.handled = none
  dp : A.depth + 3 * k + 5 < recursionLimit
  un : A.units + 16 * k + 200 < cLine
theorem Room.mono {j k : Nat} {A : Around} (r : Room k A) (h : j ≤ k) : Room j A := ⟨r.hd, by have := r.dp; omega, by have := r.un; omega⟩
theorem Room.deeper {k : Nat} {A : Around} (r : Room (k + 1) A) (env : Env) : Room k (A.deeper env) :=
  ⟨r.hd, by have := r.dp; show A.depth + 1 + 3 * k + 5 < _; omega, by have := r.un; show A.units + 3 + 16 * k + 200 < _; omega⟩
theorem Room.in1 {k : Nat} {A : Around} (r : Room (k + 1) A) : Room k A.in1 :=
  ⟨r.hd, by have := r.dp; show A.depth + 3 * k + 5 < _; omega, by have := r.un; show A.units + 1 + 16 * k + 200 < _; omega⟩
theorem Room.depth {k : Nat} {A : Around} (r : Room k A) : A.depth < recursionLimit := by have := r.dp; omega
theorem Room.units {k : Nat} {A : Around} (r : Room k A) : A.units + 64 < cLine := by have := r.un; omega
def tNil : TA := fun _ H Q => Q [] H
def tCons (ta : TE) (tr : TA) : TA := fun σ H Q => ta σ H fun x H1 => tr σ H1 fun xs H2 => Q (x :: xs) H2
section
variable {X : Cx} {e : Expr} {es : List Expr} {te : TE} {t : TA} {pos : Pos}
theorem pa_nil : PA X [] tNil := fun _ _ _ _ H Q I h => Calls.spliced_nil ⟨[], H, I, .nil, h⟩
theorem pa_cons (ha : PE X e te) (hr : PA X es t) (hs : starEach (e :: es) X.env = (false, eval e X.env) :: starEach es X.env := by rfl) : PA X (e :: es) (tCons te t) := by
  intro pos pins s σ H Q I h
  rw [hs]
  show wpAny _ _ (spliced ((false, eval e X.env) :: backTo pos (starEach es X.env))) _ _ s
  refine Calls.spliced_cons (thn (ha pins s σ H _ I h) fun u s1 ⟨x, H1, I1, r1, q1⟩ => ?_)
  exact thn (hr pos pins s1 σ H1 _ I1 q1) fun us s2 ⟨xs, H2, I2, r2, q2⟩ => ⟨x :: xs, H2, I2, .cons r1 r2, q2⟩
def tTup (t : TA) : TE := fun σ H Q => t σ H fun xs H1 => xs.length ≤ sizeLine ∧ ∀ p, H1 p = none → Q (.ref p) (upd H1 p (.tup xs))
def tLst (t : TA) : TE := fun σ H Q => t σ H fun xs H1 => xs.length ≤ sizeLine ∧ ∀ p, H1 p = none → Q (.ref p) (upd H1 p (.lst xs))
theorem pe_tup {x1} (h : PA X es t) : PE X (.Tuple es x1 pos) (tTup t) := by
  intro pins s σ H Q I hq
  refine wpAny_Tuple_spliced (thn (h pos pins s σ H _ I hq) fun us s1 ⟨xs, H1, I1, r, z, q⟩ => ⟨by rw [← r.length]; exact z, ?_⟩)
  have hf : H1 s1.heap.objs.size = none := I1.hok.fresh (Nat.le_refl _)
  refine ⟨.ref s1.heap.objs.size, upd H1 s1.heap.objs.size (.tup xs), I1.laid (t' := s1.toks) (fun b u e => Heap.get?_push_of_some _ e) (Nat.le_refl _) ?_, rfl, q _ hf⟩
  exact ⟨z, us, r, ⟨_, Heap.get?_push_size _ rfl, rfl, _, rfl⟩⟩
theorem pe_lst (h : PA X es t) : PE X (.List es pos) (tLst t) := by
  intro pins s σ H Q I hq
  refine wpAny_List_spliced (thn (h pos pins s σ H _ I hq) fun us s1 ⟨xs, H1, I1, r, z, q⟩ => ⟨by rw [← r.length]; exact z, ?_⟩)
  have hf : H1 s1.heap.objs.size = none := I1.hok.fresh (Nat.le_refl _)
  refine ⟨.ref s1.heap.objs.size, upd H1 s1.heap.objs.size (.lst xs), I1.laid (t' := s1.toks) (fun b u e => Heap.get?_push_of_some _ e) (Nat.le_refl _) ?_, rfl, q _ hf⟩
  exact ⟨z, us, 0, r, Heap.get?_push_size _ rfl⟩
end
abbrev Sp := List V → Hp → VK → XK → Prop
abbrev CXT := List Env → Hp → Shared → XK → Value → Shared → Prop
structure Env0 (P : Program) (w : World) (K : PySem.W.Frag) (mg : Str → Option Value) (base : Heap) (A : Around) (outer : List Env) (s : Shared) (H : Hp) : Prop where
  frames : A.frames = some outer
  mod : Mod K mg base
  bs : ∀ b o, base.get? b = some o → s.heap.get? b = some o ∧ H b = none
  bsz : base.objs.size ≤ s.heap.objs.size
  funs : s.heap.FunFrames base outer
  frf : ∀ b ∈ frs outer, H b = none
  hok : HOk P w H s.heap
  bare : AllBare s.gens
def CE (outer : List Env) (P : Program) (w : World) (H : Hp) (s : Shared) (Q : VK) (u : Value) (s' : Shared) : Prop :=
  ∃ v H', s'.os = s.os ∧ AllBare s'.gens ∧ Un (frs outer) [] H H' s.heap s'.heap ∧ HOk P w H' s'.heap ∧ RelV v u ∧ Q v H'
def CR (CX : CXT) (outer : List Env) (P : Program) (w : World) (H : Hp) (s : Shared) (Q : VK) (E : XK) (r : Result) (s' : Shared) : Prop :=
  match r with
  | .ok (.ret u) => CE outer P w H s Q u s'
  | .ok _ => False
  | .error e => CX outer H s E e s'
structure FnOk (P : Program) (w : World) (K : PySem.W.Frag) (mg : Str → Option Value) (base : Heap) (CX : CXT) (k : Nat) (f : Addr) (fd : FuncData) (ps : List Str) (sp : Sp) : Prop where
  len : ∀ vs H Q E, sp vs H Q E → vs.length = ps.length
  run : ∀ (A : Around) (outer : List Env) (s : Shared) (H : Hp) (args : Args) (us : List Value) (vs : List V) (Q : VK) (E : XK), Room k A → Env0 P w K mg base A outer s H → BindsTo s fd args (ps.zip us) → Vals vs us → sp vs H Q E →
    codeAny (model P w) A (.call (.ref f) args) (CR CX outer P w H s Q E) s
theorem FnOk.mono {P : Program} {w : World} {K : PySem.W.Frag} {mg : Str → Option Value} {base : Heap} {CX : CXT} {j k : Nat} {f : Addr} {fd : FuncData} {ps : List Str} {sp : Sp} (F : FnOk P w K mg base CX j f fd ps sp) (h : j ≤ k) :
    FnOk P w K mg base CX k f fd ps sp := ⟨F.len, fun A outer s H args us vs Q E hr => F.run A outer s H args us vs Q E (hr.mono h)⟩
theorem FnOk.imp {P : Program} {w : World} {K : PySem.W.Frag} {mg : Str → Option Value} {base : Heap} {CX : CXT} {k : Nat} {f : Addr} {fd : FuncData} {ps : List Str} {sp sp' : Sp} (F : FnOk P w K mg base CX k f fd ps sp)
    (h : ∀ vs H Q E, sp' vs H Q E → sp vs H Q E) : FnOk P w K mg base CX k f fd ps sp' :=
  ⟨fun vs H Q E q => F.len vs H Q E (h _ _ _ _ q), fun A outer s H args us vs Q E hr he hb hv hs => F.run A outer s H args us vs Q E hr he hb hv (h _ _ _ _ hs)⟩
theorem Env0.in1 {P : Program} {w : World} {K : PySem.W.Frag} {mg : Str → Option Value} {base : Heap} {A : Around} {outer : List Env} {s : Shared} {H : Hp} (e : Env0 P w K mg base A outer s H) :
    Env0 P w K mg base A.in1 outer s H := ⟨e.frames, e.mod, e.bs, e.bsz, e.funs, e.frf, e.hok, e.bare⟩
section
variable {X : Cx} {pins : List (Addr × Obj)} {σ : St} {H : Hp} {s s' : Shared}
theorem Inv.env0 (I : Inv X pins σ H s) : Env0 X.prog X.w X.K X.mg X.base X.A X.stack s H :=
  ⟨I.ok.frames, I.ok.mod, I.bs, Nat.le_trans I.ok.bsz I.sz, I.stack, I.stkFree, I.hok, I.bare⟩
theorem Inv.after {Q : VK} {u : Value} (I : Inv X pins σ H s) (h : CE X.stack X.prog X.w H s Q u s') : EP X pins σ Q u s' := by
  obtain ⟨v, H', os, bare, un, hok, r, q⟩ := h
  obtain ⟨hh, g, d, t, os'⟩ := s'
  obtain rfl : os' = s.os := os
  exact ⟨v, H', I.call (h' := hh) (g' := g) (d' := d) (t' := t) (ch := []) un hok bare (fun b z => absurd z (by simp)), r, q⟩
end
def tCall (sp : Sp) (dvs : List V) (E : XK) (t : TA) : TE := fun σ H Q => t σ H fun vs H1 => sp (vs ++ dvs) H1 Q E
def Binds (K : PySem.W.Frag) (fd : FuncData) (ps : List Str) (ds : List Value) : Prop :=
  ∀ (s : Shared) (us : List Value), K.In s.heap → (us ++ ds).length = ps.length → BindsTo s fd ⟨us, []⟩ (ps.zip (us ++ ds))
theorem Binds.all {K : PySem.W.Frag} {fd : FuncData} {ps : List Str} (h : ∀ us : List Value, us.length = ps.length → bindArgs fd ⟨us, []⟩ = pure (ps.zip us)) : Binds K fd ps [] := fun s us _ hl => by
  rw [List.append_nil] at hl ⊢
  exact .of_eq (h us hl)
def Passes (CX : CXT) (X : Cx) (E : XK) : Prop := ∀ (pins : List (Addr × Obj)) (σ : St) (H : Hp) (s : Shared) (e : Value) (s' : Shared), Inv X pins σ H s → CX X.stack H s E e s' → X.xe e s'
section
variable {X : Cx} {CX : CXT} {k : Nat} {f C : Addr} {fd : FuncData} {ps : List Str} {sp : Sp} {dvs : List V} {ds : List Value} {E : XK} {x m : Str} {p pos apos : Pos} {e o : Expr} {es : List Expr} {ta : TE} {t : TA}
theorem run_fn {pins : List (Addr × Obj)} {σ : St} {H : Hp} {s : Shared} {Q : VK} {us : List Value} {vs : List V} (F : FnOk X.prog X.w X.K X.mg X.base CX k f fd ps sp) (hr : Room k X.A) (hb : Binds X.K fd ps ds) (hd : Vals dvs ds) (hx : Passes CX X E)
    (I : Inv X pins σ H s) (r : Vals vs us) (h : sp (vs ++ dvs) H Q E) : wpAny (model X.prog X.w) X.A (call (.ref f) us) (EP X pins σ Q) X.xe s := by
  have r2 : Vals (vs ++ dvs) (us ++ ds) := r.append hd
  have hl : (us ++ ds).length = ps.length := by rw [← r2.length]; exact F.len _ _ _ _ h
  refine wpAny_call (codeAny_mono (F.run X.A X.stack s H ⟨us, []⟩ (us ++ ds) (vs ++ dvs) Q E hr I.env0 (hb s us I.kIn hl) r2 h) fun r s' hq => ?_)
  cases r with
  | error e => exact hx pins σ H s e s' I hq
  | ok fl =>
    cases fl with
    | ret u => exact I.after hq
    | next => exact False.elim hq
    | brk => exact False.elim hq
    | cont => exact False.elim hq
theorem pe_call (F : FnOk X.prog X.w X.K X.mg X.base CX k f fd ps sp) (hr : Room k X.A) (hg : Gl X x) (hm : X.mg x = some (.ref f)) (hk : PySem.W.keepIn X.K (.ref f) = true) (hb : Binds X.K fd ps ds) (hd : Vals dvs ds) (hx : Passes CX X E)
    (ha : PA X (e :: es) t) (hdb : (x == ("__debug__" : Str)) = false := by decide) (he : starEach (e :: es) X.env = (false, eval e X.env) :: starEach es X.env := by rfl) (hpl : (backTo pos (starEach es X.env)).any (·.1) = false := by rfl) :
    PE X (.Call (.Name x p) (e :: es) [] pos) (tCall sp dvs E t) := by
  intro pins s σ H Q I h
  refine wpAny_Call_Name_kw (ld_glob I hg hm ?_ hdb)
  refine PySem.W.callWith_K (h₀ := X.base) I.ok.mod.kin hk (thn (ha pos pins s σ H _ I h) fun us s1 ⟨vs, H1, I1, r, q⟩ => ⟨I1.kIn, ?_⟩) he hpl
  exact run_fn F hr hb hd hx I1 r q
end
section
variable {X : Cx} {CX : CXT} {k : Nat} {f C : Addr} {fd : FuncData} {ps ks : List Str} {sp : Sp} {E : XK} {x m : Str} {p pos apos kpos : Pos} {e o : Expr} {es : List Expr} {kws : List Keyword} {te ta : TE} {t tk : TA} {nm : Option Str}
variable {g : List Value → List Value → List Value} {gV : List V → List V → List V}
end
structure FnScope (N P : List Str) (sc : Scope) : Prop where
  kind : sc.kind = .function
  co : sc.isCoroutine = false
  gen : sc.isGenerator = false
  nd : N.Nodup
  pre : N.take P.length = P
  par : ∀ x ∈ P, sc.names.lookup x = some .local ∨ sc.names.lookup x = some .cell
  nofree : ∀ y ∈ sc.names, y.2 ≠ .free
theorem bindL_out {kindOf : Str → Option NameKind} {x : Str} : ∀ {binds : List (Str × Value)} {m : Str → Option Value}, (∀ v, (x, v) ∉ binds) → bindL kindOf binds m x = m x
  | [], _, _ => rfl
  | (n, v) :: r, m, h => by
    unfold bindL
    rw [bindL_out fun w hw => h w (List.mem_cons_of_mem _ hw)]
    split
    · have : x ≠ n := by rintro rfl; exact h v List.mem_cons_self
      simp [this]
    · rfl
theorem bindC_out {kindOf : Str → Option NameKind} {x : Str} : ∀ {binds : List (Str × Value)} {m : Str → Option Value}, (∀ v, (x, v) ∉ binds) → bindC kindOf binds m x = m x
  | [], _, _ => rfl
  | (n, v) :: r, m, h => by
    unfold bindC
    rw [bindC_out fun w hw => h w (List.mem_cons_of_mem _ hw)]
    split
    · rfl
    · have : x ≠ n := by rintro rfl; exact h v List.mem_cons_self
      simp [this]
theorem bindL_get {kindOf : Str → Option NameKind} {x : Str} {v : Value} : ∀ {P : List Str} {vs : List Value} {i : Nat} {m : Str → Option Value}, P.Nodup → P[i]? = some x → vs[i]? = some v → kindOf x = some .local →
    bindL kindOf (P.zip vs) m x = some v
  | [], _, _, _, _, h, _, _ => by simp at h
  | _ :: _, [], _, _, _, _, h, _ => by simp at h
  | p :: P, w :: vs, 0, m, nd, h1, h2, hk => by
    simp at h1 h2; subst h1; subst h2
    show bindL kindOf ((p, w) :: P.zip vs) m p = _
    unfold bindL
    rw [bindL_out fun v hv => (List.nodup_cons.mp nd).1 (List.of_mem_zip hv).1, if_pos hk]
    simp
  | p :: P, w :: vs, i + 1, m, nd, h1, h2, hk => by
    show bindL kindOf ((p, w) :: P.zip vs) m x = _
    unfold bindL
    exact bindL_get (i := i) (List.nodup_cons.mp nd).2 (by simpa using h1) (by simpa using h2) hk
theorem bindC_get {kindOf : Str → Option NameKind} {x : Str} {v : Value} : ∀ {P : List Str} {vs : List Value} {i : Nat} {m : Str → Option Value}, P.Nodup → P[i]? = some x → vs[i]? = some v → kindOf x ≠ some .local →
    bindC kindOf (P.zip vs) m x = some v
  | [], _, _, _, _, h, _, _ => by simp at h
  | _ :: _, [], _, _, _, _, h, _ => by simp at h
  | p :: P, w :: vs, 0, m, nd, h1, h2, hk => by
    simp at h1 h2; subst h1; subst h2
    show bindC kindOf ((p, w) :: P.zip vs) m p = _
    unfold bindC
    rw [bindC_out fun v hv => (List.nodup_cons.mp nd).1 (List.of_mem_zip hv).1, if_neg hk]
    simp
  | p :: P, w :: vs, i + 1, m, nd, h1, h2, hk => by
    show bindC kindOf ((p, w) :: P.zip vs) m x = _
    unfold bindC
    exact bindC_get (i := i) (List.nodup_cons.mp nd).2 (by simpa using h1) (by simpa using h2) hk
def start (N : List Str) (vs : List V) : St := vs.map some ++ List.replicate (N.length - vs.length) none
def cxOf (CX : CXT) (P : Program) (w : World) (K : PySem.W.Frag) (mg : Str → Option Value) (base : Heap) (N : List Str) (qual : Str) (scope : Scope) (f : Addr) (cd : Value) (A : Around) (outer : List Env) (s : Shared) (H : Hp) (E : XK) : Cx where
  prog := P
  w := w
  K := K
  mg := mg
  base := base
  A := A.deeper (envOfC qual scope s.heap.objs.size f cd)
  N := N
  s₀ := s
  H₀ := H
  env := envOfC qual scope s.heap.objs.size f cd
  outer := outer
  stack := envOfC qual scope s.heap.objs.size f cd :: outer
  ex := []
  calm := true
  fn := fun _ => true
  pn := []
  xe := fun e s' => wpAny (model P w) (A.deeper (envOfC qual scope s.heap.objs.size f cd)) (leaving (envOfC qual scope s.heap.objs.size f cd) e) (fun _ s'' => CX outer H s E e s'') (fun e' s'' => CX outer H s E e' s'') s'
theorem cell_has {sc : Scope} {n : Nat} {x : Str} (h : sc.names.lookup x = some .cell) : ∃ c, (cellsFrom n sc.names []).lookup x = some c := by
  have q := PySem.W.cellsFrom_some sc.names n [] (.inl h)
  exact Option.isSome_iff_exists.mp q
theorem inv_start {CX : CXT} {P : Program} {w : World} {K : PySem.W.Frag} {mg : Str → Option Value} {base : Heap} {N ps : List Str} {qual : Str} {scope : Scope} {f : Addr} {cd : Value} {A : Around} {outer : List Env} {s s1 : Shared} {H : Hp} {E : XK} {us : List Value} {vs : List V}
    (S : FnScope N ps scope) (hd : A.handled = none) (e0 : Env0 P w K mg base A outer s H) (hl : vs.length = ps.length) (r : Vals vs us)
    (x : InCallC s s.heap.objs.size (bindL (envOfC qual scope s.heap.objs.size f cd).kindOf (ps.zip us) fun _ => none) (cellsFrom (s.heap.objs.size + 1) scope.names []) (bindC (envOfC qual scope s.heap.objs.size f cd).kindOf (ps.zip us) fun _ => none) s1) :
    Inv (cxOf CX P w K mg base N qual scope f cd A outer s H E) [] (start N vs) H s1 := by
  have hpl : ps.length ≤ N.length := by have := congrArg List.length S.pre; rw [List.length_take] at this; omega
  obtain ⟨h1, tk, rfl, hk⟩ := x.done
  have noA : ∀ b : Addr, b ∉ (cxOf CX P w K mg base N qual scope f cd A outer s H E).ex := fun b z => absurd (show b ∈ ([] : List Addr) from z) (by simp)
  refine ⟨⟨e0.mod, S.kind, rfl, rfl, Nat.le_refl _, fun y z c h1 h2 => ?_, fun y hy => ?_, fun y c _ h => ?_, fun _ => hd, Around.frames_deeper e0.frames, .inr ⟨rfl, rfl⟩, fun b z => absurd z (noA b), e0.bs, e0.bsz, fun b _ _ => noA b, fun b z => absurd z (noA b), e0.funs, e0.frf⟩,
    rfl, e0.bare, Un.kept hk, ⟨_, x.toInCall.ns, fun i y v h1 h2 h3 => ?_⟩, fun y c h => ⟨_, x.cell y c h⟩, e0.hok.fresh (Nat.le_refl _), fun y c h => ?_, fun p hp => absurd (show p ∈ ([] : List (Addr × Obj)) from hp) (by simp), e0.hok.kept hk, ?_⟩
  · exact name_of_addr x.apart (PySem.mem_of_lookup h1) (PySem.mem_of_lookup h2)
  · have hy : scope.names.lookup y = some .cell ∨ scope.names.lookup y = some .free := hy
    rcases hy with hy | hy
    · exact cell_has hy
    · exact absurd rfl (S.nofree _ (PySem.mem_of_lookup hy))
  · exact Nat.le_of_lt (x.above y c (PySem.mem_of_lookup h))
  · have hi : i < vs.length := by
      unfold start at h2
      by_cases hi : i < vs.length
      · exact hi
      · rw [List.getElem?_append_right (by simpa using hi)] at h2
        rw [List.getElem?_replicate] at h2
        split at h2 <;> cases h2
    have ha : vs[i]? = some v := by
      unfold start at h2
      rw [List.getElem?_append_left (by simpa using hi), List.getElem?_map] at h2
      cases e : vs[i]? with
      | none => rw [e] at h2; cases h2
      | some a => rw [e] at h2; cases h2; rfl
    obtain ⟨u, hu, rv⟩ := r.get ha
    have hp : ps[i]? = some y := by
      rw [← S.pre, List.getElem?_take_of_lt (by omega)]; exact h1
    have ndP : ps.Nodup := by rw [← S.pre]; exact S.nd.sublist (List.take_sublist _ _)
    refine ⟨u, rv, ?_⟩
    rcases S.par y (List.mem_of_getElem? hp) with k | k
    · exact .inl ⟨k, bindL_get ndP hp hu k⟩
    · obtain ⟨c, e⟩ := cell_has (n := s.heap.objs.size + 1) k
      refine .inr ⟨.inl k, c, e, ?_⟩
      have q := x.cell y c e
      rw [bindC_get ndP hp hu (by show scope.names.lookup y ≠ _; rw [k]; decide)] at q
      exact q
  · exact e0.hok.fresh (Nat.le_of_lt (x.above y c (PySem.mem_of_lookup h)))
  · unfold start
    show _ = N.length
    rw [List.length_append, List.length_map, List.length_replicate]
    omega
theorem fn_of {CX : CXT} {P : Program} {w : World} {K : PySem.W.Frag} {mg : Str → Option Value} {base : Heap} {k : Nat} {f : Addr} {name qual : Str} {params : Arguments} {body : List Stmt} {scope : Scope} {dV kV doc pm cdv ct oc : Value} {an od : Option Addr}
    {osl : Array (Option Value)} {N ps : List Str} {sp : Sp} (lk : K.lookup f = some ⟨oc, od, .func (PySem.W.fnOf name qual params body scope dV kV doc pm an cdv ct), osl⟩) (hcd : PySem.W.codeIn K cdv qual = true) (S : FnScope N ps scope)
    (len : ∀ vs H Q E, sp vs H Q E → vs.length = ps.length)
    (hbody : ∀ (A : Around) (outer : List Env) (s : Shared) (H : Hp) (vs : List V) (Q : VK) (E : XK), Room k (A.deeper (envOfC qual scope s.heap.objs.size f cdv)) → sp vs H Q E →
      ∃ t, PSs (cxOf CX P w K mg base N qual scope f cdv A outer s H E) body t ∧ t { nx := fun _ H' => Q .non H', rt := Q } (start N vs) H) :
    FnOk P w K mg base CX (k + 1) f (PySem.W.fnOf name qual params body scope dV kV doc pm an cdv ct) ps sp := by
  refine ⟨len, fun A outer s H args us vs Q E hr e0 hb r hsp => ?_⟩
  have hl := len _ _ _ _ hsp
  have KX : K.In s.heap := e0.mod.kin.keeps fun b o e => (e0.bs b o e).1
  have lim : s.heap.NoLimit := e0.mod.nolimit.keeps fun b o e => (e0.bs b o e).1
  have hkind : ∀ y ∈ ps.zip us, scope.names.lookup y.1 = some .local ∨ (scope.names.lookup y.1 = some .cell ∧ ((cellsFrom (s.heap.objs.size + 1) scope.names []).lookup y.1).isSome = true) := fun ⟨n, v⟩ hy => by
    rcases S.par n (List.of_mem_zip hy).1 with q | q
    · exact .inl q
    · exact .inr ⟨q, PySem.W.cellsFrom_some _ _ _ (.inl q)⟩
  refine codeAny_call_function hr.depth (KX _ _ lk) rfl S.co S.gen rfl (PySem.W.codeRec_of KX hcd) (hb _ _ _ _ ?_)
  refine wpAny_newFunctionEnv_cells S.kind hkind fun env he s1 x => ?_
  subst he
  refine ⟨lim.keeps x.toInCall.keep, codeAny_func ?_⟩
  obtain ⟨t, ht, hq⟩ := hbody A outer s H vs Q E (hr.deeper _) hsp
  have I : Inv (cxOf CX P w K mg base N qual scope f cdv A outer s H E) [] (start N vs) H s1 := inv_start S hr.hd e0 hl r x
  refine wpAny_mono (ht [] s1 (start N vs) H _ I hq) (fun fl s' hs => ?_) fun e s' hs => hs
  have fin : ∀ {σ' : St} {H' : Hp} {v : V} {u : Value}, Inv (cxOf CX P w K mg base N qual scope f cdv A outer s H E) [] σ' H' s' → RelV v u → Q v H' → CE outer P w H s Q u s' :=
    fun {σ' H' v u} J rv q => ⟨v, H', J.os, J.bare, J.base, J.hok, rv, q⟩
  cases fl with
  | ret u =>
    obtain ⟨v, σ', H', J, rv, q⟩ := hs
    exact fin J rv q
  | next =>
    obtain ⟨σ', H', J, q⟩ := hs
    exact fin (v := V.non) (u := Value.none) J rfl q
  | brk =>
    obtain ⟨_, _, _, q⟩ := hs
    exact False.elim q
  | cont =>
    obtain ⟨_, _, _, q⟩ := hs
    exact False.elim q
end L2
namespace L2
open PySem PySem.Spec PyProof.Rows
section
variable {X : Cx} {x : Str} {p pos : Pos} {e : Expr} {es : List Expr} {t : TA} {id T : String} {r : List V → Hp → VK → Prop}
def tCB (r : List V → Hp → VK → Prop) (t : TA) : TE := fun σ H Q => t σ H fun vs H1 => r vs H1 Q
theorem pe_callB (hc : CallR X (.builtin id) r) (hg : Gl X x) (hm : X.mg x = none) (hv : bootBuiltins x = some (.builtin id)) (ha : PA X (e :: es) t) (hn : x ≠ "__name__" := by decide) (hdb : (x == ("__debug__" : Str)) = false := by decide)
    (he : starEach (e :: es) X.env = (false, eval e X.env) :: starEach es X.env := by rfl) (hpl : (backTo pos (starEach es X.env)).any (·.1) = false := by rfl) : PE X (.Call (.Name x p) (e :: es) [] pos) (tCB r t) := by
  intro pins s σ H Q I h
  refine wpAny_Call_Name_kw (ld_blt I hg hm hv ?_ hn hdb)
  exact PyProof.Rows.callWith_builtin1 (thn (ha pos pins s σ H _ I h) fun us s1 ⟨vs, H1, I1, r1, q1⟩ => hc pins s1 σ H1 vs us Q I1 r1 q1) he hpl
theorem pe_callTy (hc : CallR X (.type T) r) (hg : Gl X x) (hm : X.mg x = none) (hv : bootBuiltins x = some (.type T)) (ha : PA X (e :: es) t) (hn : x ≠ "__name__" := by decide) (hdb : (x == ("__debug__" : Str)) = false := by decide)
    (he : starEach (e :: es) X.env = (false, eval e X.env) :: starEach es X.env := by rfl) (hpl : (backTo pos (starEach es X.env)).any (·.1) = false := by rfl) : PE X (.Call (.Name x p) (e :: es) [] pos) (tCB r t) := by
  intro pins s σ H Q I h
  refine wpAny_Call_Name_kw (ld_blt I hg hm hv ?_ hn hdb)
  exact PyProof.Rows.callWith_type1 (thn (ha pos pins s σ H _ I h) fun us s1 ⟨vs, H1, I1, r1, q1⟩ => hc pins s1 σ H1 vs us Q I1 r1 q1) he hpl
end
end L2
namespace HT
open PySem PyProof.Rows
section
open PySem.SeqAt
open PySem.AutoSeq1 (wpAny_loadPart')
open PySem.MeetsSeq PySem.MeetsSeq2 PySem.MeetsSeq3
end
section
variable {prog : Program} {w : World} {A : Around} {E : Value → Shared → Prop} {s : Shared}
def sIx (n d : Nat) : Option Int → Nat
  | none => d
  | some v => if v < 0 then (v + (n : Int)).toNat else min v.toNat n
theorem sIx_le (n d : Nat) (hd : d ≤ n) (o : Option Int) : sIx n d o ≤ n := by
  cases o with
  | none => exact hd
  | some v =>
    show (if v < 0 then (v + (n : Int)).toNat else min v.toNat n) ≤ n
    by_cases hv : v < 0
    · rw [if_pos hv]; omega
    · rw [if_neg hv]; exact Nat.min_le_right _ _
theorem clip_eq (v : Int) (n d : Nat) : (if v < 0 then max (v + (n : Int)) 0 else min v (n : Int)) = ((sIx n d (some v) : Nat) : Int) := by
  show (if v < 0 then max (v + (n : Int)) 0 else min v (n : Int)) = (((if v < 0 then (v + (n : Int)).toNat else min v.toNat n) : Nat) : Int)
  by_cases hv : v < 0
  · simp only [if_pos hv]; omega
  · simp only [if_neg hv]; omega
theorem adjust_gen (lo hi : Option Int) (n : Nat) : Builtin.Slice.sliceAdjust lo hi 1 (n : Int) = (((sIx n 0 lo : Nat) : Int), ((sIx n n hi : Nat) : Int)) := by
  have h1 : ¬ ((1 : Int) < 0) := by omega
  unfold Builtin.Slice.sliceAdjust
  simp only [h1, if_false]
  refine Prod.ext ?_ ?_
  · cases lo with
    | none => rfl
    | some v => exact clip_eq v n 0
  · cases hi with
    | none => rfl
    | some v => exact clip_eq v n n
theorem places_gen (i j : Nat) : Builtin.Slice.slicePlaces (i : Int) (j : Int) 1 = j - i := by
  unfold Builtin.Slice.slicePlaces
  have h1 : (1 : Int) > 0 := by omega
  simp only [h1, if_true, Int.ediv_one]
  split <;> omega
theorem slicePart_ {v : Value} {o : Option Int} {Q : Option Int → Shared → Prop} (p : IsPart v o) (h : Q o s) : wpAny (model prog w) A (Builtin.Slice.slicePartIndex v) Q E s := by
  cases p with
  | none => exact slicePart_none h
  | int i t => exact slicePart_int h
theorem sliceApplied_gen {sl : Addr} {vl vu : Value} {lo hi : Option Int} {n : Nat} {Q : Int × Int × Nat → Shared → Prop} (hs : s.heap.IsSliceOf sl vl vu .none) (pl : IsPart vl lo) (pu : IsPart vu hi)
    (h : Q (((sIx n 0 lo : Nat) : Int), 1, sIx n n hi - sIx n 0 lo) s) : wpAny (model prog w) A (Builtin.Slice.sliceApplied (.ref sl) (pure (n : Int))) Q E s := by
  obtain ⟨os, hos, hcs, hds⟩ := id hs
  unfold Builtin.Slice.sliceApplied Builtin.Slice.sliceFields
  refine wpAny_bind (wpAny_bind (wpAny_field hos hds (x := vl) rfl (wpAny_bind (wpAny_field hos hds (x := vu) rfl (wpAny_bind (wpAny_field hos hds (x := .none) rfl (wpAny_pure ?_)))))))
  refine wpAny_bind (slicePart_none ?_)
  show wpAny _ _ (if ((1 : Int) == 0) = true then _ else _) _ _ s
  rw [if_neg (by decide)]
  refine wpAny_bind (slicePart_ pl (wpAny_bind (slicePart_ pu (wpAny_bind (wpAny_pure ?_)))))
  show wpAny _ _ (match Builtin.Slice.sliceAdjust lo hi 1 (n : Int) with | (lo, hi) => pure (lo, (1 : Int), Builtin.Slice.slicePlaces lo hi 1)) _ _ s
  rw [adjust_gen lo hi n]
  show wpAny _ _ (pure (((sIx n 0 lo : Nat) : Int), (1 : Int), Builtin.Slice.slicePlaces ((sIx n 0 lo : Nat) : Int) ((sIx n n hi : Nat) : Int) 1)) _ _ s
  rw [places_gen]
  exact wpAny_pure h
theorem pick_gen (xs : Array Value) (i k : Nat) : ((List.range k).filterMap fun (m : Nat) => xs[((i : Int) + (m : Int) * 1).toNat]?).toArray = ((xs.toList.drop i).take k).toArray := by
  have e : (fun (m : Nat) => xs[((i : Int) + (m : Int) * 1).toNat]?) = fun m => xs[i + m]? := by
    funext m
    have : ((i : Int) + (m : Int) * 1).toNat = i + m := by omega
    rw [this]
  rw [e]
  have := pick_run xs i k
  rw [List.filterMap_map] at this
  have e2 : ((fun x => xs[x]?) ∘ fun x => i + x) = fun m => xs[i + m]? := rfl
  rw [e2] at this
  rw [this]
theorem getItem_tuple_cut {t sl : Addr} {items : Array Value} {vl vu : Value} {lo hi : Option Int} {Q : Value → Shared → Prop} (ht : IsTup s.heap t items) (hs : s.heap.IsSliceOf sl vl vu .none) (pl : IsPart vl lo) (pu : IsPart vu hi)
    (hw : ¬ (sIx items.size 0 lo = 0 ∧ sIx items.size items.size hi = items.size))
    (h : Q (.ref s.heap.objs.size) { s with heap := s.heap.push { cls := .type "tuple", data := .seq ((items.toList.drop (sIx items.size 0 lo)).take (sIx items.size items.size hi - sIx items.size 0 lo)).toArray } })
    (hsz : items.size ≤ sizeLine) : wpAny (model prog w) A (getItem (.ref t) (.ref sl)) Q E s := by
  have htake : sizeOk (.seq ((items.toList.drop (sIx items.size 0 lo)).take (sIx items.size items.size hi - sIx items.size 0 lo)).toArray) := by
    show ((items.toList.drop (sIx items.size 0 lo)).take (sIx items.size items.size hi - sIx items.size 0 lo)).toArray.size ≤ sizeLine
    rw [List.size_toArray, List.length_take, List.length_drop, Array.length_toList]
    omega
  have hj : sIx items.size items.size hi ≤ items.size := sIx_le _ _ (Nat.le_refl _) hi
  obtain ⟨os, hos, hcs, hds⟩ := id hs
  have hTs : s.TypeIs (.ref sl) "slice" := ⟨os, hos, hcs⟩
  unfold getItem
  try with_reducible refine wpAny_holding ?_
  first | refine wpAny_bind (wpAny_pure ?_) | skip
  refine wpAny_bind (wpAny_sequenceKey ht.typeIs (by decide) ?_)
  refine wpAny_bind (wpAny_callSpecial?_slot (name := Str.ofString "__getitem__") ht.typeIs PyProof.Rows.slot_tuple_getitem
    (wpAny_call_entry PyProof.Rows.slot_tuple_getitem ht.typeIs entry_tuple_getitem ?_ (args_tuple_getitem _ _)))
  show wpAny _ _ (Builtin.Tuple.tupleItemsOf (.ref t) >>= _) _ _ s
  refine wpAny_bind (tupleItemsOf_ ht ?_)
  refine wpAny_bind (wpAny_typeOf hTs ?_)
  rw [if_pos (by decide)]
  refine wpAny_bind (sliceApplied_gen hs pl pu ?_)
  have hno : ¬ ((((sIx items.size 0 lo : Nat) : Int) == 0 && (1 : Int) == 1 && (sIx items.size items.size hi - sIx items.size 0 lo) == items.size) = true) := by
    intro q
    rw [Bool.and_eq_true, Bool.and_eq_true] at q
    have q1 : ((sIx items.size 0 lo : Nat) : Int) = 0 := eq_of_beq q.1.1
    have q2 : sIx items.size items.size hi - sIx items.size 0 lo = items.size := eq_of_beq q.2
    exact hw ⟨by omega, by omega⟩
  show wpAny _ _ (if (((sIx items.size 0 lo : Nat) : Int) == 0 && (1 : Int) == 1 && (sIx items.size items.size hi - sIx items.size 0 lo) == items.size) = true then _ else _) _ _ s
  rw [if_neg hno, pick_gen]
  first
    | exact wpAny_bind (m := Builtin.Tuple.tupleExact _) (wpAny_newObj_type (wpAny_pure ⟨_, rfl, wpAny_pure h⟩) htake)
    | exact wpAny_bind (m := Builtin.Tuple.tupleExact _) (wpAny_newObj_type (wpAny_bind (wpAny_pure (wpAny_pure ⟨_, rfl, wpAny_pure h⟩))) htake)
    | exact wpAny_bind (wpAny_bind (m := Builtin.Tuple.tupleExact _) (wpAny_newObj_type (wpAny_pure (wpAny_pure ⟨_, rfl, wpAny_pure h⟩)) htake))
    | exact wpAny_bind (wpAny_bind (m := Builtin.Tuple.tupleExact _) (wpAny_newObj_type (wpAny_pure ⟨_, rfl, wpAny_pure h⟩) htake))
end
end HT
namespace L2
open PySem PySem.Spec PyProof.Rows
abbrev TO := St → Hp → (Option Int → Hp → Prop) → Prop
def PO (X : Cx) (e : Option Expr) (t : TO) : Prop :=
  ∀ (pins : List (Addr × Obj)) (s : Shared) (σ : St) (H : Hp) (Q : Option Int → Hp → Prop), Inv X pins σ H s → t σ H Q →
    wpAny (model X.prog X.w) X.A (evalPart e X.env) (fun u s' => ∃ o H', Inv X pins σ H' s' ∧ IsPart u o ∧ Q o H') X.xe s
def tNoPart : TO := fun _ H Q => Q none H
def tPart (t : TE) : TO := fun σ H Q => t σ H fun x H1 => ∃ i, x = .int i ∧ Q (some i) H1
theorem intsAre_of {ns : List Int} : ∀ {us : List Value}, Vals (ns.map V.int) us → IntsAre us ns := by
  induction ns with
  | nil => intro us r; rw [List.map_nil] at r; cases r; exact .nil
  | cons n ns ih =>
    intro us r
    rw [List.map_cons] at r
    cases r with
    | cons r1 r2 =>
      obtain ⟨t, e⟩ := r1
      subst e
      exact .cons n t (ih r2)
section
variable {X : Cx} {e : Expr} {te : TE} {lo hi : Option Expr} {tl th : TO} {pos p2 : Pos}
theorem po_none : PO X none tNoPart := by
  intro pins s σ H Q I h
  rw [evalPart_none]
  exact wpAny_pure ⟨none, H, I, .none, h⟩
theorem po_some (h : PE X e te) : PO X (some e) (tPart te) := by
  intro pins s σ H Q I hw
  rw [evalPart_some]
  refine thn (h pins s σ H _ I hw) fun u s1 ⟨x, H1, I1, r1, q1⟩ => ?_
  obtain ⟨i, rfl, q⟩ := q1
  obtain ⟨t, rfl⟩ := r1
  exact ⟨some i, H1, I1, .int i t, q⟩
def SlR (X : Cx) (r : V → Option Int → Option Int → Hp → VK → Prop) : Prop :=
  ∀ (pins : List (Addr × Obj)) (s : Shared) (σ : St) (H : Hp) (x : V) (v vl vu : Value) (lo hi : Option Int) (sl : Addr) (Q : VK), Inv X pins σ H s → RelV x v → s.heap.IsSliceOf sl vl vu .none → IsPart vl lo → IsPart vu hi → r x lo hi H Q →
    ∃ T id, typeLookup (.type T) "__getitem__" = pure (some (.builtin id)) ∧ s.TypeIs v T ∧ wpAny (model X.prog X.w) X.A (getItem v (.ref sl)) (EP X pins σ Q) X.xe s
theorem SlR.or {r r' : V → Option Int → Option Int → Hp → VK → Prop} (h : SlR X r) (h' : SlR X r') : SlR X (fun x lo hi H Q => r x lo hi H Q ∨ r' x lo hi H Q) := by
  intro pins s σ H x v vl vu lo hi sl Q I rx hs pl pu q
  rcases q with q | q
  · exact h pins s σ H x v vl vu lo hi sl Q I rx hs pl pu q
  · exact h' pins s σ H x v vl vu lo hi sl Q I rx hs pl pu q
def tSl (r : V → Option Int → Option Int → Hp → VK → Prop) (te : TE) (tl th : TO) : TE := fun σ H Q => te σ H fun x H1 => tl σ H1 fun l H2 => th σ H2 fun u H3 => r x l u H3 Q
theorem pe_slice {r : V → Option Int → Option Int → Hp → VK → Prop} (hr : SlR X r) (he : PE X e te) (hl : PO X lo tl) (hu : PO X hi th) : PE X (.Subscript e (.Slice lo hi none p2) pos) (tSl r te tl th) := by
  intro pins s σ H Q I h
  refine Subscript_ (thn (he pins s σ H _ I h) fun v s1 ⟨x, H1, I1, r1, q1⟩ => ?_)
  refine wpAny_Slice (thn (hl pins s1 σ H1 _ I1 q1) fun vl s2 ⟨l, H2, I2, pl, q2⟩ => thn (hu pins s2 σ H2 _ I2 q2) fun vu s3 ⟨u, H3, I3, pu, q3⟩ => ?_)
  rw [evalPart_none]
  refine wpAny_pure ?_
  have I4 : Inv X pins σ H3 { s3 with heap := s3.heap.push { cls := .type "slice", data := .fields #[vl, vu, .none] } } := I3.kept (t' := s3.toks) fun b ob q => Heap.get?_push_of_some _ q
  obtain ⟨T, id, hT, ht, hg⟩ := hr pins { s3 with heap := s3.heap.push { cls := .type "slice", data := .fields #[vl, vu, .none] } } σ H3 x v vl vu l u s3.heap.objs.size Q I4 r1 (Heap.IsSliceOf.new ..) pl pu q3
  show wpAny (model X.prog X.w) X.A (subscriptTail e (.Slice lo hi none p2) v (.ref s3.heap.objs.size)) (EP X pins σ Q) X.xe { s3 with heap := s3.heap.push { cls := .type "slice", data := .fields #[vl, vu, .none] } }
  exact tail_any (ops := [.ref s3.heap.objs.size, v]) ht hT hg (by with_unfolding_all rfl)
def cutV (xs : List V) (lo hi : Option Int) : List V := (xs.drop (HT.sIx xs.length 0 lo)).take (HT.sIx xs.length xs.length hi - HT.sIx xs.length 0 lo)
theorem cutV_length (xs : List V) (lo hi : Option Int) : (cutV xs lo hi).length ≤ xs.length := by
  unfold cutV
  rw [List.length_take, List.length_drop]
  omega
def rSlT (K : PySem.W.Frag) : V → Option Int → Option Int → Hp → VK → Prop := fun x lo hi H Q => ∃ a xs, x = .ref a ∧ SqT K H a xs ∧
  ¬ (HT.sIx xs.length 0 lo = 0 ∧ HT.sIx xs.length xs.length hi = xs.length) ∧ ∀ p, H p = none → Q (.ref p) (upd H p (.tup (cutV xs lo hi)))
theorem sl_tup : SlR X (rSlT X.K) := by
  intro pins s σ H x v vl vu lo hi sl Q I rx hs pl pu h
  obtain ⟨a, xs, rfl, hx, hw, q⟩ := h
  cases rx
  obtain ⟨its, r, ht, hz⟩ := I.tuple hx
  have hlen : its.toArray.size = xs.length := by rw [List.size_toArray]; exact r.length.symm
  refine ⟨"tuple", _, PyProof.Rows.slot_tuple_getitem.lookup, ht.typeIs, ?_⟩
  refine HT.getItem_tuple_cut ht hs pl pu (by rw [hlen]; exact hw) ?_ (by rw [hlen]; exact hz)
  rw [hlen]
  refine ⟨.ref s.heap.objs.size, _, I.laid (t' := s.toks) (o := .tup (cutV xs lo hi)) (fun b ob q => Heap.get?_push_of_some _ q) (Nat.le_refl _) ?_, rfl, q _ (I.hok.fresh (Nat.le_refl _))⟩
  exact ⟨Nat.le_trans (cutV_length xs lo hi) hz, _, (r.drop (HT.sIx xs.length 0 lo)).take (HT.sIx xs.length xs.length hi - HT.sIx xs.length 0 lo), IsTup.new _ _⟩
end
end L2
namespace L2
open PySem PySem.Spec PyProof.Rows
def ixN (n : Nat) (i : Int) : Option Nat := if 0 ≤ i then (if i < n then some i.toNat else none) else if -(n : Int) ≤ i then some (i + n).toNat else none
def atI {α : Type} (xs : List α) (i : Int) : Option α := (ixN xs.length i).bind fun j => xs[j]?
theorem ixN_seq {n : Nat} {i : Int} {j : Nat} (h : ixN n i = some j) : seqIndex? i n = some j ∧ j < n ∧ -(n : Int) ≤ i ∧ i < n := by
  unfold ixN at h
  by_cases h0 : 0 ≤ i
  · rw [if_pos h0] at h
    by_cases h1 : i < n
    · rw [if_pos h1] at h
      have e : i.toNat = j := Option.some.inj h
      exact ⟨by rw [seqIndex_of h0 h1, e], by omega, by omega, h1⟩
    · rw [if_neg h1] at h; cases h
  · rw [if_neg h0] at h
    by_cases h1 : -(n : Int) ≤ i
    · rw [if_pos h1] at h
      have e : (i + n).toNat = j := Option.some.inj h
      exact ⟨by rw [seqIndex_neg (by omega) h1, e], by omega, h1, by omega⟩
    · rw [if_neg h1] at h; cases h
theorem atI_get {α : Type} {xs : List α} {i : Int} {v : α} (h : atI xs i = some v) : ∃ j, seqIndex? i xs.length = some j ∧ xs[j]? = some v ∧ j < xs.length ∧ -(xs.length : Int) ≤ i ∧ i < xs.length := by
  unfold atI at h
  cases e : ixN xs.length i with
  | none => rw [e] at h; cases h
  | some j =>
    rw [e] at h
    obtain ⟨h1, h2, h3, h4⟩ := ixN_seq e
    exact ⟨j, h1, h, h2, h3, h4⟩
def PlainIx (b : Expr) : Prop := ∀ o i, subscripted b false o i = operate [o, i] (getItem o i)
def IxR (X : Cx) (r : R2) : Prop :=
  ∀ (value slice : Expr) (pins : List (Addr × Obj)) (s : Shared) (σ : St) (H : Hp) (x y : V) (v u : Value) (Q : VK), Inv X pins σ H s → RelV x v → RelV y u → r x y H Q →
    subscripted slice false v u = operate [v, u] (getItem v u) → wpAny (model X.prog X.w) X.A (subscriptTail value slice v u) (EP X pins σ Q) X.xe s
def MtR (X : Cx) (id : String) (r : V → List V → Hp → VK → Prop) : Prop :=
  ∀ (pins : List (Addr × Obj)) (s : Shared) (σ : St) (H : Hp) (x : V) (xs : List V) (v : Value) (us : List Value) (Q : VK), Inv X pins σ H s → RelV x v → Vals xs us → r x xs H Q →
    wpAny (model X.prog X.w) X.A (call (.builtin id) (v :: us)) (EP X pins σ Q) X.xe s
section
variable {X : Cx} {a b : Expr} {ta tb : TE} {pos : Pos}
theorem IxR.or {r r' : R2} (h : IxR X r) (h' : IxR X r') : IxR X (fun x y H Q => r x y H Q ∨ r' x y H Q) := by
  intro value slice pins s σ H x y v u Q I rx ry q hs
  rcases q with q | q
  · exact h value slice pins s σ H x y v u Q I rx ry q hs
  · exact h' value slice pins s σ H x y v u Q I rx ry q hs
theorem MtR.or {id : String} {r r' : V → List V → Hp → VK → Prop} (h : MtR X id r) (h' : MtR X id r') : MtR X id (fun x xs H Q => r x xs H Q ∨ r' x xs H Q) := by
  intro pins s σ H x xs v us Q I rx rs q
  rcases q with q | q
  · exact h pins s σ H x xs v us Q I rx rs q
  · exact h' pins s σ H x xs v us Q I rx rs q
theorem pe_ix {r : R2} (hr : IxR X r) (ha : PE X a ta) (hb : PE X b tb) (hs : PlainIx b) : PE X (.Subscript a b pos) (tOp r ta tb) := by
  intro pins s σ H Q I h
  exact Subscript_ (binT ha hb I h fun v u s2 x y H2 I2 rx ry q => hr a b pins s2 σ H2 x y v u Q I2 rx ry q (hs _ _))
def rIxL (K : PySem.W.Frag) : R2 := fun x y H Q => ∃ p xs i v, x = .ref p ∧ y = .int i ∧ SqL K H p xs ∧ atI xs i = some v ∧ Q v H
def rIxT (K : PySem.W.Frag) : R2 := fun x y H Q => ∃ p xs i v, x = .ref p ∧ y = .int i ∧ SqT K H p xs ∧ atI xs i = some v ∧ Q v H
def rIxS : R2 := fun x y H Q => ∃ z i c, x = .str z ∧ y = .int i ∧ z.length ≤ sizeLine ∧ atI z.cps.toList i = some c ∧ Q (.str ⟨#[c]⟩) H
theorem ix_list : IxR X (rIxL X.K) := by
  intro value slice pins s σ H x y v u Q I rx ry h hs
  obtain ⟨p, xs, i, z, rfl, rfl, hq, he, q⟩ := h
  cases rx
  obtain ⟨t, rfl⟩ := ry
  obtain ⟨its, r, pl, hz⟩ := I.list hq
  obtain ⟨j, h1, h2, h3, h4, h5⟩ := atI_get he
  obtain ⟨w, ew, rw'⟩ := r.get h2
  have hl := r.length
  have hn := line63
  have fin : EP X pins σ Q w s := ⟨z, H, I, rw', q⟩
  by_cases h0 : 0 ≤ i
  · have hj : i.toNat = j := by
      rw [seqIndex_of h0 h5] at h1
      exact Option.some.inj h1
    exact item_listR pl.isList h0 (by omega) (by rw [hj]; simpa using ew) fin hs
  · have hj : (i + (its.toArray.size : Int)).toNat = j := by
      rw [seqIndex_neg (by omega) h4] at h1
      rw [List.size_toArray, ← hl]
      exact Option.some.inj h1
    exact subscriptTail_builtinR (x := w) pl.isList.typeIs slot_list_getitem.lookup
      (wpAny_getItem_list_neg (Q := fun r s' => r = w ∧ EP X pins σ Q r s') pl.isList (by omega) (by rw [List.size_toArray] <;> omega) (by omega) (by rw [hj]; simpa using ew) ⟨rfl, fin⟩) hs
theorem ix_tup : IxR X (rIxT X.K) := by
  intro value slice pins s σ H x y v u Q I rx ry h hs
  obtain ⟨p, xs, i, z, rfl, rfl, hq, he, q⟩ := h
  cases rx
  obtain ⟨t, rfl⟩ := ry
  obtain ⟨its, r, pl, hz⟩ := I.tuple hq
  obtain ⟨j, h1, h2, h3, h4, h5⟩ := atI_get he
  obtain ⟨w, ew, rw'⟩ := r.get h2
  have hl := r.length
  have hn := line63
  have fin : EP X pins σ Q w s := ⟨z, H, I, rw', q⟩
  exact subscriptTail_builtinR (x := w) pl.typeIs slot_tuple_getitem.lookup
    (getItem_tuple (j := j) (Q := fun r s' => r = w ∧ EP X pins σ Q r s') pl (by omega) (by omega) (by rw [List.size_toArray, ← hl]; exact h1) (by simpa using ew) ⟨rfl, fin⟩) hs
theorem ix_str : IxR X rIxS := by
  intro value slice pins s σ H x y v u Q I rx ry h hs
  obtain ⟨z, i, c, rfl, rfl, hz, he, q⟩ := h
  obtain ⟨t, rfl⟩ := rx
  obtain ⟨t', rfl⟩ := ry
  obtain ⟨j, h1, h2, h3, h4, h5⟩ := atI_get he
  have hl : z.cps.toList.length = z.length := by simp [Str.length]
  rw [hl] at h1 h4 h5
  have hn := line63
  exact tail_any (typeIs_str s z t) slot_str_getitem.lookup (getItem_str (c := c) (by
    have e1 : decide (i < -(2 ^ 63 : Int)) = false := decide_eq_false (by omega)
    have e2 : decide (i ≥ 2 ^ 63) = false := decide_eq_false (by omega)
    rw [e1, e2, Bool.or_false]) (by rw [h1]; simpa using h2) ⟨.str ⟨#[c]⟩, H, I.tok _, ⟨_, rfl⟩, q⟩) hs
def rIx (K : PySem.W.Frag) : R2 := fun x y H Q => rIxL K x y H Q ∨ rIxT K x y H Q ∨ rIxS x y H Q
theorem ix_seq : IxR X (rIx X.K) := ix_list.or (ix_tup.or ix_str)
theorem Inv.lst {pins : List (Addr × Obj)} {σ : St} {H : Hp} {s : Shared} {p : Addr} {xs : List V} (I : Inv X pins σ H s) (h : H p = some (.lst xs)) :
    ∃ (its : List Value) (n : Nat), Vals xs its ∧ s.heap.get? p = some { cls := .type "list", data := .seq its.toArray n } ∧ xs.length ≤ sizeLine := by
  obtain ⟨z, its, n, r, e⟩ := I.hok p _ h
  exact ⟨its, n, r, e, z⟩
theorem slice_bounds (lo hi : Option Int) (n : Nat) : (sliceBounds lo hi none n).1 = ((HT.sIx n 0 lo : Nat) : Int) ∧ (sliceBounds lo hi none n).2.1 = ((HT.sIx n n hi : Nat) : Int) ∧ (sliceBounds lo hi none n).2.2 = 1 := by
  refine ⟨?_, ?_, rfl⟩
  · cases lo with
    | none => simp [sliceBounds, HT.sIx]
    | some i =>
      simp only [sliceBounds, HT.sIx, Option.getD_none, show (1 : Int) > 0 by decide, if_true]
      by_cases h : i < 0
      · simp only [h, if_true] <;> omega
      · simp only [h, if_false] <;> omega
  · cases hi with
    | none => simp [sliceBounds, HT.sIx]
    | some i =>
      simp only [sliceBounds, HT.sIx, Option.getD_none, show (1 : Int) > 0 by decide, if_true]
      by_cases h : i < 0
      · simp only [h, if_true] <;> omega
      · simp only [h, if_false] <;> omega
theorem slicePick_cut (its : List Value) (lo hi : Option Int) : slicePick its.toArray lo hi none = ((its.drop (HT.sIx its.length 0 lo)).take (HT.sIx its.length its.length hi - HT.sIx its.length 0 lo)).toArray := by
  obtain ⟨h1, h2, h3⟩ := slice_bounds lo hi its.toArray.size
  unfold slicePick
  rw [h1, h2, h3]
  simp only [sliceRange_one, pick_run, List.size_toArray] <;> rfl
def rSlL (K : PySem.W.Frag) : V → Option Int → Option Int → Hp → VK → Prop := fun x lo hi H Q => ∃ a xs, x = .ref a ∧ SqL K H a xs ∧ ∀ p, H p = none → Q (.ref p) (upd H p (.lst (cutV xs lo hi)))
theorem sl_list : SlR X (rSlL X.K) := by
  intro pins s σ H x v vl vu lo hi sl Q I rx hs pl pu h
  obtain ⟨a, xs, rfl, hx, q⟩ := h
  cases rx
  obtain ⟨its, r, ht, hz⟩ := I.list hx
  have hlen := r.length
  refine ⟨"list", _, slot_list_getitem.lookup, ht.isList.typeIs, ?_⟩
  refine wpAny_getItem_list_slice ht.isList hs pl pu .none (by simp) ?_ (by rw [List.size_toArray] <;> omega)
  rw [slicePick_cut, ← hlen]
  refine ⟨.ref s.heap.objs.size, _, I.laid (t' := s.toks) (o := .lst (cutV xs lo hi)) (fun b ob q => Heap.get?_push_of_some _ q) (Nat.le_refl _) ?_, rfl, q _ (I.hok.fresh (Nat.le_refl _))⟩
  exact ⟨Nat.le_trans (cutV_length xs lo hi) hz, _, 0, (r.drop (HT.sIx xs.length 0 lo)).take (HT.sIx xs.length xs.length hi - HT.sIx xs.length 0 lo), Heap.get?_push_size _ rfl⟩
def flatV : V → Bool
  | .non => true
  | .bl _ => true
  | .int _ => true
  | .str _ => true
  | _ => false
def eqV : V → V → Bool
  | .non, .non => true
  | .bl a, .bl b => a == b
  | .bl a, .int b => (if a then 1 else 0) == b
  | .int a, .bl b => a == (if b then 1 else 0)
  | .int a, .int b => a == b
  | .str a, .str b => a == b
  | _, _ => false
theorem eqAt_V {A : Around} {s : Shared} {y x : V} {u v : Value} (ry : RelV y u) (rx : RelV x v) (fy : flatV y = true) (fx : flatV x = true) : SeqAt.EqAt A s u v (eqV y x) := by
  cases y with
  | non =>
    cases ry
    cases x with
    | non => cases rx; exact SeqAt.EqAt.same _
    | bl b => cases rx; exact SeqAt.EqAt.none_bool b
    | int b => obtain ⟨t, rfl⟩ := rx; exact SeqAt.EqAt.none_int b t
    | str b => obtain ⟨t, rfl⟩ := rx; exact SeqAt.EqAt.none_str b t
    | _ => exact absurd (show false = true from fx) Bool.false_ne_true
  | bl a =>
    cases ry
    cases x with
    | non => cases rx; exact SeqAt.EqAt.bool_none a
    | bl b => cases rx; exact SeqAt.EqAt.bool_bool a b
    | int b => obtain ⟨t, rfl⟩ := rx; exact SeqAt.EqAt.bool_int a b t
    | str b => obtain ⟨t, rfl⟩ := rx; exact SeqAt.EqAt.bool_str a b t
    | _ => exact absurd (show false = true from fx) Bool.false_ne_true
  | int a =>
    obtain ⟨t', rfl⟩ := ry
    cases x with
    | non => cases rx; exact SeqAt.EqAt.int_none a t'
    | bl b => cases rx; exact SeqAt.EqAt.int_bool a t' b
    | int b => obtain ⟨t, rfl⟩ := rx; exact SeqAt.EqAt.int_int a t' b t
    | str b => obtain ⟨t, rfl⟩ := rx; exact SeqAt.EqAt.int_str a t' b t
    | _ => exact absurd (show false = true from fx) Bool.false_ne_true
  | str a =>
    obtain ⟨t', rfl⟩ := ry
    cases x with
    | non => cases rx; exact SeqAt.EqAt.str_none a t'
    | bl b => cases rx; exact SeqAt.EqAt.str_bool a t' b
    | int b => obtain ⟨t, rfl⟩ := rx; exact SeqAt.EqAt.str_int a t' b t
    | str b => obtain ⟨t, rfl⟩ := rx; exact SeqAt.EqAt.str_str a t' b t
    | _ => exact absurd (show false = true from fx) Bool.false_ne_true
  | _ => exact absurd (show false = true from fy) Bool.false_ne_true
theorem call_len_seq : CallR X (.builtin "len") (fun xs H Q => ∃ p ys, xs = [.ref p] ∧ (SqL X.K H p ys ∨ SqT X.K H p ys) ∧ Q (.int ys.length) H) := by
  intro pins s σ H xs us Q I r h
  obtain ⟨p, ys, rfl, hq, q⟩ := h
  obtain ⟨u, rfl, rx⟩ := vals1 r
  cases rx
  have hn := line63
  rcases hq with hq | hq
  · obtain ⟨its, r', pl, hz⟩ := I.list hq
    have hlen := r'.length
    exact Calls.call_len_list pl.isList (by simp only [List.size_toArray] <;> omega) ⟨.int ys.length, H, I.tok _, ⟨s.toks + 1, by rw [List.size_toArray, hlen]⟩, q⟩
  · obtain ⟨its, r', pl, hz⟩ := I.tuple hq
    have hlen := r'.length
    exact len_tuple pl (by simp only [List.size_toArray] <;> omega) ⟨.int ys.length, H, I.tok _, ⟨s.toks + 1, by rw [List.size_toArray, hlen]⟩, q⟩
theorem call_len_str : CallR X (.builtin "len") (fun xs H Q => ∃ z, xs = [.str z] ∧ z.length ≤ sizeLine ∧ Q (.int z.length) H) := by
  intro pins s σ H xs us Q I r h
  obtain ⟨z, rfl, hz, q⟩ := h
  obtain ⟨u, rfl, t, rfl⟩ := vals1 r
  have hn := line63
  exact len_str (by omega) ⟨.int z.length, H, I.tok _, ⟨_, rfl⟩, q⟩
theorem CallR.or {f : Value} {r r' : List V → Hp → VK → Prop} (h : CallR X f r) (h' : CallR X f r') : CallR X f (fun xs H Q => r xs H Q ∨ r' xs H Q) := by
  intro pins s σ H xs us Q I rs q
  rcases q with q | q
  · exact h pins s σ H xs us Q I rs q
  · exact h' pins s σ H xs us Q I rs q
theorem call_list_of : CallR X (.type "list") (fun xs H Q => ∃ p ys, xs = [.ref p] ∧ (SqL X.K H p ys ∨ SqT X.K H p ys) ∧ ∀ l, H l = none → Q (.ref l) (upd H l (.lst ys))) := by
  intro pins s σ H xs us Q I r h
  obtain ⟨p, ys, rfl, hq, q⟩ := h
  obtain ⟨u, rfl, rx⟩ := vals1 r
  cases rx
  have fin : ∀ (its : List Value), Vals ys its → ys.length ≤ sizeLine → ∀ (h' : Heap) (c' : Nat), (∀ b o', s.heap.get? b = some o' → h'.get? b = some o') →
      h'.get? s.heap.objs.size = some { cls := .type "list", dict := none, data := .seq its.toArray c', slots := #[] } → EP X pins σ Q (.ref s.heap.objs.size) { s with heap := h' } := fun its r' hz h' c' kp e =>
    ⟨.ref s.heap.objs.size, _, I.laid (t' := s.toks) kp (Nat.le_refl _) (show ObjOk X.prog X.w _ h' _ (.lst ys) from ⟨hz, its, c', r', e⟩), rfl, q _ (I.hok.fresh (Nat.le_refl _))⟩
  rcases hq with hq | hq
  · obtain ⟨its, r', pl, hz⟩ := I.list hq
    have hlen := r'.length
    obtain ⟨o, ho, hc, n, hd⟩ := pl.isList
    exact call_list_seq p (.inl rfl) ho hc hd (fun h' c' kp e => fin its r' hz h' c' kp e) (by simp only [List.size_toArray] <;> omega)
  · obtain ⟨its, r', pl, hz⟩ := I.tuple hq
    have hlen := r'.length
    obtain ⟨o, ho, hc, n, hd⟩ := pl
    exact call_list_seq p (.inr rfl) ho hc hd (fun h' c' kp e => fin its r' hz h' c' kp e) (by simp only [List.size_toArray] <;> omega)
def tyV (K : PySem.W.Frag) (T : String) (x : V) (H : Hp) : Prop := match x with
  | .str _ => T = "str"
  | .int _ => T = "int"
  | .ref p => (T = "list" ∧ ∃ xs, SqL K H p xs) ∨ (T = "tuple" ∧ ∃ o, K.lookup p = some o ∧ o.cls = .type "tuple" ∧ o.dict = none) ∨
      (T = "dict" ∧ ((∃ kvs ep, H p = some (.dK kvs ep)) ∨ ∃ kvs bs, H p = some (.dT kvs bs))) ∨ (T = "set" ∧ ∃ S n, H p = some (.set S n))
  | _ => False
theorem tyV_is {pins : List (Addr × Obj)} {σ : St} {H : Hp} {s : Shared} {T : String} {x : V} {v : Value} (I : Inv X pins σ H s) (r : RelV x v) (ty : tyV X.K T x H) :
    s.TypeIs v T ∧ ∀ a, v = .ref a → ∃ ob, s.heap.get? a = some ob ∧ ob.dict = none := by
  cases x with
  | str z =>
    obtain ⟨t, rfl⟩ := r
    cases (show T = "str" from ty)
    exact ⟨typeIs_str s z t, fun _ e => nomatch e⟩
  | int i =>
    obtain ⟨t, rfl⟩ := r
    cases (show T = "int" from ty)
    exact ⟨typeIs_int s i t, fun _ e => nomatch e⟩
  | ref p =>
    cases r
    rcases ty with ⟨rfl, xs, hq⟩ | ⟨rfl, o, hk, hc, hd⟩ | ⟨rfl, hk⟩ | ⟨rfl, S, n, hk⟩
    · obtain ⟨its, _, pl, _⟩ := I.list hq
      refine ⟨pl.isList.typeIs, fun a e => ?_⟩
      cases e
      obtain ⟨o, n, e, c, hd, _⟩ := pl
      exact ⟨o, e, hd⟩
    · refine ⟨⟨o, I.kIn p o hk, hc⟩, fun a e => ?_⟩
      cases e
      exact ⟨o, I.kIn _ o hk, hd⟩
    · have z : ∃ o, s.heap.get? p = some o ∧ o.ExactDict := by
        rcases hk with ⟨kvs, ep, hk⟩ | ⟨kvs, bs, hk⟩
        · obtain ⟨_, _, _, _, o, _, e, ex, _⟩ := I.hok p _ hk
          exact ⟨o, e, ex⟩
        · obtain ⟨_, _, _, _, _, o, _, _, e, ex, _⟩ := I.hok p _ hk
          exact ⟨o, e, ex⟩
      obtain ⟨o, e, ex⟩ := z
      refine ⟨⟨o, e, ex.1⟩, fun a e2 => ?_⟩
      cases e2
      exact ⟨o, e, ex.2.1⟩
    · obtain ⟨o, _, _, _, e, ex, _⟩ := I.hok p _ hk
      refine ⟨⟨o, e, ex.1⟩, fun a e2 => ?_⟩
      cases e2
      exact ⟨o, e, ex.2.1⟩
  | _ => exact False.elim ty
def tBM (K : PySem.W.Frag) (T : String) (r : V → List V → Hp → VK → Prop) (to : TE) (t : TA) : TE := fun σ H Q => to σ H fun x H1 => tyV K T x H1 ∧ t σ H1 fun xs H2 => r x xs H2 Q
variable {o e : Expr} {es : List Expr} {to : TE} {t : TA} {name : Str} {apos cpos : Pos} {T id : String} {r : V → List V → Hp → VK → Prop}
theorem pe_bm (pa : PlainAttrs T) (slot : Slot T name id) (hty : typeOf (.builtin id) = pure (.type "method_descriptor")) (hm : MtR X id r) (ho : PE X o to) (ha : PA X (e :: es) t)
    (hbase : attributeBase o name X.env (eval o X.env) = eval o X.env := by rfl)
    (hfew : ((backTo cpos (starEach (e :: es) X.env)).all (fun x => !x.1) && (backToKw cpos (keywordEach [] X.env)).all (fun x => x.1.isSome)
      && decide ((e :: es).length + ([] : List Keyword).length + (if ([] : List Keyword).isEmpty then 0 else 1) < 30)) = true := by rfl)
    (hline : (apos.endLine == cpos.line) = true := by rfl) (hs : starEach (e :: es) X.env = (false, eval e X.env) :: starEach es X.env := by rfl) (hplain : (backTo cpos (starEach es X.env)).any (·.1) = false := by rfl) :
    PE X (.Call (.Attribute o name apos) (e :: es) [] cpos) (tBM X.K T r to t) := by
  intro pins s σ H Q I h
  refine wpAny_Call_method_late hbase hfew hline rfl (thn (ho pins s σ H _ I h) fun v s1 ⟨x, H1, I1, r1, ty, q1⟩ => ?_)
  obtain ⟨h1, h2⟩ := tyV_is I1 r1 ty
  refine ⟨T, id, pa, slot, hty, h1, h2, ?_⟩
  have hA := ha cpos pins s1 σ H1 _ I1 q1
  rw [hs] at hA ⊢
  refine Calls.callWith_builtin (by show (false || (backTo cpos (starEach es X.env)).any (·.1)) = false; rw [hplain] <;> rfl) (Calls.evalArgs_plain ?_)
  exact thn hA fun us s2 ⟨vs, H2, I2, r2, q2⟩ => hm pins s2 σ H2 x vs v us Q I2 r1 r2 q2
end
end L2
namespace L2
open PySem PySem.Spec PyProof.Rows
def MtM (X : Cx) (id : String) (r : V → List V → Hp → VK → Prop) : Prop :=
  ∀ (pins : List (Addr × Obj)) (s : Shared) (σ : St) (H : Hp) (x : V) (xs : List V) (v : Value) (us : List Value) (Q : VK), Inv X pins σ H s → RelV x v → Vals xs us → r x xs H Q →
    wpAny (model X.prog X.w) X.A (call (.builtin id) (v :: us)) (EP X pins σ Q) X.xe s
theorem Vals.one : ∀ {x : V} {us : List Value}, Vals [x] us → ∃ u, us = [u] ∧ RelV x u
  | _, _, .cons r .nil => ⟨_, rfl, r⟩
theorem Vals.zero : ∀ {us : List Value}, Vals [] us → us = []
  | _, .nil => rfl
theorem Vals.eraseIdx : ∀ {xs : List V} {us : List Value} (i : Nat), Vals xs us → Vals (xs.eraseIdx i) (us.eraseIdx i)
  | _, _, _, .nil => .nil
  | _, _, 0, .cons _ t => t
  | _, _, i + 1, .cons r t => .cons r (Vals.eraseIdx i t)
theorem Vals.reverse {xs : List V} {us : List Value} (h : Vals xs us) : Vals xs.reverse us.reverse := by
  induction h with
  | nil => exact .nil
  | cons r t ih => rw [List.reverse_cons, List.reverse_cons]; exact Vals.append ih (.cons r .nil)
section
variable {X : Cx} {pins : List (Addr × Obj)} {σ : St} {H : Hp} {s : Shared} {l b : Addr} {xs ys zs : List V}
theorem Inv.lset {its its' : List Value} {n : Nat} {f : Array Value → Array Value} {t' : Nat} (I : Inv X pins σ H s) (hH : H l = some (.lst xs))
    (e : s.heap.get? l = some { cls := .type "list", data := .seq its.toArray n }) (hf : f its.toArray = its'.toArray) (hv : Vals ys its') (hz : ys.length ≤ sizeLine) :
    Inv X pins σ (upd H l (.lst ys)) { s with heap := s.heap.update l (Obj.mapSeq f), toks := t' } := by
  have q := PySem.IsL.update e f
  rw [hf] at q
  refine I.write (x := l) (e := l) (by rw [hH]; exact trivial) (.inl rfl) (fun b' u hb hu => (Heap.get?_update_other s.heap (Obj.mapSeq f) (Ne.symm hb)).trans hu) ⟨_, q⟩ ?_
  exact ⟨hz, its', _, hv, q⟩
theorem Inv.lnew {its : List Value} {t' : Nat} (I : Inv X pins σ H s) (hv : Vals ys its) (hz : ys.length ≤ sizeLine) :
    Inv X pins σ (upd H s.heap.objs.size (.lst ys)) { s with heap := s.heap.push { cls := .type "list", data := .seq its.toArray }, toks := t' } :=
  I.laid (fun _ _ q => Heap.get?_push_of_some _ q) (Nat.le_refl _) ⟨hz, its, 0, hv, Heap.get?_push_size _ rfl⟩
theorem Inv.fresh (I : Inv X pins σ H s) : H s.heap.objs.size = none := I.hok.fresh (Nat.le_refl _)
theorem Inv.lstM (I : Inv X pins σ H s) (hH : H l = some (.lst xs)) : xs.length ≤ sizeLine ∧ ∃ (its : List Value) (n : Nat), Vals xs its ∧ xs.length = its.length ∧ s.heap.get? l = some { cls := .type "list", data := .seq its.toArray n } := by
  obtain ⟨z, its, n, r, e⟩ := I.hok l _ hH
  exact ⟨z, its, n, r, r.length, e⟩
end
section
variable {X : Cx}
def rAppend : V → List V → Hp → VK → Prop := fun x vs H Q => ∃ l xs y, x = .ref l ∧ vs = [y] ∧ H l = some (.lst xs) ∧ xs.length < sizeLine ∧ Q .non (upd H l (.lst (xs ++ [y])))
theorem mt_append : MtM X "list.append" rAppend := by
  intro pins s σ H x vs v us Q I rx rv h
  obtain ⟨l, xs, y, rfl, rfl, hH, hz, q⟩ := h
  cases rx
  obtain ⟨u, rfl, ru⟩ := rv.one
  obtain ⟨z, its, n, r, hl, e⟩ := I.lstM hH
  refine call_meets F.slot_list_append ⟨_, e, rfl⟩ F.entry_list_append (F.args_list_append_2 _ _) (PySem.list_append l its.toArray n u (by rw [List.size_toArray]; omega)) ⟨e, ?_⟩
  refine ⟨.non, _, I.lset (its' := its ++ [u]) hH e (by simp) (r.append (.cons ru .nil)) ?_, rfl, q⟩
  rw [List.length_append, List.length_singleton]
  omega
end
section
variable {prog : Program} {w : World} {A : Around} {E : Value → Shared → Prop} {s : Shared}
set_option maxRecDepth 100000 in
end
section
variable {X : Cx}
end
end L2
namespace Att
open PySem PySem.W PySem.Calls PyProof.Rows
theorem ints_of_wellAll {P : Params} {h : Heap} : ∀ (ns : List Int) (vs : List Value), WellAll P h vs (ns.map WData.int) → IntsAre vs ns := by
  intro ns
  induction ns with
  | nil =>
    intro vs w
    rw [List.map_nil] at w
    cases w
    exact .nil
  | cons n ns ih =>
    intro vs w
    rw [List.map_cons] at w
    cases w with
    | cons a b =>
      cases a
      exact .cons _ _ (ih _ b)
theorem script_of {l : OpenLaw} {n : Nat} (hn : l.most = some n) {P : Params} {h : Heap} {args : List WData} {vals : List Value}
    (hpre : l.row.toRowW.claim.pre args = true) (hwl : WellAll P h vals args) :
    ∃ a vs ns, vals = [Value.ref a] ∧ args = [WData.list (ns.map WData.int)] ∧ h.get? a = some { cls := .type "list", data := .seq vs.toArray } ∧ IntsAre vs ns ∧ ns.length ≤ n := by
  have hsh : WShape.hasAll [] args [.list .int] = true := (pre_splitW hpre).1
  have hc : l.pre.holds [] { args := args } = true := (pre_splitW hpre).2
  obtain ⟨d, r, rfl, h1, h2⟩ := hasAllW_cons hsh
  obtain rfl := hasAllW_nil h2
  obtain ⟨xs, rfl, h3⟩ := hasW_list h1
  obtain ⟨ns, rfl⟩ := items_int h3
  have hlen : ns.length ≤ n := by
    unfold OpenLaw.pre at hc
    have h4 : (WTm.not (.lt (.lit (.int (n : Int))) (.len (.arg 0)))).holds [] { args := [.list (ns.map .int)] } = true := by
      have h4 := (holds_andW hc).1
      rw [hn] at h4
      exact h4
    have h5 := condW_of h4 (w_not (w_lt w_lit (w_len_list (w_arg rfl))))
    rw [List.length_map] at h5
    refine Nat.le_of_not_lt fun q => ?_
    have q' : (n : Int) < ((ns.length : Nat) : Int) := by omega
    first
      | (rw [decide_eq_true q'] at h5; exact absurd h5 (by decide))
      | (simp at h5; omega)
  cases hwl with
  | cons w1 w2 =>
    cases w2
    cases w1 with
    | list ho hall => exact ⟨_, _, ns, rfl, rfl, ho, ints_of_wellAll ns _ hall, hlen⟩
theorem post_true (l : OpenLaw) (args : List WData) : l.row.toRowW.claim.post args (.bool true) args = true :=
  postW_of (r := l.row.toRowW) (X := (true == true))
    (show WShape.has [] (.bool true) .bool = true by first | rfl | decide | simp [WShape.has, WShape.arms, WShape.armsAll])
    (show (WTm.eq .res (.lit (.bool true))).value [] { args := args, res := some (.bool true), after := args } = some (.bool (true == true)) from w_eq_bool (w_res rfl) w_lit) rfl
theorem attach_call {l : OpenLaw} {n : Nat} {q : Program} {loose : List Str} {XP : (Str → Option Value) → Heap → Prop} {YP : World → Heap → Prop} {d : DefRec}
    (hn : l.most = some n) (hdf : d.params.defaults = [])
    (call : ∀ (w : World) (s₀ s₁ : Shared) (mg mb : Str → Option Value) (fa : Addr) (o : Obj) (pm cd doc : Value) (a : Addr) (vs : List Value) (ns : List Int),
      Ground q loose [] XP w s₀ mg mb s₁.heap → YP w s₁.heap →
      s₁.heap.get? fa = some o → o.data = .func (docDef d.name d.params d.body d.scope pm cd doc) → s₁.heap.CodeRec cd d.name → mg d.name = some (.ref fa) →
      s₁.heap.get? a = some { cls := .type "list", data := .seq vs.toArray } → IntsAre vs ns → ns.length ≤ n → s₁.gens = #[] →
      codeAny (model l.prog w) callerA (.call (.ref fa) ⟨[.ref a], []⟩) (fun r s' => r = .ok (.ret (.bool true)) ∧ OldK s₁.heap s'.heap ∧ s'.os = s₁.os ∧ AllBare s'.gens) s₁) :
    WalkO q loose XP YP l.row.toRowW d [] (fun f vs => PySem.call f vs) := by
  intro w s₀ s₁ mg mb G Y fa o pm cd doc dV kV ho hd hcd hD hmg hg args vals as hpre hlay hrd hwl hlo
  obtain rfl : dV = .none := Dflts.none hD hdf
  obtain rfl : kV = .none := Dflts.noKw hD
  obtain ⟨a, vs, ns, rfl, rfl, hobj, hints, hlen⟩ := script_of hn hpre hwl
  refine enter_call (codeAny_mono (call w s₀ s₁ mg mb fa o pm cd doc a vs ns G Y ho (fd_plain hd) hcd hmg hobj hints hlen hg) fun r s' hq => ?_)
  obtain ⟨rfl, h2, h3, h4⟩ := hq
  exact ⟨.inl ⟨.bool true, .bool true, [], rfl, fun _ => rfl, .bool true, post_true l _, fun _ => ⟨List.Pairwise.nil, fun _ hm => (nomatch hm)⟩⟩, h2, h3, h4⟩
section
variable {prog : Program} {w : World} {A : Around} {E : Value → Shared → Prop} {s : Shared} {K : Frag}
end
end Att
namespace L2
open PySem PySem.Spec PyProof.Rows
theorem vals_ints : ∀ {vs : List Value} {ns : List Int}, IntsAre vs ns → Vals (ns.map V.int) vs
  | _, _, .nil => .nil
  | _, _, .cons n t h => .cons ⟨t, rfl⟩ (vals_ints h)
def Only (H : Hp) : Prop := ∀ b, H b = none ∨ ∃ o xs, H b = some (.frz o (.lst xs))
theorem law_call {P : Program} {w : World} {K : PySem.W.Frag} {mg mb : Str → Option Value} {CX : CXT} {k : Nat} {fa a : Addr} {fd : FuncData} {x : Str} {sp : Sp} {s₁ : Shared} {vs : List Value} {ns : List Int}
    (KX : K.In s₁.heap) (hns : s₁.heap.Ns mainGlobals mg) (hb : s₁.heap.Ns builtinsNs mb) (hbb : ∀ x : Str, x ≠ "__name__" → mb x = bootBuiltins x) (hlim : s₁.heap.NoLimit) (hg : s₁.gens = #[])
    (ha : s₁.heap.get? a = some { cls := .type "list", data := .seq vs.toArray }) (hi : IntsAre vs ns) (hl : ns.length ≤ sizeLine) (hr : Room k callerA)
    (F : ∀ base : Heap, K.In base → base.Ns mainGlobals mg → FnOk P w K mg base CX k fa fd [x] sp) (hbind : ∀ (s : Shared) (u : Value), BindsTo s fd ⟨[u], []⟩ [(x, u)])
    (hsp : ∀ H : Hp, Only H → SqL K H a (ns.map V.int) → sp [.ref a] H (fun v _ => v = .bl true) fun _ _ _ => False)
    (hCX : ∀ H e s', CX [] H s₁ (fun _ _ _ => False) e s' → False) :
    codeAny (model P w) callerA (.call (.ref fa) ⟨[.ref a], []⟩) (fun r s' => r = .ok (.ret (.bool true)) ∧ OldK s₁.heap s'.heap ∧ s'.os = s₁.os ∧ AllBare s'.gens) s₁ := by
  have rv := vals_ints hi
  have lenV := hi.length
  -- from an abstract heap in which nothing but the script may be tracked
  have core : ∀ H : Hp, Only H → SqL K H a (ns.map V.int) → HOk P w H s₁.heap → (∀ b, H b ≠ none → b = a) → (H a ≠ none → K.lookup a = none) →
      codeAny (model P w) callerA (.call (.ref fa) ⟨[.ref a], []⟩) (fun r s' => r = .ok (.ret (.bool true)) ∧ OldK s₁.heap s'.heap ∧ s'.os = s₁.os ∧ AllBare s'.gens) s₁ := by
    intro H hO hS hok hA hK
    have base_of : ∀ {b : Addr} {o : Obj}, s₁.heap.get? b = some o → H b = none → (hidT s₁.heap H).get? b = some o := fun e n => hidT_get e n
    have noA : ∀ {b : Addr} {o : Obj} {es : Array DictEntry} {ep : Nat}, s₁.heap.get? b = some o → o.data = .dict es ep → H b = none := fun {b o es ep} e d => by
      cases q : H b with
      | none => rfl
      | some u =>
        have e' : b = a := hA b (by rw [q]; simp)
        subst e'
        rw [ha] at e; cases e
        have d' : Data.seq vs.toArray _ = Data.dict es ep := d
        cases d'
    have nsK : ∀ {b : Addr} {m : Str → Option Value}, s₁.heap.Ns b m → (hidT s₁.heap H).Ns b m := fun {b m} ⟨o, es, ep, e, d, r⟩ => ⟨o, es, ep, base_of e (noA e d), d, r⟩
    have hKb : K.In (hidT s₁.heap H) := fun b o e => base_of (KX b o e) (by
      cases q : H b with
      | none => rfl
      | some u =>
        have e' : b = a := hA b (by rw [q]; simp)
        subst e'
        rw [hK (by rw [q]; simp)] at e; cases e)
    have hM : Mod K mg (hidT s₁.heap H) := ⟨hKb, nsK hns, ⟨mb, nsK hb, hbb⟩, let ⟨mc, h1, h2⟩ := hlim; ⟨mc, nsK h1, h2⟩⟩
    have e0 : Env0 P w K mg (hidT s₁.heap H) callerA [] s₁ H := ⟨rfl, hM, fun b o e => of_hidT e, Nat.le_of_eq (hidT_size _ _), trivial, fun b hb => absurd (show b ∈ ([] : List Addr) from hb) (by simp), hok, .of_eq hg⟩
    refine codeAny_mono ((F _ hKb (nsK hns)).run callerA [] s₁ H ⟨[.ref a], []⟩ [.ref a] [.ref a] _ _ hr e0 (hbind s₁ (.ref a)) (.cons rfl .nil) (hsp H hO hS)) fun r s' h => ?_
    cases r with
    | error e => exact (hCX H e s' h).elim
    | ok fl =>
      cases fl with
      | next => exact False.elim h
      | brk => exact False.elim h
      | cont => exact False.elim h
      | ret u =>
        obtain ⟨v, H', os, bare, un, hok', r', q⟩ := h
        have q' : v = .bl true := q
        subst q'
        obtain rfl : u = Value.bool true := r'
        refine ⟨rfl, OldK.of_keep fun b o e => ?_, os, bare⟩
        cases q : H b with
        | none => exact un.keep b o e q (by intro z; exact absurd (show b ∈ ([] : List Addr) from z) (by simp)) (by simp)
        | some u =>
          rcases hO b with z | ⟨ob, xs, z⟩
          · rw [q] at z; cases z
          · have z2 := un.frzs b ob _ z
            obtain ⟨e1, _⟩ := hok b _ z
            obtain ⟨e2, _⟩ := hok' b _ z2
            rw [e] at e1; cases e1
            exact e2
  cases hk : K.lookup a with
  | some o =>
    -- the script is one of the module's own objects
    have e := KX a o hk
    rw [ha] at e
    cases e
    refine core (fun _ => none) (fun _ => .inl rfl) (.inr ⟨_, vs.toArray, _, hk, rfl, rfl, rfl, by rw [List.size_toArray, lenV]; exact hl, by simpa using rv⟩) (fun b u z => by have z' : (none : Option HO) = some u := z; cases z') (fun b z => absurd rfl z) fun z => absurd rfl z
  | none =>
    refine core (fun b => if b = a then some (.frz { cls := .type "list", data := .seq vs.toArray } (.lst (ns.map V.int))) else none) (fun b => ?_) (.inl (.inr ⟨{ cls := .type "list", data := .seq vs.toArray }, if_pos rfl⟩)) (fun b u z => ?_) (fun b z => ?_) fun _ => hk
    · by_cases hb : b = a
      · exact .inr ⟨_, _, if_pos hb⟩
      · exact .inl (if_neg hb)
    · by_cases hb : b = a
      · have z' := (if_pos hb).symm.trans z
        cases z'
        subst hb
        exact ⟨ha, by rw [List.length_map]; exact hl, vs, _, rv, ha⟩
      · have z' := (if_neg hb).symm.trans z
        cases z'
    · by_cases hb : b = a
      · exact hb
      · exact absurd (if_neg hb) z
end L2
namespace L2
open PySem PySem.Spec PyProof.Rows
abbrev KOf {K : PySem.W.Frag} {h : Heap} (_ : K.In h) : PySem.W.Frag := K
end L2
namespace L2
open PySem PySem.Spec PyProof.Rows
def defArgs (s : Stmt) : Arguments := match s with
  | .FunctionDef _ a _ _ _ _ _ _ _ _ => a
  | _ => { posonlyargs := [], args := [], vararg := none, kwonlyargs := [], kw_defaults := [], kwarg := none, defaults := [] }
def defBody (s : Stmt) : List Stmt := match s with
  | .FunctionDef _ _ b _ _ _ _ _ _ _ => b
  | _ => []
def defScope (s : Stmt) : Scope := match s with
  | .FunctionDef _ _ _ _ _ _ sc _ _ _ => sc
  | _ => { kind := .function, names := [], isGenerator := false, isCoroutine := false }
abbrev CX0 : CXT := fun _ _ _ _ _ _ => False
abbrev E0 : XK := fun _ _ _ => False
theorem pass0 {X : Cx} : Passes CX0 X E0 := fun _ _ _ _ _ _ _ h => h.elim
structure Fun (K : PySem.W.Frag) (x qual : Str) (st : Stmt) (f : Addr) (fd : FuncData) : Prop where
  ex : ∃ (oc : Value) (od : Option Addr) (kV doc pm : Value) (an : Option Addr) (cdv ct : Value) (osl : Array (Option Value)),
    fd = PySem.W.fnOf x qual (defArgs st) (defBody st) (defScope st) .none kV doc pm an cdv ct ∧ K.lookup f = some ⟨oc, od, .func fd, osl⟩ ∧ PySem.W.codeIn K cdv qual = true
  kp : PySem.W.keepIn K (.ref f) = true
section
variable {P : Program} {w : World} {K : PySem.W.Frag} {mg : Str → Option Value} {base : Heap}
theorem Fun.ok {x qual : Str} {st : Stmt} {f : Addr} {fd : FuncData} {N ps : List Str} {k : Nat} {sp : Sp} (F : Fun K x qual st f fd) (S : FnScope N ps (defScope st)) (len : ∀ vs H Q E, sp vs H Q E → vs.length = ps.length)
    (hbody : ∀ (cdv : Value) (A : Around) (outer : List Env) (s : Shared) (H : Hp) (vs : List V) (Q : VK) (E : XK), Room k (A.deeper (envOfC qual (defScope st) s.heap.objs.size f cdv)) → sp vs H Q E →
      ∃ t, PSs (cxOf CX0 P w K mg base N qual (defScope st) f cdv A outer s H E).nox (defBody st) t ∧ t { nx := fun _ H' => Q .non H', rt := Q } (start N vs) H) : FnOk P w K mg base CX0 (k + 1) f fd ps sp := by
  obtain ⟨oc, od, kV, doc, pm, an, cdv, ct, osl, rfl, lk, hcd⟩ := F.ex
  refine fn_of lk hcd S len fun A outer s H vs Q E hr hsp => ?_
  obtain ⟨t, h, q⟩ := hbody cdv A outer s H vs Q E hr hsp
  exact ⟨t, h.nox, q⟩
theorem Fun.binds {x qual : Str} {st : Stmt} {f : Addr} {fd : FuncData} {ps : List Str} (F : Fun K x qual st f fd)
    (h : ∀ (kV doc pm : Value) (an : Option Addr) (cdv ct : Value) (us : List Value), us.length = ps.length → bindArgs (PySem.W.fnOf x qual (defArgs st) (defBody st) (defScope st) .none kV doc pm an cdv ct) ⟨us, []⟩ = pure (ps.zip us)) : Binds K fd ps [] := by
  obtain ⟨oc, od, kV, doc, pm, an, cdv, ct, osl, rfl, lk, hcd⟩ := F.ex
  exact .all (h kV doc pm an cdv ct)
theorem fun_mk {x qual : Str} {st : Stmt} {f : Addr} {oc : Value} {od an : Option Addr} {osl : Array (Option Value)} {kV doc pm cdv ct : Value} (l : K.lookup f = some ⟨oc, od, .func (PySem.W.fnOf x qual (defArgs st) (defBody st) (defScope st) .none kV doc pm an cdv ct), osl⟩)
    (c : PySem.W.codeIn K cdv qual = true) (k : PySem.W.keepIn K (.ref f) = true) : Fun K x qual st f (PySem.W.fnOf x qual (defArgs st) (defBody st) (defScope st) .none kV doc pm an cdv ct) := ⟨⟨oc, od, kV, doc, pm, an, cdv, ct, osl, rfl, l, c⟩, k⟩
end
section
variable {X : Cx}
end
def Same (H H' : Hp) : Prop := ∀ b o, H b = some o → H' b = some o
theorem Same.refl (H : Hp) : Same H H := fun _ _ h => h
theorem Same.trans {H H1 H2 : Hp} (a : Same H H1) (b : Same H1 H2) : Same H H2 := fun c o h => b c o (a c o h)
theorem Same.free {H H' : Hp} (e : Same H H') {l : Addr} (h : H' l = Option.none) : H l = Option.none := by
  cases q : H l with
  | none => rfl
  | some o =>
    rw [e l o q] at h
    cases h
theorem Same.seq {K : PySem.W.Frag} {H H' : Hp} {a : Addr} {xs : List V} (e : Same H H') (h : SqL K H a xs) : SqL K H' a xs := by
  rcases h with (h | ⟨o, h⟩) | h
  · exact .inl (.inl (e _ _ h))
  · exact .inl (.inr ⟨o, e _ _ h⟩)
  · exact .inr h
end L2
set_option Elab.async false
set_option linter.all false
set_option maxRecDepth 100000
set_option maxHeartbeats 1000000
namespace L2
open PySem PySem.Spec PyProof.Rows
def RdL (K : PySem.W.Frag) (H : Hp) (a : Addr) (xs : List V) : Prop :=
  Rd H a (.lst xs) ∨ ∃ (its : Array Value) (n : Nat), K.lookup a = some { cls := .type "list", data := .seq its n } ∧ its.size ≤ sizeLine ∧ Vals xs its.toList
theorem RdL.of {K : PySem.W.Frag} {H : Hp} {a : Addr} {xs : List V} (h : H a = some (.lst xs)) : RdL K H a xs := .inl (.inl h)
theorem RdL.sq {K : PySem.W.Frag} {H : Hp} {a : Addr} {xs : List V} (h : RdL K H a xs) : SqL K H a xs := by
  rcases h with h | ⟨its, n, h1, h2, h3⟩
  · exact .inl h
  · exact .inr ⟨_, its, n, h1, rfl, rfl, rfl, h2, h3⟩
theorem Same.rdl {K : PySem.W.Frag} {H H' : Hp} {a : Addr} {xs : List V} (e : Same H H') (h : RdL K H a xs) : RdL K H' a xs := by
  rcases h with (h | ⟨o, h⟩) | h
  · exact .inl (.inl (e _ _ h))
  · exact .inl (.inr ⟨o, e _ _ h⟩)
  · exact .inr h
theorem Inv.rdl {X : Cx} {pins : List (Addr × Obj)} {σ : St} {H : Hp} {s : Shared} {a : Addr} {xs : List V} (I : Inv X pins σ H s) (h : RdL X.K H a xs) : xs.length ≤ sizeLine ∧ ∃ (its : List Value) (n : Nat), Vals xs its ∧ s.heap.get? a = some { cls := .type "list", data := .seq its.toArray n } := by
  rcases h with h | ⟨its, n, h1, h2, h3⟩
  · obtain ⟨z, its, n, r, e⟩ := h.ok I.hok
    exact ⟨z, its, n, r, e⟩
  · refine ⟨by rw [h3.length]; simpa using h2, its.toList, n, h3, ?_⟩
    rw [Array.toArray_toList]
    exact I.kIn a _ h1
def clOf (cells : List (Str × Addr)) : List (Str × NameKind) → List (Str × Addr) → List (Str × Addr)
  | [], acc => acc
  | (n, k) :: r, acc => clOf cells r (if k == .free then (n, (cells.lookup n).getD 0) :: acc else acc)
theorem closure_eq {env : Env} : ∀ (names : List (Str × NameKind)) (acc : List (Str × Addr)), (∀ x ∈ names, x.2 = .free → ∃ c, env.cells.lookup x.1 = some c) →
    (forIn names acc fun (x : Str × NameKind) (r : List (Str × Addr)) =>
      (if (x.2 == NameKind.free) = true then do let a ← cellOf env x.1; pure (ForInStep.yield ((x.1, a) :: r)) else pure (ForInStep.yield r) : Sem (ForInStep (List (Str × Addr))))) = pure (clOf env.cells names acc)
  | [], acc, _ => by simp [clOf]
  | (n, k) :: r, acc, h => by
    have ih := fun acc' => closure_eq (env := env) r acc' fun x hx => h x (List.mem_cons_of_mem _ hx)
    rw [List.forIn_cons]
    by_cases hk : k = .free
    · subst hk
      obtain ⟨c, hc⟩ := h (n, .free) (by simp) rfl
      have e1 : cellOf env n = pure c := by unfold cellOf; rw [hc]
      simp only [beq_self_eq_true, if_true, e1, pure_bind]
      rw [ih]
      simp [clOf, hc]
    · have hk' : (k == NameKind.free) = false := by simpa using hk
      simp only [hk', Bool.false_eq_true, if_false, pure_bind]
      rw [ih]
      simp [clOf, hk']
theorem closure_of {env : Env} {scope : Scope} (h : ∀ x ∈ scope.names, x.2 = .free → ∃ c, env.cells.lookup x.1 = some c) : closureFor scope env = pure (clOf env.cells scope.names []) := by
  have e : closureFor scope env = (forIn scope.names ([] : List (Str × Addr)) fun (x : Str × NameKind) (r : List (Str × Addr)) =>
      (if (x.2 == NameKind.free) = true then do let a ← cellOf env x.1; pure (ForInStep.yield ((x.1, a) :: r)) else pure (ForInStep.yield r) : Sem (ForInStep (List (Str × Addr))))) >>= fun r => pure r := rfl
  rw [e, closure_eq _ _ h]
  rfl
theorem clOf_mem {cells : List (Str × Addr)} : ∀ {names : List (Str × NameKind)} {acc : List (Str × Addr)} {x : Str} {c : Addr}, (x, c) ∈ clOf cells names acc → (x, c) ∈ acc ∨ ((x, .free) ∈ names ∧ c = (cells.lookup x).getD 0)
  | [], acc, x, c, h => .inl h
  | (n, k) :: r, acc, x, c, h => by
    rcases clOf_mem (names := r) h with h | ⟨h, e⟩
    · by_cases hk : k = .free
      · subst hk
        simp only [beq_self_eq_true, if_true] at h
        rcases List.mem_cons.mp h with h | h
        · cases h; exact .inr ⟨by simp, rfl⟩
        · exact .inl h
      · have hk' : (k == NameKind.free) = false := by simpa using hk
        simp only [hk', Bool.false_eq_true, if_false] at h
        exact .inl h
    · exact .inr ⟨List.mem_cons_of_mem _ h, e⟩
theorem clOf_acc {cells : List (Str × Addr)} : ∀ {names : List (Str × NameKind)} {acc : List (Str × Addr)} {p : Str × Addr}, p ∈ acc → p ∈ clOf cells names acc
  | [], acc, p, h => h
  | (n, k) :: r, acc, p, h => clOf_acc (names := r) (by split <;> simp [h])
theorem clOf_has {cells : List (Str × Addr)} : ∀ {names : List (Str × NameKind)} {acc : List (Str × Addr)} {x : Str}, (x, .free) ∈ names → ∃ c, (x, c) ∈ clOf cells names acc
  | (n, k) :: r, acc, x, h => by
    rcases List.mem_cons.mp h with h | h
    · have e1 : x = n := congrArg Prod.fst h
      have e2 : NameKind.free = k := congrArg Prod.snd h
      subst e1 e2
      refine ⟨(cells.lookup x).getD 0, ?_⟩
      show (x, (cells.lookup x).getD 0) ∈ clOf cells r (if (NameKind.free == NameKind.free) = true then (x, (cells.lookup x).getD 0) :: acc else acc)
      exact clOf_acc (by simp)
    · exact clOf_has (names := r) h
theorem lookup_some_of_mem {α : Type} : ∀ {l : List (Str × α)} {x : Str} {c : α}, (x, c) ∈ l → ∃ c', l.lookup x = some c'
  | (n, k) :: r, x, c, h => by
    by_cases e : x = n
    · subst e; exact ⟨k, by simp [List.lookup_cons]⟩
    · have e' : (x == n) = false := by simpa using e
      rcases List.mem_cons.mp h with h | h
      · cases h; exact absurd rfl e
      · obtain ⟨c', q⟩ := lookup_some_of_mem h
        exact ⟨c', by simp [List.lookup_cons, e', q]⟩
theorem clOf_lookup {cells : List (Str × Addr)} {names : List (Str × NameKind)} {x : Str} {c : Addr} (h : (clOf cells names []).lookup x = some c) (hh : ∀ y ∈ names, y.2 = .free → ∃ c, cells.lookup y.1 = some c) : cells.lookup x = some c := by
  rcases clOf_mem (PySem.mem_of_lookup h) with h | ⟨h, e⟩
  · cases h
  · obtain ⟨c', q⟩ := hh _ h rfl
    rw [q] at e
    simp at e
    rw [e]
    exact q
theorem lookup_relabel {env : Env} : ∀ {names : List (Str × NameKind)} {x : Str},
    (names.map fun (n, k) => if (k == NameKind.free && env.scope.kind == .function && env.kindOf n == some .cell) then (n, NameKind.cell) else (n, k)).lookup x
      = (names.lookup x).map fun k => if (k == NameKind.free && env.scope.kind == .function && env.kindOf x == some .cell) then NameKind.cell else k
  | [], x => rfl
  | (n, k) :: r, x => by
    have ih := @lookup_relabel env r x
    rw [List.map_cons]
    have e0 : (if (k == NameKind.free && env.scope.kind == .function && env.kindOf n == some .cell) = true then (n, NameKind.cell) else (n, k)) = (n, if (k == NameKind.free && env.scope.kind == .function && env.kindOf n == some .cell) = true then NameKind.cell else k) := by split <;> rfl
    show List.lookup x ((if (k == NameKind.free && env.scope.kind == .function && env.kindOf n == some .cell) = true then (n, NameKind.cell) else (n, k)) :: _) = _
    rw [e0]
    by_cases e : x = n
    · subst e
      rw [List.lookup_cons, List.lookup_cons, beq_self_eq_true]
      rfl
    · have e' : (x == n) = false := by simpa using e
      rw [List.lookup_cons, List.lookup_cons, e']
      exact ih
abbrev cxC (X : Cx) (N' : List Str) (scope : Scope) (s3 : Shared) (H3 : Hp) (ex : List Addr) : Cx :=
  { X with N := N', s₀ := s3, H₀ := H3, env := compEnvC scope (clOf X.env.cells scope.names []) s3.heap.objs.size X.env, outer := X.stack, stack := X.stack, ex := ex, fn := fun _ => false, pn := [], xe := fun _ _ => False }
def inn (m : List (Option Nat)) (σ : St) : St := m.map fun o => match o with
  | none => none
  | some j => (σ[j]?).join
structure CompScope (X : Cx) (N' : List Str) (m : List (Option Nat)) (scope : Scope) : Prop where
  kind : scope.kind = .function
  len : m.length = N'.length
  nocell : ∀ y ∈ scope.names, y.2 ≠ .cell
  names : ∀ y ∈ scope.names, y.2 = .local → scope.names.lookup y.1 = some .local
  free : ∀ y ∈ scope.names, y.2 = .free → X.env.kindOf y.1 = some .cell ∨ X.env.kindOf y.1 = some .free
  cap : ∀ (i j : Nat) (x : Str), m[i]? = some (some j) → N'[i]? = some x → X.N[j]? = some x ∧ scope.names.lookup x = some .free
def PTs (X : Cx) (ifs : List Expr) (t : TT) : Prop :=
  ∀ (pins : List (Addr × Obj)) (s : Shared) (σ : St) (H : Hp) (Q : Bool → Hp → Prop), Inv X pins σ H s → t σ H Q →
    wpAny (model X.prog X.w) X.A (forIn ifs true fun c r => if r = true then do let ok ← isTrue c X.env (eval c X.env); pure (ForInStep.yield ok) else pure (ForInStep.yield r)) (TP X pins σ Q) X.xe s
def tYes : TT := fun _ H Q => Q true H
theorem pts_nil {X : Cx} : PTs X [] tYes := fun _ _ σ H _ I h => wpAny_tests_nil ⟨H, I, h⟩
theorem pts_one {X : Cx} {c : Expr} {t : TT} (h : PT X c t) : PTs X [c] t := fun pins s σ H Q I q => wpAny_tests_one (h pins s σ H Q I q)
section
variable {prog : Program} {w : World} {A : Around} {R : Result → Shared → Prop} {s : Shared}
theorem compLoop_go {elt target iter : Expr} {ifs : List Expr} {scope : Scope} {pos : Pos} {it acc : Value} {env : Env} (I : Nat → Shared → Prop)
    (turn : ∀ n s, I n s → wpAny (model prog w) A (pyNext it) (fun r s₁ => match r with
      | none => R (.ok .next) s₁
      | some v => wpAny (model prog w) A (letOwnedTupleGo target it v) (fun _ s₁' => wpAny (model prog w) A (assign target env v) (fun _ s₂ =>
          wpAny (model prog w) A (forIn ifs true fun c r => if r = true then do let ok ← isTrue c env (eval c env); pure (ForInStep.yield ok) else pure (ForInStep.yield r)) (fun ok s₃ =>
            if ok = true then wpAny (model prog w) A (eval elt env) (fun x s₄ =>
              wpAny (model prog w) A (call (.builtin "list.append") [acc, x]) (fun _ s₅ => ∃ m, m < n ∧ I m s₅) (fun _ _ => False) s₄) (fun _ _ => False) s₃
            else ∃ m, m < n ∧ I m s₃) (fun _ _ => False) s₂) (fun _ _ => False) s₁') (fun _ _ => False) s₁) (fun _ _ => False) s)
    (n : Nat) (h : I n s) :
    codeAny (model prog w) A (.compLoop (.ListComp elt [⟨target, iter, ifs, 0⟩] scope pos) 0 it acc env) R s := by
  refine codeAny_loop rfl I (fun n s hI => ?_) n h
  show wpAny _ A ((compTurn (.ListComp elt [⟨target, iter, ifs, 0⟩] scope pos) 0 it acc env).onRaise (fun x => do noteFrame x env; theTreesLotGoes x)) _ _ s
  refine wpAny_noted ?_
  rw [compTurn_list]
  have nv : ∀ {E : Value → Shared → Prop} (x : Value) (s : Shared), (fun (_ : Value) (_ : Shared) => False) x s → E x s := fun _ _ f => f.elim
  refine wpAny_bind (wpAny_standAt (wpAny_bind (wpAny_mono (turn n s hI) (fun r s₁ h₁ => ?_) nv)))
  cases r with
  | none => exact wpAny_pure h₁
  | some v =>
    refine wpAny_bind (wpAny_mono h₁ (fun _ s₁' h₁' => ?_) nv)
    refine wpAny_bind (wpAny_mono h₁' (fun _ s₂ h₂ => wpAny_bind (wpAny_mono h₂ (fun ok s₃ h₃ => ?_) nv)) nv)
    cases ok with
    | false => exact wpAny_pure ⟨rfl, h₃⟩
    | true =>
      exact wpAny_bind (wpAny_bind (wpAny_mono h₃ (fun x s₄ h₄ => wpAny_bind (wpAny_mono h₄ (fun _ s₅ h₅ => wpAny_pure (wpAny_pure ⟨rfl, h₅⟩)) nv)) nv))
end
end L2
set_option Elab.async false
set_option linter.all false
set_option maxRecDepth 100000
set_option maxHeartbeats 1000000
namespace L2
open PySem PySem.Spec PyProof.Rows
abbrev TIn (α : Type) := Shared → Hp → List Addr → α
def tComp (wi : TI) (m : List (Option Nat)) (g : TIn TG) (tc : TIn TT) (te : TIn TE) : TE := fun σ H Q => wi σ H fun J H1 => ∀ D, H1 D = none → ∀ s3 ex,
  ∃ W : Nat → Nat → St → Hp → Prop, (∃ k, W 0 k (inn m σ) (upd H1 D (.lst []))) ∧ ∀ i k σ' H', W i k σ' H' →
    (J.stop i H' ∧ Q (.ref D) H') ∨ (J.go i H' ∧ ∃ N : St → Hp → Prop, (∀ σ' H', N σ' H' → ∃ k', k' < k ∧ W (i + 1) k' σ' H') ∧
      ∀ x H2, J.yld i H' x H2 → g s3 (upd H1 D (.lst [])) ex x σ' H2 fun σ2 H3 => tc s3 (upd H1 D (.lst [])) ex σ2 H3 fun b H4 =>
        if b = true then te s3 (upd H1 D (.lst [])) ex σ2 H4 fun v H5 => ∃ xs, H5 D = some (.lst xs) ∧ xs.length < sizeLine ∧ N σ2 (upd H5 D (.lst (xs ++ [v]))) else N σ2 H4)
section
variable {X : Cx} {elt iter tg : Expr} {ifs : List Expr} {scope : Scope} {pos : Pos} {N' : List Str} {m : List (Option Nat)} {wi : TI} {g : TIn TG} {tc : TIn TT} {te : TIn TE}
theorem comp_inv {pins : List (Addr × Obj)} {σ : St} {H : Hp} {s : Shared} {fp : List Addr} {h₁ : Heap} {tk : Nat} (cs : CompScope X N' m scope) (I : Inv X pins σ H s) (f : ∀ b ∈ fp, FpOk X pins H b) (fo : ∀ b ∈ fp, b < s.heap.objs.size)
    (hns : h₁.Ns s.heap.objs.size (fun x => (([] : List (Str × Value)).reverse.lookup x))) (hk : ∀ b o, s.heap.get? b = some o → h₁.get? b = some o) :
    Inv (cxC X N' scope s H fp) [] (inn m σ) H { s with heap := h₁, toks := tk } := by
  have hfree : ∀ y ∈ scope.names, y.2 = .free → ∃ c, X.env.cells.lookup y.1 = some c := fun y hy hf => I.ok.has y.1 (cs.free y hy hf)
  have hcl : ∀ x c, (clOf X.env.cells scope.names []).lookup x = some c → X.env.cells.lookup x = some c := fun x c e => clOf_lookup e hfree
  refine ⟨⟨I.ok.mod, cs.kind, I.ok.glob, I.ok.blt, Nat.le_refl _, fun x y c e1 e2 => I.ok.inj x y c (hcl x c e1) (hcl y c e2), fun x hx => ?_, fun x c hx => (by cases hx), I.ok.hd, I.ok.frames, .inl rfl, fun b hb => ⟨Nat.ne_of_lt (fo b hb), fun x c e => (f b hb).2.2.2.2.1 x c (hcl x c e)⟩,
    fun b o e => I.bs b o e, Nat.le_trans I.ok.bsz I.sz, fun b o e hb => ?_, fun b hb z => ?_, I.stack, I.stkFree⟩,
    rfl, I.bare, Un.kept hk, ⟨_, hns, fun i x v h1 h2 h3 => ?_⟩, fun x c e => ?_, I.hok.fresh (Nat.le_refl _), fun x c e => I.freeC x c (hcl x c e), fun p hp => (by cases hp), I.hok.kept hk, ?_⟩
  · have hx' : (relabel scope X.env).names.lookup x = some .cell ∨ (relabel scope X.env).names.lookup x = some .free := hx
    have e : (relabel scope X.env).names.lookup x = (scope.names.lookup x).map fun k => if (k == NameKind.free && X.env.scope.kind == .function && X.env.kindOf x == some .cell) then NameKind.cell else k := lookup_relabel
    rw [e] at hx'
    have hf : (x, NameKind.free) ∈ scope.names := by
      cases q : scope.names.lookup x with
      | none => rw [q] at hx'; simp at hx'
      | some k =>
        rw [q] at hx'
        have hm := PySem.mem_of_lookup q
        by_cases hk2 : k = .free
        · subst hk2; exact hm
        · have hk' : (k == NameKind.free) = false := by simpa using hk2
          simp only [hk', Option.map_some, Bool.false_and, Bool.false_eq_true, if_false, Option.some.injEq] at hx'
          rcases hx' with z | z
          · exact absurd z (cs.nocell _ hm)
          · exact absurd z hk2
    obtain ⟨c, hc⟩ := clOf_has (cells := X.env.cells) (acc := []) hf
    exact lookup_some_of_mem hc
  · rcases (f b hb).2.2.2.1 with z | z
    · exact I.ok.noex b o e z
    · exact absurd (Nat.lt_of_lt_of_le (Heap.lt_size (I.ok.bs b o e).1) z) (Nat.lt_irrefl _)
  · rcases List.mem_cons.mp (I.stkSub b z) with q | q
    · exact (f b hb).2.1 q
    · exact (f b hb).2.2.1 q
  · unfold inn at h2
    rw [List.getElem?_map] at h2
    cases q : m[i]? with
    | none => rw [q] at h2; cases h2
    | some o =>
      rw [q] at h2
      cases o with
      | none => cases h2
      | some j =>
        simp only [Option.map_some, Option.some.injEq] at h2
        have h2' : σ[j]? = some (some v) := by
          cases z : σ[j]? with
          | none => rw [z] at h2; cases h2
          | some a => rw [z] at h2; simp at h2; rw [h2]
        obtain ⟨hN, hfr⟩ := cs.cap i j x q h1
        have hfm := PySem.mem_of_lookup hfr
        obtain ⟨m0, hn0, hl⟩ := I.loc
        have hkind := cs.free _ hfm rfl
        have hvis : Vis X.env.scope x := hkind.elim (fun z => .inr (.inl z)) (fun z => .inr (.inr z))
        obtain ⟨u, ru, lu⟩ := hl j x v hN h2' hvis
        refine ⟨u, ru, .inr ⟨?_, ?_⟩⟩
        · show (relabel scope X.env).names.lookup x = some .cell ∨ (relabel scope X.env).names.lookup x = some .free
          have e : (relabel scope X.env).names.lookup x = (scope.names.lookup x).map fun k => if (k == NameKind.free && X.env.scope.kind == .function && X.env.kindOf x == some .cell) then NameKind.cell else k := lookup_relabel
          rw [e, hfr]
          simp only [Option.map_some]
          split
          · exact .inl rfl
          · exact .inr rfl
        · rcases lu with ⟨k, _⟩ | ⟨_, c, e, z⟩
          · rcases hkind with z | z <;> · rw [k] at z; cases z
          · obtain ⟨c', hc'⟩ := lookup_some_of_mem (clOf_has (cells := X.env.cells) (acc := []) hfm).choose_spec
            have := hcl x c' hc'
            rw [e] at this
            cases this
            obtain ⟨oc, hoc, hd⟩ := z
            exact ⟨c, hc', oc, hk c oc hoc, hd⟩
  · obtain ⟨v, oc, hoc, hd⟩ := I.cell x c (hcl x c e)
    exact ⟨v, oc, hk c oc hoc, hd⟩
  · show (inn m σ).length = N'.length
    unfold inn
    rw [List.length_map, cs.len]
theorem comp_core {use : Option (Value → Sem Unit)} {Q' : Value → Shared → Prop} {pins : List (Addr × Obj)} {s : Shared} {σ : St} {H : Hp} {Q : VK}
    (hc : X.calm = true) (cs : CompScope X N' m scope) (hi : PI X tg iter wi) (hg : ∀ s3 H3 ex, PG (cxC X N' scope s3 H3 ex) tg (g s3 H3 ex)) (ht : ∀ s3 H3 ex, PTs (cxC X N' scope s3 H3 ex) ifs (tc s3 H3 ex))
    (he : ∀ s3 H3 ex, PE (cxC X N' scope s3 H3 ex) elt (te s3 H3 ex)) (I : Inv X pins σ H s) (h : tComp wi m g tc te σ H Q)
    (fin : ∀ D C s' H', Inv X pins σ H' s' → FpOk X pins H' C → (∃ m, s'.heap.Ns C m) → Q (.ref D) H' → compPost (model X.prog X.w) X.A X.xe use Q' (.ref D) C (.ok .next) s') :
    wpAny (model X.prog X.w) X.A (eval iter X.env) (fun x s₁ => wpAny (model X.prog X.w) X.A (pyIter x) (fun it s₂ => wpAny (model X.prog X.w) X.A (newList []) (fun acc s₃ =>
      wpAny (model X.prog X.w) X.A (newFunctionEnv scope X.env.globals (clOf X.env.cells scope.names []) [] X.env.qual none .none (some X.env)) (fun cenv s₄ =>
        codeAny (model X.prog X.w) X.A (.compStart (.ListComp elt [⟨tg, iter, ifs, 0⟩] scope pos) 0 it acc { cenv with scope := relabel scope X.env }) (compPost (model X.prog X.w) X.A X.xe use Q' acc cenv.locals) s₄) X.xe s₃) X.xe s₂) X.xe s₁) X.xe s := by
  refine thn (hi pins s σ H _ I h) fun v s1 h1 => thn h1 fun itv s2 h2 => ?_
  obtain ⟨it, fp, tn, J, H2, e, I2, T, st2, f2, h⟩ := h2
  subst e
  refine wpAny_newObj_type (wpAny_newFunctionEnv cs.nocell (by intro y hy; simp at hy) (fun h₁ hns₁ hsb₁ => ?_) cs.kind)
  have hf : H2 s2.heap.objs.size = none := I2.hok.fresh (Nat.le_refl _)
  obtain ⟨W, ⟨k0, w0⟩, turn⟩ := h s2.heap.objs.size hf { s2 with heap := s2.heap.push { cls := .type "list", data := .seq ([] : List Value).toArray } } fp
  have I3 : Inv X pins σ (upd H2 s2.heap.objs.size (.lst [])) { s2 with heap := s2.heap.push { cls := .type "list", data := .seq ([] : List Value).toArray } } := I2.lnew (its := []) (t' := s2.toks) .nil (by simp)
  have fpO : ∀ b ∈ fp, b < s2.heap.objs.size := fun b hb => by
    obtain ⟨o, e, _⟩ := T.obj _ _ st2 b hb
    exact Heap.lt_size e
  have f3 : ∀ b ∈ fp, FpOk X pins (upd H2 s2.heap.objs.size (.lst [])) b := fun b hb => ⟨by rw [upd_ne (Nat.ne_of_lt (fpO b hb))]; exact (f2 b hb).1, (f2 b hb).2⟩
  generalize hs3 : ({ s2 with heap := s2.heap.push { cls := .type "list", data := .seq ([] : List Value).toArray } } : Shared) = s3 at *
  have hC : s3.heap.objs.size = s2.heap.objs.size + 1 := by rw [← hs3]; exact Heap.size_push ..
  have fp3 : ∀ b ∈ fp, b < s3.heap.objs.size := fun b hb => by rw [hC]; exact Nat.lt_succ_of_lt (fpO b hb)
  have k3 : ∀ b o, s2.heap.get? b = some o → s3.heap.get? b = some o := fun b o e => by rw [← hs3]; exact Heap.get?_push_of_some _ e
  have k1 : ∀ b o, s3.heap.get? b = some o → h₁.get? b = some o := fun b o e => hsb₁.extBut b o (Nat.ne_of_lt (Heap.lt_size e)) (Heap.get?_push_of_some _ e)
  have J0 := comp_inv (tk := s3.toks + ([] : List (Str × Value)).length) cs I3 f3 fp3 hns₁ k1
  have st1 : tn 0 h₁ := T.keep _ _ _ st2 fun b _ o e => k1 b o (k3 b o e)
  have fpY : ∀ {H' : Hp}, (∀ b ∈ fp, H' b = none) → ∀ b ∈ fp, FpOk (cxC X N' scope s3 (upd H2 s2.heap.objs.size (.lst [])) fp) [] H' b := fun hn b hb =>
    ⟨hn b hb, Nat.ne_of_lt (fp3 b hb), J0.ok.exfs b hb, .inl hb, (J0.ok.exf b hb).2, fun p hp => by cases hp⟩
  have hfr : ∀ b ∈ fp, (upd H2 s2.heap.objs.size (.lst [])) b = none := fun b hb => (f3 b hb).1
  have loop : codeAny (model X.prog X.w) X.A (.compLoop (.ListComp elt [⟨tg, iter, ifs, 0⟩] scope pos) 0 (.ref it) (.ref s2.heap.objs.size) (compEnvC scope (clOf X.env.cells scope.names []) s3.heap.objs.size X.env))
      (compPost (model X.prog X.w) X.A X.xe use Q' (.ref s2.heap.objs.size) s3.heap.objs.size) { s3 with heap := h₁, toks := s3.toks + ([] : List (Str × Value)).length } := by
    refine compLoop_go (fun n s' => ∃ i σ' H', Inv (cxC X N' scope s3 (upd H2 s2.heap.objs.size (.lst [])) fp) [] σ' H' s' ∧ tn i s'.heap ∧ (∀ b ∈ fp, H' b = none) ∧ W i n σ' H') ?_ k0 ⟨0, _, _, J0, st1, hfr, w0⟩
    rintro n s4 ⟨i, σ4, H4, I4, st4, fr4, w4⟩
    rcases turn i n σ4 H4 w4 with ⟨stop, qn⟩ | ⟨go, N, hN, step⟩
    · refine thn (T.done (cxC X N' scope s3 (upd H2 s2.heap.objs.size (.lst [])) fp) rfl rfl rfl hc i [] s4 σ4 H4 _ I4 (fpY fr4) st4 stop) fun r s5 ⟨hr, I5⟩ => ?_
      subst hr
      have hch : ∀ b ∈ fp, (b ∈ X.ex ∨ X.s₀.heap.objs.size ≤ b) ∧ b ≠ X.env.locals ∧ (∀ x c, X.env.cells.lookup x = some c → c ≠ b) ∧ ∀ p ∈ X.pn ++ pins, p.1 ≠ b := fun b hb => ⟨(f2 b hb).2.2.2.1, (f2 b hb).2.1, (f2 b hb).2.2.2.2.1, (f2 b hb).2.2.2.2.2⟩
      have I6 : Inv X pins σ H4 s5 := I3.call' (ch := fp) I5.os I5.base I5.hok I5.bare hch
      obtain ⟨m5, hn5, _⟩ := id I5.loc
      exact fin _ _ s5 H4 I6 (I3.fpOk (Nat.le_refl _) I5.free) ⟨m5, hn5⟩ qn
    · refine thn (T.item (cxC X N' scope s3 (upd H2 s2.heap.objs.size (.lst [])) fp) rfl rfl rfl hc i [] s4 σ4 H4 _ I4 (fpY fr4) st4 go) fun r s5 ⟨u, hr, h5⟩ => ?_
      subst hr
      refine thn h5 fun _ s6 ⟨x, H6, I6, r6, y6, st6, fr6⟩ => ?_
      have I6' := I6.pinned (fpY fr6) (T.obj _ _ st6)
      refine thn (hg _ _ _ _ s6 σ4 H6 x u _ I6' r6 (step x H6 y6)) fun _ s7 ⟨σ7, H7, I7, q7⟩ => ?_
      refine thn (ht _ _ _ _ s7 σ7 H7 _ I7 q7) fun b s8 ⟨H8, I8, q8⟩ => ?_
      have again : ∀ {s9 : Shared} {σ9 : St} {H9 : Hp}, Inv (cxC X N' scope s3 (upd H2 s2.heap.objs.size (.lst [])) fp) ([] ++ pinsAt fp s6.heap) σ9 H9 s9 → N σ9 H9 → ∃ m, m < n ∧ ∃ i σ' H', Inv (cxC X N' scope s3 (upd H2 s2.heap.objs.size (.lst [])) fp) [] σ' H' s9 ∧ tn i s9.heap ∧ (∀ b ∈ fp, H' b = none) ∧ W i m σ' H' := fun {s9 σ9 H9} I9 n9 => by
        obtain ⟨m', hm, w9⟩ := hN σ9 H9 n9
        refine ⟨m', hm, i + 1, σ9, H9, I9.unpinned, T.keep _ _ _ st6 fun b hb o e => (I9.pin (b, o) (List.mem_append_right _ (List.mem_append_right _ (mem_pinsAt hb e)))).1, fun b hb => ?_, w9⟩
        obtain ⟨o, e, d⟩ := T.obj _ _ st6 b hb
        exact (I9.pin (b, o) (List.mem_append_right _ (List.mem_append_right _ (mem_pinsAt hb e)))).2.1
      cases b with
      | false => exact again I8 q8
      | true =>
        rw [if_pos rfl]
        refine thn (he _ _ _ _ s8 σ7 H8 _ I8 q8) fun y s9 ⟨v9, H9, I9, r9, xs, hD, hz, q9⟩ => ?_
        refine thn (mt_append _ s9 σ7 H9 (.ref s2.heap.objs.size) [v9] (.ref s2.heap.objs.size) [y] (fun _ H' => N σ7 H') I9 rfl (.cons r9 .nil) ⟨_, xs, v9, rfl, rfl, hD, hz, q9⟩) fun _ s10 ⟨_, H10, I10, _, q10⟩ => ?_
        exact again I10 q10
  exact codeAny_compStart_list loop (T.self _ 0 _ _ _ st1 loop)
theorem pe_comp (hc : X.calm = true) (cs : CompScope X N' m scope) (hi : PI X tg iter wi) (hg : ∀ s3 H3 ex, PG (cxC X N' scope s3 H3 ex) tg (g s3 H3 ex)) (ht : ∀ s3 H3 ex, PTs (cxC X N' scope s3 H3 ex) ifs (tc s3 H3 ex))
    (he : ∀ s3 H3 ex, PE (cxC X N' scope s3 H3 ex) elt (te s3 H3 ex)) (hs : ∀ x, foldedSetIterable iter X.env x = pure x := by intro _; rfl) : PE X (.ListComp elt [⟨tg, iter, ifs, 0⟩] scope pos) (tComp wi m g tc te) := by
  intro pins s σ H Q I h
  rw [eval_ListComp]
  have hfree : ∀ y ∈ scope.names, y.2 = .free → ∃ c, X.env.cells.lookup y.1 = some c := fun y hy hf => I.ok.has y.1 (cs.free y hy hf)
  refine wpAny_comprehension_free (use := none) rfl hs (closure_of hfree) cs.kind cs.names (comp_core hc cs hi hg ht he I h fun D C s' H' I' fC ⟨mC, hn⟩ q => ?_)
  refine ⟨mC, hn, fun h' sb => ⟨.ref D, H', I'.turned (t' := s'.toks) (fun b o hb e => (sb.2 b hb).trans e) fC.1 fC.2.1 fC.2.2.2.1 fC.2.2.2.2.1 fC.2.2.2.2.2, rfl, q⟩⟩
theorem ps_setC {i : Nat} {x : Str} {pos' posS : Pos} (hN : X.N.Nodup) (hix : X.N[i]? = some x) (hx : Loc X.env.scope x)
    (hc : X.calm = true) (cs : CompScope X N' m scope) (hi : PI X tg iter wi) (hg : ∀ s3 H3 ex, PG (cxC X N' scope s3 H3 ex) tg (g s3 H3 ex)) (ht : ∀ s3 H3 ex, PTs (cxC X N' scope s3 H3 ex) ifs (tc s3 H3 ex))
    (he : ∀ s3 H3 ex, PE (cxC X N' scope s3 H3 ex) elt (te s3 H3 ex)) (hs : ∀ x, foldedSetIterable iter X.env x = pure x := by intro _; rfl)
    (hsw : swapsWith (.ListComp elt [⟨tg, iter, ifs, 0⟩] scope pos) (some (.Name x pos')) posS.line X.env = pure true := by rfl)
    (hf : X.fn x = true ∨ X.env.scope.names.lookup x = some .local := by first | exact .inl rfl | exact .inr rfl | assumption) :
    PS X (.Assign [.Name x pos'] (.ListComp elt [⟨tg, iter, ifs, 0⟩] scope pos) posS) (tAsg (tComp wi m g tc te) (gName i)) := by
  intro pins s σ H D I h
  have hfree : ∀ y ∈ scope.names, y.2 = .free → ∃ c, X.env.cells.lookup y.1 = some c := fun y hy hf => I.ok.has y.1 (cs.free y hy hf)
  rw [exec_Assign_Name_used _ _ _ _ hsw]
  refine wpAny_bind (wpAny_standAt (wpAny_bind ?_))
  show wpAny _ _ (do let _ ← comprehension (.ListComp elt [⟨tg, iter, ifs, 0⟩] scope pos) scope X.env _ (newList []) false (eval iter X.env) (some (assign (.Name x pos') X.env))) _ _ s
  refine wpAny_bind (wpAny_mono (wpAny_comprehension_free (use := some (assign (.Name x pos') X.env)) (Q := fun _ s' => SP X pins D .next s') rfl hs (closure_of hfree) cs.kind cs.names (comp_core hc cs hi hg ht he I h fun A C s' H' I' fC ⟨mC, hn⟩ q => ?_)) (fun _ s' hq => wpAny_pure (wpAny_pure hq)) fun _ _ e => e)
  show wpAny _ _ (assign (.Name x pos') X.env (.ref A)) _ _ _
  refine wpAny_assign_Name (store_ok2 I' hN hix hx (show RelV (.ref A) (.ref A) from rfl) (fun s2 I2 hsb => ?_) hf)
  obtain ⟨a, sba, ha⟩ := hsb
  have hCa : C ≠ a := by
    rcases ha with rfl | ha
    · exact fC.2.1
    · exact fun z => fC.2.2.2.2.1 x a ha z.symm
  refine ⟨mC, hn.sameBut sba hCa, fun h' sb => ⟨_, H', I2.turned (t' := s2.toks) (fun b o hb e => (sb.2 b hb).trans e) fC.1 fC.2.1 fC.2.2.2.1 fC.2.2.2.2.1 fC.2.2.2.2.2, q⟩⟩
end
end L2
set_option Elab.async false
set_option linter.all false
set_option maxRecDepth 100000
set_option maxHeartbeats 1000000
namespace L2
open PySem PySem.Spec PyProof.Rows
theorem small2 : 2 ≤ sizeLine := by decide
theorem Inv.turnedS {X : Cx} {pins : List (Addr × Obj)} {σ : St} {H : Hp} {s : Shared} {h' : Heap} {t' : Nat} {fp : List Addr} (I : Inv X pins σ H s) (k : ∀ b o, b ∉ fp → s.heap.get? b = some o → h'.get? b = some o) (f : ∀ b ∈ fp, FpOk X pins H b) :
    Inv X pins σ H { s with heap := h', toks := t' } := by
  have nit : ∀ b u, H b = some u → b ∉ fp := fun b u e z => by rw [(f b z).1] at e; cases e
  refine I.step (g' := s.gens) (d' := s.drawn) (ch := fp) (fun b hb => ⟨(f b hb).2.2.2.1, (f b hb).2.1, (f b hb).2.2.2.2.1, (f b hb).2.2.2.2.2⟩) (fun b o _ _ hc e _ => k b o hc e) (fun b o _ _ hc e _ => ⟨o.slots, k b o hc e⟩) (fun _ _ _ _ n => n)
    (fun b o hc e => ⟨o, k b o hc e⟩) (fun _ _ e => e) (fun _ _ _ e => e) (fun b ps e => ⟨#[], by rw [e]; simp⟩) (fun m hm => ?_) (fun b u e => ?_) I.bare
  · obtain ⟨o, es, ep, ho, r⟩ := hm
    exact ⟨o, es, ep, k _ o (fun z => (f _ z).2.1 rfl) ho, r⟩
  · refine (I.hok b u e).stay (fun c v hc q => k c v ?_ q) (fun _ q => q) fun _ _ q => q
    rcases hc with z | z
    · rw [z]; exact nit b u e
    · exact nit c _ z
theorem Inv.turnedNew {X : Cx} {pins : List (Addr × Obj)} {σ : St} {H : Hp} {s : Shared} {h' : Heap} {t' : Nat} {fp : List Addr} {a : Addr} {o : HO} (I : Inv X pins σ H s) (k : ∀ b o, b ∉ fp → s.heap.get? b = some o → h'.get? b = some o) (f : ∀ b ∈ fp, FpOk X pins H b)
    (hp : s.heap.objs.size ≤ a) (new : ObjOk X.prog X.w (upd H a o) h' a o) : Inv X pins σ (upd H a o) { s with heap := h', toks := t' } := by
  have hfree : H a = none := I.hok.fresh hp
  have nit : ∀ b u, H b = some u → b ∉ fp := fun b u e z => by rw [(f b z).1] at e; cases e
  refine I.step (g' := s.gens) (d' := s.drawn) (ch := fp) (fun b hb => ⟨(f b hb).2.2.2.1, (f b hb).2.1, (f b hb).2.2.2.2.1, (f b hb).2.2.2.2.2⟩) (fun b o _ _ hc e _ => k b o hc e) (fun b o _ _ hc e _ => ⟨o.slots, k b o hc e⟩)
    (fun b o _ q n => by rw [upd_ne (Nat.ne_of_lt (Nat.lt_of_lt_of_le (Heap.lt_size q) hp))]; exact n)
    (fun b o hc e => ⟨o, k b o hc e⟩) (fun b zs q => by rw [upd_ne (ne_of_none q hfree)]; exact q) (fun b ob zs q => by rw [upd_ne (ne_of_none q hfree)]; exact q) (fun b ps q => ⟨#[], by rw [upd_ne (ne_of_none q hfree), q]; simp⟩) (fun m hm => ?_) (fun b u q => ?_) I.bare
  · obtain ⟨o, es, ep, ho, r⟩ := hm
    exact ⟨o, es, ep, k _ o (fun z => (f _ z).2.1 rfl) ho, r⟩
  · by_cases hb : b = a
    · subst hb; rw [upd_same] at q; cases q; exact new
    · rw [upd_ne hb] at q
      refine (I.hok b u q).stay (fun c v hc z => k c v ?_ z) (fun c z => by rw [upd_ne (ne_of_none z hfree)]; exact z) fun c zs z => by rw [upd_ne (ne_of_none z hfree)]; exact z
      rcases hc with rfl | hc
      · exact nit _ _ q
      · exact nit _ _ hc
def Its (x : Str) : It := ⟨fun i _ => i < x.cps.size, fun i H v H' => H' = H ∧ ∃ c, x.cps[i]? = some c ∧ v = .str ⟨#[c]⟩, fun i _ => i = x.cps.size⟩
theorem turn_str {P : Program} {w : World} {K : PySem.W.Frag} {tg : Expr} {x : Str} {it : Addr} {n : String} {t : Tok} (hn : ["enumerate", "zip", "dict_itemiterator", "dict_reverseitemiterator", "odict_iterator", "itertools.zip_longest", "itertools.pairwise"].contains n = false)
    (W : ∀ A' : Around, A'.handled = none → Walks P w A' it [it] [it] x.cps.size (SignAt x) (fun i h => h.IsStrIter it n x t i))
    (hs : ∀ (A : Around) (i : Nat) (s : Shared) (Q : Value → Shared → Prop) (E : Value → Shared → Prop), s.heap.IsStrIter it n x t i → Q (.ref it) s → wpAny (model P w) A (pyIter (.ref it)) Q E s) : Turn P w K tg (Its x) [it] it (fun i h => h.IsStrIter it n x t i) where
  mem := by simp
  obj := fun i h st b hb => by
    have e : b = it := by simpa using hb
    subst e
    obtain ⟨o, e, c, d⟩ := st
    exact ⟨o, e, fun v z => by rw [d] at z; cases z⟩
  keep := fun i h h' st k => by
    obtain ⟨o, e, r⟩ := st
    exact ⟨o, k it (by simp) o e, r⟩
  item := by
    intro X hP hw hK hc i pins s σ H E I hf st hg
    subst hP hw hK
    refine (W X.A (I.ok.hd hc)).item i s _ _ hg st fun v h' tk hv st' kk => ?_
    obtain ⟨c, u, hx, rfl⟩ := hv
    have I1 : Inv X pins σ H { s with heap := h', toks := tk } := I.turnedS kk hf
    obtain ⟨o, e, c', d⟩ := id st'
    exact ⟨_, rfl, go_of (s := { s with heap := h', toks := tk }) e c' d hn ⟨.str ⟨#[c]⟩, H, I1, ⟨u, rfl⟩, ⟨rfl, c, hx, rfl⟩, st', fun b hb => (hf b hb).1⟩⟩
  done := by
    intro X hP hw hK hc i pins s σ H E I hf st hg
    subst hP hw hK
    have e : i = x.cps.size := hg
    subst e
    exact (W X.A (I.ok.hd hc)).done s _ _ st fun h' tk kk => ⟨rfl, I.turnedS kk hf⟩
  self := hs
section
variable {X : Cx} {tg : Expr}
theorem str_it {pins : List (Addr × Obj)} {σ : St} {H : Hp} {s : Shared} {R : It → Hp → Prop} {E : Value → Shared → Prop} {x : Str} {t : Tok} (I : Inv X pins σ H s) (q : R (Its x) H) :
    wpAny (model X.prog X.w) X.A (pyIter (.str x t)) (PIE X pins σ tg R) E s := by
  have fin : ∀ (o : Obj) (n : String), (hn : ["enumerate", "zip", "dict_itemiterator", "dict_reverseitemiterator", "odict_iterator", "itertools.zip_longest", "itertools.pairwise"].contains n = false) →
      (W : ∀ A' : Around, A'.handled = none → Walks X.prog X.w A' s.heap.objs.size [s.heap.objs.size] [s.heap.objs.size] x.cps.size (SignAt x) (fun i h => h.IsStrIter s.heap.objs.size n x t i)) →
      (hs : ∀ (A : Around) (i : Nat) (s' : Shared) (Q : Value → Shared → Prop) (E : Value → Shared → Prop), s'.heap.IsStrIter s.heap.objs.size n x t i → Q (.ref s.heap.objs.size) s' → wpAny (model X.prog X.w) A (pyIter (.ref s.heap.objs.size)) Q E s') →
      (s.heap.push o).IsStrIter s.heap.objs.size n x t 0 → PIE X pins σ tg R (.ref s.heap.objs.size) { s with heap := s.heap.push o } := fun o n hn W hs st => by
    refine ⟨s.heap.objs.size, [s.heap.objs.size], _, _, H, rfl, I.kept (t' := s.toks) fun b o e => Heap.get?_push_of_some _ e, turn_str hn W hs, st, fun b hb => ?_, q⟩
    have e : b = s.heap.objs.size := by simpa using hb
    subst e
    exact I.fpOk (Nat.le_refl _) (I.hok.fresh (Nat.le_refl _))
  cases ha : x.cps.all (· < 128)
  · exact wpAny_pyIter_wide ha (fin _ _ (by decide) (fun A' hA => Walks.strWide hA _ x t) (fun _ _ _ _ _ st q => wpAny_pyIter_striter_wide st q) ⟨_, Heap.get?_push_size _ rfl, rfl, rfl⟩)
  · exact wpAny_pyIter_ascii ha (fin _ _ (by decide) (fun A' hA => Walks.strAscii hA _ x t) (fun _ _ _ _ _ st q => wpAny_pyIter_striter_ascii st q) ⟨_, Heap.get?_push_size _ rfl, rfl, rfl⟩)
def iSeq (K : PySem.W.Frag) (tl : TE) : TI := fun σ H R => tl σ H fun x H1 => (∃ a, x = .ref a ∧ (∃ xs, SqL K H1 a xs) ∧ R (Itl K a) H1) ∨ (∃ a, x = .ref a ∧ (∃ xs, SqT K H1 a xs) ∧ R (Itt K a) H1) ∨ (∃ z, x = .str z ∧ R (Its z) H1)
theorem pi_seq {l : Expr} {tl : TE} (hl : PE X l tl) : PI X tg l (iSeq X.K tl) := by
  intro pins s σ H R I h
  refine thn (hl pins s σ H _ I h) fun v s1 ⟨x, H1, I1, r1, q1⟩ => ?_
  rcases q1 with ⟨a, e, ⟨xs, hq⟩, q⟩ | ⟨a, e, ⟨xs, hq⟩, q⟩ | ⟨z, e, q⟩
  · subst e
    cases r1
    obtain ⟨its, rv, p, hz⟩ := I1.list hq
    refine wpAny_pyIter_list p.isList ?_
    refine ⟨s1.heap.objs.size, [s1.heap.objs.size], _, _, H1, rfl, I1.kept (t' := s1.toks) fun b o e => Heap.get?_push_of_some _ e, turn_list a _, ⟨_, Heap.get?_push_size _ rfl, rfl, rfl⟩, fun b hb => ?_, q⟩
    have e : b = s1.heap.objs.size := by simpa using hb
    subst e
    exact I1.fpOk (Nat.le_refl _) (I1.hok.fresh (Nat.le_refl _))
  · subst e
    cases r1
    obtain ⟨its, rv, p, hz⟩ := I1.tuple hq
    refine wpAny_pyIter_tuple (show s1.heap.IsTuple a its.toArray from p) ?_
    refine ⟨s1.heap.objs.size, [s1.heap.objs.size], _, _, H1, rfl, I1.kept (t' := s1.toks) fun b o e => Heap.get?_push_of_some _ e, turn_tuple a _, ⟨_, Heap.get?_push_size _ rfl, rfl, rfl⟩, fun b hb => ?_, q⟩
    have e : b = s1.heap.objs.size := by simpa using hb
    subst e
    exact I1.fpOk (Nat.le_refl _) (I1.hok.fresh (Nat.le_refl _))
  · subst e
    obtain ⟨t, rfl⟩ := r1
    exact str_it I1 q
end
def Ite (K : PySem.W.Frag) (a : Addr) : It :=
  ⟨fun i H => ∃ xs x, SqL K H a xs ∧ xs[i]? = some x, fun i H v H' => ∃ t, v = .ref t ∧ H t = none ∧ ∀ xs, SqL K H a xs → ∃ x, xs[i]? = some x ∧ H' = upd H t (.tup [.int i, x]), fun i H => ∃ xs, SqL K H a xs ∧ xs.length ≤ i⟩
def Itz (K : PySem.W.Frag) (a b : Addr) : It :=
  ⟨fun i H => ∃ xs ys x y, SqL K H a xs ∧ SqL K H b ys ∧ xs[i]? = some x ∧ ys[i]? = some y, fun i H v H' => ∃ t, v = .ref t ∧ H t = none ∧ ∀ xs ys, SqL K H a xs → SqL K H b ys → ∃ x y, xs[i]? = some x ∧ ys[i]? = some y ∧ H' = upd H t (.tup [x, y]),
    fun i H => ∃ xs ys, SqL K H a xs ∧ SqL K H b ys ∧ (xs.length ≤ i ∨ ys.length ≤ i)⟩
theorem upd_fp {H : Hp} {t : Addr} {o : HO} {fp : List Addr} (h : ∀ b ∈ fp, H b = none) (ht : ∀ b ∈ fp, b ≠ t) : ∀ b ∈ fp, upd H t o b = none := fun b hb => by rw [upd_ne (ht b hb)]; exact h b hb
theorem letGo_enum {prog : Program} {w : World} {A : Around} {E : Value → Shared → Prop} {s : Shared} {elts : List Expr} {x1} {pos : Pos} {e it T : Addr} {i : Int} {old : Value} {Q : Unit → Shared → Prop} (he : IsEnumOut s.heap e it i old T)
    (hQ : ∀ h', IsEnum h' e it i old → Heap.SameBut e s.heap h' → Q () { s with heap := h' }) :
    wpAny (model prog w) A (letOwnedTupleGo (.Tuple elts x1 pos) (.ref e) (.ref T)) Q E s := by
  unfold letOwnedTupleGo
  refine wpAny_bind (wpAny_load he ?_)
  show wpAny _ _ (if (["enumerate", "zip", "dict_itemiterator", "dict_reverseitemiterator", "odict_iterator", "itertools.zip_longest", "itertools.pairwise"].contains "enumerate" &&
      (#[rawInt T, .bool false, .ref it, rawInt i, .none, old] : Array Value)[0]? == some (rawInt T)) = true then _ else _) Q E s
  rw [if_pos (by simp)]
  refine wpAny_bind (wpAny_rule ?_)
  show wpAny _ _ (setField (.ref e) 0 .none) Q E s
  exact wpAny_setField_rec he (by simp) fun h' hz' hs' => hQ h' hz' hs'
theorem turn_enum {P : Program} {w : World} {K : PySem.W.Frag} {elts : List Expr} {x1} {pos : Pos} (a e it : Addr) (hne : e ≠ it) : Turn P w K (.Tuple elts x1 pos) (Ite K a) [e, it] e (fun i h => (∃ old, IsEnum h e it i old) ∧ h.IsListIter it a i) where
  mem := by simp
  obj := fun i h st b hb => by
    obtain ⟨⟨old, h1⟩, o, h2, c, d⟩ := st
    rcases List.mem_cons.mp hb with rfl | hb
    · exact ⟨_, h1, fun v z => by have z' : Data.fields _ = Data.cell v := z; cases z'⟩
    · have e : b = it := by simpa using hb
      subst e
      exact ⟨o, h2, fun v z => by rw [d] at z; cases z⟩
  keep := fun i h h' st k => by
    obtain ⟨⟨old, h1⟩, h2⟩ := st
    exact ⟨⟨old, k e (by simp) _ h1⟩, h2.at fun o q => k it (by simp) o q⟩
  item := by
    intro X hP hw hK hc i pins s σ H E I hf st hg
    subst hP hw hK
    obtain ⟨xs, x, hq, hx⟩ := hg
    obtain ⟨its, rv, p, hz⟩ := I.list hq
    obtain ⟨u, hu, ru⟩ := rv.get hx
    obtain ⟨⟨old, h1⟩, h2⟩ := st
    refine wpAny_pyNext_enum_item h1 h2 p.isList (x := u) (by simpa using hu) hne fun h' e1 e2 e3 e4 kk => ?_
    refine ⟨_, rfl, letGo_enum e1 fun h'' e5 sb => ?_⟩
    have hte : s.heap.objs.size ≠ e := Nat.ne_of_gt (Heap.lt_size h1)
    have hti : s.heap.objs.size ≠ it := by obtain ⟨o, q, _⟩ := h2; exact Nat.ne_of_gt (Heap.lt_size q)
    have hT : h''.get? s.heap.objs.size = some { cls := .type "tuple", data := .seq #[.int i s.toks, u] } := sb.extBut _ _ hte e3
    have hfree : H s.heap.objs.size = none := I.hok.fresh (Nat.le_refl _)
    have new : ObjOk X.prog X.w (upd H s.heap.objs.size (.tup [.int i, x])) h'' s.heap.objs.size (.tup [.int i, x]) := ⟨small2, [.int i s.toks, u], .cons ⟨_, rfl⟩ (.cons ru .nil), ⟨_, hT, rfl, _, rfl⟩⟩
    refine ⟨.ref s.heap.objs.size, upd H s.heap.objs.size (.tup [.int i, x]), I.turnedNew (fp := [e, it]) (fun b o hb q => sb.extBut b o (fun z => hb (by simp [z])) (kk b o (fun z => hb (by simp [z])) (fun z => hb (by simp [z])) q)) hf (Nat.le_refl _) new, rfl,
      ⟨_, rfl, hfree, fun ys hy => ⟨x, by rw [I.list_inj hy hq]; exact hx, rfl⟩⟩, ⟨⟨u, e5⟩, e2.extBut sb.extBut (Ne.symm hne)⟩, upd_fp (fun b hb => (hf b hb).1) fun b hb => ?_⟩
    rcases List.mem_cons.mp hb with rfl | hb
    · exact hte.symm
    · have z : b = it := by simpa using hb
      rw [z]; exact hti.symm
  done := by
    intro X hP hw hK hc i pins s σ H E I hf st hg
    subst hP hw hK
    obtain ⟨xs, hq, hx⟩ := hg
    obtain ⟨its, rv, p, hz⟩ := I.list hq
    obtain ⟨⟨old, h1⟩, h2⟩ := st
    have hl := rv.length
    exact wpAny_pyNext_enum_end (I.ok.hd hc) h1 h2 p.isList (by simp; omega) fun h' eb => ⟨rfl, I.turnedS (fp := [e, it]) (t' := s.toks) (fun b o hb q => eb b o (fun z => hb (by simp [z])) q) hf⟩
  self := fun _ _ _ _ _ st h => by
    obtain ⟨⟨old, h1⟩, _⟩ := st
    exact wpAny_pyIter_enum h1 h
end L2
set_option Elab.async false
set_option linter.all false
set_option maxRecDepth 100000
set_option maxHeartbeats 1000000
namespace L2
open PySem PySem.Spec PyProof.Rows
section
variable {X : Cx} {elts : List Expr} {x1 : Nat} {tpos : Pos}
def iEnum (K : PySem.W.Frag) (ta : TA) : TI := fun σ H R => ta σ H fun vs H1 => ∃ a xs, vs = [.ref a] ∧ RdL K H1 a xs ∧ R (Ite K a) H1
theorem pi_enum {a : Expr} {ta : TA} {p pos : Pos} (hg : Gl X "enumerate") (hm : X.mg "enumerate" = none) (ha : PA X [a] ta) (hs : starEach [a] X.env = [(false, eval a X.env)] := by rfl) : PI X (.Tuple elts x1 tpos) (.Call (.Name "enumerate" p) [a] [] pos) (iEnum X.K ta) := by
  intro pins s σ H R I h
  refine Call_ (ld_blt I hg hm boot_enumerate (PyProof.Rows.callWith_type1 (thn (ha pos pins s σ H _ I h) fun us s1 ⟨vs, H1, I1, r1, q1⟩ => ?_) hs rfl))
  obtain ⟨l, xs, e, hl, q⟩ := q1
  subst e
  obtain ⟨u, rfl, ru⟩ := vals1 r1
  cases ru
  obtain ⟨z, its, n, r, e⟩ := I1.rdl hl
  refine call_enumerate_1 e fun h' e1 e2 e3 kk => ?_
  refine wpAny_pyIter_enum e1 ?_
  have hne : s1.heap.objs.size + 1 ≠ s1.heap.objs.size := by omega
  refine ⟨s1.heap.objs.size + 1, [s1.heap.objs.size + 1, s1.heap.objs.size], _, _, H1, rfl, I1.kept (t' := s1.toks) kk, turn_enum l _ _ hne, ⟨⟨_, e1⟩, e2⟩, fun b hb => ?_, q⟩
  have hb' : s1.heap.objs.size ≤ b := by
    rcases List.mem_cons.mp hb with rfl | hb
    · exact Nat.le_succ _
    · have e : b = s1.heap.objs.size := by simpa using hb
      exact Nat.le_of_eq e.symm
  exact I1.fpOk hb' (I1.hok.fresh hb')
theorem turn_zip {P : Program} {w : World} {K : PySem.W.Frag} (a b z TI TO i1 i2 : Addr) (D1 : TI ≠ z ∧ TO ≠ z ∧ i1 ≠ z ∧ i2 ≠ z ∧ TI ≠ TO ∧ TI ≠ i1 ∧ TI ≠ i2 ∧ TO ≠ i1 ∧ TO ≠ i2 ∧ i1 ≠ i2) : Turn P w K (.Tuple elts x1 tpos) (Itz K a b) [z, TI, TO, i1, i2] z
    (fun i h => IsZip h z TI TO .none ∧ IsPair h TI (.ref i1) (.ref i2) ∧ (∃ a b, IsPair h TO a b) ∧ h.IsListIter i1 a i ∧ h.IsListIter i2 b i) where
  mem := by simp
  obj := fun i h st c hc => by
    obtain ⟨h1, h2, ⟨u, v, h3⟩, ⟨o1, g1, _, d1⟩, ⟨o2, g2, _, d2⟩⟩ := st
    simp only [List.mem_cons, List.not_mem_nil, or_false] at hc
    rcases hc with rfl | rfl | rfl | rfl | rfl
    · exact ⟨_, h1, fun v z => by have z' : Data.fields _ = Data.cell v := z; cases z'⟩
    · exact ⟨_, h2, fun v z => by have z' : Data.seq _ _ = Data.cell v := z; cases z'⟩
    · exact ⟨_, h3, fun v z => by have z' : Data.seq _ _ = Data.cell v := z; cases z'⟩
    · exact ⟨_, g1, fun v z => by rw [d1] at z; cases z⟩
    · exact ⟨_, g2, fun v z => by rw [d2] at z; cases z⟩
  keep := fun i h h' st k => by
    obtain ⟨h1, h2, ⟨u, v, h3⟩, h4, h5⟩ := st
    exact ⟨k z (by simp) _ h1, k TI (by simp) _ h2, ⟨u, v, k TO (by simp) _ h3⟩, h4.at fun o q => k i1 (by simp) o q, h5.at fun o q => k i2 (by simp) o q⟩
  item := by
    intro X hP hw hK hc i pins s σ H E I hf st hg
    subst hP hw hK
    obtain ⟨xs, ys, x, y, hq, hq2, hx, hy⟩ := hg
    obtain ⟨its, rv, p, hz⟩ := I.list hq
    obtain ⟨its2, rv2, p2, hz2⟩ := I.list hq2
    obtain ⟨u, hu, ru⟩ := rv.get hx
    obtain ⟨v, hv, rw2⟩ := rv2.get hy
    obtain ⟨h1, h2, ⟨c, d, h3⟩, h4, h5⟩ := st
    obtain ⟨d1, d2, d3, d4, d5, d6, d7, d8, d9, d10⟩ := D1
    have lne : ∀ {l : Addr} {its : List Value}, PlainL s.heap l its.toArray → l ≠ z ∧ l ≠ TO ∧ l ≠ i1 ∧ l ≠ i2 := fun {l its} pl => by
      obtain ⟨o, n, e, c1, _, dd⟩ := pl
      obtain ⟨o1, g1, c4, _⟩ := h4
      obtain ⟨o2, g2, c5, _⟩ := h5
      refine ⟨?_, ?_, ?_, ?_⟩
      · rintro rfl; rw [h1] at e; cases e; simp at c1
      · rintro rfl; rw [h3] at e; cases e; simp at c1
      · rintro rfl; rw [g1] at e; cases e; rw [c4] at c1; simp at c1
      · rintro rfl; rw [g2] at e; cases e; rw [c5] at c1; simp at c1
    obtain ⟨e1, e2, e3, e4⟩ := lne p
    obtain ⟨f1, f2, f3, f4⟩ := lne p2
    have D : ZipApart z TI TO i1 i2 a b := ⟨d1, d2, d3, d4, d5, d6, d7, d8, d9, d10, e1, e2, e3, e4, f1, f2, f3, f4⟩
    refine wpAny_pyNext_zip_item D h1 h2 h3 h4 h5 p.isList p2.isList (x := u) (y := v) (by simpa using hu) (by simpa using hv) fun h' a1 a2 a3 a4 a5 a6 kk => ?_
    refine ⟨_, rfl, wpAny_letOwnedTupleGo_zip a1 fun h'' b1 sb => ?_⟩
    have hTz : s.heap.objs.size ≠ z := Nat.ne_of_gt (Heap.lt_size h1)
    have hfree : H s.heap.objs.size = none := I.hok.fresh (Nat.le_refl _)
    have hT : h''.get? s.heap.objs.size = some { cls := .type "tuple", data := .seq #[u, v] } := sb.extBut _ _ hTz a5
    have new : ObjOk X.prog X.w (upd H s.heap.objs.size (.tup [x, y])) h'' s.heap.objs.size (.tup [x, y]) := ⟨small2, [u, v], .cons ru (.cons rw2 .nil), ⟨_, hT, rfl, _, rfl⟩⟩
    have lt : ∀ {c o}, s.heap.get? c = some o → c ≠ s.heap.objs.size := fun e => Nat.ne_of_lt (Heap.lt_size e)
    refine ⟨.ref s.heap.objs.size, upd H s.heap.objs.size (.tup [x, y]), I.turnedNew (fp := [z, TI, TO, i1, i2]) (t' := s.toks) (fun c o hc q => sb.extBut c o (fun e => hc (by simp [e])) (kk c o (fun e => hc (by simp [e])) (fun e => hc (by simp [e])) (fun e => hc (by simp [e])) (fun e => hc (by simp [e])) q)) hf (Nat.le_refl _) new, rfl,
      ⟨_, rfl, hfree, fun zs ws h6 h7 => ⟨x, y, by rw [I.list_inj h6 hq]; exact hx, by rw [I.list_inj h7 hq2]; exact hy, rfl⟩⟩,
      ⟨b1, sb.extBut _ _ d1 (kk _ _ d1 d5 d6 d7 h2), ⟨_, _, sb.extBut _ _ d2 a2⟩, a3.extBut sb.extBut d3, a4.extBut sb.extBut d4⟩, upd_fp (fun b hb => (hf b hb).1) fun c hc => ?_⟩
    simp only [List.mem_cons, List.not_mem_nil, or_false] at hc
    rcases hc with rfl | rfl | rfl | rfl | rfl
    · exact lt h1
    · exact lt h2
    · exact lt h3
    · obtain ⟨_, g, _⟩ := h4; exact lt g
    · obtain ⟨_, g, _⟩ := h5; exact lt g
  done := by
    intro X hP hw hK hc i pins s σ H E I hf st hg
    subst hP hw hK
    obtain ⟨xs, ys, hq, hq2, hx⟩ := hg
    obtain ⟨its, rv, p, hz⟩ := I.list hq
    obtain ⟨its2, rv2, p2, hz2⟩ := I.list hq2
    obtain ⟨h1, h2, ⟨c, d, h3⟩, h4, h5⟩ := st
    obtain ⟨d1, d2, d3, d4, d5, d6, d7, d8, d9, d10⟩ := D1
    have lne : ∀ {l : Addr} {its : List Value}, PlainL s.heap l its.toArray → l ≠ z ∧ l ≠ TO ∧ l ≠ i1 ∧ l ≠ i2 := fun {l its} pl => by
      obtain ⟨o, n, e, c1, _, dd⟩ := pl
      obtain ⟨o1, g1, c4, _⟩ := h4
      obtain ⟨o2, g2, c5, _⟩ := h5
      refine ⟨?_, ?_, ?_, ?_⟩
      · rintro rfl; rw [h1] at e; cases e; simp at c1
      · rintro rfl; rw [h3] at e; cases e; simp at c1
      · rintro rfl; rw [g1] at e; cases e; rw [c4] at c1; simp at c1
      · rintro rfl; rw [g2] at e; cases e; rw [c5] at c1; simp at c1
    obtain ⟨e1, e2, e3, e4⟩ := lne p
    obtain ⟨f1, f2, f3, f4⟩ := lne p2
    have D : ZipApart z TI TO i1 i2 a b := ⟨d1, d2, d3, d4, d5, d6, d7, d8, d9, d10, e1, e2, e3, e4, f1, f2, f3, f4⟩
    have l1 := rv.length
    have l2 := rv2.length
    have hend : its.toArray[i]? = none ∨ its2.toArray[i]? = none := by
      rcases hx with hx | hx
      · exact .inl (by simp; omega)
      · exact .inr (by simp; omega)
    exact wpAny_pyNext_zip_end (I.ok.hd hc) D h1 h2 h3 h4 h5 p.isList p2.isList hend fun h' kk => ⟨rfl, I.turnedS (fp := [z, TI, TO, i1, i2]) (t' := s.toks) (fun c o hc q => kk c o (fun e => hc (by simp [e])) (fun e => hc (by simp [e])) (fun e => hc (by simp [e])) (fun e => hc (by simp [e])) q) hf⟩
  self := fun _ _ _ _ _ st h => wpAny_pyIter_zip st.1 h
theorem zip_apart (n : Nat) : (n + 2 : Nat) ≠ n + 4 ∧ (n + 3 : Nat) ≠ n + 4 ∧ n ≠ n + 4 ∧ (n + 1 : Nat) ≠ n + 4 ∧ (n + 2 : Nat) ≠ n + 3 ∧ (n + 2 : Nat) ≠ n ∧ (n + 2 : Nat) ≠ n + 1 ∧ (n + 3 : Nat) ≠ n ∧ (n + 3 : Nat) ≠ n + 1 ∧ n ≠ n + 1 := by omega
end
end L2
set_option Elab.async false
set_option linter.all false
set_option maxRecDepth 100000
set_option maxHeartbeats 1000000
namespace L2
open PySem PySem.Spec PyProof.Rows
inductive D where
  | non | bl (b : Bool) | int (i : Int) | str (x : Str) | tup (ds : List D) | lst (ds : List D) | obj (cn : Str) (fs : List (Str × D)) | dic (kvs : List (Key × D)) | dit (kvs : List (List Key × D))
structure ClsAt (K : PySem.W.Frag) (cn : Str) (C : Addr) : Prop where
  at_ : PySem.W.nsIn K mainGlobals cn = some (some (.ref C))
  cls : Cls K C
def KeyIn (H : Hp) : List (List Key × V) → List Addr → Prop
  | [], [] => True
  | p :: ps, b :: bs => H b = some (.tup (p.1.map kV)) ∧ KeyIn H ps bs
  | _, _ => False
theorem KeyIn.mono {H H' : Hp} (e : Same H H') : ∀ {ps : List (List Key × V)} {bs : List Addr}, KeyIn H ps bs → KeyIn H' ps bs
  | [], [], h => h
  | p :: ps, b :: bs, h => ⟨e _ _ h.1, KeyIn.mono e h.2⟩
  | [], _ :: _, h => h.elim
  | _ :: _, [], h => h.elim
mutual
def Rep (K : PySem.W.Frag) (H : Hp) : V → D → Prop
  | v, .non => v = .non
  | v, .bl b => v = .bl b
  | v, .int i => v = .int i
  | v, .str x => v = .str x
  | v, .tup ds => ∃ a xs, v = .ref a ∧ SqT K H a xs ∧ Reps K H xs ds
  | v, .lst ds => ∃ a xs, v = .ref a ∧ RdL K H a xs ∧ Reps K H xs ds
  | v, .obj cn fs => ∃ a C dx gs, v = .ref a ∧ H a = some (.ins C dx gs) ∧ ClsAt K cn C ∧ (∀ p ∈ fs, NoAttr K C p.1) ∧ RepF K H gs fs
  | v, .dic kvs => ∃ a ks ep, v = .ref a ∧ H a = some (.dK ks ep) ∧ RepK K H ks kvs
  | v, .dit kvs => ∃ a ks bs, v = .ref a ∧ H a = some (.dT ks bs) ∧ KeyIn H ks bs ∧ RepT K H ks kvs
def Reps (K : PySem.W.Frag) (H : Hp) : List V → List D → Prop
  | [], [] => True
  | v :: vs, d :: ds => Rep K H v d ∧ Reps K H vs ds
  | _, _ => False
def RepF (K : PySem.W.Frag) (H : Hp) : List (Str × V) → List (Str × D) → Prop
  | [], [] => True
  | v :: vs, d :: ds => (v.1 = d.1 ∧ Rep K H v.2 d.2) ∧ RepF K H vs ds
  | _, _ => False
def RepK (K : PySem.W.Frag) (H : Hp) : List (Key × V) → List (Key × D) → Prop
  | [], [] => True
  | v :: vs, d :: ds => (v.1 = d.1 ∧ Rep K H v.2 d.2) ∧ RepK K H vs ds
  | _, _ => False
def RepT (K : PySem.W.Frag) (H : Hp) : List (List Key × V) → List (List Key × D) → Prop
  | [], [] => True
  | v :: vs, d :: ds => (v.1 = d.1 ∧ Rep K H v.2 d.2) ∧ RepT K H vs ds
  | _, _ => False
end
theorem Same.seqT {K : PySem.W.Frag} {H H' : Hp} {a : Addr} {xs : List V} (e : Same H H') (h : SqT K H a xs) : SqT K H' a xs := by
  rcases h with (h | ⟨o, h⟩) | h
  · exact .inl (.inl (e _ _ h))
  · exact .inl (.inr ⟨o, e _ _ h⟩)
  · exact .inr h
mutual
theorem Rep.mono {K : PySem.W.Frag} {H H' : Hp} (e : Same H H') : ∀ (v : V) (d : D), Rep K H v d → Rep K H' v d
  | v, .non, h => by simpa only [Rep] using h
  | v, .bl b, h => by simpa only [Rep] using h
  | v, .int i, h => by simpa only [Rep] using h
  | v, .str x, h => by simpa only [Rep] using h
  | v, .tup ds, h => by
    simp only [Rep] at h ⊢
    obtain ⟨a, xs, h1, h2, h3⟩ := h
    exact ⟨a, xs, h1, e.seqT h2, Reps.mono e xs ds h3⟩
  | v, .lst ds, h => by
    simp only [Rep] at h ⊢
    obtain ⟨a, xs, h1, h2, h3⟩ := h
    exact ⟨a, xs, h1, e.rdl h2, Reps.mono e xs ds h3⟩
  | v, .obj cn fs, h => by
    simp only [Rep] at h ⊢
    obtain ⟨a, C, dx, gs, h1, h2, h3, h4, h5⟩ := h
    exact ⟨a, C, dx, gs, h1, e _ _ h2, h3, h4, RepF.mono e gs fs h5⟩
  | v, .dic kvs, h => by
    simp only [Rep] at h ⊢
    obtain ⟨a, ks, ep, h1, h2, h3⟩ := h
    exact ⟨a, ks, ep, h1, e _ _ h2, RepK.mono e ks kvs h3⟩
  | v, .dit kvs, h => by
    simp only [Rep] at h ⊢
    obtain ⟨a, ks, bs, h1, h2, h3, h4⟩ := h
    exact ⟨a, ks, bs, h1, e _ _ h2, h3.mono e, RepT.mono e ks kvs h4⟩
theorem Reps.mono {K : PySem.W.Frag} {H H' : Hp} (e : Same H H') : ∀ (vs : List V) (ds : List D), Reps K H vs ds → Reps K H' vs ds
  | [], [], h => by simp only [Reps]
  | v :: vs, d :: ds, h => by
    simp only [Reps] at h ⊢
    exact ⟨Rep.mono e v d h.1, Reps.mono e vs ds h.2⟩
  | [], _ :: _, h => by simp only [Reps] at h
  | _ :: _, [], h => by simp only [Reps] at h
theorem RepF.mono {K : PySem.W.Frag} {H H' : Hp} (e : Same H H') : ∀ (vs : List (Str × V)) (ds : List (Str × D)), RepF K H vs ds → RepF K H' vs ds
  | [], [], h => by simp only [RepF]
  | (x, v) :: vs, (y, d) :: ds, h => by
    simp only [RepF] at h ⊢
    exact ⟨⟨h.1.1, Rep.mono e v d h.1.2⟩, RepF.mono e vs ds h.2⟩
  | [], _ :: _, h => by simp only [RepF] at h
  | _ :: _, [], h => by simp only [RepF] at h
theorem RepK.mono {K : PySem.W.Frag} {H H' : Hp} (e : Same H H') : ∀ (vs : List (Key × V)) (ds : List (Key × D)), RepK K H vs ds → RepK K H' vs ds
  | [], [], h => by simp only [RepK]
  | (x, v) :: vs, (y, d) :: ds, h => by
    simp only [RepK] at h ⊢
    exact ⟨⟨h.1.1, Rep.mono e v d h.1.2⟩, RepK.mono e vs ds h.2⟩
  | [], _ :: _, h => by simp only [RepK] at h
  | _ :: _, [], h => by simp only [RepK] at h
theorem RepT.mono {K : PySem.W.Frag} {H H' : Hp} (e : Same H H') : ∀ (vs : List (List Key × V)) (ds : List (List Key × D)), RepT K H vs ds → RepT K H' vs ds
  | [], [], h => by simp only [RepT]
  | (x, v) :: vs, (y, d) :: ds, h => by
    simp only [RepT] at h ⊢
    exact ⟨⟨h.1.1, Rep.mono e v d h.1.2⟩, RepT.mono e vs ds h.2⟩
  | [], _ :: _, h => by simp only [RepT] at h
  | _ :: _, [], h => by simp only [RepT] at h
end
section
variable {K : PySem.W.Frag} {H H' : Hp}
theorem Reps.length : ∀ {vs : List V} {ds : List D}, Reps K H vs ds → vs.length = ds.length
  | [], [], _ => rfl
  | v :: vs, d :: ds, h => by
    simp only [Reps] at h
    simp only [List.length_cons, Reps.length h.2]
  | [], _ :: _, h => by simp only [Reps] at h
  | _ :: _, [], h => by simp only [Reps] at h
theorem Reps.get : ∀ {vs : List V} {ds : List D} {i : Nat} {d : D}, Reps K H vs ds → ds[i]? = some d → ∃ v, vs[i]? = some v ∧ Rep K H v d
  | [], [], i, d, _, e => by simp at e
  | v :: vs, d' :: ds, 0, d, h, e => by
    simp only [Reps] at h
    simp only [List.getElem?_cons_zero, Option.some.injEq] at e
    subst e
    exact ⟨v, rfl, h.1⟩
  | v :: vs, d' :: ds, i + 1, d, h, e => by
    simp only [Reps] at h
    simp only [List.getElem?_cons_succ] at e ⊢
    exact Reps.get h.2 e
  | [], _ :: _, _, _, h, _ => by simp only [Reps] at h
  | _ :: _, [], _, _, h, _ => by simp only [Reps] at h
theorem Reps.getV : ∀ {vs : List V} {ds : List D} {i : Nat} {v : V}, Reps K H vs ds → vs[i]? = some v → ∃ d, ds[i]? = some d ∧ Rep K H v d
  | [], [], i, d, _, e => by simp at e
  | v' :: vs, d :: ds, 0, v, h, e => by
    simp only [Reps] at h
    simp only [List.getElem?_cons_zero, Option.some.injEq] at e
    subst e
    exact ⟨d, rfl, h.1⟩
  | v' :: vs, d :: ds, i + 1, v, h, e => by
    simp only [Reps] at h
    simp only [List.getElem?_cons_succ] at e ⊢
    exact Reps.getV h.2 e
  | [], _ :: _, _, _, h, _ => by simp only [Reps] at h
  | _ :: _, [], _, _, h, _ => by simp only [Reps] at h
theorem Reps.nil : Reps K H [] [] := by simp only [Reps]
theorem Reps.cons {v : V} {vs : List V} {d : D} {ds : List D} (h : Rep K H v d) (hs : Reps K H vs ds) : Reps K H (v :: vs) (d :: ds) := by simp only [Reps]; exact ⟨h, hs⟩
theorem Reps.append : ∀ {vs : List V} {ds : List D} {us : List V} {es : List D}, Reps K H vs ds → Reps K H us es → Reps K H (vs ++ us) (ds ++ es)
  | [], [], _, _, _, h => h
  | v :: vs, d :: ds, _, _, h, h' => by
    simp only [Reps] at h
    exact Reps.cons h.1 (Reps.append h.2 h')
  | [], _ :: _, _, _, h, _ => by simp only [Reps] at h
  | _ :: _, [], _, _, h, _ => by simp only [Reps] at h
theorem Reps.take : ∀ {vs : List V} {ds : List D} (n : Nat), Reps K H vs ds → Reps K H (vs.take n) (ds.take n)
  | _, _, 0, _ => Reps.nil
  | [], [], _ + 1, _ => Reps.nil
  | v :: vs, d :: ds, n + 1, h => by
    simp only [Reps] at h
    exact Reps.cons h.1 (Reps.take n h.2)
  | [], _ :: _, _ + 1, h => by simp only [Reps] at h
  | _ :: _, [], _ + 1, h => by simp only [Reps] at h
theorem Reps.drop : ∀ {vs : List V} {ds : List D} (n : Nat), Reps K H vs ds → Reps K H (vs.drop n) (ds.drop n)
  | _, _, 0, h => h
  | [], [], _ + 1, _ => Reps.nil
  | v :: vs, d :: ds, n + 1, h => by
    simp only [Reps] at h
    exact Reps.drop n h.2
  | [], _ :: _, _ + 1, h => by simp only [Reps] at h
  | _ :: _, [], _ + 1, h => by simp only [Reps] at h
theorem Reps.set : ∀ {vs : List V} {ds : List D} {v : V} {d : D} (n : Nat), Reps K H vs ds → Rep K H v d → Reps K H (vs.set n v) (ds.set n d)
  | [], [], _, _, _, _, _ => Reps.nil
  | v' :: vs, d' :: ds, v, d, 0, h, q => by
    simp only [Reps] at h
    exact Reps.cons q h.2
  | v' :: vs, d' :: ds, v, d, n + 1, h, q => by
    simp only [Reps] at h
    exact Reps.cons h.1 (Reps.set n h.2 q)
  | [], _ :: _, _, _, _, h, _ => by simp only [Reps] at h
  | _ :: _, [], _, _, _, h, _ => by simp only [Reps] at h
theorem Reps.reverse {vs : List V} {ds : List D} (h : Reps K H vs ds) : Reps K H vs.reverse ds.reverse := by
  induction vs generalizing ds with
  | nil =>
    cases ds with
    | nil => exact Reps.nil
    | cons => simp only [Reps] at h
  | cons v vs ih =>
    cases ds with
    | nil => simp only [Reps] at h
    | cons d ds =>
      simp only [Reps] at h
      rw [List.reverse_cons, List.reverse_cons]
      exact Reps.append (ih h.2) (Reps.cons h.1 Reps.nil)
end
structure Ext (G H G' H' : Hp) : Prop where
  g : Same G G'
  h : Same H H'
  s : Same G' H'
  n : ∀ p, G p = none → H p ≠ none → G' p = none
theorem Ext.refl {G H : Hp} (s : Same G H) : Ext G H G H := ⟨Same.refl _, Same.refl _, s, fun _ h _ => h⟩
theorem Ext.trans {G H G1 H1 G2 H2 : Hp} (a : Ext G H G1 H1) (b : Ext G1 H1 G2 H2) : Ext G H G2 H2 :=
  ⟨a.g.trans b.g, a.h.trans b.h, b.s, fun p h1 h2 => b.n p (a.n p h1 h2) fun z => h2 (a.h.free z)⟩
theorem same_upd {H : Hp} {p : Addr} {o : HO} (h : H p = none) : Same H (upd H p o) := fun b u e => by rw [upd_ne (ne_of_none e h)]; exact e
theorem same_upd2 {G H : Hp} {p : Addr} {o : HO} (s : Same G H) : Same (upd G p o) (upd H p o) := fun b u e => by
  by_cases hb : b = p
  · subst hb; rw [upd_same] at e ⊢; exact e
  · rw [upd_ne hb] at e ⊢; exact s b u e
theorem Ext.new {G H : Hp} {p : Addr} {o : HO} (s : Same G H) (h : H p = none) : Ext G H (upd G p o) (upd H p o) :=
  ⟨same_upd (s.free h), same_upd h, same_upd2 s, fun q h1 h2 => by rw [upd_ne (fun z => h2 (by rw [z]; exact h))]; exact h1⟩
theorem Ext.own {G H : Hp} {p : Addr} {o : HO} (s : Same G H) (h : H p = none) : Ext G H G (upd H p o) :=
  ⟨Same.refl _, same_upd h, s.trans (same_upd h), fun q h1 _ => h1⟩
inductive OV where
  | ll (dss : List (List D))
  | dc (kvs : List (Key × D))
  | dl (kvs : List (Key × List D))
  | tl (d : D) (ds : List D)
  | ld (ess : List (List (Key × D)))
  | dt (kvs : List (List Key × List D))
  | tp (ds : List D)
def OV.val : OV → D
  | .ll dss => .lst (dss.map .lst)
  | .dc kvs => .dic kvs
  | .dl kvs => .dic (kvs.map fun p => (p.1, .lst p.2))
  | .tl d ds => .tup [d, .lst ds]
  | .ld ess => .lst (ess.map .dic)
  | .dt kvs => .dit (kvs.map fun p => (p.1, .lst p.2))
  | .tp ds => .tup ds
inductive R where
  | fz (d : D)
  | ow (ds : List D)
  | ov (o : OV)
def R.val : R → D
  | .fz d => d
  | .ow ds => .lst ds
  | .ov o => o.val
inductive Sl where
  | un
  | fz (d : D)
  | ow (ds : List D)
  | ov (o : OV)
def R.sl : R → Sl
  | .fz d => .fz d
  | .ow ds => .ow ds
  | .ov o => .ov o
def RepL (K : PySem.W.Frag) (G H : Hp) : List Addr → List (List D) → Prop
  | [], [] => True
  | q :: qs, ds :: dss => (∃ xs, H q = some (.lst xs) ∧ Reps K G xs ds) ∧ RepL K G H qs dss
  | _, _ => False
theorem RepL.mono {K : PySem.W.Frag} {G H G' H' : Hp} (g : Same G G') : ∀ {qs : List Addr} {dss : List (List D)}, (∀ q ∈ qs, ∀ xs, H q = some (.lst xs) → H' q = some (.lst xs)) → RepL K G H qs dss → RepL K G' H' qs dss
  | [], [], _, _ => by simp only [RepL]
  | q :: qs, ds :: dss, hh, h => by
    simp only [RepL] at h ⊢
    obtain ⟨⟨xs, h1, h2⟩, h3⟩ := h
    exact ⟨⟨xs, hh q (by simp) xs h1, h2.mono g⟩, RepL.mono g (fun r hr => hh r (by simp [hr])) h3⟩
  | [], _ :: _, _, h => by simp only [RepL] at h
  | _ :: _, [], _, h => by simp only [RepL] at h
theorem RepL.here {K : PySem.W.Frag} {G H : Hp} : ∀ {qs : List Addr} {dss : List (List D)}, RepL K G H qs dss → ∀ q ∈ qs, H q ≠ none
  | [], [], _, q, hq => by cases hq
  | q :: qs, ds :: dss, h, r, hr => by
    simp only [RepL] at h
    obtain ⟨⟨xs, h1, h2⟩, h3⟩ := h
    rcases List.mem_cons.mp hr with rfl | hr
    · rw [h1]; exact nofun
    · exact RepL.here h3 r hr
  | [], _ :: _, h, _, _ => by simp only [RepL] at h
  | _ :: _, [], h, _, _ => by simp only [RepL] at h
theorem RepL.reps {K : PySem.W.Frag} {G H G' : Hp} (g : Same G G') : ∀ {qs : List Addr} {dss : List (List D)}, (∀ q ∈ qs, ∀ xs, H q = some (.lst xs) → G' q = some (.lst xs)) → RepL K G H qs dss → Reps K G' (qs.map V.ref) (dss.map D.lst)
  | [], [], _, _ => Reps.nil
  | q :: qs, ds :: dss, hh, h => by
    simp only [RepL] at h
    obtain ⟨⟨xs, h1, h2⟩, h3⟩ := h
    refine Reps.cons ?_ (RepL.reps g (fun r hr => hh r (by simp [hr])) h3)
    simp only [Rep]
    exact ⟨q, xs, rfl, RdL.of (hh q (by simp) xs h1), h2.mono g⟩
  | [], _ :: _, _, h => by simp only [RepL] at h
  | _ :: _, [], _, h => by simp only [RepL] at h
def RepE (K : PySem.W.Frag) (G H : Hp) : List Addr → List (List (Key × D)) → Prop
  | [], [] => True
  | q :: qs, ds :: dss => (∃ ks ep, H q = some (.dK ks ep) ∧ RepK K G ks ds) ∧ RepE K G H qs dss
  | _, _ => False
theorem RepE.mono {K : PySem.W.Frag} {G H G' H' : Hp} (g : Same G G') : ∀ {qs : List Addr} {dss : List (List (Key × D))}, (∀ q ∈ qs, ∀ u, H q = some u → H' q = some u) → RepE K G H qs dss → RepE K G' H' qs dss
  | [], [], _, _ => by simp only [RepE]
  | q :: qs, ds :: dss, hh, h => by
    simp only [RepE] at h ⊢
    obtain ⟨⟨ks, ep, h1, h2⟩, h3⟩ := h
    exact ⟨⟨ks, ep, hh q (by simp) _ h1, RepK.mono g _ _ h2⟩, RepE.mono g (fun r hr => hh r (by simp [hr])) h3⟩
  | [], _ :: _, _, h => by simp only [RepE] at h
  | _ :: _, [], _, h => by simp only [RepE] at h
theorem RepE.kind {K : PySem.W.Frag} {G H : Hp} : ∀ {qs : List Addr} {dss : List (List (Key × D))}, RepE K G H qs dss → ∀ q ∈ qs, ∃ ks ep, H q = some (.dK ks ep)
  | [], [], _, q, hq => by cases hq
  | q :: qs, ds :: dss, h, r, hr => by
    simp only [RepE] at h
    obtain ⟨⟨ks, ep, h1, h2⟩, h3⟩ := h
    rcases List.mem_cons.mp hr with rfl | hr
    · exact ⟨ks, ep, h1⟩
    · exact RepE.kind h3 r hr
  | [], _ :: _, h, _, _ => by simp only [RepE] at h
  | _ :: _, [], h, _, _ => by simp only [RepE] at h
theorem RepE.here {K : PySem.W.Frag} {G H : Hp} {qs : List Addr} {dss : List (List (Key × D))} (h : RepE K G H qs dss) : ∀ q ∈ qs, H q ≠ none := fun q hq => by
  obtain ⟨ks, ep, e⟩ := h.kind q hq
  rw [e]; exact nofun
theorem RepE.reps {K : PySem.W.Frag} {G H G' : Hp} (g : Same G G') : ∀ {qs : List Addr} {dss : List (List (Key × D))}, (∀ q ∈ qs, ∀ u, H q = some u → G' q = some u) → RepE K G H qs dss → Reps K G' (qs.map V.ref) (dss.map D.dic)
  | [], [], _, _ => Reps.nil
  | q :: qs, ds :: dss, hh, h => by
    simp only [RepE] at h
    obtain ⟨⟨ks, ep, h1, h2⟩, h3⟩ := h
    refine Reps.cons ?_ (RepE.reps g (fun r hr => hh r (by simp [hr])) h3)
    simp only [Rep]
    exact ⟨q, ks, ep, rfl, hh q (by simp) _ h1, RepK.mono g _ _ h2⟩
  | [], _ :: _, _, h => by simp only [RepE] at h
  | _ :: _, [], _, h => by simp only [RepE] at h
def Owns (K : PySem.W.Frag) (G H : Hp) (p : Addr) (fp : List Addr) : OV → Prop
  | .ll dss => H p = some (.lst (fp.map V.ref)) ∧ RepL K G H fp dss
  | .dc kvs => fp = [] ∧ ∃ ks ep, H p = some (.dK ks ep) ∧ RepK K G ks kvs
  | .dl kvs => ∃ ks ep, H p = some (.dK ks ep) ∧ ks.map (·.1) = kvs.map (·.1) ∧ ks.map (·.2) = fp.map V.ref ∧ RepL K G H fp (kvs.map (·.2))
  | .tl d ds => ∃ q v xs, fp = [q] ∧ H p = some (.tup [v, .ref q]) ∧ Rep K G v d ∧ H q = some (.lst xs) ∧ Reps K G xs ds
  | .ld ess => H p = some (.lst (fp.map V.ref)) ∧ RepE K G H fp ess
  | .dt kvs => ∃ ks bs, H p = some (.dT ks bs) ∧ KeyIn G ks bs ∧ ks.map (·.1) = kvs.map (·.1) ∧ ks.map (·.2) = fp.map V.ref ∧ RepL K G H fp (kvs.map (·.2))
  | .tp ds => fp = [] ∧ ∃ xs, H p = some (.tup xs) ∧ Reps K G xs ds
theorem Owns.here {K : PySem.W.Frag} {G H : Hp} {p : Addr} {fp : List Addr} {o : OV} (h : Owns K G H p fp o) : ∀ q ∈ p :: fp, H q ≠ none := by
  intro q hq
  cases o with
  | ll dss =>
    rcases List.mem_cons.mp hq with rfl | hq
    · rw [h.1]; exact nofun
    · exact h.2.here q hq
  | dc kvs =>
    obtain ⟨rfl, ks, ep, h1, _⟩ := h
    simp only [List.mem_singleton] at hq
    subst hq
    rw [h1]; exact nofun
  | dl kvs =>
    obtain ⟨ks, ep, h1, _, _, h4⟩ := h
    rcases List.mem_cons.mp hq with rfl | hq
    · rw [h1]; exact nofun
    · exact h4.here q hq
  | tl d ds =>
    obtain ⟨r, v, xs, rfl, h1, _, h2, _⟩ := h
    simp only [List.mem_cons, List.not_mem_nil, or_false] at hq
    rcases hq with rfl | rfl
    · rw [h1]; exact nofun
    · rw [h2]; exact nofun
  | ld ess =>
    rcases List.mem_cons.mp hq with rfl | hq
    · rw [h.1]; exact nofun
    · exact h.2.here q hq
  | dt kvs =>
    obtain ⟨ks, bs, h1, _, _, _, h4⟩ := h
    rcases List.mem_cons.mp hq with rfl | hq
    · rw [h1]; exact nofun
    · exact h4.here q hq
  | tp ds =>
    obtain ⟨rfl, xs, h1, _⟩ := h
    simp only [List.mem_singleton] at hq
    subst hq
    rw [h1]; exact nofun
theorem RepL.kind {K : PySem.W.Frag} {G H : Hp} : ∀ {qs : List Addr} {dss : List (List D)}, RepL K G H qs dss → ∀ q ∈ qs, ∃ xs, H q = some (.lst xs)
  | [], [], _, q, hq => by cases hq
  | q :: qs, ds :: dss, h, r, hr => by
    simp only [RepL] at h
    obtain ⟨⟨xs, h1, h2⟩, h3⟩ := h
    rcases List.mem_cons.mp hr with rfl | hr
    · exact ⟨xs, h1⟩
    · exact RepL.kind h3 r hr
  | [], _ :: _, h, _, _ => by simp only [RepL] at h
  | _ :: _, [], h, _, _ => by simp only [RepL] at h
theorem Owns.kind {K : PySem.W.Frag} {G H : Hp} {p : Addr} {fp : List Addr} {o : OV} (h : Owns K G H p fp o) : ∀ q ∈ p :: fp, ∀ C dx fs, H q ≠ some (.ins C dx fs) := by
  intro q hq C dx fs z
  cases o with
  | ll dss =>
    rcases List.mem_cons.mp hq with rfl | hq
    · rw [h.1] at z; cases z
    · obtain ⟨xs, e⟩ := h.2.kind q hq
      rw [e] at z; cases z
  | dc kvs =>
    obtain ⟨rfl, ks, ep, h1, _⟩ := h
    simp only [List.mem_singleton] at hq
    subst hq
    rw [h1] at z; cases z
  | dl kvs =>
    obtain ⟨ks, ep, h1, _, _, h4⟩ := h
    rcases List.mem_cons.mp hq with rfl | hq
    · rw [h1] at z; cases z
    · obtain ⟨xs, e⟩ := h4.kind q hq
      rw [e] at z; cases z
  | tl d ds =>
    obtain ⟨r, v, xs, rfl, h1, _, h2, _⟩ := h
    simp only [List.mem_cons, List.not_mem_nil, or_false] at hq
    rcases hq with rfl | rfl
    · rw [h1] at z; cases z
    · rw [h2] at z; cases z
  | ld ess =>
    rcases List.mem_cons.mp hq with rfl | hq
    · rw [h.1] at z; cases z
    · obtain ⟨ks, ep, e⟩ := h.2.kind q hq
      rw [e] at z; cases z
  | dt kvs =>
    obtain ⟨ks, bs, h1, _, _, _, h4⟩ := h
    rcases List.mem_cons.mp hq with rfl | hq
    · rw [h1] at z; cases z
    · obtain ⟨xs, e⟩ := h4.kind q hq
      rw [e] at z; cases z
  | tp ds =>
    obtain ⟨rfl, xs, h1, _⟩ := h
    simp only [List.mem_singleton] at hq
    subst hq
    rw [h1] at z; cases z
theorem Owns.mono {K : PySem.W.Frag} {G H G' H' : Hp} {p : Addr} {fp : List Addr} {o : OV} (g : Same G G') (hh : ∀ q ∈ p :: fp, ∀ u, H q = some u → H' q = some u) (h : Owns K G H p fp o) : Owns K G' H' p fp o := by
  cases o with
  | ll dss => exact ⟨hh p (by simp) _ h.1, h.2.mono g fun q hq xs => hh q (by simp [hq]) _⟩
  | dc kvs =>
    obtain ⟨rfl, ks, ep, h1, h2⟩ := h
    exact ⟨rfl, ks, ep, hh p (by simp) _ h1, RepK.mono g _ _ h2⟩
  | dl kvs =>
    obtain ⟨ks, ep, h1, h2, h3, h4⟩ := h
    exact ⟨ks, ep, hh p (by simp) _ h1, h2, h3, h4.mono g fun q hq xs => hh q (by simp [hq]) _⟩
  | tl d ds =>
    obtain ⟨r, v, xs, rfl, h1, h2, h3, h4⟩ := h
    exact ⟨r, v, xs, rfl, hh p (by simp) _ h1, h2.mono g, hh r (by simp) _ h3, h4.mono g⟩
  | ld ess => exact ⟨hh p (by simp) _ h.1, h.2.mono g fun q hq => hh q (by simp [hq])⟩
  | dt kvs =>
    obtain ⟨ks, bs, h1, hk, h2, h3, h4⟩ := h
    exact ⟨ks, bs, hh p (by simp) _ h1, hk.mono g, h2, h3, h4.mono g fun q hq xs => hh q (by simp [hq]) _⟩
  | tp ds =>
    obtain ⟨rfl, xs, h1, h2⟩ := h
    exact ⟨rfl, xs, hh p (by simp) _ h1, h2.mono g⟩
theorem RepK.of_lists {K : PySem.W.Frag} {G : Hp} : ∀ {ks : List (Key × V)} {kvs : List (Key × List D)} {fp : List Addr}, ks.map (·.1) = kvs.map (·.1) → ks.map (·.2) = fp.map V.ref → Reps K G (fp.map V.ref) ((kvs.map (·.2)).map D.lst) → RepK K G ks (kvs.map fun p => (p.1, .lst p.2))
  | [], [], _, _, _, _ => by simp only [List.map_nil, RepK]
  | a :: ks, b :: kvs, fp, h1, h2, h3 => by
    simp only [List.map_cons, List.cons.injEq] at h1
    cases fp with
    | nil => simp at h2
    | cons q fp =>
      simp only [List.map_cons, List.cons.injEq] at h2
      simp only [List.map_cons, Reps] at h3
      simp only [List.map_cons, RepK]
      exact ⟨⟨h1.1, by rw [h2.1]; exact h3.1⟩, RepK.of_lists h1.2 h2.2 h3.2⟩
  | [], _ :: _, _, h, _, _ => by simp at h
  | _ :: _, [], _, h, _, _ => by simp at h
theorem RepT.of_lists {K : PySem.W.Frag} {G : Hp} : ∀ {ks : List (List Key × V)} {kvs : List (List Key × List D)} {fp : List Addr}, ks.map (·.1) = kvs.map (·.1) → ks.map (·.2) = fp.map V.ref → Reps K G (fp.map V.ref) ((kvs.map (·.2)).map D.lst) → RepT K G ks (kvs.map fun p => (p.1, .lst p.2))
  | [], [], _, _, _, _ => by simp only [List.map_nil, RepT]
  | a :: ks, b :: kvs, fp, h1, h2, h3 => by
    simp only [List.map_cons, List.cons.injEq] at h1
    cases fp with
    | nil => simp at h2
    | cons q fp =>
      simp only [List.map_cons, List.cons.injEq] at h2
      simp only [List.map_cons, Reps] at h3
      simp only [List.map_cons, RepT]
      exact ⟨⟨h1.1, by rw [h2.1]; exact h3.1⟩, RepT.of_lists h1.2 h2.2 h3.2⟩
  | [], _ :: _, _, h, _, _ => by simp at h
  | _ :: _, [], _, h, _, _ => by simp at h
def plus (G H : Hp) (l : List Addr) : Hp := fun a => if a ∈ l then H a else G a
theorem plus_in {G H : Hp} {l : List Addr} {a : Addr} (h : a ∈ l) : plus G H l a = H a := if_pos h
theorem plus_out {G H : Hp} {l : List Addr} {a : Addr} (h : a ∉ l) : plus G H l a = G a := if_neg h
theorem plus_same {G H : Hp} {l : List Addr} (h : ∀ q ∈ l, G q = none) : Same G (plus G H l) := fun b u e => by
  rw [plus_out (fun z => by rw [h b z] at e; cases e)]; exact e
theorem Owns.freeze {K : PySem.W.Frag} {G H : Hp} {p : Addr} {fp : List Addr} {o : OV} (h : Owns K G H p fp o) (hn : ∀ q ∈ p :: fp, G q = none) : Rep K (plus G H (p :: fp)) (.ref p) o.val := by
  have hs := plus_same (H := H) hn
  have hp : plus G H (p :: fp) p = H p := plus_in (by simp)
  cases o with
  | ll dss =>
    simp only [OV.val, Rep]
    exact ⟨p, _, rfl, RdL.of (by rw [hp]; exact h.1), h.2.reps hs fun q hq xs e => by rw [plus_in (by simp [hq])]; exact e⟩
  | dc kvs =>
    obtain ⟨rfl, ks, ep, h1, h2⟩ := h
    simp only [OV.val, Rep]
    exact ⟨p, ks, ep, rfl, by rw [hp]; exact h1, RepK.mono hs _ _ h2⟩
  | dl kvs =>
    obtain ⟨ks, ep, h1, h2, h3, h4⟩ := h
    simp only [OV.val, Rep]
    exact ⟨p, ks, ep, rfl, by rw [hp]; exact h1, RepK.of_lists h2 h3 (h4.reps hs fun q hq xs e => by rw [plus_in (by simp [hq])]; exact e)⟩
  | tl d ds =>
    obtain ⟨r, v, xs, rfl, h1, h2, h3, h4⟩ := h
    simp only [OV.val, Rep]
    refine ⟨p, _, rfl, SqT.of (by rw [hp]; exact h1), Reps.cons (h2.mono hs) (Reps.cons ?_ Reps.nil)⟩
    simp only [Rep]
    exact ⟨r, xs, rfl, RdL.of (by rw [plus_in (by simp)]; exact h3), h4.mono hs⟩
  | dt kvs =>
    obtain ⟨ks, bs, h1, hk, h2, h3, h4⟩ := h
    simp only [OV.val, Rep]
    exact ⟨p, ks, bs, rfl, by rw [hp]; exact h1, hk.mono hs, RepT.of_lists h2 h3 (h4.reps hs fun q hq xs e => by rw [plus_in (by simp [hq])]; exact e)⟩
  | tp ds =>
    obtain ⟨rfl, xs, h1, h2⟩ := h
    simp only [OV.val, Rep]
    exact ⟨p, xs, rfl, SqT.of (by rw [hp]; exact h1), h2.mono hs⟩
  | ld ess =>
    simp only [OV.val, Rep]
    exact ⟨p, _, rfl, RdL.of (by rw [hp]; exact h.1), h.2.reps hs fun q hq u e => by rw [plus_in (by simp [hq])]; exact e⟩
abbrev Ev := List Sl
def gt : Ev → Nat → Sl
  | [], _ => .un
  | a :: _, 0 => a
  | _ :: r, n + 1 => gt r n
theorem gt_set {ρ : Ev} {i j : Nat} {s : Sl} : gt (ρ.set i s) j = if i = j ∧ j < ρ.length then s else gt ρ j := by
  induction ρ generalizing i j with
  | nil => simp [gt]
  | cons a r ih =>
    cases i with
    | zero =>
      cases j with
      | zero => simp [gt]
      | succ j => simp [gt]
    | succ i =>
      cases j with
      | zero => simp [gt]
      | succ j => simp [gt, ih]
def RepR (K : PySem.W.Frag) (G' H' H : Hp) (v : V) : R → Prop
  | .fz d => Rep K G' v d
  | .ow ds => ∃ p xs, v = .ref p ∧ H p = none ∧ G' p = none ∧ H' p = some (.lst xs) ∧ Reps K G' xs ds
  | .ov o => ∃ p fp, v = .ref p ∧ (p :: fp).Nodup ∧ Owns K G' H' p fp o ∧ ∀ q ∈ p :: fp, H q = none ∧ G' q = none
structure EOk (K : PySem.W.Frag) (G0 H0 : Hp) (ρ : Ev) (σ : St) (G H : Hp) : Prop where
  e : Ext G0 H0 G H
  len : σ.length = ρ.length
  fz : ∀ i d, gt ρ i = .fz d → ∃ v, σ[i]? = some (some v) ∧ Rep K G v d
  ow : ∀ i ds, gt ρ i = .ow ds → ∃ p xs, σ[i]? = some (some (.ref p)) ∧ H p = some (.lst xs) ∧ G p = none ∧ H0 p = none ∧ Reps K G xs ds
  dj : ∀ i j ds es, i ≠ j → gt ρ i = .ow ds → gt ρ j = .ow es → σ[i]? ≠ σ[j]?
  on : ∃ own : Addr → Option Nat, (∀ i ds p, gt ρ i = .ow ds → σ[i]? = some (some (.ref p)) → own p = some i) ∧ ∀ i o, gt ρ i = .ov o → ∃ p fp, σ[i]? = some (some (.ref p)) ∧ (p :: fp).Nodup ∧ Owns K G H p fp o ∧ ∀ q ∈ p :: fp, G q = none ∧ H0 q = none ∧ own q = some i
section
variable {K : PySem.W.Frag} {G0 H0 G H G' H' G2 H2 : Hp} {ρ : Ev} {σ : St} {v : V}
theorem EOk.ext (E : EOk K G0 H0 ρ σ G H) (x : Ext G H G' H') : EOk K G0 H0 ρ σ G' H' where
  e := E.e.trans x
  len := E.len
  fz := fun i d h => let ⟨v, h1, h2⟩ := E.fz i d h; ⟨v, h1, h2.mono x.g⟩
  ow := fun i ds h => let ⟨p, xs, h1, h2, h3, h4, h5⟩ := E.ow i ds h; ⟨p, xs, h1, x.h _ _ h2, x.n p h3 (by rw [h2]; exact nofun), h4, h5.mono x.g⟩
  dj := E.dj
  on := by
    obtain ⟨own, h1, h2⟩ := E.on
    refine ⟨own, h1, fun i o h => ?_⟩
    obtain ⟨p, fp, b1, b2, b3, b4⟩ := h2 i o h
    exact ⟨p, fp, b1, b2, b3.mono x.g fun q _ u e => x.h q u e, fun q hq => ⟨x.n q (b4 q hq).1 (b3.here q hq), (b4 q hq).2⟩⟩
theorem RepR.freeze {r : R} (x : Ext G H G' H') (h : RepR K G' H' H v r) : ∃ G2, Ext G H G2 H' ∧ Rep K G2 v r.val ∧ Same G' G2 := by
  cases r with
  | fz d => exact ⟨G', x, h, Same.refl _⟩
  | ow ds =>
    obtain ⟨p, xs, h1, h2, h3, h4, h5⟩ := h
    refine ⟨upd G' p (.lst xs), ⟨x.g.trans (same_upd h3), x.h, fun b o e => ?_, fun q hq1 hq2 => ?_⟩, ?_, same_upd h3⟩
    · by_cases hb : b = p
      · subst hb; rw [upd_same] at e; rw [h4]; exact e
      · rw [upd_ne hb] at e; exact x.s b o e
    · rw [upd_ne (fun z => hq2 (by rw [z]; exact h2))]; exact x.n q hq1 hq2
    · show Rep K (upd G' p (.lst xs)) v (.lst ds)
      simp only [Rep]
      exact ⟨p, xs, h1, RdL.of upd_same, h5.mono (same_upd h3)⟩
  | ov o =>
    obtain ⟨p, fp, rfl, h1, h2, h3⟩ := h
    have hn : ∀ q ∈ p :: fp, G' q = none := fun q hq => (h3 q hq).2
    refine ⟨plus G' H' (p :: fp), ⟨x.g.trans (plus_same hn), x.h, fun b u e => ?_, fun q hq1 hq2 => ?_⟩, h2.freeze hn, plus_same hn⟩
    · by_cases hb : b ∈ p :: fp
      · rw [plus_in hb] at e; exact e
      · rw [plus_out hb] at e; exact x.s b u e
    · rw [plus_out (fun z => hq2 (h3 q z).1)]; exact x.n q hq1 hq2
theorem RepR.ext {r : R} {H1 : Hp} (x : Ext G' H' G2 H2) (h : RepR K G' H' H1 v r) : RepR K G2 H2 H1 v r := by
  cases r with
  | fz d => exact Rep.mono x.g v d h
  | ow ds =>
    obtain ⟨p, xs, h1, h2, h3, h4, h5⟩ := h
    exact ⟨p, xs, h1, h2, x.n p h3 (by rw [h4]; exact nofun), x.h _ _ h4, h5.mono x.g⟩
  | ov o =>
    obtain ⟨p, fp, rfl, h1, h2, h3⟩ := h
    exact ⟨p, fp, rfl, h1, h2.mono x.g fun q _ u e => x.h q u e, fun q hq => ⟨(h3 q hq).1, x.n q (h3 q hq).2 (h2.here q hq)⟩⟩
theorem RepR.older {r : R} {H1 H3 : Hp} (s : Same H3 H1) (h : RepR K G' H' H1 v r) : RepR K G' H' H3 v r := by
  cases r with
  | fz d => exact h
  | ow ds =>
    obtain ⟨p, xs, h1, h2, h3, h4, h5⟩ := h
    exact ⟨p, xs, h1, s.free h2, h3, h4, h5⟩
  | ov o =>
    obtain ⟨p, fp, rfl, h1, h2, h3⟩ := h
    exact ⟨p, fp, rfl, h1, h2, fun q hq => ⟨s.free (h3 q hq).1, (h3 q hq).2⟩⟩
end
abbrev TD := Ev → (R → Prop) → Prop
abbrev TDb := Ev → (Bool → Prop) → Prop
abbrev TDa := Ev → (List D → Prop) → Prop
structure DE where
  nx : Ev → Prop
  rt : R → Prop
  bk : Ev → Prop := fun _ => False
  ct : Ev → Prop := fun _ => False
abbrev TX := DE → Ev → Prop
def PD (X : Cx) (e : Expr) (t : TD) : Prop := ∃ tt, PE X e tt ∧ ∀ (ρ : Ev) (σ : St) (G0 H0 G H : Hp) (Q : R → Prop) (P : VK), EOk X.K G0 H0 ρ σ G H → t ρ Q →
  (∀ v H' r G', Ext G H G' H' → RepR X.K G' H' H v r → Q r → P v H') → tt σ H P
def PB (X : Cx) (e : Expr) (t : TDb) : Prop := ∃ tt, PT X e tt ∧ ∀ (ρ : Ev) (σ : St) (G0 H0 G H : Hp) (Q : Bool → Prop) (P : Bool → Hp → Prop), EOk X.K G0 H0 ρ σ G H → t ρ Q →
  (∀ b H' G', Ext G H G' H' → Q b → P b H') → tt σ H P
def PDa (X : Cx) (es : List Expr) (t : TDa) : Prop := ∃ tt, PA X es tt ∧ ∀ (ρ : Ev) (σ : St) (G0 H0 G H : Hp) (Q : List D → Prop) (P : List V → Hp → Prop), EOk X.K G0 H0 ρ σ G H → t ρ Q →
  (∀ vs H' ds G', Ext G H G' H' → Reps X.K G' vs ds → Q ds → P vs H') → tt σ H P
structure Goes (K : PySem.W.Frag) (G0 H0 G : Hp) (D : DE) (E : Ends) : Prop where
  nx : ∀ ρ σ G' H', Same G G' → EOk K G0 H0 ρ σ G' H' → D.nx ρ → E.nx σ H'
  rt : ∀ v H' r G', Ext G0 H0 G' H' → RepR K G' H' H0 v r → D.rt r → E.rt v H'
  bk : ∀ ρ σ G' H', Same G G' → EOk K G0 H0 ρ σ G' H' → D.bk ρ → E.bk σ H'
  ct : ∀ ρ σ G' H', Same G G' → EOk K G0 H0 ρ σ G' H' → D.ct ρ → E.ct σ H'
theorem Goes.shift {K : PySem.W.Frag} {G0 H0 G G' : Hp} {D : DE} {E : Ends} (g : Goes K G0 H0 G D E) (s : Same G G') : Goes K G0 H0 G' D E :=
  ⟨fun ρ σ G2 H2 s2 => g.nx ρ σ G2 H2 (s.trans s2), g.rt, fun ρ σ G2 H2 s2 => g.bk ρ σ G2 H2 (s.trans s2), fun ρ σ G2 H2 s2 => g.ct ρ σ G2 H2 (s.trans s2)⟩
def PX (X : Cx) (st : Stmt) (t : TX) : Prop := ∃ tt, PS X st tt ∧ ∀ (ρ : Ev) (σ : St) (G0 H0 G H : Hp) (D : DE) (E : Ends), EOk X.K G0 H0 ρ σ G H → t D ρ → Goes X.K G0 H0 G D E → tt E σ H
def PXs (X : Cx) (st : List Stmt) (t : TX) : Prop := ∃ tt, PSs X st tt ∧ ∀ (ρ : Ev) (σ : St) (G0 H0 G H : Hp) (D : DE) (E : Ends), EOk X.K G0 H0 ρ σ G H → t D ρ → Goes X.K G0 H0 G D E → tt E σ H
end L2
set_option Elab.async false
set_option linter.all false
set_option maxRecDepth 100000
set_option maxHeartbeats 1000000
namespace L2
open PySem PySem.Spec PyProof.Rows
section
variable {X : Cx} {pos : Pos} {a b c : Expr} {ta tb tc : TD}
theorem fzR {K : PySem.W.Frag} {G' H' H : Hp} {v : V} {d : D} (h : Rep K G' v d) : RepR K G' H' H v (.fz d) := h
def dVar (i : Nat) : TD := fun ρ Q => match gt ρ i with
  | .fz d => Q (.fz d)
  | _ => False
theorem pd_var (i : Nat) {x : Str} (hN : X.N[i]? = some x := by rfl) (hv : Vis X.env.scope x := by first | exact Or.inl rfl | exact Or.inr (Or.inl rfl) | exact Or.inr (Or.inr rfl)) (hd : (x == ("__debug__" : Str)) = false := by decide)
    (hcd : (x == ("__classdict__" : Str)) = false := by decide) : PD X (.Name x pos) (dVar i) := by
  refine ⟨_, pe_var hN hv hd hcd, fun ρ σ G0 H0 G H Q P E h k => ?_⟩
  unfold dVar at h
  split at h
  · rename_i d e
    obtain ⟨v, h1, h2⟩ := E.fz i d e
    exact ⟨v, h1, k v H (.fz d) G (.refl E.e.s) h2 h⟩
  · exact h.elim
def dC (d : D) : TD := fun _ Q => Q (.fz d)
theorem pd_const {e : Expr} {v : V} {d : D} (h : PE X e (tC v)) (r : ∀ K G, Rep K G v d) : PD X e (dC d) :=
  ⟨_, h, fun ρ σ G0 H0 G H Q P E h k => k v H (.fz d) G (.refl E.e.s) (r _ _) h⟩
theorem rep_int (K : PySem.W.Frag) (G : Hp) (i : Int) : Rep K G (.int i) (.int i) := by simp only [Rep]
theorem rep_bl (K : PySem.W.Frag) (G : Hp) (i : Bool) : Rep K G (.bl i) (.bl i) := by simp only [Rep]
theorem rep_str (K : PySem.W.Frag) (G : Hp) (i : Str) : Rep K G (.str i) (.str i) := by simp only [Rep]
theorem rep_non (K : PySem.W.Frag) (G : Hp) : Rep K G .non .non := by simp only [Rep]
theorem pd_int {i j} : PD X (.Constant (.int i) j pos) (dC (.int i)) := pd_const pe_int fun K G => rep_int K G i
theorem pd_bl {i j} : PD X (.Constant (.bool i) j pos) (dC (.bl i)) := pd_const pe_bl fun K G => rep_bl K G i
theorem pd_str {i j} : PD X (.Constant (.str i) j pos) (dC (.str i)) := pd_const pe_str fun K G => rep_str K G i
theorem pd_non {j} : PD X (.Constant .none j pos) (dC .non) := pd_const pe_non fun K G => rep_non K G
abbrev O2 := D → D → (R → Prop) → Prop
def OpP (X : Cx) (f : Value → Value → Sem Value) (o : O2) : Prop := ∃ r : R2, OpR X f r ∧ ∀ (G H : Hp) (x y : V) (d e : D) (Q : R → Prop) (P : VK), Same G H → Rep X.K G x d → Rep X.K G y e → o d e Q →
  (∀ v H' r' G', Ext G H G' H' → RepR X.K G' H' H v r' → Q r' → P v H') → r x y H P
def dOp (o : O2) (ta tb : TD) : TD := fun ρ Q => ta ρ fun ra => tb ρ fun rb => o ra.val rb.val Q
theorem op_run {r : R2} {o : O2} {tta ttb : TE}
    (hr : ∀ (G H : Hp) (x y : V) (d e : D) (Q : R → Prop) (P : VK), Same G H → Rep X.K G x d → Rep X.K G y e → o d e Q → (∀ v H' r' G', Ext G H G' H' → RepR X.K G' H' H v r' → Q r' → P v H') → r x y H P)
    (ha : ∀ (ρ : Ev) (σ : St) (G0 H0 G H : Hp) (Q : R → Prop) (P : VK), EOk X.K G0 H0 ρ σ G H → ta ρ Q → (∀ v H' r G', Ext G H G' H' → RepR X.K G' H' H v r → Q r → P v H') → tta σ H P)
    (hb : ∀ (ρ : Ev) (σ : St) (G0 H0 G H : Hp) (Q : R → Prop) (P : VK), EOk X.K G0 H0 ρ σ G H → tb ρ Q → (∀ v H' r G', Ext G H G' H' → RepR X.K G' H' H v r → Q r → P v H') → ttb σ H P)
    (ρ : Ev) (σ : St) (G0 H0 G H : Hp) (Q : R → Prop) (P : VK) (E : EOk X.K G0 H0 ρ σ G H) (h : dOp o ta tb ρ Q) (k : ∀ v H' r G', Ext G H G' H' → RepR X.K G' H' H v r → Q r → P v H') : tOp r tta ttb σ H P := by
  refine ha ρ σ G0 H0 G H _ _ E h fun v H1 ra G1 x1 r1 h1 => ?_
  obtain ⟨G1', x1', q1, _⟩ := r1.freeze x1
  refine hb ρ σ G0 H0 G1' H1 _ _ (E.ext x1') h1 fun u H2 rb G2 x2 r2 h2 => ?_
  obtain ⟨G2', x2', q2, _⟩ := r2.freeze x2
  refine hr G2' H2 v u _ _ Q P x2'.s (q1.mono x2'.g) q2 h2 fun v' H' r' G' x3 r3 h3 => ?_
  have x4 := (x1'.trans x2').trans x3
  exact k v' H' r' G' x4 (r3.older (x1'.trans x2').h) h3
theorem pd_op {op : Operator} {o : O2} (ho : OpP X (binaryOp op) o) (ha : PD X a ta) (hb : PD X b tb) : PD X (.BinOp a op b pos) (dOp o ta tb) := by
  obtain ⟨r, hr, hr'⟩ := ho
  obtain ⟨tta, pa, qa⟩ := ha
  obtain ⟨ttb, pb, qb⟩ := hb
  exact ⟨_, pe_op hr pa pb, op_run hr' qa qb⟩
theorem pd_cmp {op : CmpOp} {o : O2} (ho : OpP X (compareOp op) o) (ha : PD X a ta) (hb : PD X b tb) (hm : behindInMarks op b = false := by first | exact nomark _ | rfl) : PD X (.Compare a [op] [b] pos) (dOp o ta tb) := by
  obtain ⟨r, hr, hr'⟩ := ho
  obtain ⟨tta, pa, qa⟩ := ha
  obtain ⟨ttb, pb, qb⟩ := hb
  exact ⟨_, pe_cmpR hr pa pb hm, op_run hr' qa qb⟩
def dTst (t : TD) : TDb := fun ρ Q => t ρ fun r => match r with
  | .fz (.bl k) => Q k
  | _ => False
theorem pb_cmp {op : CmpOp} {o : O2} (ho : OpP X (compareOp op) o) (ha : PD X a ta) (hb : PD X b tb) (hm : behindInMarks op b = false := by first | exact nomark _ | rfl) : PB X (.Compare a [op] [b] pos) (dTst (dOp o ta tb)) := by
  obtain ⟨r, hr, hr'⟩ := ho
  obtain ⟨tta, pa, qa⟩ := ha
  obtain ⟨ttb, pb, qb⟩ := hb
  refine ⟨_, pt_cmpR hr pa pb hm, fun ρ σ G0 H0 G H Q P E h k => ?_⟩
  refine op_run hr' qa qb ρ σ G0 H0 G H _ _ E h fun v H' r G' x1 r1 h1 => ?_
  split at h1
  · rename_i kk
    have e : v = .bl kk := by simpa only [RepR, Rep] using r1
    exact ⟨kk, e, k kk H' G' x1 h1⟩
  · exact h1.elim
theorem pb_val {e : Expr} {t : TD} (h : PD X e t) (he : ∀ whole, isTrue e X.env whole = (do let v ← whole; standAt e.pos; holding [v] (truthy v)) := by intro _; rfl) : PB X e (dTst t) := by
  obtain ⟨tt, p, q⟩ := h
  refine ⟨_, pt_val p he, fun ρ σ G0 H0 G H Q P E h k => ?_⟩
  refine q ρ σ G0 H0 G H _ _ E h fun v H' r G' x1 r1 h1 => ?_
  split at h1
  · rename_i kk
    have e : v = .bl kk := by simpa only [RepR, Rep] using r1
    exact ⟨kk, e, k kk H' G' x1 h1⟩
  · exact h1.elim
def oAdd : O2 := fun d e Q => match d, e with
  | .int i, .int j => Q (.fz (.int (i + j)))
  | .str x, .str y => x.length + y.length ≤ sizeLine ∧ Q (.fz (.str (x ++ y)))
  | .lst xs, .lst ys => xs.length + ys.length ≤ sizeLine ∧ Q (.ow (xs ++ ys))
  | _, _ => False
def rCatR (K : PySem.W.Frag) : R2 := fun x y H Q => ∃ l b xs zs, x = .ref l ∧ y = .ref b ∧ RdL K H l xs ∧ RdL K H b zs ∧ xs.length + zs.length ≤ sizeLine ∧ ∀ p, H p = none → Q (.ref p) (upd H p (.lst (xs ++ zs)))
theorem op_catR : OpR X (binaryOp .Add) (rCatR X.K) := by
  intro pins s σ H x y v u Q I rx ry h
  obtain ⟨l, b, xs, zs, rfl, rfl, hH, hB, hz, q⟩ := h
  cases rx
  cases ry
  obtain ⟨z, its, n, r, e⟩ := I.rdl hH
  obtain ⟨z2, its2, n2, r2, e2⟩ := I.rdl hB
  have hl := r.length
  have hl2 := r2.length
  refine PySem.P.add_list e e2 ?_ (by rw [List.size_toArray, List.size_toArray]; omega)
  have ea : its.toArray ++ its2.toArray = (its ++ its2).toArray := by simp
  rw [ea]
  exact ⟨.ref _, _, I.lnew (t' := s.toks) (r.append r2) (by rw [List.length_append]; omega), rfl, q _ I.fresh⟩
theorem own_fin {G H : Hp} {xs : List V} {ds : List D} {Q : R → Prop} {P : VK} (s : Same G H) (r : Reps X.K G xs ds) (q : Q (.ow ds))
    (k : ∀ v H' r' G', Ext G H G' H' → RepR X.K G' H' H v r' → Q r' → P v H') : ∀ p, H p = none → P (.ref p) (upd H p (.lst xs)) := fun p hp =>
  k _ _ (.ow ds) G (.own s hp) ⟨p, xs, rfl, hp, s.free hp, upd_same, r⟩ q
theorem o_add : OpP X (binaryOp .Add) oAdd := by
  refine ⟨_, op_add.or (op_add_str.or op_catR), fun G H x y d e Q P s rx ry h k => ?_⟩
  unfold oAdd at h
  split at h
  · simp only [Rep] at rx ry
    exact .inl ⟨_, _, rx, ry, k _ _ _ G (.refl s) (fzR (rep_int _ _ _)) h⟩
  · simp only [Rep] at rx ry
    exact .inr (.inl ⟨_, _, rx, ry, h.1, k _ _ _ G (.refl s) (fzR (rep_str _ _ _)) h.2⟩)
  · simp only [Rep] at rx ry
    obtain ⟨a, xs, rfl, hx, rxs⟩ := rx
    obtain ⟨b, ys, rfl, hy, rys⟩ := ry
    refine .inr (.inr ⟨_, _, _, _, rfl, rfl, s.rdl hx, s.rdl hy, by rw [rxs.length, rys.length]; exact h.1, own_fin s (rxs.append rys) h.2 k⟩)
  · exact h.elim
def oI (C : Int → Int → Prop) (g : Int → Int → D) : O2 := fun d e Q => match d, e with
  | .int i, .int j => C i j ∧ Q (.fz (g i j))
  | _, _ => False
def oI0 (g : Int → Int → D) : O2 := fun d e Q => match d, e with
  | .int i, .int j => Q (.fz (g i j))
  | _, _ => False
theorem opP_I {f : Value → Value → Sem Value} {C : Int → Int → Prop} {g : Int → Int → V} {g' : Int → Int → D} (h : OpR X f (rI C g)) (hg : ∀ K G i j, Rep K G (g i j) (g' i j)) : OpP X f (oI C g') := by
  refine ⟨_, h, fun G H x y d e Q P s rx ry h k => ?_⟩
  unfold oI at h
  split at h
  · simp only [Rep] at rx ry
    exact ⟨_, _, rx, ry, h.1, k _ _ _ G (.refl s) (fzR (hg _ _ _ _)) h.2⟩
  · exact h.elim
theorem opP_I0 {f : Value → Value → Sem Value} {g : Int → Int → V} {g' : Int → Int → D} (h : OpR X f (rI0 g)) (hg : ∀ K G i j, Rep K G (g i j) (g' i j)) : OpP X f (oI0 g') := by
  refine ⟨_, h, fun G H x y d e Q P s rx ry h k => ?_⟩
  unfold oI0 at h
  split at h
  · simp only [Rep] at rx ry
    exact ⟨_, _, rx, ry, k _ _ _ G (.refl s) (fzR (hg _ _ _ _)) h⟩
  · exact h.elim
theorem o_sub : OpP X (binaryOp .Sub) (oI0 fun i j => .int (i - j)) := opP_I0 op_sub fun K G i j => rep_int K G _
theorem o_mul : OpP X (binaryOp .Mult) (oI CMul fun i j => .int (i * j)) := opP_I op_mul fun K G i j => rep_int K G _
theorem o_fdiv : OpP X (binaryOp .FloorDiv) (oI CDiv fun i j => .int (i / j)) := opP_I op_fdiv fun K G i j => rep_int K G _
theorem o_mod : OpP X (binaryOp .Mod) (oI (fun _ j => 0 < j) fun i j => .int (i % j)) := opP_I op_mod fun K G i j => rep_int K G _
theorem o_pow : OpP X (binaryOp .Pow) (oI CPow fun i j => .int (i ^ j.toNat)) := opP_I op_pow fun K G i j => rep_int K G _
theorem o_gt : OpP X (compareOp .Gt) (oI0 fun i j => .bl (decide (j < i))) := opP_I0 op_gt fun K G i j => rep_bl K G _
end
end L2
set_option Elab.async false
set_option linter.all false
set_option maxRecDepth 100000
set_option maxHeartbeats 1000000
namespace L2
open PySem PySem.Spec PyProof.Rows PySem.SeqAt
mutual
def eqD : D → D → Bool
  | .non, .non => true
  | .bl a, .bl b => a == b
  | .bl a, .int b => (if a then 1 else 0) == b
  | .int a, .bl b => a == (if b then 1 else 0)
  | .int a, .int b => a == b
  | .str a, .str b => a == b
  | .tup xs, .tup ys => eqDs xs ys
  | .lst xs, .lst ys => eqDs xs ys
  | _, _ => false
def eqDs : List D → List D → Bool
  | [], [] => true
  | x :: xs, y :: ys => eqD x y && eqDs xs ys
  | _, _ => false
end
def okE : Nat → D → Prop
  | _, .non => True
  | _, .bl _ => True
  | _, .int _ => True
  | _, .str _ => True
  | n + 1, .tup ds => ∀ d ∈ ds, okE n d
  | n + 1, .lst ds => ∀ d ∈ ds, okE n d
  | _, _ => False
theorem okE.mono : ∀ {n m : Nat} {d : D}, n ≤ m → okE n d → okE m d
  | n, m, .non, _, _ => by cases m <;> exact trivial
  | n, m, .bl _, _, _ => by cases m <;> exact trivial
  | n, m, .int _, _, _ => by cases m <;> exact trivial
  | n, m, .str _, _, _ => by cases m <;> exact trivial
  | 0, m, .tup ds, _, h => by cases h
  | 0, m, .lst ds, _, h => by cases h
  | n + 1, 0, .tup ds, l, h => by omega
  | n + 1, 0, .lst ds, l, h => by omega
  | n + 1, m + 1, .tup ds, l, h => fun d hd => okE.mono (by omega) (h d hd)
  | n + 1, m + 1, .lst ds, l, h => fun d hd => okE.mono (by omega) (h d hd)
  | 0, m, .obj _ _, _, h => by cases h
  | n + 1, m, .obj _ _, _, h => by cases h
  | 0, m, .dic _, _, h => by cases h
  | 0, m, .dit _, _, h => by cases h
  | n + 1, m, .dic _, _, h => by cases h
  | n + 1, m, .dit _, _, h => by cases h
mutual
theorem eqD_refl : ∀ (n : Nat) (d : D), okE n d → eqD d d = true
  | n, .non, _ => by simp only [eqD]
  | n, .bl _, _ => by simp only [eqD, beq_self_eq_true]
  | n, .int _, _ => by simp only [eqD, beq_self_eq_true]
  | n, .str _, _ => by simp only [eqD, beq_self_eq_true]
  | 0, .tup ds, h => by cases h
  | 0, .lst ds, h => by cases h
  | n + 1, .tup ds, h => by simp only [eqD]; exact eqDs_refl n ds h
  | n + 1, .lst ds, h => by simp only [eqD]; exact eqDs_refl n ds h
  | 0, .obj _ _, h => by cases h
  | n + 1, .obj _ _, h => by cases h
  | 0, .dic _, h => by cases h
  | 0, .dit _, h => by cases h
  | n + 1, .dic _, h => by cases h
  | n + 1, .dit _, h => by cases h
theorem eqDs_refl : ∀ (n : Nat) (ds : List D), (∀ d ∈ ds, okE n d) → eqDs ds ds = true
  | n, [], _ => by simp only [eqDs]
  | n, d :: ds, h => by simp only [eqDs, eqD_refl n d (h d (by simp)), eqDs_refl n ds (fun e he => h e (by simp [he])), Bool.and_self]
end
theorem eqDs_len : ∀ {xs ys : List D}, xs.length ≠ ys.length → eqDs xs ys = false
  | [], [], h => absurd rfl h
  | x :: xs, y :: ys, h => by
    rw [eqDs, eqDs_len (xs := xs) (ys := ys) (by simpa using h), Bool.and_false]
  | [], _ :: _, _ => by simp only [eqDs]
  | _ :: _, [], _ => by simp only [eqDs]
theorem eqDs_all : ∀ (xs ys : List D), xs.length = ys.length → eqDs xs ys = (List.range xs.length).all fun j => eqD (xs.getD j .non) (ys.getD j .non)
  | [], [], _ => by simp [eqDs]
  | x :: xs, y :: ys, h => by
    rw [eqDs, eqDs_all xs ys (by simpa using h), List.length_cons, List.range_succ_eq_map, List.all_cons, List.all_map]
    congr 1
  | [], _ :: _, h => by simp at h
  | _ :: _, [], h => by simp at h
theorem eqDs_min (xs ys : List D) : ((List.range (min xs.length ys.length)).all (fun j => eqD (xs.getD j .non) (ys.getD j .non)) && xs.length == ys.length) = eqDs xs ys := by
  by_cases h : xs.length = ys.length
  · rw [eqDs_all xs ys h, h]
    simp
  · rw [eqDs_len h]
    simp [h]
section
variable {X : Cx} {pins : List (Addr × Obj)} {σ : St} {H : Hp} {s : Shared}
mutual
theorem rep_inj (I : Inv X pins σ H s) : ∀ (n : Nat) (d e : D) (v : V), okE n d → okE n e → Rep X.K H v d → Rep X.K H v e → d = e
  | n, .non, e, v, h, h', r, r' => by
    cases e <;> simp only [Rep] at r r' <;> subst r <;> first | rfl | (simp at r'; done) | (simp only [V.bl.injEq, V.int.injEq, V.str.injEq] at r'; rw [r'])
  | n, .bl b, e, v, h, h', r, r' => by
    cases e <;> simp only [Rep] at r r' <;> subst r <;> first | rfl | (simp at r'; done) | (simp only [V.bl.injEq, V.int.injEq, V.str.injEq] at r'; rw [r'])
  | n, .int b, e, v, h, h', r, r' => by
    cases e <;> simp only [Rep] at r r' <;> subst r <;> first | rfl | (simp at r'; done) | (simp only [V.bl.injEq, V.int.injEq, V.str.injEq] at r'; rw [r'])
  | n, .str b, e, v, h, h', r, r' => by
    cases e <;> simp only [Rep] at r r' <;> subst r <;> first | rfl | (simp at r'; done) | (simp only [V.bl.injEq, V.int.injEq, V.str.injEq] at r'; rw [r'])
  | 0, .tup ds, e, v, h, h', r, r' => by cases h
  | 0, .lst ds, e, v, h, h', r, r' => by cases h
  | n + 1, .tup ds, e, v, h, h', r, r' => by
    simp only [Rep] at r
    obtain ⟨a, xs, rfl, q, rs⟩ := r
    cases e <;> simp only [Rep] at r'
    case tup es =>
      obtain ⟨b, ys, e1, q', rs'⟩ := r'
      cases e1
      rw [I.tuple_inj q' q] at rs'
      rw [reps_inj I n ds es xs h h' rs rs']
    case lst es =>
      obtain ⟨b, ys, e1, q', rs'⟩ := r'
      cases e1
      obtain ⟨its, _, ht, _⟩ := I.tuple q
      obtain ⟨its', _, hl, _⟩ := I.list q'.sq
      exact absurd rfl (ne_of_list_tuple hl.isList (show s.heap.IsTuple a its.toArray from ht))
    case obj => cases h'
    case dic => cases h'
    case dit => cases h'
    all_goals cases r'
  | n + 1, .lst ds, e, v, h, h', r, r' => by
    simp only [Rep] at r
    obtain ⟨a, xs, rfl, q, rs⟩ := r
    cases e <;> simp only [Rep] at r'
    case lst es =>
      obtain ⟨b, ys, e1, q', rs'⟩ := r'
      cases e1
      rw [I.list_inj q'.sq q.sq] at rs'
      rw [reps_inj I n ds es xs h h' rs rs']
    case tup es =>
      obtain ⟨b, ys, e1, q', rs'⟩ := r'
      cases e1
      obtain ⟨its, _, ht, _⟩ := I.tuple q'
      obtain ⟨its', _, hl, _⟩ := I.list q.sq
      exact absurd rfl (ne_of_list_tuple hl.isList (show s.heap.IsTuple a its.toArray from ht))
    case obj => cases h'
    case dic => cases h'
    case dit => cases h'
    all_goals cases r'
  | 0, .obj _ _, _, _, h, _, _, _ => by cases h
  | n + 1, .obj _ _, _, _, h, _, _, _ => by cases h
  | 0, .dic _, _, _, h, _, _, _ => by cases h
  | 0, .dit _, _, _, h, _, _, _ => by cases h
  | n + 1, .dic _, _, _, h, _, _, _ => by cases h
  | n + 1, .dit _, _, _, h, _, _, _ => by cases h
theorem reps_inj (I : Inv X pins σ H s) : ∀ (n : Nat) (ds es : List D) (vs : List V), (∀ d ∈ ds, okE n d) → (∀ d ∈ es, okE n d) → Reps X.K H vs ds → Reps X.K H vs es → ds = es
  | n, [], [], _, _, _, _, _ => rfl
  | n, d :: ds, e :: es, v :: vs, h, h', r, r' => by
    simp only [Reps] at r r'
    rw [rep_inj I n d e v (h d (by simp)) (h' e (by simp)) r.1 r'.1, reps_inj I n ds es vs (fun x hx => h x (by simp [hx])) (fun x hx => h' x (by simp [hx])) r.2 r'.2]
  | n, [], _ :: _, [], _, _, _, r => by simp only [Reps] at r
  | n, [], _ :: _, _ :: _, _, _, r, _ => by simp only [Reps] at r
  | n, _ :: _, [], [], _, _, r, _ => by simp only [Reps] at r
  | n, _ :: _, [], _ :: _, _, _, _, r => by simp only [Reps] at r
  | n, _ :: _, _ :: _, [], _, _, r, _ => by simp only [Reps] at r
end
theorem item_of {vs : List V} {ds : List D} {us : List Value} {j : Nat} (rv : Vals vs us) (rd : Reps X.K H vs ds) (hj : j < us.toArray.size) : ∃ v, RelV v us.toArray[j] ∧ Rep X.K H v (ds.getD j .non) ∧ ds.getD j .non ∈ ds := by
  have h1 : j < us.length := by simpa using hj
  have h2 : j < vs.length := by rw [rv.length]; exact h1
  have h3 : j < ds.length := by rw [← rd.length]; exact h2
  obtain ⟨u, hu, ru⟩ := rv.get (List.getElem?_eq_getElem h2)
  obtain ⟨d, hd, rd'⟩ := rd.getV (List.getElem?_eq_getElem h2)
  rw [List.getElem?_eq_getElem h1] at hu
  rw [List.getElem?_eq_getElem h3] at hd
  cases hu
  cases hd
  refine ⟨vs[j], ?_, ?_, ?_⟩
  · simpa using ru
  · simpa [List.getD, h3] using rd'
  · simp [List.getD, h3]
def flatD : D → Bool
  | .non => true
  | .bl _ => true
  | .int _ => true
  | .str _ => true
  | _ => false
theorem flat_eq {d e : D} {x y : V} (hd : flatD d = true) (he : flatD e = true) (rx : Rep X.K H x d) (ry : Rep X.K H y e) : flatV x = true ∧ flatV y = true ∧ eqV x y = eqD d e := by
  cases d <;> first | cases hd | skip
  all_goals (cases e <;> first | cases he | skip)
  all_goals
    simp only [Rep] at rx ry
    subst rx ry
    exact ⟨rfl, rfl, by simp [eqV, eqD]⟩
theorem eqAt_D (I : Inv X pins σ H s) : ∀ (n : Nat) (A : Around) (d e : D) (x y : V) (v u : Value), okE n d → okE n e → A.units + n < cLine → Rep X.K H x d → Rep X.K H y e → RelV x v → RelV y u → EqAt A s v u (eqD d e) := by
  intro n
  induction n with
  | zero =>
    intro A d e x y v u hd he hu rx ry qx qy
    have fd : flatD d = true := by cases d <;> first | rfl | cases hd
    have fe : flatD e = true := by cases e <;> first | rfl | cases he
    obtain ⟨h1, h2, h3⟩ := flat_eq fd fe rx ry
    rw [← h3]
    exact eqAt_V qx qy h1 h2
  | succ n ih =>
    intro A d e x y v u hd he hu rx ry qx qy
    have hu0 : A.units < cLine := by omega
    have hu1 : A.in1.units + n < cLine := by show A.units + 1 + n < cLine; omega
    by_cases fd : flatD d = true
    · by_cases fe : flatD e = true
      · obtain ⟨h1, h2, h3⟩ := flat_eq fd fe rx ry
        rw [← h3]
        exact eqAt_V qx qy h1 h2
      · cases e <;> first | exact absurd rfl fe | skip
        case tup es =>
          simp only [Rep] at ry
          obtain ⟨b, ys, rfl, q, rs⟩ := ry
          cases qy
          obtain ⟨its, rv, ht, _⟩ := I.tuple q
          have ht' : s.heap.IsTuple b its.toArray := ht
          cases d <;> first | cases fd | skip
          · simp only [Rep] at rx; subst rx; cases qx; simpa only [eqD] using EqAt.none_tuple ht' hu0
          · simp only [Rep] at rx; subst rx; cases qx; simpa only [eqD] using EqAt.bool_tuple _ ht' hu0
          · simp only [Rep] at rx; subst rx; obtain ⟨t, rfl⟩ := qx; simpa only [eqD] using EqAt.int_tuple _ t ht' hu0
          · simp only [Rep] at rx; subst rx; obtain ⟨t, rfl⟩ := qx; simpa only [eqD] using EqAt.str_tuple _ t ht' hu0
        case lst es =>
          simp only [Rep] at ry
          obtain ⟨b, ys, rfl, q, rs⟩ := ry
          cases qy
          obtain ⟨its, rv, ht, _⟩ := I.list q.sq
          have ht' := ht.isList
          cases d <;> first | cases fd | skip
          · simp only [Rep] at rx; subst rx; cases qx; simpa only [eqD] using EqAt.none_list ht' hu0
          · simp only [Rep] at rx; subst rx; cases qx; simpa only [eqD] using EqAt.bool_list _ ht' hu0
          · simp only [Rep] at rx; subst rx; obtain ⟨t, rfl⟩ := qx; simpa only [eqD] using EqAt.int_list _ t ht' hu0
          · simp only [Rep] at rx; subst rx; obtain ⟨t, rfl⟩ := qx; simpa only [eqD] using EqAt.str_list _ t ht' hu0
        case obj => cases he
        case dic => cases he
        case dit => cases he
    · cases d <;> first | exact absurd rfl fd | skip
      case tup ds =>
        have rx0 := rx
        simp only [Rep] at rx
        obtain ⟨a, xs, rfl, q, rs⟩ := rx
        cases qx
        obtain ⟨its, rv, ht, _⟩ := I.tuple q
        have ht' : s.heap.IsTuple a its.toArray := ht
        cases e
        case non => simp only [Rep] at ry; subst ry; cases qy; simpa only [eqD] using EqAt.tuple_none ht' hu0
        case bl => simp only [Rep] at ry; subst ry; cases qy; simpa only [eqD] using EqAt.tuple_bool _ ht' hu0
        case int => simp only [Rep] at ry; subst ry; obtain ⟨t, rfl⟩ := qy; simpa only [eqD] using EqAt.tuple_int _ t ht' hu0
        case str => simp only [Rep] at ry; subst ry; obtain ⟨t, rfl⟩ := qy; simpa only [eqD] using EqAt.tuple_str _ t ht' hu0
        case lst es =>
          simp only [Rep] at ry
          obtain ⟨b, ys, rfl, q', rs'⟩ := ry
          cases qy
          obtain ⟨its', rv', hl, _⟩ := I.list q'.sq
          simpa only [eqD] using EqAt.tuple_list ht' hl.isList hu0
        case tup es =>
          have ry0 := ry
          simp only [Rep] at ry
          obtain ⟨b, ys, rfl, q', rs'⟩ := ry
          cases qy
          obtain ⟨its', rv', ht2, _⟩ := I.tuple q'
          by_cases hab : a = b
          · subst hab
            have e0 := rep_inj I (n + 1) _ _ _ hd he rx0 ry0
            rw [← e0, eqD_refl (n + 1) _ hd]
            exact EqAt.same _
          · refine EqAt.of_refs hab ?_
            have h := RcAt.tuples (e := fun j => eqD (ds.getD j .non) (es.getD j .non)) ht' (show s.heap.IsTuple b its'.toArray from ht2) hu0 fun j h1 h2 => by
              obtain ⟨v1, a1, b1, c1⟩ := item_of rv rs h1
              obtain ⟨v2, a2, b2, c2⟩ := item_of rv' rs' h2
              exact ih A.in1 _ _ v1 v2 _ _ (hd _ c1) (he _ c2) hu1 b1 b2 a1 a2
            have l1 : its.toArray.size = ds.length := by rw [List.size_toArray, ← rv.length, rs.length]
            have l2 : its'.toArray.size = es.length := by rw [List.size_toArray, ← rv'.length, rs'.length]
            rw [l1, l2, eqDs_min] at h
            simpa only [eqD] using h
        case obj => cases he
        case dic => cases he
        case dit => cases he
      case lst ds =>
        have rx0 := rx
        simp only [Rep] at rx
        obtain ⟨a, xs, rfl, q, rs⟩ := rx
        cases qx
        obtain ⟨its, rv, ht, _⟩ := I.list q.sq
        have ht' := ht.isList
        cases e
        case non => simp only [Rep] at ry; subst ry; cases qy; simpa only [eqD] using EqAt.list_none ht' hu0
        case bl => simp only [Rep] at ry; subst ry; cases qy; simpa only [eqD] using EqAt.list_bool _ ht' hu0
        case int => simp only [Rep] at ry; subst ry; obtain ⟨t, rfl⟩ := qy; simpa only [eqD] using EqAt.list_int _ t ht' hu0
        case str => simp only [Rep] at ry; subst ry; obtain ⟨t, rfl⟩ := qy; simpa only [eqD] using EqAt.list_str _ t ht' hu0
        case tup es =>
          simp only [Rep] at ry
          obtain ⟨b, ys, rfl, q', rs'⟩ := ry
          cases qy
          obtain ⟨its', rv', hl, _⟩ := I.tuple q'
          simpa only [eqD] using EqAt.list_tuple ht' (show s.heap.IsTuple b its'.toArray from hl) hu0
        case lst es =>
          have ry0 := ry
          simp only [Rep] at ry
          obtain ⟨b, ys, rfl, q', rs'⟩ := ry
          cases qy
          obtain ⟨its', rv', ht2, _⟩ := I.list q'.sq
          by_cases hab : a = b
          · subst hab
            have e0 := rep_inj I (n + 1) _ _ _ hd he rx0 ry0
            rw [← e0, eqD_refl (n + 1) _ hd]
            exact EqAt.same _
          · refine EqAt.of_refs hab ?_
            have l1 : its.toArray.size = ds.length := by rw [List.size_toArray, ← rv.length, rs.length]
            have l2 : its'.toArray.size = es.length := by rw [List.size_toArray, ← rv'.length, rs'.length]
            by_cases hl : ds.length = es.length
            · have h := RcAt.lists (e := fun j => eqD (ds.getD j .non) (es.getD j .non)) ht' ht2.isList (by rw [l1, l2, hl]) hu0 fun j h1 h2 => by
                obtain ⟨v1, a1, b1, c1⟩ := item_of rv rs h1
                obtain ⟨v2, a2, b2, c2⟩ := item_of rv' rs' h2
                exact ih A.in1 _ _ v1 v2 _ _ (hd _ c1) (he _ c2) hu1 b1 b2 a1 a2
              rw [l1, ← eqDs_all ds es hl] at h
              simpa only [eqD] using h
            · have h := RcAt.lists_lengths (A := A) ht' ht2.isList (by rw [l1, l2]; simpa using hl) hu0
              simp only [eqD, eqDs_len hl]
              exact h
        case obj => cases he
        case dic => cases he
        case dit => cases he
      case obj => cases hd
      case dic => cases hd
      case dit => cases hd
end
end L2
set_option Elab.async false
set_option linter.all false
set_option maxRecDepth 100000
set_option maxHeartbeats 1000000
namespace L2
open PySem PySem.Spec PyProof.Rows PySem.SeqAt
section
variable {X : Cx} {pins : List (Addr × Obj)} {σ : St} {H : Hp} {s : Shared}
theorem RcAt_D (I : Inv X pins σ H s) : ∀ (n : Nat) (A : Around) (d e : D) (x y : V) (v u : Value), okE n d → okE n e → A.units + n < cLine → Rep X.K H x d → Rep X.K H y e → RelV x v → RelV y u → RcAt A s v u (eqD d e) := by
  intro n A d e x y v u hd he hu rx ry qx qy
  have hu0 : A.units < cLine := by omega
  cases d
  case non =>
    simp only [Rep] at rx; subst rx; cases qx
    cases e
    case non => simp only [Rep] at ry; subst ry; cases qy; simpa only [eqD, Bool.not_true] using RcAt.none_none
    case bl => simp only [Rep] at ry; subst ry; cases qy; simpa only [eqD, Bool.not_false] using RcAt.none_bool _
    case int => simp only [Rep] at ry; subst ry; obtain ⟨t, rfl⟩ := qy; simpa only [eqD, Bool.not_false] using RcAt.none_int _ t
    case str => simp only [Rep] at ry; subst ry; obtain ⟨t, rfl⟩ := qy; simpa only [eqD, Bool.not_false] using RcAt.none_str _ t
    case tup =>
      simp only [Rep] at ry; obtain ⟨b, ys, rfl, q, rs⟩ := ry; cases qy; obtain ⟨its, rv, ht, _⟩ := I.tuple q
      simpa only [eqD, Bool.not_false] using RcAt.none_tuple (show s.heap.IsTuple b its.toArray from ht) hu0
    case lst =>
      simp only [Rep] at ry; obtain ⟨b, ys, rfl, q, rs⟩ := ry; cases qy; obtain ⟨its, rv, ht, _⟩ := I.list q.sq
      simpa only [eqD, Bool.not_false] using RcAt.none_list ht.isList hu0
    case obj => cases n <;> cases he
    case dic => cases n <;> cases he
    case dit => cases n <;> cases he
  case bl a =>
    simp only [Rep] at rx; subst rx; cases qx
    cases e
    case non => simp only [Rep] at ry; subst ry; cases qy; simpa only [eqD, Bool.not_false] using RcAt.bool_none _
    case bl => simp only [Rep] at ry; subst ry; cases qy; simpa only [eqD] using RcAt.bool_bool _ _
    case int => simp only [Rep] at ry; subst ry; obtain ⟨t, rfl⟩ := qy; simpa only [eqD] using RcAt.bool_int _ _ t
    case str => simp only [Rep] at ry; subst ry; obtain ⟨t, rfl⟩ := qy; simpa only [eqD, Bool.not_false] using RcAt.bool_str _ _ t
    case tup =>
      simp only [Rep] at ry; obtain ⟨b, ys, rfl, q, rs⟩ := ry; cases qy; obtain ⟨its, rv, ht, _⟩ := I.tuple q
      simpa only [eqD, Bool.not_false] using RcAt.bool_tuple _ (show s.heap.IsTuple b its.toArray from ht) hu0
    case lst =>
      simp only [Rep] at ry; obtain ⟨b, ys, rfl, q, rs⟩ := ry; cases qy; obtain ⟨its, rv, ht, _⟩ := I.list q.sq
      simpa only [eqD, Bool.not_false] using RcAt.bool_list _ ht.isList hu0
    case obj => cases n <;> cases he
    case dic => cases n <;> cases he
    case dit => cases n <;> cases he
  case int a =>
    simp only [Rep] at rx; subst rx; obtain ⟨t0, rfl⟩ := qx
    cases e
    case non => simp only [Rep] at ry; subst ry; cases qy; simpa only [eqD, Bool.not_false] using RcAt.int_none _ t0
    case bl => simp only [Rep] at ry; subst ry; cases qy; simpa only [eqD] using RcAt.int_bool _ t0 _
    case int => simp only [Rep] at ry; subst ry; obtain ⟨t, rfl⟩ := qy; simpa only [eqD] using RcAt.int_int _ t0 _ t
    case str => simp only [Rep] at ry; subst ry; obtain ⟨t, rfl⟩ := qy; simpa only [eqD, Bool.not_false] using RcAt.int_str _ t0 _ t
    case tup =>
      simp only [Rep] at ry; obtain ⟨b, ys, rfl, q, rs⟩ := ry; cases qy; obtain ⟨its, rv, ht, _⟩ := I.tuple q
      simpa only [eqD, Bool.not_false] using RcAt.int_tuple _ t0 (show s.heap.IsTuple b its.toArray from ht) hu0
    case lst =>
      simp only [Rep] at ry; obtain ⟨b, ys, rfl, q, rs⟩ := ry; cases qy; obtain ⟨its, rv, ht, _⟩ := I.list q.sq
      simpa only [eqD, Bool.not_false] using RcAt.int_list _ t0 ht.isList hu0
    case obj => cases n <;> cases he
    case dic => cases n <;> cases he
    case dit => cases n <;> cases he
  case str a =>
    simp only [Rep] at rx; subst rx; obtain ⟨t0, rfl⟩ := qx
    cases e
    case non => simp only [Rep] at ry; subst ry; cases qy; simpa only [eqD, Bool.not_false] using RcAt.str_none _ t0
    case bl => simp only [Rep] at ry; subst ry; cases qy; simpa only [eqD, Bool.not_false] using RcAt.str_bool _ t0 _
    case int => simp only [Rep] at ry; subst ry; obtain ⟨t, rfl⟩ := qy; simpa only [eqD, Bool.not_false] using RcAt.str_int _ t0 _ t
    case str => simp only [Rep] at ry; subst ry; obtain ⟨t, rfl⟩ := qy; simpa only [eqD] using RcAt.str_str _ t0 _ t
    case tup =>
      simp only [Rep] at ry; obtain ⟨b, ys, rfl, q, rs⟩ := ry; cases qy; obtain ⟨its, rv, ht, _⟩ := I.tuple q
      simpa only [eqD, Bool.not_false] using RcAt.str_tuple _ t0 (show s.heap.IsTuple b its.toArray from ht) hu0
    case lst =>
      simp only [Rep] at ry; obtain ⟨b, ys, rfl, q, rs⟩ := ry; cases qy; obtain ⟨its, rv, ht, _⟩ := I.list q.sq
      simpa only [eqD, Bool.not_false] using RcAt.str_list _ t0 ht.isList hu0
    case obj => cases n <;> cases he
    case dic => cases n <;> cases he
    case dit => cases n <;> cases he
  case tup ds =>
    cases n with
    | zero => cases hd
    | succ n =>
    have hu1 : A.in1.units + n < cLine := by show A.units + 1 + n < cLine; omega
    simp only [Rep] at rx
    obtain ⟨a, xs, rfl, q, rs⟩ := rx
    cases qx
    obtain ⟨its, rv, ht, _⟩ := I.tuple q
    have ht' : s.heap.IsTuple a its.toArray := ht
    cases e
    case non => simp only [Rep] at ry; subst ry; cases qy; simpa only [eqD, Bool.not_false] using RcAt.tuple_none ht' hu0
    case bl => simp only [Rep] at ry; subst ry; cases qy; simpa only [eqD, Bool.not_false] using RcAt.tuple_bool _ ht' hu0
    case int => simp only [Rep] at ry; subst ry; obtain ⟨t, rfl⟩ := qy; simpa only [eqD, Bool.not_false] using RcAt.tuple_int _ t ht' hu0
    case str => simp only [Rep] at ry; subst ry; obtain ⟨t, rfl⟩ := qy; simpa only [eqD, Bool.not_false] using RcAt.tuple_str _ t ht' hu0
    case lst es =>
      simp only [Rep] at ry
      obtain ⟨b, ys, rfl, q', rs'⟩ := ry
      cases qy
      obtain ⟨its', rv', hl, _⟩ := I.list q'.sq
      simpa only [eqD, Bool.not_false] using RcAt.tuple_list ht' hl.isList hu0
    case tup es =>
      simp only [Rep] at ry
      obtain ⟨b, ys, rfl, q', rs'⟩ := ry
      cases qy
      obtain ⟨its', rv', ht2, _⟩ := I.tuple q'
      have h := RcAt.tuples (e := fun j => eqD (ds.getD j .non) (es.getD j .non)) ht' (show s.heap.IsTuple b its'.toArray from ht2) hu0 fun j h1 h2 => by
        obtain ⟨v1, a1, b1, c1⟩ := item_of rv rs h1
        obtain ⟨v2, a2, b2, c2⟩ := item_of rv' rs' h2
        exact eqAt_D I n A.in1 _ _ v1 v2 _ _ (hd _ c1) (he _ c2) hu1 b1 b2 a1 a2
      have l1 : its.toArray.size = ds.length := by rw [List.size_toArray, ← rv.length, rs.length]
      have l2 : its'.toArray.size = es.length := by rw [List.size_toArray, ← rv'.length, rs'.length]
      rw [l1, l2, eqDs_min] at h
      simpa only [eqD] using h
    case obj => cases he
    case dic => cases he
    case dit => cases he
  case lst ds =>
    cases n with
    | zero => cases hd
    | succ n =>
    have hu1 : A.in1.units + n < cLine := by show A.units + 1 + n < cLine; omega
    simp only [Rep] at rx
    obtain ⟨a, xs, rfl, q, rs⟩ := rx
    cases qx
    obtain ⟨its, rv, ht, _⟩ := I.list q.sq
    have ht' := ht.isList
    cases e
    case non => simp only [Rep] at ry; subst ry; cases qy; simpa only [eqD, Bool.not_false] using RcAt.list_none ht' hu0
    case bl => simp only [Rep] at ry; subst ry; cases qy; simpa only [eqD, Bool.not_false] using RcAt.list_bool _ ht' hu0
    case int => simp only [Rep] at ry; subst ry; obtain ⟨t, rfl⟩ := qy; simpa only [eqD, Bool.not_false] using RcAt.list_int _ t ht' hu0
    case str => simp only [Rep] at ry; subst ry; obtain ⟨t, rfl⟩ := qy; simpa only [eqD, Bool.not_false] using RcAt.list_str _ t ht' hu0
    case tup es =>
      simp only [Rep] at ry
      obtain ⟨b, ys, rfl, q', rs'⟩ := ry
      cases qy
      obtain ⟨its', rv', hl, _⟩ := I.tuple q'
      simpa only [eqD, Bool.not_false] using RcAt.list_tuple ht' (show s.heap.IsTuple b its'.toArray from hl) hu0
    case lst es =>
      simp only [Rep] at ry
      obtain ⟨b, ys, rfl, q', rs'⟩ := ry
      cases qy
      obtain ⟨its', rv', ht2, _⟩ := I.list q'.sq
      have l1 : its.toArray.size = ds.length := by rw [List.size_toArray, ← rv.length, rs.length]
      have l2 : its'.toArray.size = es.length := by rw [List.size_toArray, ← rv'.length, rs'.length]
      by_cases hl : ds.length = es.length
      · have h := RcAt.lists (e := fun j => eqD (ds.getD j .non) (es.getD j .non)) ht' ht2.isList (by rw [l1, l2, hl]) hu0 fun j h1 h2 => by
          obtain ⟨v1, a1, b1, c1⟩ := item_of rv rs h1
          obtain ⟨v2, a2, b2, c2⟩ := item_of rv' rs' h2
          exact eqAt_D I n A.in1 _ _ v1 v2 _ _ (hd _ c1) (he _ c2) hu1 b1 b2 a1 a2
        rw [l1, ← eqDs_all ds es hl] at h
        simpa only [eqD] using h
      · have h := RcAt.lists_lengths (A := A) ht' ht2.isList (by rw [l1, l2]; simpa using hl) hu0
        simp only [eqD, eqDs_len hl]
        exact h
    case obj => cases he
    case dic => cases he
    case dit => cases he
  case obj => cases n <;> cases hd
  case dic => cases n <;> cases hd
  case dit => cases n <;> cases hd
theorem RcNeAt_D (I : Inv X pins σ H s) : ∀ (n : Nat) (A : Around) (d e : D) (x y : V) (v u : Value), okE n d → okE n e → A.units + n < cLine → Rep X.K H x d → Rep X.K H y e → RelV x v → RelV y u → RcNeAt A s v u (!eqD d e) := by
  intro n A d e x y v u hd he hu rx ry qx qy
  have hu0 : A.units < cLine := by omega
  cases d
  case non =>
    simp only [Rep] at rx; subst rx; cases qx
    cases e
    case non => simp only [Rep] at ry; subst ry; cases qy; simpa only [eqD, Bool.not_true] using RcNeAt.none_none
    case bl => simp only [Rep] at ry; subst ry; cases qy; simpa only [eqD, Bool.not_false] using RcNeAt.none_bool _
    case int => simp only [Rep] at ry; subst ry; obtain ⟨t, rfl⟩ := qy; simpa only [eqD, Bool.not_false] using RcNeAt.none_int _ t
    case str => simp only [Rep] at ry; subst ry; obtain ⟨t, rfl⟩ := qy; simpa only [eqD, Bool.not_false] using RcNeAt.none_str _ t
    case tup =>
      simp only [Rep] at ry; obtain ⟨b, ys, rfl, q, rs⟩ := ry; cases qy; obtain ⟨its, rv, ht, _⟩ := I.tuple q
      simpa only [eqD, Bool.not_false] using RcNeAt.none_tuple (show s.heap.IsTuple b its.toArray from ht) hu0
    case lst =>
      simp only [Rep] at ry; obtain ⟨b, ys, rfl, q, rs⟩ := ry; cases qy; obtain ⟨its, rv, ht, _⟩ := I.list q.sq
      simpa only [eqD, Bool.not_false] using RcNeAt.none_list ht.isList hu0
    case obj => cases n <;> cases he
    case dic => cases n <;> cases he
    case dit => cases n <;> cases he
  case bl a =>
    simp only [Rep] at rx; subst rx; cases qx
    cases e
    case non => simp only [Rep] at ry; subst ry; cases qy; simpa only [eqD, Bool.not_false] using RcNeAt.bool_none _
    case bl => simp only [Rep] at ry; subst ry; cases qy; simpa only [eqD] using RcNeAt.bool_bool _ _
    case int => simp only [Rep] at ry; subst ry; obtain ⟨t, rfl⟩ := qy; simpa only [eqD] using RcNeAt.bool_int _ _ t
    case str => simp only [Rep] at ry; subst ry; obtain ⟨t, rfl⟩ := qy; simpa only [eqD, Bool.not_false] using RcNeAt.bool_str _ _ t
    case tup =>
      simp only [Rep] at ry; obtain ⟨b, ys, rfl, q, rs⟩ := ry; cases qy; obtain ⟨its, rv, ht, _⟩ := I.tuple q
      simpa only [eqD, Bool.not_false] using RcNeAt.bool_tuple _ (show s.heap.IsTuple b its.toArray from ht) hu0
    case lst =>
      simp only [Rep] at ry; obtain ⟨b, ys, rfl, q, rs⟩ := ry; cases qy; obtain ⟨its, rv, ht, _⟩ := I.list q.sq
      simpa only [eqD, Bool.not_false] using RcNeAt.bool_list _ ht.isList hu0
    case obj => cases n <;> cases he
    case dic => cases n <;> cases he
    case dit => cases n <;> cases he
  case int a =>
    simp only [Rep] at rx; subst rx; obtain ⟨t0, rfl⟩ := qx
    cases e
    case non => simp only [Rep] at ry; subst ry; cases qy; simpa only [eqD, Bool.not_false] using RcNeAt.int_none _ t0
    case bl => simp only [Rep] at ry; subst ry; cases qy; simpa only [eqD] using RcNeAt.int_bool _ t0 _
    case int => simp only [Rep] at ry; subst ry; obtain ⟨t, rfl⟩ := qy; simpa only [eqD] using RcNeAt.int_int _ t0 _ t
    case str => simp only [Rep] at ry; subst ry; obtain ⟨t, rfl⟩ := qy; simpa only [eqD, Bool.not_false] using RcNeAt.int_str _ t0 _ t
    case tup =>
      simp only [Rep] at ry; obtain ⟨b, ys, rfl, q, rs⟩ := ry; cases qy; obtain ⟨its, rv, ht, _⟩ := I.tuple q
      simpa only [eqD, Bool.not_false] using RcNeAt.int_tuple _ t0 (show s.heap.IsTuple b its.toArray from ht) hu0
    case lst =>
      simp only [Rep] at ry; obtain ⟨b, ys, rfl, q, rs⟩ := ry; cases qy; obtain ⟨its, rv, ht, _⟩ := I.list q.sq
      simpa only [eqD, Bool.not_false] using RcNeAt.int_list _ t0 ht.isList hu0
    case obj => cases n <;> cases he
    case dic => cases n <;> cases he
    case dit => cases n <;> cases he
  case str a =>
    simp only [Rep] at rx; subst rx; obtain ⟨t0, rfl⟩ := qx
    cases e
    case non => simp only [Rep] at ry; subst ry; cases qy; simpa only [eqD, Bool.not_false] using RcNeAt.str_none _ t0
    case bl => simp only [Rep] at ry; subst ry; cases qy; simpa only [eqD, Bool.not_false] using RcNeAt.str_bool _ t0 _
    case int => simp only [Rep] at ry; subst ry; obtain ⟨t, rfl⟩ := qy; simpa only [eqD, Bool.not_false] using RcNeAt.str_int _ t0 _ t
    case str => simp only [Rep] at ry; subst ry; obtain ⟨t, rfl⟩ := qy; simpa only [eqD] using RcNeAt.str_str _ t0 _ t
    case tup =>
      simp only [Rep] at ry; obtain ⟨b, ys, rfl, q, rs⟩ := ry; cases qy; obtain ⟨its, rv, ht, _⟩ := I.tuple q
      simpa only [eqD, Bool.not_false] using RcNeAt.str_tuple _ t0 (show s.heap.IsTuple b its.toArray from ht) hu0
    case lst =>
      simp only [Rep] at ry; obtain ⟨b, ys, rfl, q, rs⟩ := ry; cases qy; obtain ⟨its, rv, ht, _⟩ := I.list q.sq
      simpa only [eqD, Bool.not_false] using RcNeAt.str_list _ t0 ht.isList hu0
    case obj => cases n <;> cases he
    case dic => cases n <;> cases he
    case dit => cases n <;> cases he
  case tup ds =>
    cases n with
    | zero => cases hd
    | succ n =>
    have hu1 : A.in1.units + n < cLine := by show A.units + 1 + n < cLine; omega
    simp only [Rep] at rx
    obtain ⟨a, xs, rfl, q, rs⟩ := rx
    cases qx
    obtain ⟨its, rv, ht, _⟩ := I.tuple q
    have ht' : s.heap.IsTuple a its.toArray := ht
    cases e
    case non => simp only [Rep] at ry; subst ry; cases qy; simpa only [eqD, Bool.not_false] using RcNeAt.tuple_none ht' hu0
    case bl => simp only [Rep] at ry; subst ry; cases qy; simpa only [eqD, Bool.not_false] using RcNeAt.tuple_bool _ ht' hu0
    case int => simp only [Rep] at ry; subst ry; obtain ⟨t, rfl⟩ := qy; simpa only [eqD, Bool.not_false] using RcNeAt.tuple_int _ t ht' hu0
    case str => simp only [Rep] at ry; subst ry; obtain ⟨t, rfl⟩ := qy; simpa only [eqD, Bool.not_false] using RcNeAt.tuple_str _ t ht' hu0
    case lst es =>
      simp only [Rep] at ry
      obtain ⟨b, ys, rfl, q', rs'⟩ := ry
      cases qy
      obtain ⟨its', rv', hl, _⟩ := I.list q'.sq
      simpa only [eqD, Bool.not_false] using RcNeAt.tuple_list ht' hl.isList hu0
    case tup es =>
      simp only [Rep] at ry
      obtain ⟨b, ys, rfl, q', rs'⟩ := ry
      cases qy
      obtain ⟨its', rv', ht2, _⟩ := I.tuple q'
      have h := RcNeAt.tuples (e := fun j => eqD (ds.getD j .non) (es.getD j .non)) ht' (show s.heap.IsTuple b its'.toArray from ht2) hu0 fun j h1 h2 => by
        obtain ⟨v1, a1, b1, c1⟩ := item_of rv rs h1
        obtain ⟨v2, a2, b2, c2⟩ := item_of rv' rs' h2
        exact eqAt_D I n A.in1 _ _ v1 v2 _ _ (hd _ c1) (he _ c2) hu1 b1 b2 a1 a2
      have l1 : its.toArray.size = ds.length := by rw [List.size_toArray, ← rv.length, rs.length]
      have l2 : its'.toArray.size = es.length := by rw [List.size_toArray, ← rv'.length, rs'.length]
      rw [l1, l2, eqDs_min] at h
      simpa only [eqD] using h
    case obj => cases he
    case dic => cases he
    case dit => cases he
  case lst ds =>
    cases n with
    | zero => cases hd
    | succ n =>
    have hu1 : A.in1.units + n < cLine := by show A.units + 1 + n < cLine; omega
    simp only [Rep] at rx
    obtain ⟨a, xs, rfl, q, rs⟩ := rx
    cases qx
    obtain ⟨its, rv, ht, _⟩ := I.list q.sq
    have ht' := ht.isList
    cases e
    case non => simp only [Rep] at ry; subst ry; cases qy; simpa only [eqD, Bool.not_false] using RcNeAt.list_none ht' hu0
    case bl => simp only [Rep] at ry; subst ry; cases qy; simpa only [eqD, Bool.not_false] using RcNeAt.list_bool _ ht' hu0
    case int => simp only [Rep] at ry; subst ry; obtain ⟨t, rfl⟩ := qy; simpa only [eqD, Bool.not_false] using RcNeAt.list_int _ t ht' hu0
    case str => simp only [Rep] at ry; subst ry; obtain ⟨t, rfl⟩ := qy; simpa only [eqD, Bool.not_false] using RcNeAt.list_str _ t ht' hu0
    case tup es =>
      simp only [Rep] at ry
      obtain ⟨b, ys, rfl, q', rs'⟩ := ry
      cases qy
      obtain ⟨its', rv', hl, _⟩ := I.tuple q'
      simpa only [eqD, Bool.not_false] using RcNeAt.list_tuple ht' (show s.heap.IsTuple b its'.toArray from hl) hu0
    case lst es =>
      simp only [Rep] at ry
      obtain ⟨b, ys, rfl, q', rs'⟩ := ry
      cases qy
      obtain ⟨its', rv', ht2, _⟩ := I.list q'.sq
      have l1 : its.toArray.size = ds.length := by rw [List.size_toArray, ← rv.length, rs.length]
      have l2 : its'.toArray.size = es.length := by rw [List.size_toArray, ← rv'.length, rs'.length]
      by_cases hl : ds.length = es.length
      · have h := RcNeAt.lists (e := fun j => eqD (ds.getD j .non) (es.getD j .non)) ht' ht2.isList (by rw [l1, l2, hl]) hu0 fun j h1 h2 => by
          obtain ⟨v1, a1, b1, c1⟩ := item_of rv rs h1
          obtain ⟨v2, a2, b2, c2⟩ := item_of rv' rs' h2
          exact eqAt_D I n A.in1 _ _ v1 v2 _ _ (hd _ c1) (he _ c2) hu1 b1 b2 a1 a2
        rw [l1, ← eqDs_all ds es hl] at h
        simpa only [eqD] using h
      · have h := RcNeAt.lists_lengths (A := A) ht' ht2.isList (by rw [l1, l2]; simpa using hl) hu0
        simp only [eqD, eqDs_len hl]
        exact h
    case obj => cases he
    case dic => cases he
    case dit => cases he
  case obj => cases n <;> cases hd
  case dic => cases n <;> cases hd
  case dit => cases n <;> cases hd
end
section
variable {X : Cx}
def oEq : O2 := fun d e Q => okE 9 d ∧ okE 9 e ∧ Q (.fz (.bl (eqD d e)))
def oNe : O2 := fun d e Q => okE 9 d ∧ okE 9 e ∧ Q (.fz (.bl (!eqD d e)))
theorem o_eq (hu : X.A.units + 64 < cLine) : OpP X (compareOp .Eq) oEq := by
  refine ⟨fun x y H Q => ∃ d e, okE 9 d ∧ okE 9 e ∧ Rep X.K H x d ∧ Rep X.K H y e ∧ Q (.bl (eqD d e)) H, fun pins s σ H x y v u Q I rx ry h => ?_, fun G H x y d e Q P s rx ry h k => ?_⟩
  · obtain ⟨d, e, hd, he, rd, re, q⟩ := h
    exact RcAt_D I 9 X.A d e x y v u hd he (by omega) rd re rx ry _ _ _ _ ⟨.bl _, H, I, rfl, q⟩
  · exact ⟨d, e, h.1, h.2.1, rx.mono s, ry.mono s, k _ _ _ G (.refl s) (fzR (rep_bl _ _ _)) h.2.2⟩
theorem o_ne (hu : X.A.units + 64 < cLine) : OpP X (compareOp .NotEq) oNe := by
  refine ⟨fun x y H Q => ∃ d e, okE 9 d ∧ okE 9 e ∧ Rep X.K H x d ∧ Rep X.K H y e ∧ Q (.bl (!eqD d e)) H, fun pins s σ H x y v u Q I rx ry h => ?_, fun G H x y d e Q P s rx ry h k => ?_⟩
  · obtain ⟨d, e, hd, he, rd, re, q⟩ := h
    exact RcNeAt_D I 9 X.A d e x y v u hd he (by omega) rd re rx ry _ _ _ _ ⟨.bl _, H, I, rfl, q⟩
  · exact ⟨d, e, h.1, h.2.1, rx.mono s, ry.mono s, k _ _ _ G (.refl s) (fzR (rep_bl _ _ _)) h.2.2⟩
def inD (d : D) (ds : List D) : Bool := ds.any fun e => eqD e d
def oInB (neg : Bool) : O2 := fun d e Q => match d, e with
  | .str x, .str y => Q (.fz (.bl (if neg then !(!(Builtin.Str.occurrences y x 0 y.length 1).isEmpty) else !(Builtin.Str.occurrences y x 0 y.length 1).isEmpty)))
  | d, .lst es => okE 8 d ∧ (∀ e ∈ es, okE 8 e) ∧ Q (.fz (.bl (if neg then !inD d es else inD d es)))
  | d, .tup es => okE 8 d ∧ (∀ e ∈ es, okE 8 e) ∧ Q (.fz (.bl (if neg then !inD d es else inD d es)))
  | _, _ => False
def isNon : D → Bool
  | .non => true
  | _ => false
def oIsB (neg : Bool) : O2 := fun d e Q => match e with
  | .non => Q (.fz (.bl (if neg then !isNon d else isNon d)))
  | _ => False
theorem isNon_of {K : PySem.W.Frag} {G : Hp} {x : V} {d : D} (r : Rep K G x d) : decide (x = .non) = isNon d := by
  cases d <;> simp only [Rep] at r
  case non => subst r; rfl
  case bl => subst r; rfl
  case int => subst r; rfl
  case str => subst r; rfl
  case tup => obtain ⟨_, _, rfl, _⟩ := r; rfl
  case lst => obtain ⟨_, _, rfl, _⟩ := r; rfl
  case obj => obtain ⟨_, _, _, _, rfl, _⟩ := r; rfl
  case dic => obtain ⟨_, _, _, rfl, _⟩ := r; rfl
  case dit => obtain ⟨_, _, _, rfl, _⟩ := r; rfl
theorem o_is : OpP X (compareOp .Is) (oIsB false) := by
  refine ⟨_, op_isN, fun G H x y d e Q P s rx ry h k => ?_⟩
  unfold oIsB at h
  split at h
  · simp only [Rep] at ry
    refine ⟨ry, ?_⟩
    rw [isNon_of rx]
    exact k _ _ _ G (.refl s) (fzR (rep_bl _ _ _)) h
  · exact h.elim
theorem o_isnot : OpP X (compareOp .IsNot) (oIsB true) := by
  refine ⟨_, op_notN, fun G H x y d e Q P s rx ry h k => ?_⟩
  unfold oIsB at h
  split at h
  · simp only [Rep] at ry
    refine ⟨ry, ?_⟩
    rw [isNon_of rx]
    exact k _ _ _ G (.refl s) (fzR (rep_bl _ _ _)) h
  · exact h.elim
end
end L2
set_option Elab.async false
set_option linter.all false
set_option maxRecDepth 100000
set_option maxHeartbeats 1000000
namespace L2
open PySem PySem.Spec PyProof.Rows
section
variable {X : Cx} {pos : Pos} {a b c : Expr} {ta tb tc : TD} {pa pb' : TDb} {rest : List Expr}
def bNot (t : TDb) : TDb := fun ρ Q => t ρ fun k => Q (!k)
def bAnd (t u : TDb) : TDb := fun ρ Q => t ρ fun k => if k = true then u ρ Q else Q false
def bOr (t u : TDb) : TDb := fun ρ Q => t ρ fun k => if k = true then Q true else u ρ Q
theorem pb_not (h : PB X a pa) : PB X (.UnaryOp .Not a pos) (bNot pa) := by
  obtain ⟨t, p, q⟩ := h
  exact ⟨_, pt_not p, fun ρ σ G0 H0 G H Q P E h k => q ρ σ G0 H0 G H _ _ E h fun b H' G' x hq => k _ H' G' x hq⟩
def PWb (X : Cx) (e : Expr) (t : TDb) : Prop := ∃ tt, PW X e tt ∧ ∀ (ρ : Ev) (σ : St) (G0 H0 G H : Hp) (Q : Bool → Prop) (P : Bool → Hp → Prop), EOk X.K G0 H0 ρ σ G H → t ρ Q →
  (∀ b H' G', Ext G H G' H' → Q b → P b H') → tt σ H P
theorem PWb.pb {e : Expr} {t : TDb} (h : PWb X e t) : PB X e t := let ⟨tt, p, q⟩ := h; ⟨tt, p.pt, q⟩
theorem pw_or1' (h : PB X a pa) : PWb X (.BoolOp .Or [a] pos) pa := let ⟨tt, p, q⟩ := h; ⟨tt, pw_or1 p, q⟩
theorem pw_or' (h : PB X a pa) (h' : PWb X (.BoolOp .Or (b :: rest) pos) pb') : PWb X (.BoolOp .Or (a :: b :: rest) pos) (bOr pa pb') := by
  obtain ⟨t, p, q⟩ := h
  obtain ⟨t', p', q'⟩ := h'
  refine ⟨_, pw_or p p', fun ρ σ G0 H0 G H Q P E h k => q ρ σ G0 H0 G H _ _ E h fun b H' G' x hq => ?_⟩
  cases b with
  | true => rw [if_pos rfl] at hq ⊢; exact k true H' G' x hq
  | false => rw [if_neg Bool.false_ne_true] at hq ⊢; exact q' ρ σ G0 H0 G' H' Q P (E.ext x) hq fun b2 H2 G2 x2 h2 => k b2 H2 G2 (x.trans x2) h2
def dNot (t : TD) : TD := fun ρ Q => t ρ fun r => match r with
  | .fz (.bl k) => Q (.fz (.bl (!k)))
  | _ => False
def dAnd (t u : TD) : TD := fun ρ Q => t ρ fun r => match r with
  | .fz (.bl k) => if k = true then u ρ Q else Q (.fz (.bl false))
  | _ => False
def dOr (t u : TD) : TD := fun ρ Q => t ρ fun r => match r with
  | .fz (.bl k) => if k = true then Q (.fz (.bl true)) else u ρ Q
  | _ => False
theorem pd_not (h : PD X a ta) : PD X (.UnaryOp .Not a pos) (dNot ta) := by
  obtain ⟨t, p, q⟩ := h
  refine ⟨_, pe_not p, fun ρ σ G0 H0 G H Q P E h k => q ρ σ G0 H0 G H _ _ E h fun v H' r G' x rr hq => ?_⟩
  split at hq
  · rename_i kk
    have e : v = .bl kk := by simpa only [RepR, Rep] using rr
    exact ⟨kk, e, k _ H' _ G' x (fzR (rep_bl _ _ _)) hq⟩
  · exact hq.elim
theorem pd_one {op} (h : PD X a ta) : PD X (.BoolOp op [a] pos) ta := let ⟨t, p, q⟩ := h; ⟨t, pe_one p, q⟩
theorem pd_and (h : PD X a ta) (h' : PD X (.BoolOp .And (b :: rest) pos) tb) : PD X (.BoolOp .And (a :: b :: rest) pos) (dAnd ta tb) := by
  obtain ⟨t, p, q⟩ := h
  obtain ⟨t', p', q'⟩ := h'
  refine ⟨_, pe_and p p', fun ρ σ G0 H0 G H Q P E h k => q ρ σ G0 H0 G H _ _ E h fun v H' r G' x rr hq => ?_⟩
  split at hq
  · rename_i kk
    have e : v = .bl kk := by simpa only [RepR, Rep] using rr
    refine ⟨kk, e, ?_⟩
    cases kk with
    | true => rw [if_pos rfl] at hq ⊢; exact q' ρ σ G0 H0 G' H' Q P (E.ext x) hq fun b2 H2 r2 G2 x2 rr2 h2 => k b2 H2 r2 G2 (x.trans x2) (rr2.older x.h) h2
    | false => rw [if_neg Bool.false_ne_true] at hq ⊢; exact k _ H' _ G' x (fzR (rep_bl _ _ _)) hq
  · exact hq.elim
def dIf (t : TDb) (ta tb : TD) : TD := fun ρ Q => t ρ fun k => if k = true then ta ρ Q else tb ρ Q
def dChain (o o' : O2) (ta tb tc : TD) : TD := fun ρ Q => ta ρ fun ra => tb ρ fun rb => o ra.val rb.val fun r => match r with
  | .fz (.bl k) => if k = true then tc ρ fun rc => o' rb.val rc.val Q else Q (.fz (.bl false))
  | _ => False
abbrev Rdg (K : PySem.W.Frag) (t : TD) (tt : TE) : Prop := ∀ (ρ : Ev) (σ : St) (G0 H0 G H : Hp) (Q : R → Prop) (P : VK), EOk K G0 H0 ρ σ G H → t ρ Q → (∀ v H' r G', Ext G H G' H' → RepR K G' H' H v r → Q r → P v H') → tt σ H P
theorem chain_rd {K : PySem.W.Frag} {g g' : Int → Int → Bool} {t1 t2 t3 : TE} (q1 : Rdg K ta t1) (q2 : Rdg K tb t2) (q3 : Rdg K tc t3) :
    Rdg K (dChain (oI0 fun i j => .bl (g i j)) (oI0 fun i j => .bl (g' i j)) ta tb tc) (tChain (rI0 fun i j => .bl (g i j)) (rI0 fun i j => .bl (g' i j)) t1 t2 t3) := by
  refine fun ρ σ G0 H0 G H Q P E h k => q1 ρ σ G0 H0 G H _ _ E h fun v1 H1 r1 G1 x1 rr1 hq1 => ?_
  obtain ⟨G1', x1', rv1, _⟩ := rr1.freeze x1
  refine q2 ρ σ G0 H0 G1' H1 _ _ (E.ext x1') hq1 fun v2 H2 r2 G2 x2 rr2 hq2 => ?_
  obtain ⟨G2', x2', rv2, _⟩ := rr2.freeze x2
  unfold oI0 at hq2
  split at hq2
  · rename_i i j e1 e2
    rw [e1] at rv1
    rw [e2] at rv2
    simp only [Rep] at rv1 rv2
    refine ⟨i, j, rv1, rv2, _, rfl, ?_⟩
    dsimp only at hq2
    cases hk : g i j with
    | false =>
      rw [hk, if_neg Bool.false_ne_true] at hq2
      rw [if_neg Bool.false_ne_true]
      exact k _ _ _ G2' (x1'.trans x2') (fzR (rep_bl _ _ _)) hq2
    | true =>
      rw [hk, if_pos rfl] at hq2
      rw [if_pos rfl]
      refine q3 ρ σ G0 H0 G2' H2 _ _ (E.ext (x1'.trans x2')) hq2 fun v3 H3 r3 G3 x3 rr3 hq3 => ?_
      obtain ⟨G3', x3', rv3, _⟩ := rr3.freeze x3
      rw [e2] at hq3
      split at hq3
      · rename_i i' j' e3 e4
        cases e3
        rw [e4] at rv3
        simp only [Rep] at rv3
        exact ⟨j, j', rv2, rv3, k _ _ _ G3' ((x1'.trans x2').trans x3') (fzR (rep_bl _ _ _)) hq3⟩
      · exact hq3.elim
  · exact hq2.elim
theorem tst_rd {K : PySem.W.Frag} {t : TD} {tt : TE} (q : Rdg K t tt) (ρ : Ev) (σ : St) (G0 H0 G H : Hp) (Q : Bool → Prop) (P : Bool → Hp → Prop) (E : EOk K G0 H0 ρ σ G H) (h : dTst t ρ Q) (k : ∀ b H' G', Ext G H G' H' → Q b → P b H') : tTest tt σ H P := by
  refine q ρ σ G0 H0 G H _ _ E h fun v H' r G' x1 r1 h1 => ?_
  split at h1
  · rename_i kk
    have e : v = .bl kk := by simpa only [RepR, Rep] using r1
    exact ⟨kk, e, k kk H' G' x1 h1⟩
  · exact h1.elim
theorem pb_chain {op op' : CmpOp} {g g' : Int → Int → Bool} (ho : OpR X (compareOp op) (rI0 fun i j => .bl (g i j))) (ho' : OpR X (compareOp op') (rI0 fun i j => .bl (g' i j))) (h1 : PD X a ta) (h2 : PD X b tb) (h3 : PD X c tc) (hm : lastMarks [op, op'] [b, c] = false := by with_unfolding_all rfl) :
    PB X (.Compare a [op, op'] [b, c] pos) (dTst (dChain (oI0 fun i j => .bl (g i j)) (oI0 fun i j => .bl (g' i j)) ta tb tc)) := by
  obtain ⟨t1, p1, q1⟩ := h1
  obtain ⟨t2, p2, q2⟩ := h2
  obtain ⟨t3, p3, q3⟩ := h3
  exact ⟨_, pt_chain ho ho' p1 p2 p3 hm, tst_rd (chain_rd q1 q2 q3)⟩
def oIx : O2 := fun d e Q => match d, e with
  | .lst ds, .int i => ∃ d, atI ds i = some d ∧ Q (.fz d)
  | .tup ds, .int i => ∃ d, atI ds i = some d ∧ Q (.fz d)
  | .str z, .int i => z.length ≤ sizeLine ∧ ∃ c, atI z.cps.toList i = some c ∧ Q (.fz (.str ⟨#[c]⟩))
  | _, _ => False
theorem atI_rep {K : PySem.W.Frag} {G : Hp} {xs : List V} {ds : List D} {i : Int} {d : D} (r : Reps K G xs ds) (h : atI ds i = some d) : ∃ v, atI xs i = some v ∧ Rep K G v d := by
  unfold atI at h ⊢
  rw [r.length]
  cases e : ixN ds.length i with
  | none => rw [e] at h; cases h
  | some j =>
    rw [e] at h
    simp only [Option.bind_some] at h ⊢
    exact r.get h
theorem pd_ix (h1 : PD X a ta) (h2 : PD X b tb) (hs : PlainIx b := by intro _ _; rfl) : PD X (.Subscript a b pos) (dOp oIx ta tb) := by
  obtain ⟨t1, p1, q1⟩ := h1
  obtain ⟨t2, p2, q2⟩ := h2
  refine ⟨_, pe_ix ix_seq p1 p2 hs, op_run (r := rIx X.K) (fun G H x y d e Q P s rx ry h k => ?_) q1 q2⟩
  unfold oIx at h
  split at h
  · simp only [Rep] at rx ry
    obtain ⟨p, xs, rfl, hq, rs⟩ := rx
    obtain ⟨d, hd, q⟩ := h
    obtain ⟨v, hv, rv⟩ := atI_rep rs hd
    exact .inl ⟨p, xs, _, v, rfl, ry, (s.rdl hq).sq, hv, k _ _ _ G (.refl s) (fzR rv) q⟩
  · simp only [Rep] at rx ry
    obtain ⟨p, xs, rfl, hq, rs⟩ := rx
    obtain ⟨d, hd, q⟩ := h
    obtain ⟨v, hv, rv⟩ := atI_rep rs hd
    exact .inr (.inl ⟨p, xs, _, v, rfl, ry, s.seqT hq, hv, k _ _ _ G (.refl s) (fzR rv) q⟩)
  · simp only [Rep] at rx ry
    obtain ⟨hz, c, hc, q⟩ := h
    exact .inr (.inr ⟨_, _, c, rx, ry, hz, hc, k _ _ _ G (.refl s) (fzR (rep_str _ _ _)) q⟩)
  · exact h.elim
def dIxO (i : Nat) (tb : TD) : TD := fun ρ Q => match gt ρ i with
  | .ow ds => tb ρ fun rb => match rb.val with
    | .int j => ∃ d, atI ds j = some d ∧ Q (.fz d)
    | _ => False
  | _ => False
variable {e : Expr} {es : List Expr} {te : TD} {ts : TDa}
def aNil : TDa := fun _ Q => Q []
def aCons (te : TD) (ts : TDa) : TDa := fun ρ Q => te ρ fun r => ts ρ fun ds => Q (r.val :: ds)
theorem pda_nil : PDa X [] aNil := ⟨_, pa_nil, fun ρ σ G0 H0 G H Q P E h k => k [] H [] G (.refl E.e.s) Reps.nil h⟩
theorem pda_cons (h : PD X e te) (hr : PDa X es ts) (hs : starEach (e :: es) X.env = (false, eval e X.env) :: starEach es X.env := by rfl) : PDa X (e :: es) (aCons te ts) := by
  obtain ⟨t1, p1, q1⟩ := h
  obtain ⟨t2, p2, q2⟩ := hr
  refine ⟨_, pa_cons p1 p2 hs, fun ρ σ G0 H0 G H Q P E h k => q1 ρ σ G0 H0 G H _ _ E h fun v H' r G' x1 rr hq => ?_⟩
  obtain ⟨G2, x2, rv, _⟩ := rr.freeze x1
  refine q2 ρ σ G0 H0 G2 H' _ _ (E.ext x2) hq fun vs H3 ds G3 x3 rs hq3 => ?_
  exact k _ H3 _ G3 (x2.trans x3) (Reps.cons (rv.mono x3.g) rs) hq3
def dTup (ts : TDa) : TD := fun ρ Q => ts ρ fun ds => ds.length ≤ sizeLine ∧ Q (.fz (.tup ds))
def dLst (ts : TDa) : TD := fun ρ Q => ts ρ fun ds => ds.length ≤ sizeLine ∧ Q (.ow ds)
theorem pd_tup {x1} (h : PDa X es ts) : PD X (.Tuple es x1 pos) (dTup ts) := by
  obtain ⟨t, p, q⟩ := h
  refine ⟨_, pe_tup p, fun ρ σ G0 H0 G H Q P E h k => q ρ σ G0 H0 G H _ _ E h fun vs H' ds G' x rs hq => ⟨by rw [rs.length]; exact hq.1, fun p hp => ?_⟩⟩
  have x2 : Ext G' H' (upd G' p (.tup vs)) (upd H' p (.tup vs)) := .new x.s hp
  refine k _ _ (.fz (.tup ds)) _ (x.trans x2) ?_ hq.2
  show Rep X.K _ _ (.tup ds)
  simp only [Rep]
  exact ⟨p, vs, rfl, SqT.of upd_same, rs.mono x2.g⟩
theorem pd_lst (h : PDa X es ts) : PD X (.List es pos) (dLst ts) := by
  obtain ⟨t, p, q⟩ := h
  refine ⟨_, pe_lst p, fun ρ σ G0 H0 G H Q P E h k => q ρ σ G0 H0 G H _ _ E h fun vs H' ds G' x rs hq => ⟨by rw [rs.length]; exact hq.1, fun p hp => ?_⟩⟩
  exact k _ _ (.ow ds) G' (x.trans (.own x.s hp)) ⟨p, vs, rfl, x.h.free hp, x.s.free hp, upd_same, rs⟩ hq.2
def CallP (X : Cx) (f : Value) (o : List D → (R → Prop) → Prop) : Prop := ∃ r, CallR X f r ∧ ∀ (G H : Hp) (vs : List V) (ds : List D) (Q : R → Prop) (P : VK), Same G H → Reps X.K G vs ds → o ds Q →
  (∀ v H' r' G', Ext G H G' H' → RepR X.K G' H' H v r' → Q r' → P v H') → r vs H P
def dCB (o : List D → (R → Prop) → Prop) (ts : TDa) : TD := fun ρ Q => ts ρ fun ds => o ds Q
theorem cb_rd {o : List D → (R → Prop) → Prop} {r : List V → Hp → VK → Prop} {t : TA}
    (hr : ∀ (G H : Hp) (vs : List V) (ds : List D) (Q : R → Prop) (P : VK), Same G H → Reps X.K G vs ds → o ds Q → (∀ v H' r' G', Ext G H G' H' → RepR X.K G' H' H v r' → Q r' → P v H') → r vs H P)
    (q : ∀ (ρ : Ev) (σ : St) (G0 H0 G H : Hp) (Q : List D → Prop) (P : List V → Hp → Prop), EOk X.K G0 H0 ρ σ G H → ts ρ Q → (∀ vs H' ds G', Ext G H G' H' → Reps X.K G' vs ds → Q ds → P vs H') → t σ H P) : Rdg X.K (dCB o ts) (tCB r t) :=
  fun ρ σ G0 H0 G H Q P E h k => q ρ σ G0 H0 G H _ _ E h fun vs H' ds G' x rs hq => hr G' H' vs ds Q P x.s rs hq fun v H2 r' G2 x2 rr q2 => k v H2 r' G2 (x.trans x2) (rr.older x.h) q2
theorem pd_callB {id : String} {x : Str} {p : Pos} {o : List D → (R → Prop) → Prop} (hc : CallP X (.builtin id) o) (hm : X.mg x = none) (hv : bootBuiltins x = some (.builtin id)) (ha : PDa X (e :: es) ts) (hg : Gl X x := by rfl) (hn : x ≠ "__name__" := by decide) (hdb : (x == ("__debug__" : Str)) = false := by decide)
    (he : starEach (e :: es) X.env = (false, eval e X.env) :: starEach es X.env := by rfl) (hpl : (backTo pos (starEach es X.env)).any (·.1) = false := by rfl) : PD X (.Call (.Name x p) (e :: es) [] pos) (dCB o ts) := by
  obtain ⟨r, hr, hr'⟩ := hc
  obtain ⟨t, pp, q⟩ := ha
  exact ⟨_, pe_callB hr hg hm hv pp hn hdb he hpl, cb_rd hr' q⟩
theorem pd_callTy {T : String} {x : Str} {p : Pos} {o : List D → (R → Prop) → Prop} (hc : CallP X (.type T) o) (hm : X.mg x = none) (hv : bootBuiltins x = some (.type T)) (ha : PDa X (e :: es) ts) (hg : Gl X x := by rfl) (hn : x ≠ "__name__" := by decide) (hdb : (x == ("__debug__" : Str)) = false := by decide)
    (he : starEach (e :: es) X.env = (false, eval e X.env) :: starEach es X.env := by rfl) (hpl : (backTo pos (starEach es X.env)).any (·.1) = false := by rfl) : PD X (.Call (.Name x p) (e :: es) [] pos) (dCB o ts) := by
  obtain ⟨r, hr, hr'⟩ := hc
  obtain ⟨t, pp, q⟩ := ha
  exact ⟨_, pe_callTy hr hg hm hv pp hn hdb he hpl, cb_rd hr' q⟩
end
end L2
set_option Elab.async false
set_option linter.all false
set_option maxRecDepth 100000
set_option maxHeartbeats 1000000
namespace L2
open PySem PySem.Spec PyProof.Rows
theorem σ_set {σ : St} {i j : Nat} {x : Option V} : (σ.set i x)[j]? = if i = j ∧ j < σ.length then some x else σ[j]? := by
  by_cases h : i = j
  · subst h
    by_cases hl : i < σ.length
    · simp [hl]
    · simp [hl]
  · simp [h]
section
variable {K : PySem.W.Frag} {G0 H0 G H G' H' : Hp} {ρ : Ev} {σ : St}
theorem EOk.put {i : Nat} {v : V} {r : R} (E : EOk K G0 H0 ρ σ G H) (x : Ext G H G' H') (rr : RepR K G' H' H v r) : EOk K G0 H0 (ρ.set i r.sl) (σ.set i (some v)) G' H' := by
  have E' := E.ext x
  have hl := E.len
  have gs : ∀ j s, gt (ρ.set i r.sl) j = s → (i = j ∧ j < ρ.length ∧ s = r.sl) ∨ (¬ (i = j ∧ j < ρ.length) ∧ gt ρ j = s) := fun j s e => by
    rw [gt_set] at e
    by_cases h : i = j ∧ j < ρ.length
    · rw [if_pos h] at e; exact .inl ⟨h.1, h.2, e.symm⟩
    · rw [if_neg h] at e; exact .inr ⟨h, e⟩
  refine ⟨E'.e, by simp [E.len], fun j d h => ?_, fun j ds h => ?_, fun j k ds es hjk h1 h2 => ?_, ?_⟩
  · rcases gs j _ h with ⟨h1, h2, h3⟩ | ⟨h1, h2⟩
    · cases r with
      | ow => cases h3
      | ov => cases h3
      | fz d' =>
        cases h3
        exact ⟨v, by rw [σ_set, if_pos ⟨h1, by omega⟩], rr⟩
    · obtain ⟨u, hu, ru⟩ := E'.fz j d h2
      exact ⟨u, by rw [σ_set, if_neg (by rw [hl]; exact h1)]; exact hu, ru⟩
  · rcases gs j _ h with ⟨h1, h2, h3⟩ | ⟨h1, h2⟩
    · cases r with
      | fz => cases h3
      | ov => cases h3
      | ow ds' =>
        cases h3
        obtain ⟨p, xs, rfl, a1, a2, a3, a4⟩ := rr
        exact ⟨p, xs, by rw [σ_set, if_pos ⟨h1, by omega⟩], a3, a2, E.e.h.free a1, a4⟩
    · obtain ⟨p, xs, b1, b2, b3, b4, b5⟩ := E'.ow j ds h2
      exact ⟨p, xs, by rw [σ_set, if_neg (by rw [hl]; exact h1)]; exact b1, b2, b3, b4, b5⟩
  · have old : ∀ {j : Nat} {ds : List D}, gt ρ j = .ow ds → ∀ es, r = .ow es → σ[j]? ≠ some (some v) := fun {j ds} h es e z => by
      subst e
      obtain ⟨p, xs, rfl, a1, a2, a3, a4⟩ := rr
      obtain ⟨p', xs', b1, b2, b3, b4, b5⟩ := E.ow j ds h
      rw [b1] at z
      cases z
      rw [a1] at b2
      cases b2
    rcases gs j _ h1 with ⟨c1, c2, c3⟩ | ⟨c1, c2⟩
    · rcases gs k _ h2 with ⟨d1, d2, d3⟩ | ⟨d1, d2⟩
      · exact absurd (c1.symm.trans d1) hjk
      · rw [σ_set, if_pos ⟨c1, by omega⟩, σ_set, if_neg (by rw [hl]; exact d1)]
        cases r with
        | fz => cases c3
        | ov => cases c3
        | ow es' => exact fun z => old d2 es' rfl z.symm
    · rcases gs k _ h2 with ⟨d1, d2, d3⟩ | ⟨d1, d2⟩
      · rw [σ_set, if_neg (by rw [hl]; exact c1), σ_set, if_pos ⟨d1, by omega⟩]
        cases r with
        | fz => cases d3
        | ov => cases d3
        | ow es' => exact old c2 es' rfl
      · rw [σ_set, if_neg (by rw [hl]; exact c1), σ_set, if_neg (by rw [hl]; exact d1)]
        exact E.dj j k ds es hjk c2 d2
  · obtain ⟨own, o1, o2⟩ := E.on
    have hσ : ∀ j, ¬ (i = j ∧ j < ρ.length) → (σ.set i (some v))[j]? = σ[j]? := fun j h => by rw [σ_set, if_neg (by rw [hl]; exact h)]
    have gen : ∀ L : List Addr, (∀ q ∈ L, H q = none) → (∀ j ds p, i = j → j < ρ.length → r.sl = .ow ds → v = .ref p → p ∈ L) →
        (∀ j o, i = j → j < ρ.length → r.sl = .ov o → ∃ p fp, v = .ref p ∧ (p :: fp).Nodup ∧ Owns K G' H' p fp o ∧ ∀ q ∈ p :: fp, G' q = none ∧ q ∈ L) →
        ∃ own : Addr → Option Nat, (∀ j ds p, gt (ρ.set i r.sl) j = .ow ds → (σ.set i (some v))[j]? = some (some (.ref p)) → own p = some j) ∧ ∀ j o, gt (ρ.set i r.sl) j = .ov o → ∃ p fp, (σ.set i (some v))[j]? = some (some (.ref p)) ∧ (p :: fp).Nodup ∧ Owns K G' H' p fp o ∧ ∀ q ∈ p :: fp, G' q = none ∧ H0 q = none ∧ own q = some j := by
      intro L hL hw ho
      refine ⟨fun q => if q ∈ L then some i else own q, fun j ds p h hp => ?_, fun j o h => ?_⟩
      · rcases gs j _ h with ⟨h1, h2, h3⟩ | ⟨h1, h2⟩
        · rw [σ_set, if_pos ⟨h1, by omega⟩] at hp
          have hv : v = .ref p := by injection hp with hp; injection hp
          dsimp only
          rw [if_pos (hw j ds p h1 h2 h3.symm hv), h1]
        · rw [hσ j h1] at hp
          obtain ⟨p', xs', b1, b2, _⟩ := E.ow j ds h2
          have hne : p ∉ L := fun z => by
            rw [hp] at b1
            cases b1
            rw [hL p z] at b2
            cases b2
          dsimp only
          rw [if_neg hne]
          exact o1 j ds p h2 hp
      · rcases gs j _ h with ⟨h1, h2, h3⟩ | ⟨h1, h2⟩
        · obtain ⟨p, fp, rfl, c1, c2, c3⟩ := ho j o h1 h2 h3.symm
          refine ⟨p, fp, by rw [σ_set, if_pos ⟨h1, by omega⟩], c1, c2, fun q hq => ⟨(c3 q hq).1, E.e.h.free (hL q (c3 q hq).2), ?_⟩⟩
          dsimp only
          rw [if_pos (c3 q hq).2, h1]
        · obtain ⟨p, fp, b1, b2, b3, b4⟩ := o2 j o h2
          refine ⟨p, fp, by rw [hσ j h1]; exact b1, b2, b3.mono x.g fun q _ u e => x.h q u e, fun q hq => ⟨x.n q (b4 q hq).1 (b3.here q hq), (b4 q hq).2.1, ?_⟩⟩
          dsimp only
          rw [if_neg (fun z => b3.here q hq (hL q z))]
          exact (b4 q hq).2.2
    cases r with
    | fz d => exact gen [] (fun q hq => by cases hq) (fun j ds p _ _ e => by cases e) (fun j o _ _ e => by cases e)
    | ow ds' =>
      obtain ⟨p, xs, rfl, a1, a2, a3, a4⟩ := rr
      refine gen [p] (fun q hq => ?_) (fun j ds p' _ _ e e2 => ?_) (fun j o _ _ e => by cases e)
      · simp only [List.mem_singleton] at hq
        subst hq; exact a1
      · cases e2; simp
    | ov o' =>
      obtain ⟨p, fp, rfl, a1, a2, a3⟩ := rr
      refine gen (p :: fp) (fun q hq => (a3 q hq).1) (fun j ds p' _ _ e => by cases e) (fun j o _ _ e => ?_)
      cases e
      exact ⟨p, fp, rfl, a1, a2, fun q hq => ⟨(a3 q hq).2, hq⟩⟩
def frz (i : Nat) (ρ : Ev) : Ev := match gt ρ i with
  | .ow ds => ρ.set i (.fz (.lst ds))
  | .ov o => ρ.set i (.fz o.val)
  | _ => ρ
theorem gt_lt {ρ : Ev} {i : Nat} {s : Sl} (h : gt ρ i = s) (hs : s ≠ .un) : i < ρ.length := by
  induction ρ generalizing i with
  | nil => simp [gt] at h; exact absurd h.symm hs
  | cons a r ih =>
    cases i with
    | zero => simp
    | succ i => simp only [gt] at h; have := ih h; simp; omega
theorem EOk.freezeL2 (i : Nat) (E : EOk K G0 H0 ρ σ G H) : ∃ L : List Addr, (∀ q ∈ L, G q = none) ∧ EOk K G0 H0 (frz i ρ) σ (plus G H L) H ∧ (((∀ o, gt ρ i = .ov o → ∃ kvs, o = .dc kvs) → ∀ q ∈ L, H q ≠ none ∧ ∀ xs, ¬ Rd H q (.tup xs))) ∧ ∀ o p, gt ρ i = .ov o → σ[i]? = some (some (.ref p)) → p ∈ L := by
  unfold frz
  split
  · rename_i ds hg
    obtain ⟨p, xs, h1, h2, h3, h4, h5⟩ := E.ow i ds hg
    have hlt : i < ρ.length := gt_lt hg (by simp)
    have hs : Same G (upd G p (.lst xs)) := same_upd h3
    have gs : ∀ j s, gt (ρ.set i (.fz (.lst ds))) j = s → (i = j ∧ s = .fz (.lst ds)) ∨ (i ≠ j ∧ gt ρ j = s) := fun j s e => by
      rw [gt_set] at e
      by_cases h : i = j
      · subst h; rw [if_pos ⟨rfl, hlt⟩] at e; exact .inl ⟨rfl, e.symm⟩
      · rw [if_neg (fun z => h z.1)] at e; exact .inr ⟨h, e⟩
    have ep : plus G H [p] = upd G p (.lst xs) := by
      funext a
      by_cases ha : a = p
      · subst ha; rw [upd_same, plus_in (by simp)]; exact h2
      · rw [upd_ne ha, plus_out (by simpa using ha)]
    refine ⟨[p], fun q hq => ?_, ?_, fun _ q hq => by
      simp only [List.mem_singleton] at hq
      rw [hq]
      exact ⟨(by rw [h2]; exact nofun), fun xs' e => by rcases e with e | ⟨_, e⟩ <;> (rw [h2] at e; cases e)⟩, fun o p z => by rw [hg] at z; cases z⟩
    · simp only [List.mem_singleton] at hq
      subst hq; exact h3
    rw [ep]
    refine ⟨⟨E.e.g.trans hs, E.e.h, fun b o e => ?_, fun q q1 q2 => ?_⟩, by simp [E.len], fun j d h => ?_, fun j es h => ?_, fun j k es fs hjk a1 a2 => ?_, ?_⟩
    · by_cases hb : b = p
      · subst hb; rw [upd_same] at e; rw [h2]; exact e
      · rw [upd_ne hb] at e; exact E.e.s b o e
    · rw [upd_ne (fun z => q2 (by rw [z]; exact h4))]
      exact E.e.n q q1 q2
    · rcases gs j _ h with ⟨e, e2⟩ | ⟨e, e2⟩
      · subst e
        cases e2
        exact ⟨_, h1, by simp only [Rep]; exact ⟨p, xs, rfl, RdL.of upd_same, h5.mono hs⟩⟩
      · obtain ⟨u, u1, u2⟩ := E.fz j d e2
        exact ⟨u, u1, u2.mono hs⟩
    · rcases gs j _ h with ⟨e, e2⟩ | ⟨e, e2⟩
      · cases e2
      · obtain ⟨p', xs', b1, b2, b3, b4, b5⟩ := E.ow j es e2
        have hne : p' ≠ p := fun z => by
          subst z
          exact E.dj i j ds es e hg e2 (by rw [h1, b1])
        exact ⟨p', xs', b1, b2, by rw [upd_ne hne]; exact b3, b4, b5.mono hs⟩
    · rcases gs j _ a1 with ⟨_, e2⟩ | ⟨e, e2⟩
      · cases e2
      · rcases gs k _ a2 with ⟨_, e4⟩ | ⟨e3, e4⟩
        · cases e4
        · exact E.dj j k es fs hjk e2 e4
    · obtain ⟨own, o1, o2⟩ := E.on
      refine ⟨own, fun j es p' h hp => ?_, fun j o h => ?_⟩
      · rcases gs j _ h with ⟨_, e2⟩ | ⟨_, e2⟩
        · cases e2
        · exact o1 j es p' e2 hp
      · rcases gs j _ h with ⟨_, e2⟩ | ⟨e, e2⟩
        · cases e2
        · obtain ⟨p', fp, b1, b2, b3, b4⟩ := o2 j o e2
          refine ⟨p', fp, b1, b2, b3.mono hs fun q _ u e => e, fun q hq => ⟨?_, (b4 q hq).2⟩⟩
          rw [upd_ne fun z => ?_]
          · exact (b4 q hq).1
          · have z1 := (b4 q hq).2.2
            rw [z, o1 i ds p hg h1] at z1
            injection z1 with z1
            exact e z1
  · rename_i o hg
    obtain ⟨own, o1, o2⟩ := E.on
    obtain ⟨p, fp, h1, h2, h3, h4⟩ := o2 i o hg
    have hlt : i < ρ.length := gt_lt hg (by simp)
    have hn : ∀ q ∈ p :: fp, G q = none := fun q hq => (h4 q hq).1
    have hs : Same G (plus G H (p :: fp)) := plus_same hn
    have gs : ∀ j s, gt (ρ.set i (.fz o.val)) j = s → (i = j ∧ s = .fz o.val) ∨ (i ≠ j ∧ gt ρ j = s) := fun j s e => by
      rw [gt_set] at e
      by_cases h : i = j
      · subst h; rw [if_pos ⟨rfl, hlt⟩] at e; exact .inl ⟨rfl, e.symm⟩
      · rw [if_neg (fun z => h z.1)] at e; exact .inr ⟨h, e⟩
    suffices hmain : EOk K G0 H0 (ρ.set i (.fz o.val)) σ (plus G H (p :: fp)) H from ⟨p :: fp, hn, hmain, fun hd q hq => by
      obtain ⟨kvs, rfl⟩ := hd o hg
      obtain ⟨rfl, ks, ep, h5, _⟩ := h3
      simp only [List.mem_singleton] at hq
      rw [hq]
      exact ⟨(by rw [h5]; exact nofun), fun xs' e => by rcases e with e | ⟨_, e⟩ <;> (rw [h5] at e; cases e)⟩, fun o' p' _ e => by rw [h1] at e; cases e; simp⟩
    refine ⟨⟨E.e.g.trans hs, E.e.h, fun b u e => ?_, fun q q1 q2 => ?_⟩, by simp [E.len], fun j d h => ?_, fun j es h => ?_, fun j k es fs hjk a1 a2 => ?_, own, fun j es p' h hp => ?_, fun j o' h => ?_⟩
    · by_cases hb : b ∈ p :: fp
      · rw [plus_in hb] at e; exact e
      · rw [plus_out hb] at e; exact E.e.s b u e
    · rw [plus_out (fun z => q2 (h4 q z).2.1)]; exact E.e.n q q1 q2
    · rcases gs j _ h with ⟨e, e2⟩ | ⟨e, e2⟩
      · subst e
        cases e2
        exact ⟨_, h1, h3.freeze hn⟩
      · obtain ⟨u, u1, u2⟩ := E.fz j d e2
        exact ⟨u, u1, u2.mono hs⟩
    · rcases gs j _ h with ⟨e, e2⟩ | ⟨e, e2⟩
      · cases e2
      · obtain ⟨p', xs', b1, b2, b3, b4, b5⟩ := E.ow j es e2
        refine ⟨p', xs', b1, b2, ?_, b4, b5.mono hs⟩
        rw [plus_out fun z => ?_]
        · exact b3
        · have z1 := (h4 p' z).2.2
          rw [o1 j es p' e2 b1] at z1
          injection z1 with z1
          exact e z1.symm
    · rcases gs j _ a1 with ⟨_, e2⟩ | ⟨e, e2⟩
      · cases e2
      · rcases gs k _ a2 with ⟨_, e4⟩ | ⟨e3, e4⟩
        · cases e4
        · exact E.dj j k es fs hjk e2 e4
    · rcases gs j _ h with ⟨_, e2⟩ | ⟨_, e2⟩
      · cases e2
      · exact o1 j es p' e2 hp
    · rcases gs j _ h with ⟨_, e2⟩ | ⟨e, e2⟩
      · cases e2
      · obtain ⟨p', fp', b1, b2, b3, b4⟩ := o2 j o' e2
        refine ⟨p', fp', b1, b2, b3.mono hs fun q _ u e => e, fun q hq => ⟨?_, (b4 q hq).2⟩⟩
        rw [plus_out fun z => ?_]
        · exact (b4 q hq).1
        · have z1 := (b4 q hq).2.2
          rw [(h4 q z).2.2] at z1
          injection z1 with z1
          exact e z1
  · rename_i no1 no2
    have ep : plus G H [] = G := by funext a; exact plus_out (by simp)
    exact ⟨[], fun q hq => (by cases hq), by rw [ep]; exact E, fun _ q hq => (by cases hq), fun o p z => (no2 o z).elim⟩
theorem EOk.freezeL (i : Nat) (E : EOk K G0 H0 ρ σ G H) : ∃ L : List Addr, (∀ q ∈ L, G q = none) ∧ EOk K G0 H0 (frz i ρ) σ (plus G H L) H ∧ ((∀ o, gt ρ i = .ov o → ∃ kvs, o = .dc kvs) → ∀ q ∈ L, H q ≠ none ∧ ∀ xs, ¬ Rd H q (.tup xs)) :=
  let ⟨L, a, b, c, _⟩ := E.freezeL2 i
  ⟨L, a, b, c⟩
theorem EOk.freeze (i : Nat) (E : EOk K G0 H0 ρ σ G H) : ∃ G', EOk K G0 H0 (frz i ρ) σ G' H ∧ Same G G' :=
  let ⟨L, hL, E', _⟩ := E.freezeL i
  ⟨_, E', plus_same hL⟩
theorem EOk.change {i : Nat} {ds ds' : List D} {p : Addr} {xs' : List V} (E : EOk K G0 H0 ρ σ G H) (hg : gt ρ i = .ow ds) (h1 : σ[i]? = some (some (.ref p))) (hr : Reps K G xs' ds') :
    EOk K G0 H0 (ρ.set i (.ow ds')) σ G (upd H p (.lst xs')) := by
  obtain ⟨p', xs0, b1, b2, b3, b4, b5⟩ := E.ow i ds hg
  rw [h1] at b1
  cases b1
  have hlt : i < ρ.length := gt_lt hg (by simp)
  have gs : ∀ j s, gt (ρ.set i (.ow ds')) j = s → (i = j ∧ s = .ow ds') ∨ (i ≠ j ∧ gt ρ j = s) := fun j s e => by
    rw [gt_set] at e
    by_cases h : i = j
    · subst h; rw [if_pos ⟨rfl, hlt⟩] at e; exact .inl ⟨rfl, e.symm⟩
    · rw [if_neg (fun z => h z.1)] at e; exact .inr ⟨h, e⟩
  have hG : Same G (upd H p (.lst xs')) := fun b o e => by rw [upd_ne (ne_of_none e b3)]; exact E.e.s b o e
  refine ⟨⟨E.e.g, fun b o e => by rw [upd_ne (ne_of_none e b4)]; exact E.e.h b o e, hG, E.e.n⟩, by simp [E.len], fun j d h => ?_, fun j es h => ?_, fun j k es fs hjk a1 a2 => ?_, ?_⟩
  · rcases gs j _ h with ⟨_, e2⟩ | ⟨e, e2⟩
    · cases e2
    · exact E.fz j d e2
  · rcases gs j _ h with ⟨e, e2⟩ | ⟨e, e2⟩
    · subst e
      cases e2
      exact ⟨p, xs', h1, upd_same, b3, b4, hr⟩
    · obtain ⟨p', xs2, c1, c2, c3, c4, c5⟩ := E.ow j es e2
      have hne : p' ≠ p := fun z => by
        subst z
        exact E.dj i j ds es e hg e2 (by rw [h1, c1])
      exact ⟨p', xs2, c1, by rw [upd_ne hne]; exact c2, c3, c4, c5⟩
  · rcases gs j _ a1 with ⟨e, e2⟩ | ⟨e, e2⟩
    · subst e
      rcases gs k _ a2 with ⟨e3, e4⟩ | ⟨e3, e4⟩
      · exact absurd e3 hjk
      · exact E.dj i k ds fs hjk hg e4
    · rcases gs k _ a2 with ⟨e3, e4⟩ | ⟨e3, e4⟩
      · subst e3
        exact E.dj j i es ds hjk e2 hg
      · exact E.dj j k es fs hjk e2 e4
  · obtain ⟨own, o1, o2⟩ := E.on
    refine ⟨own, fun j es p' h hp => ?_, fun j o h => ?_⟩
    · rcases gs j _ h with ⟨e, e2⟩ | ⟨_, e2⟩
      · subst e; exact o1 i ds p' hg hp
      · exact o1 j es p' e2 hp
    · rcases gs j _ h with ⟨_, e2⟩ | ⟨e, e2⟩
      · cases e2
      · obtain ⟨p', fp, c1, c2, c3, c4⟩ := o2 j o e2
        refine ⟨p', fp, c1, c2, c3.mono (Same.refl _) fun q hq u e3 => ?_, c4⟩
        rw [upd_ne fun z => ?_]
        · exact e3
        · have z1 := (c4 q hq).2.2
          rw [z, o1 i ds p hg h1] at z1
          injection z1 with z1
          exact e z1
theorem EOk.changeO {i : Nat} {o o' : OV} {p : Addr} (E : EOk K G0 H0 ρ σ G H) (hg : gt ρ i = .ov o) (h1 : σ[i]? = some (some (.ref p)))
    (hc : ∀ fp, (p :: fp).Nodup → Owns K G H p fp o → ∃ fp', (p :: fp').Nodup ∧ Owns K G H' p fp' o' ∧ (∀ q ∈ p :: fp', q ∈ p :: fp ∨ H q = none) ∧ ∀ b, b ∉ p :: fp → H b ≠ none → H' b = H b) :
    EOk K G0 H0 (ρ.set i (.ov o')) σ G H' := by
  obtain ⟨own, o1, o2⟩ := E.on
  obtain ⟨p', fp, b1, b2, b3, b4⟩ := o2 i o hg
  rw [h1] at b1
  cases b1
  obtain ⟨fp', c1, c2, c3, c4⟩ := hc fp b2 b3
  have hlt : i < ρ.length := gt_lt hg (by simp)
  have gs : ∀ j s, gt (ρ.set i (.ov o')) j = s → (i = j ∧ s = .ov o') ∨ (i ≠ j ∧ gt ρ j = s) := fun j s e => by
    rw [gt_set] at e
    by_cases h : i = j
    · subst h; rw [if_pos ⟨rfl, hlt⟩] at e; exact .inl ⟨rfl, e.symm⟩
    · rw [if_neg (fun z => h z.1)] at e; exact .inr ⟨h, e⟩
  have hk : ∀ (F : Hp), (∀ q ∈ p :: fp, F q = none) → Same F H → Same F H' := fun F hF s b u e => by
    have hb : b ∉ p :: fp := fun z => by rw [hF b z] at e; cases e
    rw [c4 b hb (by rw [s b u e]; exact nofun)]
    exact s b u e
  refine ⟨⟨E.e.g, hk H0 (fun q hq => (b4 q hq).2.1) E.e.h, hk G (fun q hq => (b4 q hq).1) E.e.s, E.e.n⟩, by simp [E.len], fun j d h => ?_, fun j es h => ?_, fun j k es fs hjk a1 a2 => ?_, fun q => if q ∈ p :: fp' then some i else own q, fun j es p' h hp => ?_, fun j o2' h => ?_⟩
  · rcases gs j _ h with ⟨_, e2⟩ | ⟨e, e2⟩
    · cases e2
    · exact E.fz j d e2
  · rcases gs j _ h with ⟨_, e2⟩ | ⟨e, e2⟩
    · cases e2
    · obtain ⟨p', xs, d1, d2, d3, d4, d5⟩ := E.ow j es e2
      refine ⟨p', xs, d1, ?_, d3, d4, d5⟩
      rw [c4 p' (fun z => ?_) (by rw [d2]; exact nofun)]
      · exact d2
      · have z1 := (b4 p' z).2.2
        rw [o1 j es p' e2 d1] at z1
        injection z1 with z1
        exact e z1.symm
  · rcases gs j _ a1 with ⟨_, e2⟩ | ⟨e, e2⟩
    · cases e2
    · rcases gs k _ a2 with ⟨_, e4⟩ | ⟨e3, e4⟩
      · cases e4
      · exact E.dj j k es fs hjk e2 e4
  · rcases gs j _ h with ⟨_, e2⟩ | ⟨e, e2⟩
    · cases e2
    · have w := o1 j es p' e2 hp
      obtain ⟨p2, xs, d1, d2, _⟩ := E.ow j es e2
      rw [hp] at d1
      cases d1
      dsimp only
      rw [if_neg fun z => ?_]
      · exact w
      · rcases c3 p' z with z | z
        · have z1 := (b4 p' z).2.2
          rw [w] at z1
          injection z1 with z1
          exact e z1.symm
        · rw [z] at d2; cases d2
  · rcases gs j _ h with ⟨e, e2⟩ | ⟨e, e2⟩
    · subst e
      cases e2
      refine ⟨p, fp', h1, c1, c2, fun q hq => ?_⟩
      dsimp only
      rw [if_pos hq]
      rcases c3 q hq with z | z
      · exact ⟨(b4 q z).1, (b4 q z).2.1, rfl⟩
      · exact ⟨E.e.s.free z, E.e.h.free z, rfl⟩
    · obtain ⟨p2, fp2, d1, d2, d3, d4⟩ := o2 j o2' e2
      have hno : ∀ q ∈ p2 :: fp2, q ∉ p :: fp := fun q hq z => by
        have z1 := (b4 q z).2.2
        rw [(d4 q hq).2.2] at z1
        injection z1 with z1
        exact e z1.symm
      refine ⟨p2, fp2, d1, d2, d3.mono (Same.refl _) fun q hq u e3 => ?_, fun q hq => ⟨(d4 q hq).1, (d4 q hq).2.1, ?_⟩⟩
      · rw [c4 q (hno q hq) (by rw [e3]; exact nofun)]; exact e3
      · dsimp only
        rw [if_neg fun z => ?_]
        · exact (d4 q hq).2.2
        · rcases c3 q z with z | z
          · exact hno q hq z
          · exact d3.here q hq z
theorem EOk.weak {ρ' : Ev} (E : EOk K G0 H0 ρ σ G H) (hl : ρ'.length = ρ.length) (w : ∀ i, gt ρ' i = .un ∨ gt ρ' i = gt ρ i) : EOk K G0 H0 ρ' σ G H := by
  have g : ∀ i s, gt ρ' i = s → s ≠ .un → gt ρ i = s := fun i s e n => by
    rcases w i with h | h
    · exact absurd (e.symm.trans h) n
    · rw [← h]; exact e
  exact ⟨E.e, by rw [hl]; exact E.len, fun i d h => E.fz i d (g i _ h (by simp)), fun i d h => E.ow i d (g i _ h (by simp)), fun i j ds es hij h1 h2 => E.dj i j ds es hij (g i _ h1 (by simp)) (g j _ h2 (by simp)), let ⟨own, o1, o2⟩ := E.on; ⟨own, fun i ds p h => o1 i ds p (g i _ h (by simp)), fun i o h => o2 i o (g i _ h (by simp))⟩⟩
end
section
variable {X : Cx} {pos : Pos} {e : Expr} {te : TD}
def xSeq (t u : TX) : TX := fun D ρ => t { D with nx := u D } ρ
def xNil : TX := fun D ρ => D.nx ρ
theorem pxs_nil : PXs X [] xNil := ⟨_, pss_nil, fun ρ σ G0 H0 G H D E k h g => g.nx ρ σ G H (Same.refl _) k h⟩
theorem pxs_cons {st : Stmt} {sts : List Stmt} {t u : TX} (h1 : PX X st t) (h2 : PXs X sts u) : PXs X (st :: sts) (xSeq t u) := by
  obtain ⟨t1, p1, q1⟩ := h1
  obtain ⟨t2, p2, q2⟩ := h2
  refine ⟨_, pss_cons p1 p2, fun ρ σ G0 H0 G H D E k h g => q1 ρ σ G0 H0 G H _ _ k h ⟨fun ρ' σ' G' H' s' k' h' => q2 ρ' σ' G0 H0 G' H' D E k' h' (g.shift s'), g.rt, g.bk, g.ct⟩⟩
theorem pxs_one {st : Stmt} {t : TX} (h1 : PX X st t) : PXs X [st] t := by
  obtain ⟨t1, p1, q1⟩ := h1
  exact ⟨_, pss_one p1, q1⟩
theorem pxs_frz (i : Nat) {sts : List Stmt} {t : TX} (h : PXs X sts t) : PXs X sts (fun D ρ => t D (frz i ρ)) := by
  obtain ⟨t1, p1, q1⟩ := h
  refine ⟨_, p1, fun ρ σ G0 H0 G H D E k h g => ?_⟩
  obtain ⟨G', k', s'⟩ := k.freeze i
  exact q1 _ σ G0 H0 G' H D E k' h (g.shift s')
def xRet (te : TD) : TX := fun D ρ => te ρ D.rt
theorem px_ret (h : PD X e te) : PX X (.Return (some e) pos) (xRet te) := by
  obtain ⟨t, p, q⟩ := h
  exact ⟨_, ps_ret p, fun ρ σ G0 H0 G H D E k h g => q ρ σ G0 H0 G H _ _ k h fun v H' r G' x rr hq => g.rt v H' r G' (k.e.trans x) (rr.older k.e.h) hq⟩
def xRetO (i : Nat) : TX := fun D ρ => match gt ρ i with
  | .ow ds => D.rt (.ow ds)
  | _ => False
theorem px_retO (i : Nat) {x : Str} {p' : Pos} (hN : X.N[i]? = some x := by rfl) (hv : Vis X.env.scope x := by first | exact Or.inl rfl | exact Or.inr (Or.inl rfl) | exact Or.inr (Or.inr rfl)) (hd : (x == ("__debug__" : Str)) = false := by decide)
    (hcd : (x == ("__classdict__" : Str)) = false := by decide) : PX X (.Return (some (.Name x p')) pos) (xRetO i) := by
  refine ⟨_, ps_ret (pe_var hN hv hd hcd), fun ρ σ G0 H0 G H D E k h g => ?_⟩
  unfold xRetO at h
  split at h
  · rename_i ds hg
    obtain ⟨p, xs, h1, h2, h3, h4, h5⟩ := k.ow i ds hg
    exact ⟨_, h1, g.rt _ H (.ow ds) G k.e ⟨p, xs, rfl, h4, h3, h2, h5⟩ h⟩
  · exact h.elim
def xRetN : TX := fun D _ => D.rt (.fz .non)
def xDrop (te : TD) : TX := fun D ρ => te ρ fun _ => D.nx ρ
def xIf (c : TDb) (t u : TX) : TX := fun D ρ => c ρ fun b => if b = true then t D ρ else u D ρ
theorem px_if {c : Expr} {a b : List Stmt} {tc : TDb} {t u : TX} (hc : PB X c tc) (ha : PXs X a t) (hb : PXs X b u) : PX X (.If c a b pos) (xIf tc t u) := by
  obtain ⟨t0, p0, q0⟩ := hc
  obtain ⟨t1, p1, q1⟩ := ha
  obtain ⟨t2, p2, q2⟩ := hb
  refine ⟨_, ps_if p0 p1 p2, fun ρ σ G0 H0 G H D E k h g => q0 ρ σ G0 H0 G H _ _ k h fun b H' G' x hq => ?_⟩
  cases b with
  | true => rw [if_pos rfl] at hq ⊢; exact q1 ρ σ G0 H0 G' H' D E (k.ext x) hq (g.shift x.g)
  | false => rw [if_neg Bool.false_ne_true] at hq ⊢; exact q2 ρ σ G0 H0 G' H' D E (k.ext x) hq (g.shift x.g)
def xSet (i : Nat) (te : TD) : TX := fun D ρ => te ρ fun r => D.nx (ρ.set i r.sl)
theorem px_set (i : Nat) {x : Str} {pos' : Pos} (he : PD X e te) (hN : X.N.Nodup := by assumption) (hi : X.N[i]? = some x := by rfl) (hx : Loc X.env.scope x := by first | exact Or.inl rfl | exact Or.inr rfl) (hs : swapsWith e (some (.Name x pos')) pos.line X.env = pure false := by rfl) (hf : X.fn x = true ∨ X.env.scope.names.lookup x = some .local := by first | exact .inl rfl | exact .inr rfl | assumption) :
    PX X (.Assign [.Name x pos'] e pos) (xSet i te) := by
  obtain ⟨t, p, q⟩ := he
  exact ⟨_, ps_set hN hi hx p hs hf, fun ρ σ G0 H0 G H D E k h g => q ρ σ G0 H0 G H _ _ k h fun v H' r G' x rr hq => g.nx _ _ G' H' x.g (k.put x rr) hq⟩
def xSetF (i : Nat) (te : TD) : TX := fun D ρ => te ρ fun r => D.nx (ρ.set i (.fz r.val))
theorem px_setF (i : Nat) {x : Str} {pos' : Pos} (he : PD X e te) (hN : X.N.Nodup := by assumption) (hi : X.N[i]? = some x := by rfl) (hx : Loc X.env.scope x := by first | exact Or.inl rfl | exact Or.inr rfl) (hs : swapsWith e (some (.Name x pos')) pos.line X.env = pure false := by rfl) (hf : X.fn x = true ∨ X.env.scope.names.lookup x = some .local := by first | exact .inl rfl | exact .inr rfl | assumption) :
    PX X (.Assign [.Name x pos'] e pos) (xSetF i te) := by
  obtain ⟨t, p, q⟩ := he
  refine ⟨_, ps_set hN hi hx p hs hf, fun ρ σ G0 H0 G H D E k h g => q ρ σ G0 H0 G H _ _ k h fun v H' r G' x rr hq => ?_⟩
  obtain ⟨G2, x2, rv, _⟩ := rr.freeze x
  exact g.nx _ _ G2 H' x2.g (k.put x2 (r := .fz r.val) rv) hq
def xApp (i : Nat) (te : TD) : TX := fun D ρ => match gt ρ i with
  | .ow ds => te ρ fun r => ds.length < sizeLine ∧ D.nx (ρ.set i (.ow (ds ++ [r.val])))
  | _ => False
theorem px_app (i : Nat) {x : Str} {p1 p2 pos' : Pos} (he : PD X e te) (hN : X.N[i]? = some x := by rfl) (hv : Vis X.env.scope x := by first | exact Or.inl rfl | exact Or.inr (Or.inl rfl) | exact Or.inr (Or.inr rfl)) (hd : (x == ("__debug__" : Str)) = false := by decide)
    (hcd : (x == ("__classdict__" : Str)) = false := by decide) (hst : starEach [e] X.env = (false, eval e X.env) :: starEach [] X.env := by rfl)
    (hb : ∀ {ta : TE} {t : TA}, PE X (.Name x p1) ta → PA X [e] t → PE X (.Call (.Attribute (.Name x p1) "append" p2) [e] [] pos') (tBM X.K "list" rAppend ta t) := by intro ta t h1 h2; exact pe_bm PySem.F.plainAttrs_list PySem.F.slot_list_append PySem.F.type_list_append mt_append h1 h2) :
    PX X (.Expr (.Call (.Attribute (.Name x p1) "append" p2) [e] [] pos') pos) (xApp i te) := by
  obtain ⟨t, p, q⟩ := he
  refine ⟨_, ps_expr (hb (pe_var hN hv hd hcd) (pa_cons p pa_nil hst)), fun ρ σ G0 H0 G H D E k h g => ?_⟩
  unfold xApp at h
  split at h
  · rename_i ds hg
    obtain ⟨a, xs, h1, h2, h3, h4, h5⟩ := k.ow i ds hg
    refine ⟨_, h1, .inl ⟨rfl, xs, SqL.of h2⟩, ?_⟩
    refine q ρ σ G0 H0 G H _ _ k h fun v H' r G' x1 rr hq => ?_
    obtain ⟨G2, x2, rv, _⟩ := rr.freeze x1
    have k2 := k.ext x2
    refine ⟨a, xs, v, rfl, rfl, x2.h _ _ h2, by rw [h5.length]; exact hq.1, ?_⟩
    exact g.nx _ _ G2 _ x2.g (k2.change hg h1 ((h5.mono x2.g).append (Reps.cons rv Reps.nil))) hq.2
  · exact h.elim
end
end L2
set_option Elab.async false
set_option linter.all false
set_option maxRecDepth 100000
set_option maxHeartbeats 1000000
namespace L2
open PySem PySem.Spec PyProof.Rows
section
variable {X : Cx} {pos : Pos} {tg : Expr}
abbrev TGd := D → Ev → (Ev → Prop) → Prop
abbrev TGds := List D → Ev → (Ev → Prop) → Prop
def PGd (X : Cx) (tg : Expr) (g : TGd) : Prop := ∃ gg, PG X tg gg ∧ ∀ (ρ : Ev) (σ : St) (G0 H0 G H : Hp) (d : D) (v : V) (Q : Ev → Prop) (P : St → Hp → Prop), EOk X.K G0 H0 ρ σ G H → Rep X.K G v d → g d ρ Q →
  (∀ ρ' σ' G' H', EOk X.K G0 H0 ρ' σ' G' H' → Ext G H G' H' → Q ρ' → P σ' H') → gg v σ H P
def PGds (X : Cx) (tgs : List Expr) (g : TGds) : Prop := ∃ gg, PGs X tgs gg ∧ ∀ (ρ : Ev) (σ : St) (G0 H0 G H : Hp) (ds : List D) (vs : List V) (Q : Ev → Prop) (P : St → Hp → Prop), EOk X.K G0 H0 ρ σ G H → Reps X.K G vs ds → g ds ρ Q →
  (∀ ρ' σ' G' H', EOk X.K G0 H0 ρ' σ' G' H' → Ext G H G' H' → Q ρ' → P σ' H') → gg vs σ H P
def yName (i : Nat) : TGd := fun d ρ Q => Q (ρ.set i (.fz d))
theorem pg_nameD (i : Nat) {x : Str} (hN : X.N.Nodup := by assumption) (hi : X.N[i]? = some x := by rfl) (hx : Loc X.env.scope x := by first | exact Or.inl rfl | exact Or.inr rfl) (hf : X.fn x = true ∨ X.env.scope.names.lookup x = some .local := by first | exact .inl rfl | exact .inr rfl | assumption) : PGd X (.Name x pos) (yName i) :=
  ⟨_, pg_name hN hi hx hf, fun ρ σ G0 H0 G H d v Q P E r h k => k _ _ G H (E.put (.refl E.e.s) (r := .fz d) r) (.refl E.e.s) h⟩
def yNil : TGds := fun ds ρ Q => match ds with
  | [] => Q ρ
  | _ => False
def yCons (t : TGd) (u : TGds) : TGds := fun ds ρ Q => match ds with
  | d :: r => t d ρ fun ρ' => u r ρ' Q
  | [] => False
theorem pgs_nilD : PGds X [] yNil := by
  refine ⟨_, pgs_nil, fun ρ σ G0 H0 G H ds vs Q P E r h k => ?_⟩
  unfold yNil at h
  split at h
  · cases vs with
    | nil => exact ⟨rfl, k _ _ G H E (.refl E.e.s) h⟩
    | cons => simp only [Reps] at r
  · exact h.elim
theorem pgs_consD {e : Expr} {es : List Expr} {t : TGd} {u : TGds} (h1 : PGd X e t) (h2 : PGds X es u) (hs : (assignEach (e :: es) X.env).map (·.2) = assign e X.env :: (assignEach es X.env).map (·.2) := by rfl) : PGds X (e :: es) (yCons t u) := by
  obtain ⟨t1, p1, q1⟩ := h1
  obtain ⟨t2, p2, q2⟩ := h2
  refine ⟨_, pgs_cons p1 p2 hs, fun ρ σ G0 H0 G H ds vs Q P E r h k => ?_⟩
  unfold yCons at h
  split at h
  · cases vs with
    | nil => simp only [Reps] at r
    | cons v vs =>
      simp only [Reps] at r
      refine ⟨v, vs, rfl, q1 ρ σ G0 H0 G H _ v _ _ E r.1 h fun ρ' σ' G' H' E' x hq => ?_⟩
      exact q2 ρ' σ' G0 H0 G' H' _ vs Q P E' (r.2.mono x.g) hq fun ρ2 σ2 G2 H2 E2 x2 hq2 => k ρ2 σ2 G2 H2 E2 (x.trans x2) hq2
  · exact h.elim
def yTup (n : Nat) (t : TGds) : TGd := fun d ρ Q => match d with
  | .tup ds => ds.length = n ∧ t ds ρ Q
  | _ => False
theorem pg_tupD {es : List Expr} {k : Nat} {t : TGds} {n : Nat} (hc : X.calm = true) (h : PGds X es t) (hn : (assignEach es X.env).length = n := by rfl) (hst : (assignEach es X.env).findIdx? (·.1) = none := by rfl) : PGd X (.Tuple es k pos) (yTup n t) := by
  obtain ⟨t1, p1, q1⟩ := h
  refine ⟨_, pg_tup hc p1 hn hst, fun ρ σ G0 H0 G H d v Q P E r h k => ?_⟩
  unfold yTup at h
  split at h
  · simp only [Rep] at r
    obtain ⟨a, xs, rfl, hq, rs⟩ := r
    exact ⟨a, xs, rfl, E.e.s.seqT hq, by rw [rs.length]; exact h.1, q1 ρ σ G0 H0 G H _ xs Q P E rs h.2 k⟩
  · exact h.elim
def xAsg (te : TD) (g : TGd) : TX := fun D ρ => te ρ fun r => g r.val ρ D.nx
def Walk (K : PySem.W.Frag) (J : It) (G : Hp) (ds : List D) : Prop :=
  (∀ i d G' H', ds[i]? = some d → Same G G' → Same G' H' → J.go i H' ∧ ∀ v H2, J.yld i H' v H2 → ∃ G2, Ext G' H' G2 H2 ∧ Rep K G2 v d) ∧ ∀ G' H', Same G G' → Same G' H' → J.stop ds.length H'
abbrev TId := Ev → (List D → Prop) → Prop
def PId (X : Cx) (tg iter : Expr) (wi : TId) : Prop := ∃ ww, PI X tg iter ww ∧ ∀ (ρ : Ev) (σ : St) (G0 H0 G H : Hp) (Q : List D → Prop) (P : It → Hp → Prop), EOk X.K G0 H0 ρ σ G H → wi ρ Q →
  (∀ J H' ds G', Ext G H G' H' → Walk X.K J G' ds → Q ds → P J H') → ww σ H P
def itemsD (d : D) (Q : List D → Prop) : Prop := match d with
  | .lst ds => Q ds
  | .tup ds => Q ds
  | .str z => Q (z.cps.toList.map fun c => .str ⟨#[c]⟩)
  | _ => False
def zSeq (te : TD) : TId := fun ρ Q => te ρ fun r => itemsD r.val Q
theorem walk_list {K : PySem.W.Frag} {G : Hp} {a : Addr} {xs : List V} {ds : List D} (h : RdL K G a xs) (r : Reps K G xs ds) : Walk K (Itl K a) G ds := by
  refine ⟨fun i d G' H' hd s1 s2 => ?_, fun G' H' s1 s2 => ⟨xs, (s2.rdl (s1.rdl h)).sq, by rw [r.length]; exact Nat.le_refl _⟩⟩
  obtain ⟨v, hv, rv⟩ := r.get hd
  have hs : SqL K H' a xs := (s2.rdl (s1.rdl h)).sq
  refine ⟨⟨xs, v, hs, hv⟩, fun u H2 hy => ?_⟩
  obtain ⟨e, y⟩ := hy
  subst e
  have := y xs hs
  rw [hv] at this
  cases this
  exact ⟨G', .refl s2, rv.mono s1⟩
theorem walk_tup {K : PySem.W.Frag} {G : Hp} {a : Addr} {xs : List V} {ds : List D} (h : SqT K G a xs) (r : Reps K G xs ds) : Walk K (Itt K a) G ds := by
  refine ⟨fun i d G' H' hd s1 s2 => ?_, fun G' H' s1 s2 => ⟨xs, s2.seqT (s1.seqT h), by rw [r.length]; exact Nat.le_refl _⟩⟩
  obtain ⟨v, hv, rv⟩ := r.get hd
  have hs : SqT K H' a xs := s2.seqT (s1.seqT h)
  refine ⟨⟨xs, v, hs, hv⟩, fun u H2 hy => ?_⟩
  obtain ⟨e, y⟩ := hy
  subst e
  have := y xs hs
  rw [hv] at this
  cases this
  exact ⟨G', .refl s2, rv.mono s1⟩
theorem walk_str {K : PySem.W.Frag} {G : Hp} (z : Str) : Walk K (Its z) G (z.cps.toList.map fun c => .str ⟨#[c]⟩) := by
  refine ⟨fun i d G' H' hd s1 s2 => ?_, fun G' H' s1 s2 => ?_⟩
  · rw [List.getElem?_map] at hd
    cases e : z.cps.toList[i]? with
    | none => rw [e] at hd; cases hd
    | some c =>
      rw [e] at hd
      cases hd
      have hc : z.cps[i]? = some c := by simpa using e
      refine ⟨(Array.getElem?_eq_some_iff.mp hc).1, fun v H2 hy => ?_⟩
      obtain ⟨e2, c', hc', rfl⟩ := hy
      subst e2
      rw [hc] at hc'
      cases hc'
      exact ⟨G', .refl s2, rep_str _ _ _⟩
  · show _ = _
    simp
theorem walk_range {K : PySem.W.Frag} {G : Hp} (lo : Int) (n : Nat) : Walk K (Itr lo n) G ((List.range n).map fun (i : Nat) => .int (lo + i)) := by
  refine ⟨fun i d G' H' hd s1 s2 => ?_, fun G' H' s1 s2 => ?_⟩
  · rw [List.getElem?_map] at hd
    cases e : (List.range n)[i]? with
    | none => rw [e] at hd; cases hd
    | some c =>
      rw [e] at hd
      cases hd
      obtain ⟨h1, h2⟩ := List.getElem?_eq_some_iff.mp e
      have h3 : i < n := by simpa using h1
      have h4 : c = i := by rw [← h2]; simp
      subst h4
      refine ⟨h3, fun v H2 hy => ?_⟩
      obtain ⟨e2, rfl⟩ := hy
      subst e2
      exact ⟨G', .refl s2, rep_int _ _ _⟩
  · show n ≤ _
    simp
def enumD (ds : List D) : List D := ds.mapIdx fun i d => .tup [.int (i : Nat), d]
theorem rep_pair {K : PySem.W.Frag} {G : Hp} {t : Addr} {x y : V} {d e : D} (s1 : SqT K G t [x, y]) (r1 : Rep K G x d) (r2 : Rep K G y e) : Rep K G (.ref t) (.tup [d, e]) := by
  simp only [Rep]
  exact ⟨t, [x, y], rfl, s1, Reps.cons r1 (Reps.cons r2 Reps.nil)⟩
theorem walk_enum {K : PySem.W.Frag} {G : Hp} {a : Addr} {xs : List V} {ds : List D} (h : RdL K G a xs) (r : Reps K G xs ds) : Walk K (Ite K a) G (enumD ds) := by
  refine ⟨fun i d G' H' hd s1 s2 => ?_, fun G' H' s1 s2 => ⟨xs, (s2.rdl (s1.rdl h)).sq, by rw [r.length]; simp [enumD]⟩⟩
  unfold enumD at hd
  rw [List.getElem?_mapIdx] at hd
  cases e : ds[i]? with
  | none => rw [e] at hd; cases hd
  | some d' =>
    rw [e] at hd
    cases hd
    obtain ⟨v, hv, rv⟩ := r.get e
    have hs : SqL K H' a xs := (s2.rdl (s1.rdl h)).sq
    refine ⟨⟨xs, v, hs, hv⟩, fun u H2 hy => ?_⟩
    obtain ⟨t, rfl, ht, y⟩ := hy
    obtain ⟨x, hx, rfl⟩ := y xs hs
    rw [hv] at hx
    cases hx
    have x2 : Ext G' H' (upd G' t (.tup [.int i, v])) (upd H' t (.tup [.int i, v])) := .new s2 ht
    exact ⟨_, x2, rep_pair (SqT.of upd_same) (rep_int _ _ _) ((rv.mono s1).mono x2.g)⟩
def zipD (ds es : List D) : List D := List.zipWith (fun d e => .tup [d, e]) ds es
theorem walk_zip {K : PySem.W.Frag} {G : Hp} {a b : Addr} {xs ys : List V} {ds es : List D} (h : RdL K G a xs) (r : Reps K G xs ds) (h' : RdL K G b ys) (r' : Reps K G ys es) : Walk K (Itz K a b) G (zipD ds es) := by
  refine ⟨fun i d G' H' hd s1 s2 => ?_, fun G' H' s1 s2 => ⟨xs, ys, (s2.rdl (s1.rdl h)).sq, (s2.rdl (s1.rdl h')).sq, ?_⟩⟩
  · unfold zipD at hd
    rw [List.getElem?_zipWith] at hd
    cases e : ds[i]? with
    | none => rw [e] at hd; cases hd
    | some d' =>
      cases e2 : es[i]? with
      | none => rw [e, e2] at hd; cases hd
      | some d2 =>
        rw [e, e2] at hd
        cases hd
        obtain ⟨v, hv, rv⟩ := r.get e
        obtain ⟨v', hv', rv'⟩ := r'.get e2
        have hs : SqL K H' a xs := (s2.rdl (s1.rdl h)).sq
        have hs' : SqL K H' b ys := (s2.rdl (s1.rdl h')).sq
        refine ⟨⟨xs, ys, v, v', hs, hs', hv, hv'⟩, fun u H2 hy => ?_⟩
        obtain ⟨t, rfl, ht, y⟩ := hy
        obtain ⟨x, x', hx, hx', rfl⟩ := y xs ys hs hs'
        rw [hv] at hx
        rw [hv'] at hx'
        cases hx
        cases hx'
        have x2 : Ext G' H' (upd G' t (.tup [v, v'])) (upd H' t (.tup [v, v'])) := .new s2 ht
        exact ⟨_, x2, rep_pair (SqT.of upd_same) ((rv.mono s1).mono x2.g) ((rv'.mono s1).mono x2.g)⟩
  · rw [r.length, r'.length]
    unfold zipD
    rw [List.length_zipWith]
    omega
theorem pid_seq {l : Expr} {te : TD} (h : PD X l te) : PId X tg l (zSeq te) := by
  obtain ⟨t, p, q⟩ := h
  refine ⟨_, pi_seq p, fun ρ σ G0 H0 G H Q P E h k => q ρ σ G0 H0 G H _ _ E h fun v H' r G' x rr hq => ?_⟩
  obtain ⟨G2, x2, rv, _⟩ := rr.freeze x
  unfold itemsD at hq
  split at hq
  · rename_i ds e
    rw [e] at rv
    simp only [Rep] at rv
    obtain ⟨a, xs, rfl, h1, h2⟩ := rv
    exact .inl ⟨a, rfl, ⟨xs, (x2.s.rdl h1).sq⟩, k _ H' _ G2 x2 (walk_list h1 h2) hq⟩
  · rename_i ds e
    rw [e] at rv
    simp only [Rep] at rv
    obtain ⟨a, xs, rfl, h1, h2⟩ := rv
    exact .inr (.inl ⟨a, rfl, ⟨xs, x2.s.seqT h1⟩, k _ H' _ G2 x2 (walk_tup h1 h2) hq⟩)
  · rename_i z e
    rw [e] at rv
    simp only [Rep] at rv
    exact .inr (.inr ⟨z, rv, k _ H' _ G2 x2 (walk_str z) hq⟩)
  · exact hq.elim
def zRng1 (ts : TDa) : TId := fun ρ Q => ts ρ fun ds => match ds with
  | [.int j] => -(2 ^ 62) ≤ j ∧ j < 2 ^ 62 ∧ Q ((List.range j.toNat).map fun (i : Nat) => .int (0 + i))
  | _ => False
theorem reps1 {K : PySem.W.Frag} {G : Hp} {vs : List V} {d : D} (h : Reps K G vs [d]) : ∃ v, vs = [v] ∧ Rep K G v d := by
  match vs, h with
  | [], h => simp only [Reps] at h
  | [v], h => simp only [Reps] at h; exact ⟨v, rfl, h.1⟩
  | v :: w :: r, h => simp only [Reps] at h; exact absurd h.2 (by simp)
theorem reps2 {K : PySem.W.Frag} {G : Hp} {vs : List V} {d e : D} (h : Reps K G vs [d, e]) : ∃ v w, vs = [v, w] ∧ Rep K G v d ∧ Rep K G w e := by
  match vs, h with
  | [], h => simp only [Reps] at h
  | v :: r, h =>
    simp only [Reps] at h
    obtain ⟨w, rfl, hw⟩ := reps1 h.2
    exact ⟨v, w, rfl, h.1, hw⟩
theorem pid_range1 {a : Expr} {ts : TDa} {p : Pos} (hm : X.mg "range" = none) (ha : PDa X [a] ts) (hg : Gl X "range" := by rfl) (hs : starEach [a] X.env = [(false, eval a X.env)] := by rfl) : PId X tg (.Call (.Name "range" p) [a] [] pos) (zRng1 ts) := by
  obtain ⟨t, pp, q⟩ := ha
  refine ⟨_, pi_range1 hg hm pp hs, fun ρ σ G0 H0 G H Q P E h k => q ρ σ G0 H0 G H _ _ E h fun vs H' ds G' x rs hq => ?_⟩
  split at hq
  · obtain ⟨v, rfl, rv⟩ := reps1 rs
    simp only [Rep] at rv
    subst rv
    exact ⟨_, rfl, hq.1, hq.2.1, k _ H' _ G' x (walk_range 0 _) hq.2.2⟩
  · exact hq.elim
def zRng2 (ts : TDa) : TId := fun ρ Q => ts ρ fun ds => match ds with
  | [.int i, .int j] => (-(2 ^ 62) ≤ i ∧ i < 2 ^ 62 ∧ -(2 ^ 62) ≤ j ∧ j < 2 ^ 62) ∧ Q ((List.range (j - i).toNat).map fun (n : Nat) => .int (i + n))
  | _ => False
theorem pid_range2 {a b : Expr} {ts : TDa} {p : Pos} (hm : X.mg "range" = none) (ha : PDa X [a, b] ts) (hg : Gl X "range" := by rfl) (hs : starEach [a, b] X.env = [(false, eval a X.env), (false, eval b X.env)] := by rfl) (hs2 : starEach [b] X.env = [(false, eval b X.env)] := by rfl) : PId X tg (.Call (.Name "range" p) [a, b] [] pos) (zRng2 ts) := by
  obtain ⟨t, pp, q⟩ := ha
  refine ⟨_, pi_range2 hg hm pp hs hs2, fun ρ σ G0 H0 G H Q P E h k => q ρ σ G0 H0 G H _ _ E h fun vs H' ds G' x rs hq => ?_⟩
  split at hq
  · obtain ⟨v, w', rfl, rv, rw'⟩ := reps2 rs
    simp only [Rep] at rv rw'
    subst rv rw'
    exact ⟨_, _, rfl, hq.1, k _ H' _ G' x (walk_range _ _) hq.2⟩
  · exact hq.elim
def zEnum (ts : TDa) : TId := fun ρ Q => ts ρ fun ds => match ds with
  | [.lst es] => Q (enumD es)
  | _ => False
theorem pid_enum {a : Expr} {ts : TDa} {p tp : Pos} {elts : List Expr} {x1 : Nat} (hm : X.mg "enumerate" = none) (ha : PDa X [a] ts) (hg : Gl X "enumerate" := by rfl) (hs : starEach [a] X.env = [(false, eval a X.env)] := by rfl) : PId X (.Tuple elts x1 tp) (.Call (.Name "enumerate" p) [a] [] pos) (zEnum ts) := by
  obtain ⟨t, pp, q⟩ := ha
  refine ⟨_, pi_enum hg hm pp hs, fun ρ σ G0 H0 G H Q P E h k => q ρ σ G0 H0 G H _ _ E h fun vs H' ds G' x rs hq => ?_⟩
  split at hq
  · obtain ⟨v, rfl, rv⟩ := reps1 rs
    simp only [Rep] at rv
    obtain ⟨a, xs, rfl, h1, h2⟩ := rv
    exact ⟨a, xs, rfl, x.s.rdl h1, k _ H' _ G' x (walk_enum h1 h2) hq⟩
  · exact hq.elim
def xFor (wi : TId) (g : TGd) (tb : TX) : TX := fun D ρ => wi ρ fun ds => ∃ Iv : Nat → Ev → Prop, Iv 0 ρ ∧
  (∀ i d ρ', ds[i]? = some d → Iv i ρ' → g d ρ' fun ρ2 => tb { D with nx := Iv (i + 1), ct := Iv (i + 1), bk := D.nx } ρ2) ∧ ∀ ρ', Iv ds.length ρ' → D.nx ρ'
theorem px_for {iter : Expr} {body : List Stmt} {wi : TId} {g : TGd} {tb : TX} (hp : PassesOwn (model X.prog X.w) X.A X.env X.xe) (hc : X.calm = true) (hi : PId X tg iter wi) (hg : PGd X tg g) (hb : PXs X body tb)
    (hs : ∀ x, foldedSetIterable iter X.env x = pure x := by intro _; rfl) : PX X (.For tg iter body [] pos) (xFor wi g tb) := by
  obtain ⟨t1, p1, q1⟩ := hi
  obtain ⟨t2, p2, q2⟩ := hg
  obtain ⟨t3, p3, q3⟩ := hb
  refine ⟨_, ps_for hp hc p1 p2 p3 hs, fun ρ σ G0 H0 G H D E k h gg => q1 ρ σ G0 H0 G H _ _ k h fun J H1 ds G1 x1 wk hq => ?_⟩
  obtain ⟨Iv, i0, turn, fin⟩ := hq
  refine ⟨fun i m σ' H' => m = ds.length - i ∧ i ≤ ds.length ∧ ∃ ρ' G', EOk X.K G0 H0 ρ' σ' G' H' ∧ Same G1 G' ∧ Iv i ρ', ⟨ds.length, by simp, Nat.zero_le _, ρ, G1, k.ext x1, Same.refl _, i0⟩, ?_⟩
  rintro i m σ' H' ⟨rfl, hi, ρ', G', k', s', iv⟩
  by_cases hlt : i < ds.length
  · obtain ⟨w1, w2⟩ := wk
    obtain ⟨go, yl⟩ := w1 i ds[i] G' H' (List.getElem?_eq_getElem hlt) s' k'.e.s
    refine .inr ⟨go, fun σ2 H2 => ∃ ρ2 G2, EOk X.K G0 H0 ρ2 σ2 G2 H2 ∧ Same G1 G2 ∧ Iv (i + 1) ρ2, fun σ2 H2 ⟨ρ2, G2, k2, s2, iv2⟩ => ⟨ds.length - (i + 1), by omega, rfl, hlt, ρ2, G2, k2, s2, iv2⟩, fun v H2 hy => ?_⟩
    obtain ⟨G2, x2, rv⟩ := yl v H2 hy
    refine q2 ρ' σ' G0 H0 G2 H2 ds[i] v _ _ (k'.ext x2) rv (turn i ds[i] ρ' (List.getElem?_eq_getElem hlt) iv) fun ρ3 σ3 G3 H3 k3 x3 hq3 => ?_
    have s3 : Same G1 G3 := (s'.trans x2.g).trans x3.g
    refine q3 ρ3 σ3 G0 H0 G3 H3 _ _ k3 hq3 ⟨fun ρ4 σ4 G4 H4 s4 k4 h4 => ⟨ρ4, G4, k4, s3.trans s4, h4⟩, gg.rt, fun ρ4 σ4 G4 H4 s4 k4 h4 => gg.nx ρ4 σ4 G4 H4 ((x1.g.trans s3).trans s4) k4 h4, fun ρ4 σ4 G4 H4 s4 k4 h4 => ⟨ρ4, G4, k4, s3.trans s4, h4⟩⟩
  · have e : i = ds.length := by omega
    subst e
    exact .inl ⟨wk.2 G' H' s' k'.e.s, gg.nx ρ' σ' G' H' (x1.g.trans s') k' (fin ρ' iv)⟩
end
end L2
set_option Elab.async false
set_option linter.all false
set_option maxRecDepth 100000
set_option maxHeartbeats 1000000
namespace L2
open PySem PySem.Spec PyProof.Rows
def innS (ρ : Ev) : Option Nat → Sl
  | none => .un
  | some j => match gt ρ j with
    | .fz d => .fz d
    | _ => .un
def innP (m : List (Option Nat)) (ρ : Ev) : Ev := m.map (innS ρ)
theorem gt_map {m : List (Option Nat)} {ρ : Ev} {i : Nat} : gt (m.map (innS ρ)) i = match m[i]? with
    | some o => innS ρ o
    | none => .un := by
  induction m generalizing i with
  | nil => simp [gt]
  | cons a r ih =>
    cases i with
    | zero => simp [gt]
    | succ i => simp only [List.map_cons, gt, List.getElem?_cons_succ]; exact ih
def Keeps2 (m : List (Option Nat)) (g : TGd) : Prop := ∀ d ρ Q, g d ρ Q → g d ρ fun ρ2 => Q ρ2 ∧ ρ2.length = ρ.length ∧ ∀ j c, m[j]? = some (some c) → gt ρ2 j = gt ρ j
def Keeps2s (m : List (Option Nat)) (g : TGds) : Prop := ∀ ds ρ Q, g ds ρ Q → g ds ρ fun ρ2 => Q ρ2 ∧ ρ2.length = ρ.length ∧ ∀ j c, m[j]? = some (some c) → gt ρ2 j = gt ρ j
theorem keep_name {m : List (Option Nat)} {i : Nat} (h : m[i]? = some none := by rfl) : Keeps2 m (yName i) := fun d ρ Q q => by
  refine ⟨q, by simp, fun j c hj => ?_⟩
  rw [gt_set, if_neg]
  rintro ⟨e, _⟩
  subst e
  rw [h] at hj
  cases hj
theorem keep_nil {m : List (Option Nat)} : Keeps2s m yNil := fun ds ρ Q q => by
  unfold yNil at q ⊢
  split at q
  · exact ⟨q, rfl, fun _ _ _ => rfl⟩
  · exact q.elim
theorem keep_cons {m : List (Option Nat)} {t : TGd} {u : TGds} (mono : ∀ d ρ (Q Q' : Ev → Prop), (∀ ρ', Q ρ' → Q' ρ') → t d ρ Q → t d ρ Q') (monos : ∀ d ρ (Q Q' : Ev → Prop), (∀ ρ', Q ρ' → Q' ρ') → u d ρ Q → u d ρ Q') (h1 : Keeps2 m t) (h2 : Keeps2s m u) : Keeps2s m (yCons t u) := fun ds ρ Q q => by
  unfold yCons at q ⊢
  split at q
  · refine mono _ _ _ _ (fun ρ' ⟨q', l', k'⟩ => ?_) (h1 _ _ _ q)
    exact monos _ _ _ _ (fun ρ2 ⟨q2, l2, k2⟩ => ⟨q2, l2.trans l', fun j c hj => (k2 j c hj).trans (k' j c hj)⟩) (h2 _ _ _ q')
  · exact q.elim
theorem keep_tup {m : List (Option Nat)} {n : Nat} {u : TGds} (h2 : Keeps2s m u) : Keeps2 m (yTup n u) := fun d ρ Q q => by
  unfold yTup at q ⊢
  split at q
  · exact ⟨q.1, h2 _ _ _ q.2⟩
  · exact q.elim
theorem mono_name {i : Nat} : ∀ d ρ (Q Q' : Ev → Prop), (∀ ρ', Q ρ' → Q' ρ') → yName i d ρ Q → yName i d ρ Q' := fun _ _ _ _ h q => h _ q
theorem mono_nil : ∀ d ρ (Q Q' : Ev → Prop), (∀ ρ', Q ρ' → Q' ρ') → yNil d ρ Q → yNil d ρ Q' := fun _ _ _ _ h q => by
  unfold yNil at q ⊢
  split at q
  · exact h _ q
  · exact q.elim
theorem mono_cons {t : TGd} {u : TGds} (mono : ∀ d ρ (Q Q' : Ev → Prop), (∀ ρ', Q ρ' → Q' ρ') → t d ρ Q → t d ρ Q') (monos : ∀ d ρ (Q Q' : Ev → Prop), (∀ ρ', Q ρ' → Q' ρ') → u d ρ Q → u d ρ Q') : ∀ d ρ (Q Q' : Ev → Prop), (∀ ρ', Q ρ' → Q' ρ') → yCons t u d ρ Q → yCons t u d ρ Q' := fun _ _ _ _ h q => by
  unfold yCons at q ⊢
  split at q
  · exact mono _ _ _ _ (fun ρ' q' => monos _ _ _ _ h q') q
  · exact q.elim
theorem keep_pair {m : List (Option Nat)} {i j n : Nat} (h : m[i]? = some none := by rfl) (h' : m[j]? = some none := by rfl) : Keeps2 m (yTup n (yCons (yName i) (yCons (yName j) yNil))) :=
  keep_tup (keep_cons mono_name (mono_cons mono_name mono_nil) (keep_name h) (keep_cons mono_name mono_nil (keep_name h') keep_nil))
def PTd (X : Cx) (ifs : List Expr) (t : TDb) : Prop := ∃ tt, PTs X ifs tt ∧ ∀ (ρ : Ev) (σ : St) (G0 H0 G H : Hp) (Q : Bool → Prop) (P : Bool → Hp → Prop), EOk X.K G0 H0 ρ σ G H → t ρ Q →
  (∀ b H' G', Ext G H G' H' → Q b → P b H') → tt σ H P
def bYes : TDb := fun _ Q => Q true
theorem ptd_nil {X : Cx} : PTd X [] bYes := ⟨_, pts_nil, fun ρ σ G0 H0 G H Q P E h k => k true H G (.refl E.e.s) h⟩
theorem ptd_one {X : Cx} {c : Expr} {t : TDb} (h : PB X c t) : PTd X [c] t := let ⟨tt, p, q⟩ := h; ⟨tt, pts_one p, q⟩
def dComp (wi : TId) (m : List (Option Nat)) (g : TGd) (tc : TDb) (te : TD) : TD := fun ρ Q => wi ρ fun ds => ∃ Iv : Nat → List D → Prop, Iv 0 [] ∧
  (∀ i d acc, ds[i]? = some d → Iv i acc → g d (innP m ρ) fun ρ2 => tc ρ2 fun b => if b = true then te ρ2 fun r => acc.length < sizeLine ∧ Iv (i + 1) (acc ++ [r.val]) else Iv (i + 1) acc) ∧ ∀ acc, Iv ds.length acc → Q (.ow acc)
section
variable {X : Cx} {elt iter tg : Expr} {ifs : List Expr} {scope : Scope} {pos : Pos} {N' : List Str} {m : List (Option Nat)} {wi : TId} {g : TGd} {tc : TDb} {te : TD}
theorem comp_rd (cs : CompScope X N' m scope) (hk : Keeps2 m g) {ww : TI} {gg : TIn TG} {tcc : TIn TT} {tee : TIn TE}
    (q1 : ∀ (ρ : Ev) (σ : St) (G0 H0 G H : Hp) (Q : List D → Prop) (P : It → Hp → Prop), EOk X.K G0 H0 ρ σ G H → wi ρ Q → (∀ J H' ds G', Ext G H G' H' → Walk X.K J G' ds → Q ds → P J H') → ww σ H P)
    (q2 : ∀ s3 H3 ex (ρ : Ev) (σ : St) (G0 H0 G H : Hp) (d : D) (v : V) (Q : Ev → Prop) (P : St → Hp → Prop), EOk X.K G0 H0 ρ σ G H → Rep X.K G v d → g d ρ Q → (∀ ρ' σ' G' H', EOk X.K G0 H0 ρ' σ' G' H' → Ext G H G' H' → Q ρ' → P σ' H') → gg s3 H3 ex v σ H P)
    (q3 : ∀ s3 H3 ex (ρ : Ev) (σ : St) (G0 H0 G H : Hp) (Q : Bool → Prop) (P : Bool → Hp → Prop), EOk X.K G0 H0 ρ σ G H → tc ρ Q → (∀ b H' G', Ext G H G' H' → Q b → P b H') → tcc s3 H3 ex σ H P)
    (q4 : ∀ s3 H3 ex, Rdg X.K te (tee s3 H3 ex)) : Rdg X.K (dComp wi m g tc te) (tComp ww m gg tcc tee) := by
  refine fun ρ σ G0 H0 G H Q P E h k => q1 ρ σ G0 H0 G H _ _ E h fun J H1 ds G1 x1 wk hq => ?_
  obtain ⟨Iv, i0, turn, fin⟩ := hq
  intro D hD s3 ex
  have E1 := E.ext x1
  have hGD : G1 D = none := x1.s.free hD
  have noow : ∀ {i : Nat} {es : List L2.D}, gt (innP m ρ) i = .ow es → False := fun {i es} h => by
    unfold innP at h
    rw [gt_map] at h
    split at h
    · rename_i o _
      unfold innS at h
      split at h
      · cases h
      · split at h <;> cases h
    · cases h
  have noov : ∀ {i : Nat} {o : OV}, gt (innP m ρ) i = .ov o → False := fun {i o} h => by
    unfold innP at h
    rw [gt_map] at h
    split at h
    · rename_i o _
      unfold innS at h
      split at h
      · cases h
      · split at h <;> cases h
    · cases h
  have start : EOk X.K G1 H1 (innP m ρ) (inn m σ) G1 (upd H1 D (.lst [])) := by
    refine ⟨.own x1.s hD, by simp [inn, innP], fun i d h => ?_, fun i es h => (noow h).elim, fun i j es fs _ h => (noow h).elim, fun _ => none, fun i es _ h => (noow h).elim, fun i o h => (noov h).elim⟩
    unfold innP at h
    rw [gt_map] at h
    split at h
    · rename_i o ho
      unfold innS at h
      split at h
      · cases h
      · rename_i j
        split at h
        · rename_i d' hd'
          cases h
          obtain ⟨v, hv, rv⟩ := E1.fz j d hd'
          refine ⟨v, ?_, rv⟩
          unfold inn
          rw [List.getElem?_map, ho]
          simp [hv]
        · cases h
    · cases h
  refine ⟨fun i n σ' H' => n = ds.length - i ∧ i ≤ ds.length ∧ ∃ acc xs G', EOk X.K G1 H1 (innP m ρ) σ' G' H' ∧ H' D = some (.lst xs) ∧ G' D = none ∧ Reps X.K G' xs acc ∧ Iv i acc,
    ⟨ds.length, by simp, Nat.zero_le _, [], [], G1, start, upd_same, hGD, Reps.nil, i0⟩, ?_⟩
  rintro i n σ' H' ⟨rfl, hi, acc, xs, G', E', hx, hg', rx, iv⟩
  by_cases hlt : i < ds.length
  · obtain ⟨w1, w2⟩ := wk
    obtain ⟨go, yl⟩ := w1 i ds[i] G' H' (List.getElem?_eq_getElem hlt) E'.e.g E'.e.s
    refine .inr ⟨go, fun σ2 H2 => ∃ acc xs G', EOk X.K G1 H1 (innP m ρ) σ2 G' H2 ∧ H2 D = some (.lst xs) ∧ G' D = none ∧ Reps X.K G' xs acc ∧ Iv (i + 1) acc, fun σ2 H2 h2 => ⟨ds.length - (i + 1), by omega, rfl, hlt, h2⟩, fun v H2 hy => ?_⟩
    obtain ⟨G2, x2, rv⟩ := yl v H2 hy
    refine q2 _ _ _ (innP m ρ) σ' G1 H1 G2 H2 ds[i] v _ _ (E'.ext x2) rv (hk _ _ _ (turn i ds[i] acc (List.getElem?_eq_getElem hlt) iv)) fun ρ3 σ3 G3 H3 E3 x3 hq3 => ?_
    obtain ⟨hq3, hl3, hk3⟩ := hq3
    have weak : ∀ j, gt (innP m ρ) j = .un ∨ gt (innP m ρ) j = gt ρ3 j := fun j => by
      cases hm : m[j]? with
      | none => left; unfold innP; rw [gt_map, hm]
      | some o =>
        cases o with
        | none => left; unfold innP; rw [gt_map, hm]; rfl
        | some c => right; exact (hk3 j c hm).symm
    have x23 := x2.trans x3
    refine q3 _ _ _ ρ3 σ3 G1 H1 G3 H3 _ _ E3 hq3 fun b H4 G4 x4 hq4 => ?_
    have x24 := x23.trans x4
    have E4 := (E3.ext x4).weak (ρ' := innP m ρ) (hl3.symm) weak
    have hx4 : H4 D = some (.lst xs) := x24.h _ _ hx
    have hg4 : G4 D = none := x24.n D hg' (by rw [hx]; exact nofun)
    cases b with
    | false =>
      rw [if_neg Bool.false_ne_true] at hq4 ⊢
      exact ⟨acc, xs, G4, E4, hx4, hg4, rx.mono x24.g, hq4⟩
    | true =>
      rw [if_pos rfl] at hq4 ⊢
      refine q4 _ _ _ ρ3 σ3 G1 H1 G4 H4 _ _ (E3.ext x4) hq4 fun v5 H5 r5 G5 x5 rr5 hq5 => ?_
      obtain ⟨G6, x6, rv6, _⟩ := rr5.freeze x5
      have E6 := E4.ext x6
      have hx6 : H5 D = some (.lst xs) := x6.h _ _ hx4
      have hg6 : G6 D = none := x6.n D hg4 (by rw [hx4]; exact nofun)
      have r6 : Reps X.K G6 xs acc := (rx.mono x24.g).mono x6.g
      refine ⟨xs, hx6, by rw [r6.length]; exact hq5.1, acc ++ [r5.val], xs ++ [v5], G6, ?_, upd_same, hg6, r6.append (Reps.cons rv6 Reps.nil), hq5.2⟩
      refine ⟨⟨E6.e.g, fun b o e => by rw [upd_ne (ne_of_none e hD)]; exact E6.e.h b o e, fun b o e => by rw [upd_ne (ne_of_none e hg6)]; exact E6.e.s b o e, E6.e.n⟩, E6.len, E6.fz, fun i es h => (noow h).elim, fun i j es fs _ h => (noow h).elim, fun _ => none, fun i es _ h => (noow h).elim, fun i o h => (noov h).elim⟩
  · have e : i = ds.length := by omega
    subst e
    refine .inl ⟨wk.2 G' H' E'.e.g E'.e.s, k _ H' (.ow acc) G' (x1.trans E'.e) ⟨D, xs, rfl, x1.h.free hD, hg', hx, rx⟩ (fin acc iv)⟩
theorem pd_comp (hc : X.calm = true) (cs : CompScope X N' m scope) (hk : Keeps2 m g) (hi : PId X tg iter wi) (hg : ∀ s3 H3 ex, PGd (cxC X N' scope s3 H3 ex) tg g) (ht : ∀ s3 H3 ex, PTd (cxC X N' scope s3 H3 ex) ifs tc)
    (he : ∀ s3 H3 ex, PD (cxC X N' scope s3 H3 ex) elt te) (hs : ∀ x, foldedSetIterable iter X.env x = pure x := by intro _; rfl) : PD X (.ListComp elt [⟨tg, iter, ifs, 0⟩] scope pos) (dComp wi m g tc te) := by
  obtain ⟨ww, p1, q1⟩ := hi
  exact ⟨_, pe_comp (g := fun s3 H3 ex => (hg s3 H3 ex).choose) (tc := fun s3 H3 ex => (ht s3 H3 ex).choose) (te := fun s3 H3 ex => (he s3 H3 ex).choose) hc cs p1 (fun s3 H3 ex => (hg s3 H3 ex).choose_spec.1) (fun s3 H3 ex => (ht s3 H3 ex).choose_spec.1) (fun s3 H3 ex => (he s3 H3 ex).choose_spec.1) hs,
    comp_rd cs hk q1 (fun s3 H3 ex => (hg s3 H3 ex).choose_spec.2) (fun s3 H3 ex => (ht s3 H3 ex).choose_spec.2) (fun s3 H3 ex => (he s3 H3 ex).choose_spec.2)⟩
theorem px_setCF (i : Nat) {x : Str} {pos' posS : Pos} (hc : X.calm = true) (cs : CompScope X N' m scope) (hk : Keeps2 m g) (hi : PId X tg iter wi) (hg : ∀ s3 H3 ex, PGd (cxC X N' scope s3 H3 ex) tg g) (ht : ∀ s3 H3 ex, PTd (cxC X N' scope s3 H3 ex) ifs tc)
    (he : ∀ s3 H3 ex, PD (cxC X N' scope s3 H3 ex) elt te) (hN : X.N.Nodup := by assumption) (hix : X.N[i]? = some x := by rfl) (hx : Loc X.env.scope x := by first | exact Or.inl rfl | exact Or.inr rfl) (hs : ∀ x, foldedSetIterable iter X.env x = pure x := by intro _; rfl)
    (hsw : swapsWith (.ListComp elt [⟨tg, iter, ifs, 0⟩] scope pos) (some (.Name x pos')) posS.line X.env = pure true := by rfl)
    (hf : X.fn x = true ∨ X.env.scope.names.lookup x = some .local := by first | exact .inl rfl | exact .inr rfl | assumption) :
    PX X (.Assign [.Name x pos'] (.ListComp elt [⟨tg, iter, ifs, 0⟩] scope pos) posS) (xSetF i (dComp wi m g tc te)) := by
  obtain ⟨ww, p1, q1⟩ := hi
  refine ⟨_, ps_setC (g := fun s3 H3 ex => (hg s3 H3 ex).choose) (tc := fun s3 H3 ex => (ht s3 H3 ex).choose) (te := fun s3 H3 ex => (he s3 H3 ex).choose) hN hix hx hc cs p1 (fun s3 H3 ex => (hg s3 H3 ex).choose_spec.1) (fun s3 H3 ex => (ht s3 H3 ex).choose_spec.1) (fun s3 H3 ex => (he s3 H3 ex).choose_spec.1) hs hsw hf, fun ρ σ G0 H0 G H D E k h gg => ?_⟩
  refine comp_rd cs hk q1 (fun s3 H3 ex => (hg s3 H3 ex).choose_spec.2) (fun s3 H3 ex => (ht s3 H3 ex).choose_spec.2) (fun s3 H3 ex => (he s3 H3 ex).choose_spec.2) ρ σ G0 H0 G H _ _ k h fun v H' r G' x rr hq => ?_
  obtain ⟨G2, x2, rv, _⟩ := rr.freeze x
  exact gg.nx _ _ G2 H' x2.g (k.put x2 (r := .fz r.val) rv) hq
end
abbrev SpD := List D → (R → Prop) → Prop
def PSp (K : PySem.W.Frag) (n : Nat) (t : SpD) : Sp := fun vs H Q _ => ∃ G ds Qr, Same G H ∧ Reps K G vs ds ∧ ds.length = n ∧ t ds Qr ∧ ∀ v H' r G', Ext G H G' H' → RepR K G' H' H v r → Qr r → Q v H'
def startP (N : List Str) (ds : List D) : Ev := ds.map Sl.fz ++ List.replicate (N.length - ds.length) .un
theorem gt_append_fz {ds : List D} {l : List Sl} {i : Nat} {s : Sl} (h : gt (ds.map Sl.fz ++ l) i = s) : (∃ d, ds[i]? = some d ∧ s = .fz d) ∨ (ds.length ≤ i ∧ gt l (i - ds.length) = s) := by
  induction ds generalizing i with
  | nil => exact .inr ⟨Nat.zero_le _, by simpa using h⟩
  | cons d ds ih =>
    cases i with
    | zero => simp only [List.map_cons, List.cons_append, gt] at h; exact .inl ⟨d, rfl, h.symm⟩
    | succ i =>
      simp only [List.map_cons, List.cons_append, gt] at h
      rcases ih h with ⟨e, h1, h2⟩ | ⟨h1, h2⟩
      · exact .inl ⟨e, by simpa using h1, h2⟩
      · refine .inr ⟨by simp; omega, ?_⟩
        rw [List.length_cons]
        rw [show i + 1 - (ds.length + 1) = i - ds.length by omega]
        exact h2
theorem gt_rep_un {n i : Nat} : gt (List.replicate n Sl.un) i = .un := by
  induction n generalizing i with
  | zero => simp [gt]
  | succ n ih =>
    cases i with
    | zero => rfl
    | succ i => exact ih
theorem start_ok {K : PySem.W.Frag} {G H : Hp} {N : List Str} {vs : List V} {ds : List D} (s : Same G H) (r : Reps K G vs ds) : EOk K G H (startP N ds) (start N vs) G H := by
  have hl := r.length
  have c : ∀ {i : Nat} {t : Sl}, gt (startP N ds) i = t → t ≠ .un → ∃ d, ds[i]? = some d ∧ t = .fz d := fun {i t} h n => by
    rcases gt_append_fz h with h | ⟨_, h⟩
    · exact h
    · rw [gt_rep_un] at h; exact absurd h.symm n
  refine ⟨.refl s, by simp [start, startP, hl], fun i d h => ?_, fun i es h => ?_, fun i j es fs _ h => ?_, fun _ => none, fun i es _ h => ?_, fun i o h => ?_⟩
  · obtain ⟨d', h1, h2⟩ := c h (by simp)
    cases h2
    obtain ⟨v, hv, rv⟩ := r.get h1
    have hi : i < vs.length := (List.getElem?_eq_some_iff.mp hv).1
    refine ⟨v, ?_, rv⟩
    unfold start
    rw [List.getElem?_append_left (by simpa using hi), List.getElem?_map, hv]
    rfl
  · obtain ⟨d', h1, h2⟩ := c h (by simp)
    cases h2
  · obtain ⟨d', h1, h2⟩ := c h (by simp)
    cases h2
  · obtain ⟨d', h1, h2⟩ := c h (by simp)
    cases h2
  · obtain ⟨d', h1, h2⟩ := c h (by simp)
    cases h2
section
variable {P : Program} {w : World} {K : PySem.W.Frag} {mg : Str → Option Value} {base : Heap}
theorem fn_pure {x qual : Str} {st : Stmt} {f : Addr} {fd : FuncData} {N ps : List Str} {k : Nat} {t : SpD} {T : TX} (F : Fun K x qual st f fd) (S : FnScope N ps (defScope st))
    (body : ∀ (cdv : Value) (A : Around) (outer : List Env) (s : Shared) (H : Hp) (E : XK), Room k (A.deeper (envOfC qual (defScope st) s.heap.objs.size f cdv)) → PXs (cxOf CX0 P w K mg base N qual (defScope st) f cdv A outer s H E).nox (defBody st) T)
    (spec : ∀ (ds : List D) (Qr : R → Prop), ds.length = ps.length → t ds Qr → T { nx := fun _ => Qr (.fz .non), rt := Qr } (startP N ds)) : FnOk P w K mg base CX0 (k + 1) f fd ps (PSp K ps.length t) := by
  refine F.ok S (fun vs H Q E h => ?_) (fun cdv A outer s H vs Q E hr h => ?_)
  · obtain ⟨G, ds, Qr, _, r, hl, _⟩ := h
    rw [r.length, hl]
  · obtain ⟨G, ds, Qr, s0, r, hl, ht, k0⟩ := h
    obtain ⟨tt, p, q⟩ := body cdv A outer s H E hr
    exact ⟨tt, p, q _ _ G H G H _ _ (start_ok s0 r) (spec ds Qr hl ht) ⟨fun ρ σ G' H' _ e h => k0 _ H' _ G' e.e (fzR (rep_non _ _)) h, k0, fun _ _ _ _ _ _ h => h.elim, fun _ _ _ _ _ _ h => h.elim⟩⟩
end
section
variable {X : Cx} {k n : Nat} {f : Addr} {fd : FuncData} {ps : List Str} {t : SpD} {x : Str} {p pos : Pos} {e : Expr} {es : List Expr} {ts : TDa}
def dCall (n : Nat) (t : SpD) (ts : TDa) : TD := fun ρ Q => ts ρ fun ds => ds.length = n ∧ t ds Q
theorem pd_call (F : FnOk X.prog X.w X.K X.mg X.base CX0 k f fd ps (PSp X.K n t)) (hr : Room k X.A) (hm : X.mg x = some (.ref f)) (hk : PySem.W.keepIn X.K (.ref f) = true) (hb : Binds X.K fd ps []) (ha : PDa X (e :: es) ts) (hg : Gl X x := by rfl) (hdb : (x == ("__debug__" : Str)) = false := by decide)
    (he : starEach (e :: es) X.env = (false, eval e X.env) :: starEach es X.env := by rfl) (hpl : (backTo pos (starEach es X.env)).any (·.1) = false := by rfl) : PD X (.Call (.Name x p) (e :: es) [] pos) (dCall n t ts) := by
  obtain ⟨tt, pp, q⟩ := ha
  refine ⟨_, pe_call F hr hg hm hk hb .nil pass0 pp hdb he hpl, fun ρ σ G0 H0 G H Q P E h k => q ρ σ G0 H0 G H _ _ E h fun vs H' ds G' x rs hq => ?_⟩
  rw [List.append_nil]
  exact ⟨G', ds, Q, x.s, rs, hq.1, hq.2, fun v H2 r G2 x2 rr q2 => k v H2 r G2 (x.trans x2) (rr.older x.h) q2⟩
end
end L2
set_option Elab.async false
set_option linter.all false
set_option maxRecDepth 100000
set_option maxHeartbeats 1000000
namespace L2
open PySem PySem.Spec PyProof.Rows PySem.StrLaws
def cutL {α : Type} (xs : List α) (lo hi : Option Int) : List α := (xs.drop (HT.sIx xs.length 0 lo)).take (HT.sIx xs.length xs.length hi - HT.sIx xs.length 0 lo)
def cutS (z : Str) (lo hi : Option Int) : Str := ⟨(cutL z.cps.toList lo hi).toArray⟩
theorem clipS (v : Int) (n d : Nat) : max 0 (min (if v < 0 then v + (n : Int) else v) (n : Int)) = ((HT.sIx n d (some v) : Nat) : Int) := by
  rw [← HT.clip_eq]
  by_cases h : v < 0
  · rw [if_pos h, if_pos h]; omega
  · rw [if_neg h, if_neg h]; omega
theorem strIdx_cut (z : Str) (lo hi : Option Int) : (Builtin.Str.strSliceIndices lo hi 1 z.length).filterMap (z.cps[·]?) = cutL z.cps.toList lo hi := by
  have hl : z.cps.toList.length = z.length := by simp [Str.length]
  have e : Builtin.Str.strSliceIndices lo hi 1 z.length = sliceRange ((HT.sIx z.length 0 lo : Nat) : Int) ((HT.sIx z.length z.length hi : Nat) : Int) 1 := by
    unfold Builtin.Str.strSliceIndices
    cases lo with
    | none =>
      cases hi with
      | none => rfl
      | some v => simp only [show ((1 : Int) > 0) from by decide, if_true, clipS v z.length z.length]; rfl
    | some u =>
      cases hi with
      | none => simp only [show ((1 : Int) > 0) from by decide, if_true, clipS u z.length 0]; rfl
      | some v => simp only [show ((1 : Int) > 0) from by decide, if_true, clipS v z.length z.length, clipS u z.length 0]
  rw [e]
  unfold cutL
  rw [hl]
  generalize ha : HT.sIx z.length 0 lo = a
  generalize hb : HT.sIx z.length z.length hi = b
  have hbl : b ≤ z.length := by rw [← hb]; exact HT.sIx_le _ _ (Nat.le_refl _) _
  have hal : a ≤ z.length := by rw [← ha]; exact HT.sIx_le _ _ (Nat.zero_le _) _
  by_cases hab : a ≤ b
  · have := sliced_plain z hab hbl
    rw [strSliceIndices_plain hab hbl] at this
    rw [← this]
    unfold sliceRange
    simp only [show ((1 : Int) > 0) from by decide, if_true]
    congr 1
    by_cases h : a < b
    · rw [if_pos (by omega)]
      rw [show (((b : Int) - (a : Int) + 1 - 1) / 1).toNat = b - a by omega]
      apply List.map_congr_left
      intro k _
      show ((a : Int) + 1 * (k : Int)).toNat = a + k
      omega
    · rw [if_neg (by omega), show b - a = 0 by omega]
      rfl
  · rw [show b - a = 0 by omega, List.take_zero]
    unfold sliceRange
    simp only [show ((1 : Int) > 0) from by decide, if_true]
    rw [if_neg (by omega)]
    rfl
theorem slice_cut (z : Str) (lo hi : Option Int) : Txt.slice z lo hi = cutS z lo hi := by
  unfold Txt.slice cutS
  split
  · rename_i h
    have h' : (Builtin.Str.strSliceIndices lo hi 1 z.length).length = z.length := by simpa using h
    have hl : z.cps.toList.length = z.length := by simp [Str.length]
    have e := strIdx_cut z lo hi
    have h2 : (cutL z.cps.toList lo hi).length = z.length := by
      unfold cutL
      rw [List.length_take, List.length_drop, hl]
      have e1 : Builtin.Str.strSliceIndices lo hi 1 z.length = sliceRange ((HT.sIx z.length 0 lo : Nat) : Int) ((HT.sIx z.length z.length hi : Nat) : Int) 1 := by
        unfold Builtin.Str.strSliceIndices
        cases lo with
        | none =>
          cases hi with
          | none => rfl
          | some v => simp only [show ((1 : Int) > 0) from by decide, if_true, clipS v z.length z.length]; rfl
        | some u =>
          cases hi with
          | none => simp only [show ((1 : Int) > 0) from by decide, if_true, clipS u z.length 0]; rfl
          | some v => simp only [show ((1 : Int) > 0) from by decide, if_true, clipS v z.length z.length, clipS u z.length 0]
      rw [e1] at h'
      unfold sliceRange at h'
      simp only [show ((1 : Int) > 0) from by decide, if_true, List.length_map, List.length_range] at h'
      have b1 := HT.sIx_le z.length z.length (Nat.le_refl _) hi
      have b2 := HT.sIx_le z.length 0 (Nat.zero_le _) lo
      by_cases h3 : ((HT.sIx z.length 0 lo : Nat) : Int) < ((HT.sIx z.length z.length hi : Nat) : Int)
      · rw [if_pos h3] at h'; omega
      · rw [if_neg h3] at h'; simp at h'; omega
    apply Str.ext'
    show z.cps = (cutL z.cps.toList lo hi).toArray
    have h3 : cutL z.cps.toList lo hi = z.cps.toList := by
      unfold cutL at h2 ⊢
      rw [List.length_take, List.length_drop, hl] at h2
      rw [hl]
      have b1 := HT.sIx_le z.length z.length (Nat.le_refl _) hi
      have a0 : HT.sIx z.length 0 lo = 0 ∨ z.length = 0 := by omega
      rcases a0 with a0 | a0
      · rw [a0, List.drop_zero, Nat.sub_zero]
        exact List.take_of_length_le (by omega)
      · have : z.cps.toList = [] := List.eq_nil_of_length_eq_zero (by omega)
        rw [this]; simp
    rw [h3]
  · rw [strIdx_cut]
section
variable {X : Cx} {pos : Pos} {e : Expr} {te : TD}
theorem sl_str : SlR X (fun x lo hi H Q => ∃ z, x = .str z ∧ z.length ≤ sizeLine ∧ Q (.str (cutS z lo hi)) H) := by
  intro pins s σ H x v vl vu lo hi sl Q I rx hs pl pu h
  obtain ⟨z, rfl, hz, q⟩ := h
  obtain ⟨t, rfl⟩ := rx
  refine ⟨"str", _, F.slot_str_getitem.lookup, typeIs_str _ _ _, ?_⟩
  have part : ∀ {u : Value} {o : Option Int}, IsPart u o → ∃ p : Option (Int × Tok), u = partValue p ∧ p.map (·.1) = o := fun h => by
    cases h with
    | none => exact ⟨none, rfl, rfl⟩
    | int i t => exact ⟨some (i, t), rfl, rfl⟩
  obtain ⟨p1, rfl, e1⟩ := part pl
  obtain ⟨p2, rfl, e2⟩ := part pu
  obtain ⟨o, ho, hc, hd⟩ := hs
  refine wpAny_getItem_str_slice (l := p1) (u := p2) (st := none) ⟨o, ho, hc, hd⟩ rfl ?_
  have fin : ∀ t' k, EP X pins σ Q (.str (Txt.slice z lo hi) t') { s with toks := k } := fun t' k => ⟨.str (cutS z lo hi), H, I.tok k, ⟨t', by rw [slice_cut]⟩, q⟩
  have hle := Nat.le_trans (Txt.slice_le z lo hi) hz
  subst e1 e2
  exact post_val_or_str ⟨hle, fin⟩
abbrev TOd := Ev → (Option Int → Prop) → Prop
def POd (X : Cx) (e : Option Expr) (t : TOd) : Prop := ∃ tt, PO X e tt ∧ ∀ (ρ : Ev) (σ : St) (G0 H0 G H : Hp) (Q : Option Int → Prop) (P : Option Int → Hp → Prop), EOk X.K G0 H0 ρ σ G H → t ρ Q → (∀ o H' G', Ext G H G' H' → Q o → P o H') → tt σ H P
def oNo : TOd := fun _ Q => Q none
def oSome (te : TD) : TOd := fun ρ Q => te ρ fun r => match r.val with
  | .int i => Q (some i)
  | _ => False
theorem pod_none : POd X none oNo := ⟨_, po_none, fun ρ σ G0 H0 G H Q P E h k => k none H G (.refl E.e.s) h⟩
theorem pod_some (h : PD X e te) : POd X (some e) (oSome te) := by
  obtain ⟨t, p, q⟩ := h
  refine ⟨_, po_some p, fun ρ σ G0 H0 G H Q P E h k => q ρ σ G0 H0 G H _ _ E h fun v H' r G' x rr hq => ?_⟩
  obtain ⟨G2, x2, rv, _⟩ := rr.freeze x
  split at hq
  · rename_i i e1
    rw [e1] at rv
    simp only [Rep] at rv
    exact ⟨i, rv, k _ H' G2 x2 hq⟩
  · exact hq.elim
def dSl (te : TD) (tl th : TOd) : TD := fun ρ Q => te ρ fun r => tl ρ fun lo => th ρ fun hi => match r.val with
  | .lst ds => Q (.ow (cutL ds lo hi))
  | .str z => z.length ≤ sizeLine ∧ Q (.fz (.str (cutS z lo hi)))
  | .tup ds => ¬ (HT.sIx ds.length 0 lo = 0 ∧ HT.sIx ds.length ds.length hi = ds.length) ∧ Q (.fz (.tup (cutL ds lo hi)))
  | _ => False
theorem cut_rep {K : PySem.W.Frag} {G : Hp} {xs : List V} {ds : List D} (r : Reps K G xs ds) (lo hi : Option Int) : Reps K G (cutV xs lo hi) (cutL ds lo hi) := by
  unfold cutV cutL
  rw [r.length]
  exact (r.drop _).take _
theorem pd_slice {lo hi : Option Expr} {tl th : TOd} {p2 : Pos} (he : PD X e te) (hl : POd X lo tl) (hh : POd X hi th) : PD X (.Subscript e (.Slice lo hi none p2) pos) (dSl te tl th) := by
  obtain ⟨t1, p1, q1⟩ := he
  obtain ⟨t2, p2, q2⟩ := hl
  obtain ⟨t3, p3, q3⟩ := hh
  refine ⟨_, pe_slice (sl_list.or (sl_str.or sl_tup)) p1 p2 p3, fun ρ σ G0 H0 G H Q P E h k => q1 ρ σ G0 H0 G H _ _ E h fun v H' r G' x rr hq => ?_⟩
  obtain ⟨G1, x1, rv, _⟩ := rr.freeze x
  refine q2 ρ σ G0 H0 G1 H' _ _ (E.ext x1) hq fun lo H2 G2 x2 hq2 => ?_
  refine q3 ρ σ G0 H0 G2 H2 _ _ ((E.ext x1).ext x2) hq2 fun hi H3 G3 x3 hq3 => ?_
  have x13 := (x1.trans x2).trans x3
  have rv3 := (rv.mono x2.g).mono x3.g
  split at hq3
  · rename_i ds e1
    rw [e1] at rv3
    simp only [Rep] at rv3
    obtain ⟨a, xs, rfl, h1, h2⟩ := rv3
    refine .inl ⟨a, xs, rfl, (x13.s.rdl h1).sq, fun p hp => ?_⟩
    exact k _ _ (.ow _) G3 (x13.trans (.own x13.s hp)) ⟨p, _, rfl, x13.h.free hp, x13.s.free hp, upd_same, cut_rep h2 lo hi⟩ hq3
  · rename_i z e1
    rw [e1] at rv3
    simp only [Rep] at rv3
    exact .inr (.inl ⟨z, rv3, hq3.1, k _ _ _ G3 x13 (fzR (rep_str _ _ _)) hq3.2⟩)
  · rename_i ds e1
    rw [e1] at rv3
    simp only [Rep] at rv3
    obtain ⟨a, xs, rfl, h1, h2⟩ := rv3
    refine .inr (.inr ⟨a, xs, rfl, x13.s.seqT h1, by rw [h2.length]; exact hq3.1, fun p hp => ?_⟩)
    have x4 : Ext G3 H3 (upd G3 p (.tup (cutV xs lo hi))) (upd H3 p (.tup (cutV xs lo hi))) := .new x13.s hp
    refine k _ _ (.fz _) _ (x13.trans x4) ?_ hq3.2
    show Rep X.K _ _ (.tup _)
    simp only [Rep]
    exact ⟨p, _, rfl, SqT.of upd_same, (cut_rep h2 lo hi).mono x4.g⟩
  · exact hq3.elim
def oLen : SpD := fun ds Q => match ds with
  | [.lst es] => Q (.fz (.int es.length))
  | [.tup es] => Q (.fz (.int es.length))
  | [.str z] => z.length ≤ sizeLine ∧ Q (.fz (.int z.length))
  | _ => False
theorem c_len : CallP X (.builtin "len") oLen := by
  refine ⟨_, call_len_seq.or call_len_str, fun G H vs ds Q P s rs h k => ?_⟩
  unfold oLen at h
  split at h
  · obtain ⟨v, rfl, rv⟩ := reps1 rs
    simp only [Rep] at rv
    obtain ⟨a, xs, rfl, h1, h2⟩ := rv
    refine .inl ⟨a, xs, rfl, .inl ((s.rdl h1).sq), ?_⟩
    rw [h2.length]
    exact k _ _ _ G (.refl s) (fzR (rep_int _ _ _)) h
  · obtain ⟨v, rfl, rv⟩ := reps1 rs
    simp only [Rep] at rv
    obtain ⟨a, xs, rfl, h1, h2⟩ := rv
    refine .inl ⟨a, xs, rfl, .inr (s.seqT h1), ?_⟩
    rw [h2.length]
    exact k _ _ _ G (.refl s) (fzR (rep_int _ _ _)) h
  · obtain ⟨v, rfl, rv⟩ := reps1 rs
    simp only [Rep] at rv
    subst rv
    exact .inr ⟨_, rfl, h.1, k _ _ _ G (.refl s) (fzR (rep_int _ _ _)) h.2⟩
  · exact h.elim
def dLenO (i : Nat) : TD := fun ρ Q => match gt ρ i with
  | .ow ds => Q (.fz (.int ds.length))
  | _ => False
def blsOf : List D → Option (List Bool)
  | [] => some []
  | .bl b :: r => (blsOf r).map (b :: ·)
  | _ => none
theorem blsOf_get : ∀ {ds : List D} {bs : List Bool}, blsOf ds = some bs → ds = bs.map D.bl
  | [], bs, h => by simp [blsOf] at h; subst h; rfl
  | .bl b :: r, bs, h => by
    simp only [blsOf, Option.map_eq_some_iff] at h
    obtain ⟨bs', h1, rfl⟩ := h
    rw [blsOf_get h1]; rfl
  | .non :: r, bs, h => by simp [blsOf] at h
  | .int _ :: r, bs, h => by simp [blsOf] at h
  | .str _ :: r, bs, h => by simp [blsOf] at h
  | .tup _ :: r, bs, h => by simp [blsOf] at h
  | .lst _ :: r, bs, h => by simp [blsOf] at h
  | .obj _ _ :: r, bs, h => by simp [blsOf] at h
  | .dic _ :: r, bs, h => by simp [blsOf] at h
  | .dit _ :: r, bs, h => by simp [blsOf] at h
theorem blsOf_map (bs : List Bool) : blsOf (bs.map D.bl) = some bs := by
  induction bs with
  | nil => rfl
  | cons b r ih => simp [blsOf, ih]
theorem reps_bl {K : PySem.W.Frag} {G : Hp} : ∀ {bs : List Bool} {vs : List V}, Reps K G vs (bs.map D.bl) → vs = bs.map V.bl
  | [], [], _ => rfl
  | b :: bs, v :: vs, h => by
    simp only [List.map_cons, Reps, Rep] at h
    rw [h.1, reps_bl h.2]; rfl
  | [], _ :: _, h => by simp only [List.map_nil, Reps] at h
  | _ :: _, [], h => by simp only [List.map_cons, Reps] at h
theorem bools_at {bs : List Bool} {us : List Value} (h : Vals (bs.map V.bl) us) {i : Nat} {v : Value} (hv : us[i]? = some v) : ∃ b, bs[i]? = some b ∧ v = .bool b := by
  have hl := h.length
  have hi : i < us.length := (List.getElem?_eq_some_iff.mp hv).1
  have hi2 : i < bs.length := by rw [List.length_map] at hl; omega
  obtain ⟨u, hu, ru⟩ := h.get (i := i) (x := V.bl bs[i]) (by simp [hi2])
  rw [hv] at hu
  cases hu
  exact ⟨bs[i], by simp [hi2], ru⟩
theorem kept_it {s : Shared} {h' : Heap} {o : Obj} (hk : ∀ b x, b ∉ [s.heap.objs.size] → (s.heap.push o).get? b = some x → h'.get? b = some x) : ∀ b x, s.heap.get? b = some x → h'.get? b = some x :=
  fun b x e => hk b x (fun hm => by rw [List.mem_singleton.mp hm] at e; exact Nat.lt_irrefl _ (Heap.lt_size e)) (Heap.get?_push_of_some _ e)
theorem rng_all (bs : List Bool) : ((List.range bs.length).all fun i => (bs[i]?).getD true) = bs.all id := by
  rw [Bool.eq_iff_iff]
  simp only [List.all_eq_true, List.mem_range, id]
  constructor
  · intro h b hb
    obtain ⟨i, hi, rfl⟩ := List.mem_iff_getElem.mp hb
    simpa [hi] using h i hi
  · intro h i hi
    simpa [hi] using h _ (List.getElem_mem hi)
theorem call_allL (hc : X.calm = true) : CallR X (.builtin "all") (fun xs H Q => ∃ (p : Addr) (bs : List Bool), xs = [.ref p] ∧ SqL X.K H p (bs.map V.bl) ∧ Q (.bl (bs.all id)) H) := by
  intro pins s σ H xs us Q I r h
  obtain ⟨p, bs, rfl, hq, q⟩ := h
  obtain ⟨u, rfl, ru⟩ := vals1 r
  cases ru
  obtain ⟨its, rv, pl, hz⟩ := I.list hq
  have hlt : p < s.heap.objs.size := by obtain ⟨_, _, e, _⟩ := pl; exact Heap.lt_size e
  have hl : its.length = bs.length := by rw [← rv.length, List.length_map]
  refine call_all_walk (wpAny_pyIter_list pl.isList ?_)
  refine ⟨s.heap.objs.size, [s.heap.objs.size, p], [s.heap.objs.size], its.toArray.size, _, _, fun i => (bs[i]?).getD true, rfl, Walks.list (A := X.A.in1) (I.ok.hd hc) _ p (Nat.ne_of_lt hlt) its.toArray,
    ⟨⟨_, Heap.get?_push_size _ rfl, rfl, rfl⟩, pl.isList.push _⟩, fun i v s' Q' E' hP hQ => ?_, fun h' tk hk => ?_⟩
  · obtain ⟨b, e, rfl⟩ := bools_at rv (i := i) (v := v) (by simpa using hP)
    simp only [e, Option.getD_some] at hQ
    exact wpAny_truthy_bool hQ
  · rw [List.size_toArray, hl, rng_all]
    exact ⟨.bl _, H, I.kept (kept_it hk), rfl, q⟩
def oAll : SpD := fun ds Q => match ds with
  | [.lst es] => match blsOf es with
    | some bs => Q (.fz (.bl (bs.all id)))
    | none => False
  | _ => False
theorem c_all (hc : X.calm = true) : CallP X (.builtin "all") oAll := by
  refine ⟨_, call_allL hc, fun G H vs ds Q P s rs h k => ?_⟩
  unfold oAll at h
  split at h
  · split at h
    · rename_i es bs hb
      obtain ⟨v, rfl, rv⟩ := reps1 rs
      simp only [Rep] at rv
      obtain ⟨a, xs, rfl, h1, h2⟩ := rv
      rw [blsOf_get hb] at h2
      rw [reps_bl h2] at h1
      exact ⟨a, bs, rfl, (s.rdl h1).sq, k _ _ _ G (.refl s) (fzR (rep_bl _ _ _)) h⟩
    · exact h.elim
  · exact h.elim
end
end L2
set_option Elab.async false
set_option linter.all false
set_option maxRecDepth 100000
set_option maxHeartbeats 1000000
namespace L2
open PySem PySem.Spec PyProof.Rows
section
variable {X : Cx} {pos : Pos} {e : Expr} {te : TD}
def tyD : D → String
  | .non => "NoneType"
  | .bl _ => "bool"
  | .int _ => "int"
  | .str _ => "str"
  | .tup _ => "tuple"
  | .lst _ => "list"
  | .obj _ _ => "object"
  | .dic _ => "dict"
  | .dit _ => "dict"
def isTy (t T : String) : Bool := (t == T) || (t == "bool" && T == "int")
theorem kit_ty {K : PySem.W.Frag} {t T : String} (ht : t ∈ ["NoneType", "bool", "int", "str", "tuple", "list"]) (hT : T ∈ ["bool", "int", "str", "tuple", "list"]) : PySem.W.kitOne K (.type t) (.type T) = some (isTy t T) := by
  simp only [List.mem_cons, List.not_mem_nil, or_false] at ht hT
  rcases ht with rfl | rfl | rfl | rfl | rfl | rfl <;> rcases hT with rfl | rfl | rfl | rfl | rfl <;> (first | rfl | decide | (unfold PySem.W.kitOne PySem.W.kitCls; decide +kernel))
def noObj : D → Bool
  | .obj _ _ => false
  | .dic _ => false
  | .dit _ => false
  | _ => true
theorem call_isi {T : String} (hT : T ∈ ["bool", "int", "str", "tuple", "list"]) : CallR X (.builtin "isinstance") (fun xs H Q => ∃ x d, xs = [x, .ty T] ∧ Rep X.K H x d ∧ noObj d = true ∧ Q (.bl (isTy (tyD d) T)) H) := by
  intro pins s σ H xs us Q I r h
  obtain ⟨x, d, rfl, rd, ho, q⟩ := h
  obtain ⟨u, c, rfl, ru, rc⟩ := vals2 r
  cases (show c = Value.type T from rc)
  have fin : ∀ tk, EP X pins σ Q (.bool (isTy (tyD d) T)) { s with toks := tk } := fun tk => ⟨.bl _, H, I.tok tk, rfl, q⟩
  cases d with
  | non => simp only [Rep] at rd; subst rd; cases (show u = Value.none from ru); exact PySem.W.kia_one PySem.W.kitx_none I.kIn True.intro (kit_ty (by simp) hT) (fun z => nomatch z) fin
  | bl y => simp only [Rep] at rd; subst rd; cases (show u = Value.bool y from ru); exact PySem.W.kia_one PySem.W.kitx_bool I.kIn True.intro (kit_ty (by simp) hT) (fun z => nomatch z) fin
  | int i => simp only [Rep] at rd; subst rd; obtain ⟨t, q'⟩ := (show ∃ t, u = Value.int i t from ru); cases q'; exact PySem.W.kia_one PySem.W.kitx_int I.kIn True.intro (kit_ty (by simp) hT) (fun z => nomatch z) fin
  | str y => simp only [Rep] at rd; subst rd; obtain ⟨t, q'⟩ := (show ∃ t, u = Value.str y t from ru); cases q'; exact PySem.W.kia_one PySem.W.kitx_str I.kIn True.intro (kit_ty (by simp) hT) (fun z => nomatch z) fin
  | tup ds =>
    simp only [Rep] at rd
    obtain ⟨a, xs, rfl, hq, _⟩ := rd
    cases (show u = Value.ref a from ru)
    obtain ⟨its, _, ht, _⟩ := I.tuple hq
    obtain ⟨o, h1, h2, _⟩ := ht
    exact PySem.W.kia_one PySem.W.kitx_tuple I.kIn ⟨o, h1, h2⟩ (kit_ty (by simp) hT) (fun z => nomatch z) fin
  | lst ds =>
    simp only [Rep] at rd
    obtain ⟨a, xs, rfl, hq, _⟩ := rd
    cases (show u = Value.ref a from ru)
    obtain ⟨its, _, ht, _⟩ := I.list hq.sq
    obtain ⟨o, n, h1, h2, _⟩ := ht
    exact PySem.W.kia_one PySem.W.kitx_list I.kIn ⟨o, h1, h2⟩ (kit_ty (by simp) hT) (fun z => nomatch z) fin
  | obj => cases ho
  | dic => cases ho
  | dit => cases ho
def dIsi (T : String) (te : TD) : TD := fun ρ Q => te ρ fun r => noObj r.val = true ∧ Q (.fz (.bl (isTy (tyD r.val) T)))
theorem pd_isi {T : String} {TN : Str} {p p' : Pos} (he : PD X e te) (hm : X.mg "isinstance" = none) (hm2 : X.mg TN = none) (hv : bootBuiltins TN = some (.type T)) (hT : T ∈ ["bool", "int", "str", "tuple", "list"] := by decide) (hg : Gl X "isinstance" := by rfl) (hg2 : Gl X TN := by rfl) (hn : TN ≠ "__name__" := by decide)
    (hd : (TN == ("__debug__" : Str)) = false := by decide) (hst : starEach [e, Expr.Name TN p'] X.env = (false, eval e X.env) :: starEach [Expr.Name TN p'] X.env := by rfl) (hst2 : starEach [Expr.Name TN p'] X.env = (false, eval (.Name TN p') X.env) :: starEach [] X.env := by rfl)
    (hpl : (backTo pos (starEach [Expr.Name TN p'] X.env)).any (·.1) = false := by rfl) : PD X (.Call (.Name "isinstance" p) [e, .Name TN p'] [] pos) (dIsi T te) := by
  obtain ⟨t, pp, q⟩ := he
  refine ⟨_, pe_callB (call_isi hT) hg hm boot_isinstance (pa_cons pp (pa_cons (pe_bltn (v := .ty T) hg2 hm2 hv rfl hn hd) pa_nil hst2) hst) (by decide) (by decide) hst hpl, fun ρ σ G0 H0 G H Q P E h k => q ρ σ G0 H0 G H _ _ E h fun v H' r G' x rr hq => ?_⟩
  obtain ⟨G2, x2, rv, _⟩ := rr.freeze x
  exact ⟨v, r.val, rfl, rv.mono x2.s, hq.1, k _ _ _ G2 x2 (fzR (rep_bl _ _ _)) hq.2⟩
end
end L2
set_option Elab.async false
set_option linter.all false
set_option maxRecDepth 100000
set_option maxHeartbeats 1000000
namespace L2
open PySem PySem.Spec PyProof.Rows
section
variable {P : Program} {w : World} {K : PySem.W.Frag} {mg : Str → Option Value} {base : Heap}
structure Known (P : Program) (w : World) (K : PySem.W.Frag) (mg : Str → Option Value) (base : Heap) (k : Nat) (x : Str) (n : Nat) (t : SpD) : Prop where
  ex : ∃ (f : Addr) (fd : FuncData) (ps : List Str), FnOk P w K mg base CX0 k f fd ps (PSp K n t) ∧ mg x = some (.ref f) ∧ PySem.W.keepIn K (.ref f) = true ∧ Binds K fd ps []
structure At (K : PySem.W.Frag) (mg : Str → Option Value) (x : Str) (st : Stmt) : Prop where
  ex : ∃ (f : Addr) (fd : FuncData), Fun K x x st f fd ∧ mg x = some (.ref f)
theorem at_mk {h : Heap} {x : Str} {st : Stmt} {f : Addr} {oc : Value} {od an : Option Addr} {osl : Array (Option Value)} {kV doc pm cdv ct : Value} (X : K.In h) (G : h.Ns mainGlobals mg) (a : PySem.W.nsIn K mainGlobals x = some (some (.ref f)))
    (l : K.lookup f = some ⟨oc, od, .func (PySem.W.fnOf x x (defArgs st) (defBody st) (defScope st) .none kV doc pm an cdv ct), osl⟩) (c : PySem.W.codeIn K cdv x = true) (k : PySem.W.keepIn K (.ref f) = true) : At K mg x st :=
  ⟨f, _, fun_mk l c k, PySem.W.mg_of X G a⟩
theorem FnOk.spec {k : Nat} {f : Addr} {fd : FuncData} {ps : List Str} {n : Nat} {t t' : SpD} (F : FnOk P w K mg base CX0 k f fd ps (PSp K n t)) (h : ∀ ds Q, ds.length = n → t' ds Q → t ds Q) : FnOk P w K mg base CX0 k f fd ps (PSp K n t') :=
  F.imp fun vs H Q E ⟨G, ds, Qr, s, r, l, q, k⟩ => ⟨G, ds, Qr, s, r, l, h ds Qr l q, k⟩
end
section
variable {X : Cx} {k k' n : Nat} {t : SpD} {x : Str} {p pos : Pos} {e : Expr} {es : List Expr} {ts : TDa}
theorem pd_callK (C : Known X.prog X.w X.K X.mg X.base k x n t) (hr : Room k' X.A) (ha : PDa X (e :: es) ts) (hk : k ≤ k' := by decide) (hg : Gl X x := by rfl) (hdb : (x == ("__debug__" : Str)) = false := by decide)
    (he : starEach (e :: es) X.env = (false, eval e X.env) :: starEach es X.env := by rfl) (hpl : (backTo pos (starEach es X.env)).any (·.1) = false := by rfl) : PD X (.Call (.Name x p) (e :: es) [] pos) (dCall n t ts) := by
  obtain ⟨f, fd, ps, F, hm, kp, hb⟩ := C.ex
  exact pd_call F (hr.mono hk) hm kp hb ha hg hdb he hpl
end
def compChk (kindOf : Str → Option NameKind) (N N' : List Str) (m : List (Option Nat)) (scope : Scope) : Bool :=
  (scope.kind == .function) && (m.length == N'.length) && (scope.names.all fun y => y.2 != .cell) && (scope.names.all fun y => y.2 != .local || scope.names.lookup y.1 == some .local) &&
  (scope.names.all fun y => y.2 != .free || kindOf y.1 == some .cell || kindOf y.1 == some .free) &&
  ((m.zip N').all fun p => match p.1 with
    | none => true
    | some j => N[j]? == some p.2 && scope.names.lookup p.2 == some .free)
theorem CompScope.of {X : Cx} {N' : List Str} {m : List (Option Nat)} {scope : Scope} (h : compChk X.env.kindOf X.N N' m scope = true) : CompScope X N' m scope := by
  unfold compChk at h
  simp only [Bool.and_eq_true, beq_iff_eq, List.all_eq_true, Bool.or_eq_true, bne_iff_ne, ne_eq] at h
  obtain ⟨⟨⟨⟨⟨h1, h2⟩, h3⟩, h4⟩, h5⟩, h6⟩ := h
  refine ⟨h1, h2, fun y hy => h3 y hy, fun y hy e => (h4 y hy).resolve_left fun z => z e, fun y hy e => ?_, fun i j x hm hN => ?_⟩
  · rcases h5 y hy with (z | z) | z
    · exact absurd e z
    · exact .inl z
    · exact .inr z
  · have hz : (some j, x) ∈ m.zip N' := by
      apply List.mem_of_getElem? (i := i)
      rw [List.getElem?_zip_eq_some]
      exact ⟨hm, hN⟩
    have := h6 _ hz
    simpa using this
theorem script_val {K : PySem.W.Frag} {G : Hp} {a : Addr} {ns : List Int} (h : RdL K G a (ns.map V.int)) : Rep K G (.ref a) (.lst (ns.map D.int)) := by
  simp only [Rep]
  refine ⟨a, _, rfl, h, ?_⟩
  clear h
  induction ns with
  | nil => exact Reps.nil
  | cons n r ih => exact Reps.cons (rep_int _ _ _) ih
def LawSp (n : Nat) : SpD := fun ds Q => ∃ ns : List Int, ds = [.lst (ns.map .int)] ∧ ns.length ≤ n ∧ Q (.fz (.bl true))
theorem walk_pure {l : PySem.W.OpenLaw} {n k : Nat} {q : Program} {loose : List Str} {XP : (Str → Option Value) → Heap → Prop} {YP : World → Heap → Prop} {d : DefRec} {K : Params → PySem.W.Frag} {x : Str}
    (hn : l.most = some n) (hn2 : n ≤ sizeLine) (hdf : d.params.defaults = []) (hr : Room k callerA) (hY : ∀ (w : World) (h : Heap), YP w h → (K w.params).In h)
    (F : ∀ (w : World) (mg : Str → Option Value) (fa : Addr) (h : Heap), (K w.params).In h → h.Ns mainGlobals mg → mg d.name = some (.ref fa) →
      ∃ fd : FuncData, (∀ (s : Shared) (u : Value), BindsTo s fd ⟨[u], []⟩ [(x, u)]) ∧ ∀ base : Heap, FnOk l.prog w (K w.params) mg base CX0 k fa fd [x] (PSp (K w.params) 1 (LawSp n))) :
    PySem.W.WalkO q loose XP YP l.row.toRowW d [] (fun f vs => PySem.call f vs) := by
  refine Att.attach_call hn hdf fun w s₀ s₁ mg mb fa o pm cd doc a vs ns G Y ho hd hcd hmg hobj hints hlen hg => ?_
  have KX := hY w _ Y
  obtain ⟨fd, hb, hF⟩ := F w mg fa _ KX G.T.g hmg
  refine law_call KX G.T.g G.T.b G.T.builtins G.T.nolimit hg hobj hints (Nat.le_trans hlen hn2) hr (fun base _ _ => hF base) hb (fun H hO hS => ?_) fun H e s' z => z
  have hL : RdL (K w.params) H a (ns.map V.int) := by
    rcases hS with hS | ⟨o, its, m, h1, h2, h3, h4, h5, h6⟩
    · exact .inl hS
    · have e := KX a o h1
      rw [hobj] at e
      cases e
      have h4' : Data.seq vs.toArray _ = Data.seq its m := h4
      injection h4' with e1 e2
      subst e1
      exact .inr ⟨_, _, h1, h5, h6⟩
  refine ⟨H, [.lst (ns.map .int)], fun r => r = .fz (.bl true), Same.refl _, Reps.cons (script_val hL) Reps.nil, rfl, ⟨ns, rfl, hlen, rfl⟩, fun v H' r G' _ rr e => ?_⟩
  subst e
  simpa only [RepR, Rep] using rr
theorem law_mk {P : Program} {w : World} {K : PySem.W.Frag} {mg : Str → Option Value} {st : Stmt} {N : List Str} {x : Str} {k : Nat} {t : SpD} {T : Heap → TX} {fa : Addr} (DA : At K mg "law" st) (hmg : mg "law" = some (.ref fa)) (S : FnScope N [x] (defScope st))
    (hb : ∀ (kV doc pm : Value) (an : Option Addr) (cdv ct : Value) (us : List Value), us.length = 1 → bindArgs (PySem.W.fnOf "law" "law" (defArgs st) (defBody st) (defScope st) .none kV doc pm an cdv ct) ⟨us, []⟩ = pure ([x].zip us))
    (body : ∀ (base : Heap) (f : Addr) (cdv : Value) (A : Around) (outer : List Env) (s : Shared) (H : Hp) (E : XK), Room k (A.deeper (envOfC "law" (defScope st) s.heap.objs.size f cdv)) → PXs (cxOf CX0 P w K mg base N "law" (defScope st) f cdv A outer s H E).nox (defBody st) (T base))
    (spec : ∀ (base : Heap) (ds : List D) (Qr : R → Prop), ds.length = 1 → t ds Qr → T base { nx := fun _ => Qr (.fz .non), rt := Qr } (startP N ds)) :
    ∃ fd : FuncData, (∀ (s : Shared) (u : Value), BindsTo s fd ⟨[u], []⟩ [(x, u)]) ∧ ∀ base : Heap, FnOk P w K mg base CX0 (k + 1) fa fd [x] (PSp K 1 t) := by
  obtain ⟨f, fd, F, hm⟩ := DA.ex
  rw [hmg] at hm
  cases hm
  refine ⟨fd, fun s u => ?_, fun base => fn_pure F S (body base fa) (spec base)⟩
  obtain ⟨oc, od, kV, doc, pm, an, cdv, ct, osl, rfl, lk, hcd⟩ := F.ex
  exact .of_eq (hb kV doc pm an cdv ct [u] rfl)
end L2
set_option Elab.async false
set_option linter.all false
set_option maxRecDepth 100000
set_option maxHeartbeats 1000000
namespace L2
open PySem PySem.Spec PyProof.Rows
def xFrz (i : Nat) (t : TX) : TX := fun D ρ => t D (frz i ρ)
theorem val_fz (d : D) : (R.fz d).val = d := rfl
theorem val_ow (ds : List D) : (R.ow ds).val = .lst ds := rfl
theorem sl_fz (d : D) : (R.fz d).sl = .fz d := rfl
theorem sl_ow (ds : List D) : (R.ow ds).sl = .ow ds := rfl
theorem comp_fm {α : Type} {wi : TId} {m : List (Option Nat)} {g : TGd} {tc : TDb} {te : TD} {ρ : Ev} {Q : R → Prop} (L : List α) (φ : α → D) (f : α → Option D) (hw : ∀ Q' : List D → Prop, Q' (L.map φ) → wi ρ Q') (hl : L.length ≤ sizeLine)
    (h : ∀ x ∈ L, ∀ (K1 : D → Prop) (K0 : Prop), (∀ e, f x = some e → K1 e) → (f x = none → K0) → g (φ x) (innP m ρ) fun ρ2 => tc ρ2 fun b => if b = true then te ρ2 fun r => K1 r.val else K0)
    (q : Q (.ow (L.filterMap f))) : dComp wi m g tc te ρ Q := by
  refine hw _ ⟨fun i acc => acc = (L.take i).filterMap f, rfl, fun i d acc hd ha => ?_, fun acc ha => ?_⟩
  · rw [List.getElem?_map] at hd
    cases hx : L[i]? with
    | none => rw [hx] at hd; cases hd
    | some x =>
      rw [hx] at hd
      cases hd
      have hi : i < L.length := (List.getElem?_eq_some_iff.mp hx).1
      have e : L.take (i + 1) = L.take i ++ [x] := by rw [List.take_add_one, hx]; rfl
      have hlen : acc.length < sizeLine := by
        rw [ha]
        refine Nat.lt_of_le_of_lt (List.length_filterMap_le _ _) ?_
        rw [List.length_take]; omega
      exact h x (List.mem_of_getElem? hx) (fun e => acc.length < sizeLine ∧ acc ++ [e] = (L.take (i + 1)).filterMap f) (acc = (L.take (i + 1)).filterMap f)
        (fun z hz => ⟨hlen, by rw [e, List.filterMap_append, ha]; simp [hz]⟩) (fun hz => by rw [e, List.filterMap_append, ha]; simp [hz])
  · dsimp only at ha
    rw [List.length_map, List.take_length] at ha
    rw [ha]; exact q
theorem comp_map {α : Type} {wi : TId} {m : List (Option Nat)} {g : TGd} {te : TD} {ρ : Ev} {Q : R → Prop} (L : List α) (φ f : α → D) (hw : ∀ Q' : List D → Prop, Q' (L.map φ) → wi ρ Q') (hl : L.length ≤ sizeLine)
    (h : ∀ x ∈ L, ∀ (K1 : D → Prop), K1 (f x) → g (φ x) (innP m ρ) fun ρ2 => te ρ2 fun r => K1 r.val) (q : Q (.ow (L.map f))) : dComp wi m g bYes te ρ Q := by
  refine comp_fm L φ (fun x => some (f x)) hw hl (fun x hx K1 K0 h1 _ => ?_) ?_
  · have := h x hx K1 (h1 _ rfl)
    simpa [bYes] using this
  · have e : L.filterMap (fun x => some (f x)) = L.map f := by
      induction L with
      | nil => rfl
      | cons a r ih => simp
    rw [e]; exact q
theorem comp_filter {α : Type} {wi : TId} {m : List (Option Nat)} {g : TGd} {tc : TDb} {te : TD} {ρ : Ev} {Q : R → Prop} (L : List α) (φ f : α → D) (p : α → Bool) (hw : ∀ Q' : List D → Prop, Q' (L.map φ) → wi ρ Q') (hl : L.length ≤ sizeLine)
    (h : ∀ x ∈ L, ∀ (K1 : D → Prop) (K0 : Prop), (p x = true → K1 (f x)) → (p x = false → K0) → g (φ x) (innP m ρ) fun ρ2 => tc ρ2 fun b => if b = true then te ρ2 fun r => K1 r.val else K0)
    (q : Q (.ow ((L.filter p).map f))) : dComp wi m g tc te ρ Q := by
  refine comp_fm L φ (fun x => if p x = true then some (f x) else none) hw hl (fun x hx K1 K0 h1 h0 => h x hx K1 K0 (fun z => h1 _ (by simp [z])) (fun z => h0 (by simp [z]))) ?_
  have e : L.filterMap (fun x => if p x = true then some (f x) else none) = (L.filter p).map f := by
    clear h hl hw q
    induction L with
    | nil => rfl
    | cons a r ih => by_cases z : p a = true <;> simp [z, ih]
  rw [e]; exact q
theorem xfor_inv {wi : TId} {g : TGd} {tb : TX} {D : DE} {ρ : Ev} (ds : List L2.D) (hw : ∀ Q' : List L2.D → Prop, Q' ds → wi ρ Q') (Iv : Nat → Ev → Prop) (h0 : Iv 0 ρ)
    (turn : ∀ i d ρ', ds[i]? = some d → Iv i ρ' → g d ρ' fun ρ2 => tb { D with nx := Iv (i + 1), ct := Iv (i + 1), bk := D.nx } ρ2) (fin : ∀ ρ', Iv ds.length ρ' → D.nx ρ') : xFor wi g tb D ρ := hw _ ⟨Iv, h0, turn, fin⟩
theorem xfor_list {α : Type} {wi : TId} {g : TGd} {tb : TX} {D : DE} {ρ : Ev} (L : List α) (φ : α → L2.D) (hw : ∀ Q' : List L2.D → Prop, Q' (L.map φ) → wi ρ Q') (Iv : Nat → Ev → Prop) (h0 : Iv 0 ρ)
    (turn : ∀ i x ρ', L[i]? = some x → Iv i ρ' → g (φ x) ρ' fun ρ2 => tb { D with nx := Iv (i + 1), ct := Iv (i + 1), bk := D.nx } ρ2) (fin : ∀ ρ', Iv L.length ρ' → D.nx ρ') : xFor wi g tb D ρ := by
  refine xfor_inv (L.map φ) hw Iv h0 (fun i d ρ' hd iv => ?_) (fun ρ' iv => fin ρ' (by simpa using iv))
  rw [List.getElem?_map] at hd
  cases hx : L[i]? with
  | none => rw [hx] at hd; cases hd
  | some x => rw [hx] at hd; cases hd; exact turn i x ρ' hx iv
theorem xfor_range {g : TGd} {tb : TX} {D : DE} {ρ : Ev} {wi : TId} (n : Nat) (hw : ∀ Q' : List L2.D → Prop, Q' ((List.range n).map fun (i : Nat) => .int (0 + i)) → wi ρ Q') (Iv : Nat → Ev → Prop) (h0 : Iv 0 ρ)
    (turn : ∀ (i : Nat) ρ', i < n → Iv i ρ' → g (.int i) ρ' fun ρ2 => tb { D with nx := Iv (i + 1), ct := Iv (i + 1), bk := D.nx } ρ2) (fin : ∀ ρ', Iv n ρ' → D.nx ρ') : xFor wi g tb D ρ := by
  refine xfor_list (List.range n) (fun (i : Nat) => .int (0 + i)) hw Iv h0 (fun i x ρ' hx iv => ?_) (fun ρ' iv => fin ρ' (by simpa using iv))
  obtain ⟨h1, h2⟩ := List.getElem?_eq_some_iff.mp hx
  have h3 : i < n := by simpa using h1
  have h4 : x = i := by rw [← h2]; simp
  subst h4
  rw [Int.zero_add]
  exact turn x ρ' h3 iv
theorem p24 : (10 : Int) ^ Int.toNat 24 = 1000000000000000000000000 := by decide
theorem p30 : (10 : Int) ^ Int.toNat 30 = 1000000000000000000000000000000 := by decide
theorem cpow24 : CPow 10 24 = True := by simp only [CPow, eq_iff_iff, iff_true]; decide
theorem cpow30 : CPow 10 30 = True := by simp only [CPow, eq_iff_iff, iff_true]; decide
theorem line_big : 100000 ≤ sizeLine := by decide
end L2
set_option Elab.async false
set_option linter.all false
set_option maxRecDepth 100000
set_option maxHeartbeats 1000000
namespace L2
open PySem PySem.Spec PyProof.Rows
section
variable {X : Cx} {pos : Pos} {e : Expr} {te : TD} {es : List Expr} {ts : TDa}
def dNeg (t : TD) : TD := fun ρ Q => t ρ fun r => match r.val with
  | .int i => Q (.fz (.int (-i)))
  | _ => False
theorem pd_neg (h : PD X e te) : PD X (.UnaryOp .USub e pos) (dNeg te) := by
  obtain ⟨t, p, q⟩ := h
  refine ⟨_, pe_un un_neg p, fun ρ σ G0 H0 G H Q P E h k => q ρ σ G0 H0 G H _ _ E h fun v H' r G' x rr hq => ?_⟩
  obtain ⟨G2, x2, rv, _⟩ := rr.freeze x
  split at hq
  · rename_i i e1
    rw [e1] at rv
    simp only [Rep] at rv
    exact ⟨i, rv, k _ _ _ G2 x2 (fzR (rep_int _ _ _)) hq⟩
  · exact hq.elim
def oList : SpD := fun ds Q => match ds with
  | [.lst es] => Q (.ow es)
  | [.tup es] => Q (.ow es)
  | _ => False
theorem c_list : CallP X (.type "list") oList := by
  refine ⟨_, call_list_of, fun G H vs ds Q P s rs h k => ?_⟩
  unfold oList at h
  split at h
  · obtain ⟨v, rfl, rv⟩ := reps1 rs
    simp only [Rep] at rv
    obtain ⟨a, xs, rfl, h1, h2⟩ := rv
    exact ⟨a, xs, rfl, .inl (s.rdl h1).sq, own_fin s h2 h k⟩
  · obtain ⟨v, rfl, rv⟩ := reps1 rs
    simp only [Rep] at rv
    obtain ⟨a, xs, rfl, h1, h2⟩ := rv
    exact ⟨a, xs, rfl, .inr (s.seqT h1), own_fin s h2 h k⟩
  · exact h.elim
def oInt : SpD := fun ds Q => match ds with
  | [.int i] => Q (.fz (.int i))
  | [.bl b] => Q (.fz (.int (if b then 1 else 0)))
  | _ => False
theorem c_int : CallP X (.type "int") oInt := by
  refine ⟨_, call_int1, fun G H vs ds Q P s rs h k => ?_⟩
  unfold oInt at h
  split at h
  · obtain ⟨v, rfl, rv⟩ := reps1 rs
    simp only [Rep] at rv
    subst rv
    exact .inl ⟨_, rfl, k _ _ _ G (.refl s) (fzR (rep_int _ _ _)) h⟩
  · obtain ⟨v, rfl, rv⟩ := reps1 rs
    simp only [Rep] at rv
    subst rv
    exact .inr ⟨_, rfl, k _ _ _ G (.refl s) (fzR (rep_int _ _ _)) h⟩
  · exact h.elim
def intsOf : List D → Option (List Int)
  | [] => some []
  | .int b :: r => (intsOf r).map (b :: ·)
  | _ => none
theorem intsOf_get : ∀ {ds : List D} {bs : List Int}, intsOf ds = some bs → ds = bs.map D.int
  | [], bs, h => by simp [intsOf] at h; subst h; rfl
  | .int b :: r, bs, h => by
    simp only [intsOf, Option.map_eq_some_iff] at h
    obtain ⟨bs', h1, rfl⟩ := h
    rw [intsOf_get h1]; rfl
  | .non :: r, bs, h => by simp [intsOf] at h
  | .bl _ :: r, bs, h => by simp [intsOf] at h
  | .str _ :: r, bs, h => by simp [intsOf] at h
  | .tup _ :: r, bs, h => by simp [intsOf] at h
  | .lst _ :: r, bs, h => by simp [intsOf] at h
  | .obj _ _ :: r, bs, h => by simp [intsOf] at h
  | .dic _ :: r, bs, h => by simp [intsOf] at h
  | .dit _ :: r, bs, h => by simp [intsOf] at h
theorem intsOf_map (bs : List Int) : intsOf (bs.map D.int) = some bs := by
  induction bs with
  | nil => rfl
  | cons b r ih => simp [intsOf, ih]
theorem reps_int {K : PySem.W.Frag} {G : Hp} : ∀ {bs : List Int} {vs : List V}, Reps K G vs (bs.map D.int) → vs = bs.map V.int
  | [], [], _ => rfl
  | b :: bs, v :: vs, h => by
    simp only [List.map_cons, Reps, Rep] at h
    rw [h.1, reps_int h.2]; rfl
  | [], _ :: _, h => by simp only [List.map_nil, Reps] at h
  | _ :: _, [], h => by simp only [List.map_cons, Reps] at h
theorem ints_items {vs : List Value} {ns : List Int} (hi : IntsAre vs ns) : ∃ xs : Array (Int × Tok), vs.toArray = intItems xs ∧ ns = xs.toList.map (·.1) := by
  obtain ⟨xs, e⟩ := hi.allInts.items
  exact ⟨xs, e, by rw [← hi.numsOf, ← nums_intItems, ← e]⟩
theorem call_sumL (hc : X.calm = true) : CallR X (.builtin "sum") (fun xs H Q => ∃ (p : Addr) (ns : List Int), xs = [.ref p] ∧ SqL X.K H p (ns.map V.int) ∧ Q (.int ns.sum) H) := by
  intro pins s σ H xs us Q I r h
  obtain ⟨p, ns, rfl, hq, q⟩ := h
  obtain ⟨u, rfl, ru⟩ := vals1 r
  cases ru
  obtain ⟨its, rv, pl, hz⟩ := I.list hq
  obtain ⟨ys, e, hns⟩ := ints_items (intsAre_of rv)
  have hl := pl.isList
  rw [e] at hl
  refine sum_intListG (I.ok.hd hc) hl fun h' tk t' hk => ?_
  have e2 : preSum (numAt ys) ys.size = ns.sum := by
    rw [preSum_eq, List.take_of_length_le (by simp), hns]
  rw [e2]
  exact ⟨.int _, H, I.kept hk, ⟨_, rfl⟩, q⟩
theorem call_minL (hc : X.calm = true) : CallR X (.builtin "min") (fun xs H Q => ∃ (p : Addr) (ns : List Int), xs = [.ref p] ∧ SqL X.K H p (ns.map V.int) ∧ ns ≠ [] ∧ ∀ M, M ∈ ns → (∀ a ∈ ns, M ≤ a) → Q (.int M) H) := by
  intro pins s σ H xs us Q I r h
  obtain ⟨p, ns, rfl, hq, hne, q⟩ := h
  obtain ⟨u, rfl, ru⟩ := vals1 r
  cases ru
  obtain ⟨its, rv, pl, hz⟩ := I.list hq
  obtain ⟨ys, e, hns⟩ := ints_items (intsAre_of rv)
  have hl := pl.isList
  rw [e] at hl
  have hsz : 0 < ys.size := by
    cases hys : ys.toList with
    | nil => rw [hns, hys] at hne; exact absurd rfl hne
    | cons a b => have : ys.toList.length = b.length + 1 := by rw [hys]; rfl
                  rw [Array.length_toList] at this; omega
  refine min_intList (I.ok.hd hc) hl hsz fun v h' tk hv hk => ?_
  obtain ⟨t, rfl⟩ := intItems_at hv
  obtain ⟨h1, h2⟩ := argBest_lt (numAt ys) (ys.size - 1)
  refine ⟨.int _, H, I.kept hk, ⟨_, rfl⟩, q _ ?_ fun a ha => ?_⟩
  · rw [hns, numAt_eq]; exact getD_mem (by rw [List.length_map, Array.length_toList]; omega)
  · rw [hns] at ha
    obtain ⟨j, hj, rfl⟩ := mem_getD ha
    rw [List.length_map, Array.length_toList] at hj
    rw [← numAt_eq]; exact h2 j (by omega)
def oSum : SpD := fun ds Q => match ds with
  | [.lst es] => match intsOf es with
    | some ns => Q (.fz (.int ns.sum))
    | none => False
  | _ => False
theorem c_sum (hc : X.calm = true) : CallP X (.builtin "sum") oSum := by
  refine ⟨_, call_sumL hc, fun G H vs ds Q P s rs h k => ?_⟩
  unfold oSum at h
  split at h
  · split at h
    · rename_i es bs hb
      obtain ⟨v, rfl, rv⟩ := reps1 rs
      simp only [Rep] at rv
      obtain ⟨a, xs, rfl, h1, h2⟩ := rv
      rw [intsOf_get hb] at h2
      rw [reps_int h2] at h1
      exact ⟨a, bs, rfl, (s.rdl h1).sq, k _ _ _ G (.refl s) (fzR (rep_int _ _ _)) h⟩
    · exact h.elim
  · exact h.elim
def oMin : SpD := fun ds Q => match ds with
  | [.lst es] => match intsOf es with
    | some ns => ns ≠ [] ∧ ∀ M, M ∈ ns → (∀ a ∈ ns, M ≤ a) → Q (.fz (.int M))
    | none => False
  | [.int i, .int j] => Q (.fz (.int (if j < i then j else i)))
  | _ => False
theorem c_min (hc : X.calm = true) : CallP X (.builtin "min") oMin := by
  refine ⟨_, (call_minL hc).or (call_min2 hc), fun G H vs ds Q P s rs h k => ?_⟩
  unfold oMin at h
  split at h
  · split at h
    · rename_i es bs hb
      obtain ⟨v, rfl, rv⟩ := reps1 rs
      simp only [Rep] at rv
      obtain ⟨a, xs, rfl, h1, h2⟩ := rv
      rw [intsOf_get hb] at h2
      rw [reps_int h2] at h1
      exact .inl ⟨a, bs, rfl, (s.rdl h1).sq, h.1, fun M h3 h4 => k _ _ _ G (.refl s) (fzR (rep_int _ _ _)) (h.2 M h3 h4)⟩
    · exact h.elim
  · obtain ⟨v, u, rfl, rv, ru⟩ := reps2 rs
    simp only [Rep] at rv ru
    subst rv ru
    exact .inr ⟨_, _, rfl, k _ _ _ G (.refl s) (fzR (rep_int _ _ _)) h⟩
  · exact h.elim
def strsOf : List D → Option (List Str)
  | [] => some []
  | .str b :: r => (strsOf r).map (b :: ·)
  | _ => none
theorem strsOf_map (bs : List Str) : strsOf (bs.map D.str) = some bs := by
  induction bs with
  | nil => rfl
  | cons b r ih => simp [strsOf, ih]
theorem ints_reps {K : PySem.W.Frag} {G : Hp} (bs : List Int) : Reps K G (bs.map V.int) (bs.map D.int) := by
  induction bs with
  | nil => exact Reps.nil
  | cons b r ih => exact Reps.cons (rep_int _ _ _) ih
def dM (T : String) (o : D → List D → (R → Prop) → Prop) (te : TD) (ts : TDa) : TD := fun ρ Q => te ρ fun r => tyD r.val = T ∧ ts ρ fun ds => o r.val ds Q
def cntD (d : D) (ds : List D) : Nat := ds.countP fun e => eqD e d
def oCount : D → List D → (R → Prop) → Prop := fun d ds Q => match d, ds with
  | .lst es, [x] => okE 8 x ∧ (∀ e ∈ es, okE 8 e) ∧ Q (.fz (.int (cntD x es)))
  | _, _ => False
end
end L2
set_option Elab.async false
set_option linter.all false
set_option maxRecDepth 100000
set_option maxHeartbeats 1000000
namespace L2
open PySem PySem.Spec PyProof.Rows
section
variable {X : Cx} {pos : Pos}
def yLst (n : Nat) (t : TGds) : TGd := fun d ρ Q => match d with
  | .lst ds => ds.length = n ∧ t ds ρ Q
  | _ => False
end
section
variable {X : Cx} {pos : Pos} {e : Expr} {te : TD} {es : List Expr} {ts : TDa}
theorem boot_set' : bootBuiltins "set" = some (.type "set") := by rfl
theorem RepF.look {K : PySem.W.Frag} {H : Hp} {f : Str} : ∀ {gs : List (Str × V)} {fs : List (Str × D)} {d : D}, RepF K H gs fs → fs.lookup f = some d → ∃ v, gs.lookup f = some v ∧ Rep K H v d
  | [], [], d, _, h => by simp at h
  | (x, v) :: gs, (y, d') :: fs, d, r, h => by
    simp only [RepF] at r
    obtain ⟨⟨rfl, r1⟩, r2⟩ := r
    rw [List.lookup_cons] at h ⊢
    cases hb : f == x with
    | true => rw [hb] at h; cases h; exact ⟨v, rfl, r1⟩
    | false => rw [hb] at h; exact RepF.look r2 h
  | [], _ :: _, _, r, _ => by simp only [RepF] at r
  | _ :: _, [], _, r, _ => by simp only [RepF] at r
def dFld (f : Str) (te : TD) : TD := fun ρ Q => te ρ fun r => match r.val with
  | .obj _ fs => ∃ d, fs.lookup f = some d ∧ Q (.fz d)
  | _ => False
def putD (f : Str) (v : D) : List (Str × D) → List (Str × D)
  | [] => [(f, v)]
  | (g, x) :: r => if g = f then (g, v) :: r else (g, x) :: putD f v r
theorem RepF.put {K : PySem.W.Frag} {H : Hp} {f : Str} {v : V} {d : D} (rv : Rep K H v d) : ∀ {gs : List (Str × V)} {fs : List (Str × D)}, RepF K H gs fs → RepF K H (putF f v gs) (putD f d fs)
  | [], [], _ => by simp only [putF, putD, RepF, and_true, true_and]; exact rv
  | (x, u) :: gs, (y, d') :: fs, r => by
    simp only [RepF] at r
    obtain ⟨⟨rfl, r1⟩, r2⟩ := r
    simp only [putF, putD]
    split
    · simp only [RepF, true_and]; exact ⟨rv, r2⟩
    · simp only [RepF, true_and]; exact ⟨r1, RepF.put rv r2⟩
  | [], _ :: _, r => by simp only [RepF] at r
  | _ :: _, [], r => by simp only [RepF] at r
theorem RepF.length {K : PySem.W.Frag} {H : Hp} : ∀ {gs : List (Str × V)} {fs : List (Str × D)}, RepF K H gs fs → gs.length = fs.length
  | [], [], _ => rfl
  | (x, u) :: gs, (y, d') :: fs, r => by
    simp only [RepF] at r
    simp [RepF.length r.2]
  | [], _ :: _, r => by simp only [RepF] at r
  | _ :: _, [], r => by simp only [RepF] at r
structure Making (K : PySem.W.Frag) (C : Addr) (x dx : Addr) (G0 H0 : Hp) (ρ : Ev) (σ : St) (G H : Hp) (fs : List (Str × D)) (gs : List (Str × V)) : Prop where
  e : EOk K G0 H0 ρ σ G H
  sl : σ[0]? = some (some (.ref x))
  hx : H x = some (.ins C dx gs)
  hdx : H dx = some (.own x)
  gx : G x = none
  gdx : G dx = none
  r : RepF K G gs fs
theorem Making.ext {K : PySem.W.Frag} {C x dx : Addr} {G0 H0 : Hp} {ρ : Ev} {σ : St} {G H G' H' : Hp} {fs : List (Str × D)} {gs : List (Str × V)} (M : Making K C x dx G0 H0 ρ σ G H fs gs) (y : Ext G H G' H') : Making K C x dx G0 H0 ρ σ G' H' fs gs :=
  ⟨M.e.ext y, M.sl, y.h _ _ M.hx, y.h _ _ M.hdx, y.n _ M.gx (by rw [M.hx]; exact nofun), y.n _ M.gdx (by rw [M.hdx]; exact nofun), RepF.mono y.g _ _ M.r⟩
end
section
variable {P : Program} {w : World} {K : PySem.W.Frag} {mg : Str → Option Value} {base : Heap}
end
section
variable {X : Cx} {k k' n : Nat} {t : SpD} {x : Str} {p pos : Pos} {e : Expr} {es : List Expr} {ts : TDa}
end
end L2
set_option Elab.async false
set_option linter.all false
set_option maxRecDepth 100000
set_option maxHeartbeats 1000000
namespace L2
open PySem PySem.Spec PyProof.Rows
def NoAttrs (K : PySem.W.Frag) (C : Addr) : List Str → Prop
  | [] => True
  | x :: r => NoAttr K C x ∧ NoAttrs K C r
theorem NoAttrs.all {K : PySem.W.Frag} {C : Addr} : ∀ {l : List Str}, NoAttrs K C l → ∀ x ∈ l, NoAttr K C x
  | [], _, x, h => by cases h
  | y :: r, n, x, h => by
    rcases List.mem_cons.mp h with rfl | h
    · exact n.1
    · exact NoAttrs.all n.2 x h
end L2
set_option Elab.async false
set_option linter.all false
set_option maxRecDepth 100000
set_option maxHeartbeats 1000000
namespace L2
open PySem PySem.Spec PyProof.Rows
def scalD : D → Bool
  | .non => true
  | .bl _ => true
  | .int _ => true
  | .str _ => true
  | _ => false
def dLend (i : Nat) (te : TD) : TD := fun ρ Q => te (frz i ρ) fun r => match r with
  | .fz d => scalD d = true ∧ Q (.fz d)
  | _ => False
def bLend (i : Nat) (t : TDb) : TDb := fun ρ Q => t (frz i ρ) Q
section
variable {X : Cx} {e : Expr} {te : TD} {t : TDb}
end
end L2
set_option Elab.async false
set_option linter.all false
set_option maxRecDepth 100000
set_option maxHeartbeats 1000000
namespace L2
open PySem PySem.Spec PyProof.Rows
theorem orStandIn_led (t : SetTable) (n : Nat) : (t.orStandIn n).led = t.led := by
  unfold SetTable.orStandIn
  split <;> rfl
theorem layNew_led (t : SetTable) (es : Array (Int × Value)) (h : Int) (x : Value) : (layNew t es h x).2.1.led = t.led := by
  unfold layNew
  split
  · exact orStandIn_led _ _
  · rfl
theorem relaid_marks {t t' : SetTable} {hs : Array Int} {wanted : Nat} {order : Array Nat} (h : t.relaid hs wanted = some (t', order)) : t'.led = t.led ∧ t'.plain = t.plain := by
  unfold SetTable.relaid SetTable.laid at h
  cases hc : SetTable.layClean (SetTable.sizeAbove wanted - 1) hs with
  | none => rw [hc] at h; cases h
  | some owner =>
    rw [hc] at h
    cases h
    exact ⟨rfl, rfl⟩
theorem relayAll_marks (t : SetTable) (es : Array (Int × Value)) (wanted : Nat) (hp : t.plain = false) : (relayAll t es wanted).2.1.led = t.led ∧ (relayAll t es wanted).2.1.plain = false := by
  unfold relayAll
  split
  · rename_i t' order hr
    obtain ⟨h1, h2⟩ := relaid_marks hr
    dsimp only
    split
    · exact ⟨h1, h2.trans hp⟩
    · exact ⟨rfl, rfl⟩
  · exact ⟨rfl, rfl⟩
section
variable {prog : Program} {w : World} {A : Around} {E : Value → Shared → Prop} {s : Shared}
structure Marks (w : World) (es : Array (Int × Value)) (t : SetTable) : Prop where
  led : t.led = !(w.params.followText "set-order")
  plain : es.size = 0 ∨ t.plain = false
structure SetAt (prog : Program) (w : World) (h : Heap) (a : Addr) (es : Array (Int × Value)) (ep : Nat) (t : SetTable) : Prop where
  at_ : h.get? a = some { cls := .type "set", dict := none, data := .set es ep t, slots := #[] }
  el : ElemsOf (strKind prog w) es.toList
  small : es.size < scanBound
  fits : t.fits es.size = true
  marks : Marks w es t
def Mem (prog : Program) (w : World) (es : Array (Int × Value)) (k : Str) : Prop := ∃ e ∈ es.toList, (strKind prog w).is k e.2 = true
theorem store_set {a : Addr} {es es' : Array (Int × Value)} {ep : Nat} {t t' : SetTable} {Q : Unit → Shared → Prop} (ho : s.heap.get? a = some { cls := .type "set", dict := none, data := .set es ep t, slots := #[] }) (hb : es'.size < scanBound)
    (h : ∀ h', Heap.SameBut a s.heap h' → h'.get? a = some { cls := .type "set", dict := none, data := .set es' (ep + 1) t', slots := #[] } → Q () { s with heap := h' }) : wpAny (model prog w) A (storeSet a es' t') Q E s := by
  refine wpAny_storeSet_of ho rfl ?_ (fits_of_scanBound hb)
  refine h _ (Heap.SameBut.update s.heap a (Obj.putSet es' t')) ?_
  have := Heap.get?_update_self (Obj.putSet es' t') ho (by rw [putSet_of es' t' (ep := ep) (t := t) (es := es) rfl]; rfl)
  rw [putSet_of es' t' (ep := ep) (t := t) (es := es) rfl] at this
  exact this
theorem set_add {a : Addr} {es : Array (Int × Value)} {ep : Nat} {t : SetTable} {x : Str} {tk : Tok} {Q : Bool → Shared → Prop} (S : SetAt prog w s.heap a es ep t) (room : es.size + 1 < scanBound)
    (h : ∀ h' es' ep' t', Heap.SameBut a s.heap h' → SetAt prog w h' a es' ep' t' → ((es' = es ∧ Mem prog w es x) ∨ (¬ Mem prog w es x ∧ List.Perm es'.toList (es.toList ++ [(hashStr w x, .str x tk)]))) → ∀ b, Q b { s with heap := h' }) :
    wpAny (model prog w) A (setAddHashed a (.str x tk) ((strKind prog w).hash x)) Q E s := by
  have hkey : (strKind prog w).is x (.str x tk) = true := by show Value.isStrOf x (.str x tk) = true; simp [Value.isStrOf]
  have hsc : (Value.str x tk).scannable = true := rfl
  have ho := S.at_
  unfold setAddHashed setAddHashedIn
  refine wpAny_holding (wpAny_bind (wpAny_setState_of ho rfl S.fits ?_))
  dsimp only
  rw [byScan_of hsc S.small S.el]
  simp only [↓reduceIte]
  unfold setAddByScan
  refine wpAny_bind (wpAny_bind (wpAny_rule (wpAny_bind (wpAny_setScan_of hkey ho rfl S.fits S.el ?_))))
  cases hr : List.findIdx? (fun e => (strKind prog w).is x e.2) es.toList with
  | some j =>
    dsimp only
    obtain ⟨hj, hpj, _⟩ := List.findIdx?_eq_some_iff_getElem.mp hr
    refine wpAny_pure (wpAny_pure ?_)
    exact h s.heap es ep t (Heap.SameBut.refl a s.heap) S (.inl ⟨rfl, es.toList[j], List.getElem_mem hj, hpj⟩) _
  | none =>
    dsimp only
    have hno : ¬ Mem prog w es x := fun ⟨e, he, hp⟩ => by
      have := List.findIdx?_eq_none_iff.mp hr e he
      rw [hp] at this
      cases this
    have way : ∀ (b : Bool) {s1 : Shared} {Q' : Unit → Shared → Prop}, Q' () s1 → wpAny (model prog w) A (match b with | true => rule "set.scan.the-table-gave-way" | false => pure ()) Q' E s1 := fun b s1 Q' q => by
      cases b
      · exact wpAny_pure q
      · exact wpAny_rule q
    have hperm := layNew_perm t es ((strKind prog w).hash x) (.str x tk)
    have hfits := layNew_fits t es ((strKind prog w).hash x) (.str x tk)
    have hled := layNew_led t es ((strKind prog w).hash x) (.str x tk)
    generalize layNew t es ((strKind prog w).hash x) (.str x tk) = L at hperm hfits hled ⊢
    obtain ⟨es1, t1, dum, gave⟩ := L
    dsimp only at hperm hfits hled ⊢
    rw [Array.toList_push] at hperm
    have hel1 : ElemsOf (strKind prog w) es1.toList := (S.el.push hkey hsc).perm hperm
    have hsz : es1.size = es.size + 1 := by rw [← Array.length_toList, hperm.length_eq, List.length_append, Array.length_toList]; rfl
    have hb1 : es1.size < scanBound := by omega
    refine wpAny_bind (way _ ?_)
    -- the table, not plain any more
    have tail : ∀ (g : Bool → Sem Unit), (∀ (b : Bool) (s1 : Shared) (Q' : Unit → Shared → Prop), Q' () s1 → wpAny (model prog w) A (g b) Q' E s1) → ∀ t2 : SetTable, t2.fits es1.size = true → t2.led = t.led → t2.plain = false → wpAny (model prog w) A (do
        storeSet a es1 t2
        if (!dum && t2.tooFull) = true then do
            g (relayAll t2 es1 (SetTable.grown es1.size)).2.2
            storeSet a (relayAll t2 es1 (SetTable.grown es1.size)).1 (relayAll t2 es1 (SetTable.grown es1.size)).2.1
            pure (some true)
          else pure (some true)) (fun r s' => wpAny (model prog w) A (match r with | some added => pure added | none => setAddHashedIn a (Value.str x tk) ((strKind prog w).hash x) 99999) Q E s') E s := by
      intro g hg t2 f2 l2 p2
      refine wpAny_bind (store_set ho hb1 fun h1 sb1 g1 => ?_)
      have fin1 : ∀ b, Q b { s with heap := h1 } := h h1 es1 _ t2 sb1 ⟨g1, hel1, hb1, f2, ⟨l2.trans S.marks.led, .inr p2⟩⟩ (.inr ⟨hno, hperm⟩)
      split
      · have hp := relayAll_perm t2 es1 (SetTable.grown es1.size)
        have hfr := relayAll_fits t2 es1 (SetTable.grown es1.size)
        have hmk := relayAll_marks t2 es1 (SetTable.grown es1.size) p2
        generalize relayAll t2 es1 (SetTable.grown es1.size) = Rl at hp hfr hmk ⊢
        obtain ⟨es2, t3, gave2⟩ := Rl
        dsimp only at hp hfr hmk ⊢
        have hs2 : es2.size = es1.size := by rw [← Array.length_toList, hp.length_eq, Array.length_toList]
        refine wpAny_bind (hg _ _ _ ?_)
        refine wpAny_bind (store_set (s := { s with heap := h1 }) g1 (by rw [hs2]; exact hb1) fun h2 sb2 g2 => wpAny_pure (wpAny_pure ?_))
        exact h h2 es2 _ t3 (sb1.trans sb2) ⟨g2, hel1.perm hp, by rw [hs2]; exact hb1, hfr, ⟨(hmk.1.trans l2).trans S.marks.led, .inr hmk.2⟩⟩ (.inr ⟨hno, hp.trans hperm⟩) _
      · exact wpAny_pure (wpAny_pure (fin1 _))
    by_cases hpl : t1.plain = true
    · rw [if_pos hpl]
      refine wpAny_bind ?_
      rw [hashByValue_scannable 8 hsc]
      refine wpAny_pure ?_
      have hk : plainKind (.str x tk) = false := rfl
      rw [hk]
      simp only [Bool.false_eq_true, if_false]
      exact tail _ (fun b s1 Q' q => by cases b <;> first | exact wpAny_pure q | exact wpAny_rule q) { t1 with plain := false } (SetTable.fits_plain_off hfits) hled rfl
    · rw [if_neg hpl]
      refine wpAny_bind (wpAny_pure ?_)
      simp only [if_true]
      exact tail _ (fun b s1 Q' q => by cases b <;> first | exact wpAny_pure q | exact wpAny_rule q) t1 hfits hled (by simpa using hpl)
def keysOf (es : Array (Int × Value)) : List Str := es.toList.map fun e => strOf e.2
theorem mem_keys {es : Array (Int × Value)} (el : ElemsOf (strKind prog w) es.toList) (k : Str) : Mem prog w es k ↔ k ∈ keysOf es := by
  unfold Mem keysOf
  rw [List.mem_map]
  constructor
  · rintro ⟨e, he, hk⟩
    obtain ⟨t, ht⟩ := Value.isStrOf_shape hk
    exact ⟨e, he, by rw [ht]; rfl⟩
  · rintro ⟨e, he, rfl⟩
    obtain ⟨⟨k, hk, _⟩, _⟩ := el e he
    obtain ⟨t, ht⟩ := Value.isStrOf_shape hk
    refine ⟨e, he, ?_⟩
    rw [ht]
    show Value.isStrOf k (.str k t) = true
    simp [Value.isStrOf]
theorem keys_perm {es es' : Array (Int × Value)} {x : Str} {tk : Tok} {hs : Int} (p : List.Perm es'.toList (es.toList ++ [(hs, .str x tk)])) : List.Perm (keysOf es') (keysOf es ++ [x]) := by
  have := p.map fun e => strOf e.2
  rw [List.map_append] at this
  exact this
structure Holds (es : Array (Int × Value)) (xs : List Str) : Prop where
  nd : (keysOf es).Nodup
  mem : ∀ x, x ∈ keysOf es ↔ x ∈ xs
  len : es.size ≤ xs.length
theorem Holds.put {es es' : Array (Int × Value)} {xs : List Str} {x : Str} {tk : Tok} (H : Holds es xs) (el : ElemsOf (strKind prog w) es.toList)
    (h : (es' = es ∧ Mem prog w es x) ∨ (¬ Mem prog w es x ∧ List.Perm es'.toList (es.toList ++ [(hashStr w x, .str x tk)]))) : Holds es' (xs ++ [x]) := by
  rcases h with ⟨rfl, hm⟩ | ⟨hm, hp⟩
  · refine ⟨H.nd, fun y => ?_, by simp; have := H.len; omega⟩
    rw [List.mem_append, ← H.mem, List.mem_singleton]
    constructor
    · exact .inl
    · rintro (h | rfl)
      · exact h
      · exact (mem_keys el _).mp hm
  · have hk := keys_perm hp
    refine ⟨hk.nodup_iff.mpr ?_, fun y => ?_, ?_⟩
    · rw [List.nodup_append]
      refine ⟨H.nd, by simp, fun a ha b hb => ?_⟩
      rw [List.mem_singleton.mp hb]
      rintro rfl
      exact hm ((mem_keys el _).mpr ha)
    · rw [hk.mem_iff, List.mem_append, List.mem_append, H.mem]
    · have e1 := hk.length_eq
      have e2 : (keysOf es').length = es'.size := by simp [keysOf]
      have e3 : (keysOf es).length = es.size := by simp [keysOf]
      have := H.len
      simp only [List.length_append, List.length_cons, List.length_nil] at e1 ⊢
      omega
theorem SetAt.kept {h h' : Heap} {a : Addr} {es : Array (Int × Value)} {ep : Nat} {t : SetTable} (S : SetAt prog w h a es ep t) (k : ∀ o, h.get? a = some o → h'.get? a = some o) : SetAt prog w h' a es ep t := ⟨k _ S.at_, S.el, S.small, S.fits, S.marks⟩
end
section
variable {prog : Program} {w : World} {A : Around} {R : Result → Shared → Prop} {I : Addr} {fp wr : List Addr} {G : Array GenState → Array GenState → Prop} {n : Nat} {P : Nat → Value → Prop} {St : Nat → Shared → Prop}
theorem fill_loop (W : WalksS prog w A.in1 I fp wr G n P St) (S : Addr) (hSf : S ∉ fp) (xs : List Str) (hx : xs.length = n) (hval : ∀ i v, P i v → ∃ x t, xs[i]? = some x ∧ v = .str x t) (hb : n + 1 < scanBound) :
    ∀ (k i : Nat) (s : Shared) (es : Array (Int × Value)) (ep : Nat) (t : SetTable), n - i = k → i ≤ n → St i s → SetAt prog w s.heap S es ep t → Holds es (xs.take i) →
      (∀ s' es' ep' t', Moved (S :: wr) G s s' → SetAt prog w s'.heap S es' ep' t' → Holds es' xs → R (.ok (.ret .none)) s') → codeAny (model prog w) A (.builtin "set.update.loop" ⟨[.ref S, .ref I], []⟩) R s := by
  have offW : S ∉ wr := fun h => hSf (W.sub _ h)
  have more : ∀ b ∈ wr, b ∈ S :: wr := fun b hb => List.mem_cons_of_mem _ hb
  intro k
  induction k with
  | zero =>
    intro i s es ep t hk hi st T H q
    have e : i = n := by omega
    subst e
    refine codeAny_builtin PyProof.Rows.F.entry_set_update_loop ?_
    rw [Around.under_plainId PyProof.Rows.F.plain_set_update_loop _]
    show wpAny _ A.in1 (pyNext (.ref I) >>= _) _ _ s
    refine wpAny_bind (W.done s _ _ st fun s' hm => ?_)
    show wpAny _ A.in1 (ret Value.none) _ _ s'
    rw [← hx, List.take_length] at H
    exact wpAny_pure (q s' es ep t (hm.mono more) (T.kept fun o e => hm.heap S _ offW e) H)
  | succ k ih =>
    intro i s es ep t hk hi st T H q
    have hlt : i < n := by omega
    refine codeAny_builtin PyProof.Rows.F.entry_set_update_loop ?_
    rw [Around.under_plainId PyProof.Rows.F.plain_set_update_loop _]
    show wpAny _ A.in1 (pyNext (.ref I) >>= _) _ _ s
    refine wpAny_bind (W.item i s _ _ hlt st fun v s' hP st' hm => ?_)
    obtain ⟨x, tk, hxi, rfl⟩ := hval i v hP
    have T' : SetAt prog w s'.heap S es ep t := T.kept fun o e => hm.heap S _ offW e
    show wpAny _ A.in1 (holding [Value.str x tk] (setAdd S (.str x tk)) >>= _) _ _ s'
    refine wpAny_bind (wpAny_holding ?_)
    unfold setAdd
    refine wpAny_holding (wpAny_bind ((strKind prog w).pyHash (k := x) (by show Value.isStrOf x (.str x tk) = true; simp [Value.isStrOf]) ?_))
    have hl := H.len
    rw [List.length_take] at hl
    refine set_add (s := { s' with toks := s'.toks + 1 }) T' (by omega) fun h' es' ep' t' sb T2 hput b => ?_
    have tk1 : xs.take (i + 1) = xs.take i ++ [x] := by rw [List.take_add_one, hxi]; rfl
    have H2 : Holds es' (xs.take (i + 1)) := by rw [tk1]; exact H.put T.el hput
    refine wpAny_pure ⟨plainId_quiet PyProof.Rows.F.plain_set_update_loop _, ih (i + 1) _ es' ep' t' (by omega) hlt (W.frame _ s' _ _ st' (Nat.le_succ _) fun b hb o e => ?_) T2 H2 fun s2 es2 ep2 t2 hm2 T3 H3 => ?_⟩
    · rw [sb.2 b (fun z : b = S => hSf (by rw [← z]; exact hb))]; exact e
    · refine q s2 es2 ep2 t2 (Moved.trans W.gtrans ((hm.mono more).then_heap (Nat.le_succ _) fun b o hb e => ?_) hm2) T3 H3
      rw [sb.2 b (fun z : b = S => hb (by rw [z]; exact List.mem_cons_self))]; exact e
end
end L2
set_option Elab.async false
set_option linter.all false
set_option maxRecDepth 100000
set_option maxHeartbeats 3200000
namespace L2
open PySem PySem.Spec PyProof.Rows
section
variable {prog : Program} {w : World} {A : Around} {E : Value → Shared → Prop} {s : Shared}
abbrev bareSet (w : World) : Obj := { cls := .type "set", dict := none, data := .set #[] 0 (.fresh 0 0 (!(w.params.followText "set-order"))) }
theorem bare_new (a : Value) {Q1 : Value → Shared → Prop} (h : Q1 (.ref s.heap.objs.size) { s with heap := s.heap.push (bareSet w) }) :
    codeAny (model prog w) A (.call (.builtin "set.__new__") ⟨[.type "set", a], []⟩) (wants Q1 E) s := by
  refine codeAny_of_tree ?_
  show wpAny _ A.in1 (do checkBuiltinCall "set.__new__" ⟨[.type "set", a], []⟩; again (.builtin "set.__new__" ⟨[.type "set", a], []⟩)) _ _ s
  refine wpAny_bind (wpAny_of_eq (PySem.F.newCall_set_1 a) (wpAny_pure ⟨plainId_quiet PySem.F.plain_set_new _, codeAny_builtin PySem.F.entry_set_new ?_⟩))
  rw [Around.under_plainId PySem.F.plain_set_new _]
  unfold Builtin.«set.__new__» Builtin.Frozenset.newClass
  have hsub := PySem.sub_set_self
  obtain ⟨hp, g, d, tk, os⟩ := s
  dsimp only
  wp_walk
  refine wpAny_askSetting (wpAny_pure ?_)
  dsimp only
  simp only [newObj]
  refine wpAny_bind (wpAny_alloc (wpAny_pure ?_))
  exact wpAny_pure h
theorem bare_at {h : Heap} {a : Addr} (e : h.get? a = some (bareSet w)) : SetAt prog w h a #[] 0 (.fresh 0 0 (!(w.params.followText "set-order"))) :=
  ⟨e, fun x hx => by simp at hx, by show 0 < 4096; decide, by simp [SetTable.fits, SetTable.fresh, SetTable.fill], ⟨rfl, .inl rfl⟩⟩
end
end L2
set_option Elab.async false
set_option linter.all false
set_option maxRecDepth 100000
set_option maxHeartbeats 1600000
namespace L2
open PySem PySem.Spec PyProof.Rows
theorem sl_next : Slot "set_iterator" "__next__" "set_iterator.__next__" :=
  .of (owner := "set_iterator") (n := "__next__") (by rw [typeLookup_type, builtinLookup_eq_fast]; kernel_rfl) (by decide +kernel) (by decide +kernel) (by decide +kernel) (by first | exact .inl (by decide +kernel) | exact .inr (by decide +kernel)) (by rw [isSubtype_type]; kernel_rfl)
theorem sl_iter : Slot "set_iterator" "__iter__" "set_iterator.__iter__" :=
  .of (owner := "set_iterator") (n := "__iter__") (by rw [typeLookup_type, builtinLookup_eq_fast]; kernel_rfl) (by decide +kernel) (by decide +kernel) (by decide +kernel) (by first | exact .inl (by decide +kernel) | exact .inr (by decide +kernel)) (by rw [isSubtype_type]; kernel_rfl)
theorem en_next : entryFor table "set_iterator.__next__" = some Builtin.«set_iterator.__next__» := entryFor_of_fast (by kernel_rfl)
theorem en_iter : entryFor table "set_iterator.__iter__" = some Builtin.«dict_keyiterator.__iter__» := entryFor_alias (id' := "dict_keyiterator.__iter__") (by kernel_rfl) rfl (by decide +kernel) (by kernel_rfl)
theorem en_siter : entryFor table "set.__iter__" = some Builtin.«frozenset.__iter__» := entryFor_alias (id' := "frozenset.__iter__") (by kernel_rfl) rfl (by decide +kernel) (by kernel_rfl)
theorem ar_next (a : Value) : argsOk "set_iterator.__next__" ⟨[a], []⟩ := by unfold argsOk; kernel_rfl
theorem ar_iter (a : Value) : argsOk "set_iterator.__iter__" ⟨[a], []⟩ := by unfold argsOk; kernel_rfl
section
variable {prog : Program} {w : World} {A : Around} {E : Value → Shared → Prop} {s : Shared}
theorem erase_perm {α : Type} : ∀ {l : List α} {i : Nat} (h : i < l.length), (l[i] :: l.eraseIdx i).Perm l
  | a :: r, 0, _ => .refl _
  | a :: r, i + 1, h => by
    simp only [List.getElem_cons_succ, List.eraseIdx_cons_succ]
    exact (List.Perm.swap _ _ _).trans ((erase_perm (by simpa using h)).cons a)
theorem any_choose {M : Model} {src : Source} {n : Nat} {Q : Nat → Shared → Prop} (hn : n ≠ 0) (h : ∀ i d, i < n → Q i { s with drawn := d }) : wpAny M A (choose src n) Q E s := fun Γ p _ => by
  show Sem.wp M Γ (.choose src n .pure) _ _ p s
  rw [Sem.wp_choose]
  exact ⟨hn, h _ _ (Nat.mod_lt _ (Nat.pos_of_ne_zero hn))⟩
theorem any_order {M : Model} {α : Type} : ∀ (n : Nat) (xs : List α) (s : Shared) (Q : List α → Shared → Prop), xs.length ≤ n → (∀ ys d, ys.Perm xs → Q ys { s with drawn := d }) → wpAny M A (drawOrder n xs) Q E s
  | 0, xs, s, Q, hl, q => by
    have : xs = [] := List.eq_nil_of_length_eq_zero (by omega)
    subst this
    unfold drawOrder
    exact wpAny_pure (q [] s.drawn (.refl _))
  | n + 1, [], s, Q, hl, q => by
    unfold drawOrder
    exact wpAny_pure (q [] s.drawn (.refl _))
  | n + 1, x :: r, s, Q, hl, q => by
    unfold drawOrder
    refine wpAny_bind (any_choose (by simp) fun i d hi => ?_)
    rw [List.getElem?_eq_getElem hi]
    dsimp only
    refine wpAny_bind (any_order n _ _ _ (by rw [List.length_eraseIdx]; split <;> simp at hl ⊢ <;> omega) fun ys d' hp => wpAny_pure ?_)
    exact q _ d' ((hp.cons _).trans (erase_perm hi))
theorem pick_go {α : Type} (f : Nat → Nat) : ∀ (n k : Nat) (left : List α) (out : Array α), left.length = n → (pickOrder.go f n k left out).toList.Perm (out.toList ++ left)
  | 0, k, left, out, h => by
    have : left = [] := List.eq_nil_of_length_eq_zero h
    subst this
    simp [pickOrder.go]
  | n + 1, k, left, out, h => by
    unfold pickOrder.go
    have hlt : f k % left.length < left.length := Nat.mod_lt _ (by omega)
    rw [List.getElem?_eq_getElem hlt]
    dsimp only
    refine (pick_go f n (k + 1) _ _ (by rw [List.length_eraseIdx, if_pos hlt]; omega)).trans ?_
    rw [Array.toList_push, List.append_assoc]
    exact (List.Perm.refl _).append (erase_perm hlt)
theorem pick_perm {α : Type} (f : Nat → Nat) (xs : Array α) : (pickOrder f xs).toList.Perm xs.toList := by
  have := pick_go f xs.size 0 xs.toList #[] (by simp)
  simpa [pickOrder] using this
abbrev itObj (first : Value) (i : Nat) (S : Addr) (n ep : Nat) : Obj := { cls := .type "set_iterator", data := .fields #[first, .int i 0, .ref S, .int n 0, .int ep 0] }
theorem entries_of {a : Addr} {es : Array (Int × Value)} {ep : Nat} {t : SetTable} {Q : Array (Int × Value) → Shared → Prop} (S : SetAt prog w s.heap a es ep t) (h : Q es s) : wpAny (model prog w) A (setEntries a) Q E s := by
  unfold setEntries
  exact wpAny_bind (wpAny_setState_of S.at_ rfl S.fits (wpAny_pure h))
theorem stop_now {I : Addr} {o : Obj} {vs : Array Value} {Q : Option Value → Shared → Prop} {K : Fin → Shared → Prop} (hh : A.handled = none) (ho : s.heap.get? I = some o) (hd : o.data = .fields vs) (hv : 2 < vs.size)
    (hQ : ∀ h', Heap.ExtBut I s.heap h' → Q none { s with heap := h' }) :
    wpAny (model prog w) A.in1 (do setField (.ref I) 2 .none; raiseNew (← newExc (.type "StopIteration") []) : Sem Fin) K (fun e s' => wpAny (model prog w) A (do if ← isInstance e (.type "StopIteration") then pure none else throw e : Sem (Option Value)) Q E s') s := by
  refine wpAny_bind (wpAny_setField ho hd hv ?_)
  show wpAny _ _ (newExc (.type "StopIteration") [] >>= _) _ _ _
  refine wpAny_bind ?_
  simp only [newExc, newTuple]
  refine wpAny_bind (wpAny_newObj_type ?_ (by size_fits))
  refine wpAny_bind (m := firstArgMember _ _) (wpAny_of_eq (a := Value.none) (by first | rfl | (simp only [firstArgMember]; rfl)) ?_)
  refine wpAny_newObj_type ?_ (by size_fits)
  simp only [raiseNew]
  refine wpAny_bind (wpAny_handled ?_)
  rw [show A.in1.handled = none from hh]
  refine wpAny_bind (wpAny_pure (wpAny_throw ?_))
  refine wpAny_bind (wpAny_isInstance (T := "StopIteration") (b := true) ⟨_, Heap.get?_push_size _ rfl, rfl⟩ isSubtype_stop ?_)
  exact wpAny_pure (hQ _ (((Heap.SameBut.update ..).extBut.push _).push _))
end
end L2
set_option Elab.async false
set_option linter.all false
set_option maxRecDepth 100000
set_option maxHeartbeats 1600000
namespace L2
open PySem PySem.Spec PyProof.Rows
section
variable {prog : Program} {w : World} {A : Around} {E : Value → Shared → Prop} {s : Shared}
theorem next_int {I S : Addr} {es : Array (Int × Value)} {ep : Nat} {t : SetTable} {sl i : Nat} {Q : Option Value → Shared → Prop} (hh : A.handled = none) (hI : s.heap.get? I = some (itObj (.int sl 0) i S es.size ep)) (T : SetAt prog w s.heap S es ep t) (r : Option (Value × Nat))
    (hN : ∀ (Q' : Option (Value × Nat) → Shared → Prop) (E' : Value → Shared → Prop), Q' r s → wpAny (model prog w) A.in1 (setNext S sl i ep) Q' E' s)
    (hs : ∀ x j, r = some (x, j) → ∀ h', Heap.SameBut I s.heap h' → h'.get? I = some (itObj (.int j 0) (i + 1) S es.size ep) → Q (some x) { s with heap := h' })
    (hn : r = none → ∀ h', Heap.ExtBut I s.heap h' → Q none { s with heap := h' }) : wpAny (model prog w) A (pyNext (.ref I)) Q E s := by
  have hT : s.TypeIs (.ref I) "set_iterator" := ⟨_, hI, rfl⟩
  unfold pyNext
  refine wpAny_bind (wpAny_attempt (wpAny_callSpecial?_slot (name := Str.ofString "__next__") hT sl_next (wpAny_call_entry sl_next hT en_next ?_ (ar_next _))))
  show wpAny _ _ (fieldsOf (.ref I) >>= _) _ _ s
  refine wpAny_bind (wpAny_fieldsOf hI rfl ?_)
  dsimp only
  refine wpAny_bind (entries_of T ?_)
  simp only [bne_self_eq_false, Bool.false_eq_true, if_false]
  simp only [Int.toNat_natCast]
  refine wpAny_bind (hN _ _ ?_)
  cases r with
  | none => exact stop_now hh hI rfl (by simp) (hn rfl)
  | some p =>
    obtain ⟨x, j⟩ := p
    dsimp only
    refine wpAny_bind (wpAny_setField_rec hI (by simp) fun h1 g1 b1 => ?_)
    refine wpAny_bind (wpAny_setField_rec (s := { s with heap := h1 }) g1 (by simp) fun h2 g2 b2 => ?_)
    refine wpAny_pure ⟨x, rfl, wpAny_pure (hs x j rfl h2 (b1.trans b2) ?_)⟩
    rw [g2]
    simp [rawInt]
theorem next_ref {I S Tp : Addr} {es : Array (Int × Value)} {ep : Nat} {t : SetTable} {ps : List Nat} {i : Nat} {Q : Option Value → Shared → Prop} (hh : A.handled = none) (hI : s.heap.get? I = some (itObj (.ref Tp) i S es.size ep)) (T : SetAt prog w s.heap S es ep t)
    (hTp : s.heap.get? Tp = some { cls := .type "tuple", data := .seq (ps.map fun (p : Nat) => rawInt p).toArray })
    (hs : ∀ p e, ps[i]? = some p → es[p]? = some e → ∀ h', Heap.SameBut I s.heap h' → h'.get? I = some (itObj (.ref Tp) (i + 1) S es.size ep) → Q (some e.2) { s with heap := h' })
    (hin : ∀ p ∈ ps, p < es.size) (hn : ps[i]? = none → ∀ h', Heap.ExtBut I s.heap h' → Q none { s with heap := h' }) : wpAny (model prog w) A (pyNext (.ref I)) Q E s := by
  have hT : s.TypeIs (.ref I) "set_iterator" := ⟨_, hI, rfl⟩
  unfold pyNext
  refine wpAny_bind (wpAny_attempt (wpAny_callSpecial?_slot (name := Str.ofString "__next__") hT sl_next (wpAny_call_entry sl_next hT en_next ?_ (ar_next _))))
  show wpAny _ _ (fieldsOf (.ref I) >>= _) _ _ s
  refine wpAny_bind (wpAny_fieldsOf hI rfl ?_)
  dsimp only
  refine wpAny_bind (entries_of T ?_)
  simp only [bne_self_eq_false, Bool.false_eq_true, if_false]
  refine wpAny_bind (wpAny_seqItems hTp rfl ?_)
  dsimp only
  simp only [Int.toNat_natCast, List.getElem?_toArray, List.getElem?_map]
  cases hp : ps[i]? with
  | none =>
    simp only [Option.map_none]
    refine wpAny_bind (wpAny_setField_rec hI (by simp) fun h1 g1 b1 => ?_)
    exact stop_now (s := { s with heap := h1 }) hh g1 rfl (by simp) fun h' x => hn hp h' (b1.extBut.trans x)
  | some p =>
    simp only [Option.map_some, rawInt, Int.toNat_natCast]
    have hlt := hin p (List.mem_of_getElem? hp)
    have he : es[p]? = some es[p] := by simp [hlt]
    unfold setNextDrawn
    refine wpAny_bind (wpAny_bind (wpAny_setState_of T.at_ rfl T.fits ?_))
    simp only [bne_self_eq_false, Bool.false_eq_true, if_false, he]
    refine wpAny_pure ?_
    refine wpAny_bind (wpAny_setField_rec hI (by simp) fun h1 g1 b1 => ?_)
    refine wpAny_pure ⟨_, rfl, wpAny_pure (hs p es[p] hp he h1 b1 ?_)⟩
    rw [g1]
    simp
theorem next_text {S : Addr} {es : Array (Int × Value)} {ep : Nat} {t : SetTable} (T : SetAt prog w s.heap S es ep t) (sl i : Nat) (hf : w.params.followText "set-order" = true) (Q : Option (Value × Nat) → Shared → Prop)
    (q : Q (((pickOrder (w.params.setOrder S ep) es)[i]?).map fun e => (e.2, sl)) s) : wpAny (model prog w) A (setNext S sl i ep) Q E s := by
  unfold setNext
  refine wpAny_bind (wpAny_setState_of T.at_ rfl T.fits ?_)
  dsimp only
  unfold setsByText
  refine wpAny_bind (wpAny_bind (wpAny_askSetting (wpAny_pure ?_)))
  rw [show (model prog w).w.params.followText "set-order" = true from hf]
  simp only [bne_self_eq_false, Bool.false_eq_true, if_false, if_true]
  unfold setWalk
  refine wpAny_bind (wpAny_bind (wpAny_setState_of T.at_ rfl T.fits ?_))
  dsimp only
  unfold setsByText
  refine wpAny_bind (wpAny_bind (wpAny_askSetting (wpAny_pure ?_)))
  rw [show (model prog w).w.params.followText "set-order" = true from hf]
  simp only [if_true]
  exact wpAny_bind (wpAny_askSetting (wpAny_pure (wpAny_pure q)))
theorem next_small {S : Addr} {es : Array (Int × Value)} {ep : Nat} {t : SetTable} (T : SetAt prog w s.heap S es ep t) (sl i : Nat) (hf : w.params.followText "set-order" = false) (h1 : es.size ≤ 1) (Q : Option (Value × Nat) → Shared → Prop)
    (q : Q (match es[SetTable.below t.place sl]?, t.place[SetTable.below t.place sl]? with | some (_, x), some j => some (x, j + 1) | _, _ => none) s) : wpAny (model prog w) A (setNext S sl i ep) Q E s := by
  unfold setNext
  refine wpAny_bind (wpAny_setState_of T.at_ rfl T.fits ?_)
  dsimp only
  unfold setsByText
  refine wpAny_bind (wpAny_bind (wpAny_askSetting (wpAny_pure ?_)))
  rw [show (model prog w).w.params.followText "set-order" = false from hf]
  simp only [Bool.false_eq_true, if_false]
  have hl : t.led = true := by rw [T.marks.led, hf]; rfl
  have hd : (!t.plain && decide (es.size > 1)) = false := by
    rw [decide_eq_false (by omega)]; simp
  refine wpAny_ite_split (fun h => absurd (show (!t.plain && decide (es.size > 1)) = true from h) (by rw [hd]; simp)) fun _ => ?_
  refine wpAny_bind ?_
  show wpAny _ _ (ite ((!t.led && !es.isEmpty) = true) _ _) _ _ _
  rw [hl]
  simp only [Bool.not_true, Bool.false_and, Bool.false_eq_true, if_false]
  exact wpAny_pure (wpAny_pure q)
theorem same_set {I S : Addr} {h h' : Heap} {es : Array (Int × Value)} {ep : Nat} {t : SetTable} (T : SetAt prog w h S es ep t) (hne : S ≠ I) (b : Heap.SameBut I h h') : SetAt prog w h' S es ep t := T.kept fun o e => by rw [b.2 S hne]; exact e
abbrev AtV (vals : List Value) : Nat → Value → Prop := fun i v => vals[i]? = some v
theorem self_it {I S : Addr} {first : Value} {i n ep : Nat} {Q : Value → Shared → Prop} (hI : s.heap.get? I = some (itObj first i S n ep)) (q : Q (.ref I) s) : wpAny (model prog w) A (pyIter (.ref I)) Q E s := by
  have hT : s.TypeIs (.ref I) "set_iterator" := ⟨_, hI, rfl⟩
  refine wpAny_pyIter_slot hT sl_iter (wpAny_call_entry sl_iter hT en_iter ?_ (ar_iter _))
  show wpAny _ _ (ret (.ref I)) _ _ s
  exact wpAny_pure ⟨_, rfl, "set_iterator", _, hT, sl_next.lookup, q⟩
theorem walk_text {I S : Addr} {es : Array (Int × Value)} {ep : Nat} {t : SetTable} (hne : S ≠ I) (hf : w.params.followText "set-order" = true) (hh : A.handled = none) :
    Walks prog w A I [I, S] [I] es.size (AtV ((pickOrder (w.params.setOrder S ep) es).toList.map (·.2))) (fun i h => h.get? I = some (itObj (.int 0 0) i S es.size ep) ∧ SetAt prog w h S es ep t) := by
  have hp := pick_perm (w.params.setOrder S ep) es
  have hl : (pickOrder (w.params.setOrder S ep) es).size = es.size := by rw [← Array.length_toList, hp.length_eq, Array.length_toList]
  refine ⟨fun b hb => by simp at hb; simp [hb], fun i h h' st k => ⟨k I (by simp) _ st.1, st.2.kept (k S (by simp))⟩, fun i s Q E hi st q => ?_, fun s Q E st q => ?_, fun i s Q E st q => self_it st.1 q⟩
  · have hi' : i < (pickOrder (w.params.setOrder S ep) es).size := by omega
    refine next_int (sl := 0) hh st.1 st.2 _ (fun Q' E' q' => next_text st.2 0 i hf Q' q') (fun x j e h' b g => ?_) (fun e => ?_)
    · rw [Array.getElem?_eq_getElem hi'] at e
      simp only [Option.map_some, Option.some.injEq, Prod.mk.injEq] at e
      obtain ⟨rfl, rfl⟩ := e
      exact q _ h' s.toks (by show (List.map _ _)[i]? = _; rw [List.getElem?_map, Array.getElem?_toList, Array.getElem?_eq_getElem hi']; rfl) ⟨g, same_set st.2 hne b⟩ fun c o hc e => by rw [b.2 c (by simpa using hc)]; exact e
    · rw [Array.getElem?_eq_getElem hi'] at e
      cases e
  · refine next_int (sl := 0) hh st.1 st.2 _ (fun Q' E' q' => next_text st.2 0 _ hf Q' q') (fun x j e => ?_) (fun _ h' b => q h' s.toks fun c o hc e => b c o (by simpa using hc) e)
    rw [Array.getElem?_eq_none (by omega)] at e
    cases e
theorem below1 (p j : Nat) : SetTable.below #[p] j = if p < j then 1 else 0 := by
  unfold SetTable.below
  simp only [List.size_toArray, List.length_cons, List.length_nil, Nat.zero_add]
  unfold SetTable.below.go
  simp
  split <;> unfold SetTable.below.go <;> rfl
theorem walk_small {I S : Addr} {es : Array (Int × Value)} {ep : Nat} {t : SetTable} (hne : S ≠ I) (hf : w.params.followText "set-order" = false) (h1 : es.size ≤ 1) (hh : A.handled = none) :
    Walks prog w A I [I, S] [I] es.size (AtV (es.toList.map (·.2))) (fun i h => ∃ sl : Nat, h.get? I = some (itObj (.int sl 0) i S es.size ep) ∧ SetAt prog w h S es ep t ∧ (i = 0 → sl = 0) ∧ (1 ≤ i → ∃ p, t.place = #[p] ∧ sl = p + 1)) := by
  refine ⟨fun b hb => by simp at hb; simp [hb], fun i h h' st k => ?_, fun i s Q E hi st q => ?_, fun s Q E st q => ?_, fun i s Q E st q => ?_⟩
  · obtain ⟨sl, a, T, b, c⟩ := st
    exact ⟨sl, k I (by simp) _ a, T.kept (k S (by simp)), b, c⟩
  · obtain ⟨sl, a, T, b, c⟩ := st
    have hs1 : es.size = 1 := by omega
    have hi0 : i = 0 := by omega
    subst hi0
    have hsl := b rfl
    subst hsl
    obtain ⟨e, rfl⟩ : ∃ e, es = #[e] := by
      obtain ⟨l⟩ := es
      match l, hs1 with
      | [e], _ => exact ⟨e, rfl⟩
    obtain ⟨p, hp⟩ : ∃ p, t.place = #[p] := by
      have hfit := T.fits
      simp only [SetTable.fits, Bool.and_eq_true, beq_iff_eq] at hfit
      have hps : t.place.size = 1 := hfit.1
      generalize t.place = pl at hps ⊢
      obtain ⟨l⟩ := pl
      match l, hps with
      | [p], _ => exact ⟨p, rfl⟩
    refine next_int hh a T (some (e.2, p + 1)) (fun Q' E' q' => next_small T _ _ hf h1 Q' ?_) (fun x j ej h' bb g => ?_) (fun z => nomatch z)
    · rw [hp, below1, if_neg (Nat.not_lt_zero _)]
      exact q'
    · cases ej
      exact q _ h' s.toks rfl ⟨p + 1, g, same_set T hne bb, fun z => by omega, fun _ => ⟨p, hp, rfl⟩⟩ fun c o hc e => by rw [bb.2 c (by simpa using hc)]; exact e
  · obtain ⟨sl, a, T, b, c⟩ := st
    refine next_int hh a T none (fun Q' E' q' => next_small T _ _ hf h1 Q' ?_) (fun x j e => nomatch e) (fun _ h' b => q h' s.toks fun c o hc e => b c o (by simpa using hc) e)
    have he : es[SetTable.below t.place sl]? = none := by
      by_cases h0 : es.size = 0
      · exact Array.getElem?_eq_none (by omega)
      · obtain ⟨p, hp, hsl⟩ := c (by omega)
        rw [hp, hsl, below1, if_pos (Nat.lt_succ_self _)]
        exact Array.getElem?_eq_none (by omega)
    rw [he]
    exact q'
  · obtain ⟨sl, a, T, b, c⟩ := st
    exact self_it a q
theorem walk_drawn {I S Tp : Addr} {es : Array (Int × Value)} {ep : Nat} {t : SetTable} {ps : List Nat} (hne : S ≠ I) (hne2 : Tp ≠ I) (hp : ps.Perm (List.range es.size)) (hh : A.handled = none) :
    Walks prog w A I [I, Tp, S] [I] es.size (AtV (ps.map fun p => (es.getD p (0, .none)).2)) (fun i h => h.get? I = some (itObj (.ref Tp) i S es.size ep) ∧ SetAt prog w h S es ep t ∧ h.get? Tp = some { cls := .type "tuple", data := .seq (ps.map fun (p : Nat) => rawInt p).toArray }) := by
  have hin : ∀ p ∈ ps, p < es.size := fun p h => List.mem_range.mp (hp.mem_iff.mp h)
  have hl : ps.length = es.size := by rw [hp.length_eq, List.length_range]
  refine ⟨fun b hb => by simp at hb; simp [hb], fun i h h' st k => ⟨k I (by simp) _ st.1, st.2.1.kept (k S (by simp)), k Tp (by simp) _ st.2.2⟩, fun i s Q E hi st q => ?_, fun s Q E st q => ?_, fun i s Q E st q => self_it st.1 q⟩
  · have hi' : i < ps.length := by omega
    refine next_ref hh st.1 st.2.1 st.2.2 (fun p e h1 h2 h' b g => ?_) hin (fun z => by rw [List.getElem?_eq_getElem hi'] at z; cases z)
    refine q _ h' s.toks ?_ ⟨g, same_set st.2.1 hne b, by rw [b.2 Tp hne2]; exact st.2.2⟩ fun c o hc e => by rw [b.2 c (by simpa using hc)]; exact e
    show (List.map _ _)[i]? = _
    rw [List.getElem?_map, h1]
    simp [h2]
  · refine next_ref hh st.1 st.2.1 st.2.2 (fun p e h1 => ?_) hin (fun _ h' b => q h' s.toks fun c o hc e => b c o (by simpa using hc) e)
    rw [List.getElem?_eq_none (by omega)] at h1
    cases h1
end
end L2
set_option Elab.async false
set_option linter.all false
set_option maxRecDepth 100000
set_option maxHeartbeats 1600000
namespace L2
open PySem PySem.Spec PyProof.Rows
section
variable {prog : Program} {w : World} {A : Around} {E : Value → Shared → Prop} {s : Shared}
structure Laid (prog : Program) (w : World) (h : Heap) (a : Addr) (es : Array (Int × Value)) (I : Addr) (h' : Heap) : Prop where
  ex : ∃ (fp : List Addr) (vals : List Value) (St : Nat → Heap → Prop), vals.Perm (es.toList.map (·.2)) ∧ (∀ A : Around, A.handled = none → Walks prog w A I fp [I] es.size (AtV vals) St) ∧ St 0 h' ∧ ∀ b ∈ fp, b = a ∨ h.objs.size ≤ b
  old : ∀ b o, h.get? b = some o → h'.get? b = some o
  new : h.objs.size ≤ I
  type : ∃ o, h'.get? I = some o ∧ o.cls = .type "set_iterator"
theorem range_map {es : Array (Int × Value)} {ps : List Nat} (hp : ps.Perm (List.range es.size)) : (ps.map fun p => (es.getD p (0, .none)).2).Perm (es.toList.map (·.2)) := by
  refine (hp.map _).trans ?_
  have e : (List.range es.size).map (fun p => (es.getD p (0, .none)).2) = es.toList.map (·.2) := by
    apply List.ext_getElem
    · simp
    · intro i h1 h2
      have hi : i < es.size := by simpa using h1
      simp [Array.getD, hi]
  rw [e]
theorem iter_set {a : Addr} {es : Array (Int × Value)} {ep : Nat} {t : SetTable} {Q : Value → Shared → Prop} (T : SetAt prog w s.heap a es ep t)
    (q : ∀ (I : Addr) (h' : Heap) (d : Drawn), Laid prog w s.heap a es I h' → Q (.ref I) { s with heap := h', drawn := d }) : wpAny (model prog w) A (pyIter (.ref a)) Q E s := by
  have hT : s.TypeIs (.ref a) "set" := ⟨_, T.at_, rfl⟩
  have hlt : a < s.heap.objs.size := Heap.lt_size T.at_
  refine wpAny_pyIter_slot hT PySem.F.slot_set_iter (wpAny_call_entry PySem.F.slot_set_iter hT en_siter ?_ (PySem.F.args_set_iter_1 _))
  show wpAny _ _ (Builtin.Frozenset.sizeOf a >>= _) _ _ s
  unfold Builtin.Frozenset.sizeOf
  refine wpAny_bind (wpAny_bind (entries_of T (wpAny_pure ?_)))
  unfold setDrawn
  refine wpAny_bind (wpAny_bind (wpAny_setState_of T.at_ rfl T.fits ?_))
  dsimp only
  unfold setsByText
  refine wpAny_bind (wpAny_bind (wpAny_askSetting (wpAny_pure ?_)))
  refine wpAny_pure ?_
  have here : ∀ (first : Value) (s1 : Shared) (Q1 : Fin → Shared → Prop) (T1 : SetAt prog w s1.heap a es ep t), (∀ o, o = itObj first 0 a es.size ep → Q1 (.done (.ret (.ref s1.heap.objs.size))) { s1 with heap := s1.heap.push o }) → wpAny (model prog w) A.in1 (do
      let e ← setEpoch a
      let v ← newFields "set_iterator" [first, rawInt 0, Value.ref a, rawInt es.size, rawInt e]
      ret v) Q1 E s1 := by
    intro first s1 Q1 T1 q1
    refine wpAny_bind (wpAny_setEpoch_of T1.at_ rfl T1.fits ?_)
    refine wpAny_bind (wpAny_newObj_type (wpAny_pure (q1 _ rfl)) (by size_fits))
  refine wpAny_ite_split (fun hc => ?_) fun hc => ?_
  · refine wpAny_bind (any_order es.size _ _ _ (by simp) fun ps d hp => ?_)
    have hps : ps.length ≤ sizeLine := by rw [hp.length_eq, List.length_range]; exact fits_of_scanBound T.small
    refine wpAny_bind (wpAny_newTuple ?_ (by rw [List.length_map]; exact hps))
    have T1 : SetAt prog w (s.heap.push { cls := .type "tuple", data := .seq (ps.map fun (p : Nat) => rawInt p).toArray }) a es ep t := T.kept fun o e => Heap.get?_push_of_some _ e
    refine here _ _ _ T1 fun o ho => ?_
    subst ho
    refine ⟨_, rfl, "set_iterator", _, ⟨_, Heap.get?_push_size _ rfl, rfl⟩, sl_next.lookup, ?_⟩
    have hsz : (s.heap.push { cls := .type "tuple", data := .seq (ps.map fun (p : Nat) => rawInt p).toArray }).objs.size = s.heap.objs.size + 1 := Heap.size_push ..
    refine q _ _ d ⟨⟨[_, s.heap.objs.size, a], _, _, range_map hp, fun A hh => walk_drawn (t := t) (by rw [hsz]; exact Nat.ne_of_lt (Nat.lt_succ_of_lt hlt)) (by rw [hsz]; exact Nat.ne_of_lt (Nat.lt_succ_self _)) hp hh,
      ⟨Heap.get?_push_size _ rfl, T1.kept fun o e => Heap.get?_push_of_some _ e, Heap.get?_push_of_some _ (Heap.get?_push_size _ rfl)⟩, fun b hb => ?_⟩, fun b o e => Heap.get?_push_of_some _ (Heap.get?_push_of_some _ e), by rw [hsz]; exact Nat.le_succ _, ⟨_, Heap.get?_push_size _ rfl, rfl⟩⟩
    simp only [List.mem_cons, List.not_mem_nil, or_false] at hb
    rcases hb with rfl | rfl | rfl
    · right; rw [hsz]; exact Nat.le_succ _
    · right; exact Nat.le_refl _
    · left; rfl
  · refine wpAny_bind (wpAny_pure ?_)
    refine here _ _ _ T fun o ho => ?_
    subst ho
    refine ⟨_, rfl, "set_iterator", _, ⟨_, Heap.get?_push_size _ rfl, rfl⟩, sl_next.lookup, ?_⟩
    have fpx : ∀ b ∈ [s.heap.objs.size, a], b = a ∨ s.heap.objs.size ≤ b := fun b hb => by
      simp only [List.mem_cons, List.not_mem_nil, or_false] at hb
      rcases hb with rfl | rfl
      · right; exact Nat.le_refl _
      · left; rfl
    have hne : a ≠ s.heap.objs.size := Nat.ne_of_lt hlt
    have T1 : SetAt prog w (s.heap.push (itObj (rawInt 0) 0 a es.size ep)) a es ep t := T.kept fun o e => Heap.get?_push_of_some _ e
    cases hf : w.params.followText "set-order" with
    | true =>
      exact q _ _ s.drawn ⟨⟨_, _, _, (pick_perm (w.params.setOrder a ep) es).map _, fun A hh => walk_text (t := t) hne hf hh, ⟨Heap.get?_push_size _ rfl, T1⟩, fpx⟩, fun b o e => Heap.get?_push_of_some _ e, Nat.le_refl _, ⟨_, Heap.get?_push_size _ rfl, rfl⟩⟩
    | false =>
      have hc2 : ¬ ((!t.plain && decide (es.size > 1)) = true) := fun z => hc (by
        show (!(w.params.followText "set-order") && (!t.plain && decide (es.size > 1))) = true
        rw [hf, z]; rfl)
      have h1 : es.size ≤ 1 := by
        rcases T.marks.plain with h | h
        · omega
        · rw [h] at hc2
          simp at hc2
          exact hc2
      exact q _ _ s.drawn ⟨⟨_, _, _, .refl _, fun A hh => walk_small (t := t) hne hf h1 hh, ⟨0, Heap.get?_push_size _ rfl, T1, fun _ => rfl, fun z => by omega⟩, fpx⟩, fun b o e => Heap.get?_push_of_some _ e, Nat.le_refl _, ⟨_, Heap.get?_push_size _ rfl, rfl⟩⟩
theorem hint_set {a : Addr} {Q : Bool → Shared → Prop} (hT : s.TypeIs (.ref a) "set") (h : Q false s) : wpAny (model prog w) A (Builtin.List.listLengthHint (.ref a)) Q E s := by
  unfold Builtin.List.listLengthHint
  refine wpAny_bind (wpAny_specialOf hT PySem.F.slot_set_len.lookup ?_)
  generalize hid : ("set.__len__" : String) = id0
  wp_delta
  rw [show splitId id0 = some ("set", "__len__") from by subst hid; decide +kernel]
  subst hid
  refine wpAny_bind (wpAny_isInstance (T := "set") (b := true) hT (by rw [isSubtype_type]; kernel_rfl) ?_)
  refine wpAny_ite_split (fun hab => absurd hab (by decide)) (fun _ => wpAny_ite_split (fun _ => ?_) (fun hab => absurd (by decide +kernel) hab))
  exact wpAny_bind (wpAny_typeOf hT (wpAny_pure h))
theorem extend_set {R : Result → Shared → Prop} {a : Addr} {es : Array (Int × Value)} {ep : Nat} {t : SetTable} (T : SetAt prog w s.heap a es ep t) (hh : A.handled = none) (S : Addr) (hSa : S ≠ a) (res : Value) (c0 : Nat) (hS : s.heap.get? S = some { cls := .type "list", data := .seq #[] c0 })
    (hR : ∀ h' d tk (acc : Array Value) c', (∀ b o, b ≠ S → s.heap.get? b = some o → h'.get? b = some o) → h'.get? S = some { cls := .type "list", dict := none, data := .seq acc c', slots := #[] } → acc.toList.Perm (es.toList.map (·.2)) → R (.ok (.ret res)) { s with heap := h', drawn := d, toks := tk }) :
    wpAny (model prog w) A.in1 (Builtin.List.listExtendWith (.ref S) (.ref a) res) (fun fin s' => match fin with | .done f => R (.ok f) s' | .again c' => c'.quiet = true ∧ codeAny (model prog w) A c' R s') (fun e s' => R (.error e) s') s := by
  have hT : s.TypeIs (.ref a) "set" := ⟨_, T.at_, rfl⟩
  have hSl : S < s.heap.objs.size := Heap.lt_size hS
  unfold Builtin.List.listExtendWith
  refine wpAny_bind (wpAny_typeOf (T := "set") hT ?_)
  have h1 : Builtin.List.listSameRef (.ref S) (.ref a) = false := by simp [Builtin.List.listSameRef, hSa]
  have h2 : (Value.type "set" == Value.type "list") = false := by decide
  have h3 : (Value.type "set" == Value.type "tuple") = false := by decide
  simp only [h1, h2, h3, Bool.or_false, Bool.false_eq_true, if_false]
  refine wpAny_bind (iter_set T fun I h0 d L => ?_)
  obtain ⟨fp, vals, St, hv, W, st, hfp⟩ := L.ex
  have hSf : S ∉ fp := fun z => by
    rcases hfp S z with e | e
    · exact hSa e
    · exact Nat.lt_irrefl _ (Nat.lt_of_lt_of_le hSl e)
  have hSI : S ≠ I := fun z => Nat.lt_irrefl _ (Nat.lt_of_lt_of_le hSl (z ▸ L.new))
  have go : ∀ (h : Heap) (c1 tk : Nat), St 0 h → (∀ b o, b ≠ S → s.heap.get? b = some o → h.get? b = some o) → h.get? S = some { cls := .type "list", data := .seq #[] c1 } →
      codeAny (model prog w) A (.builtin "list.extend.loop" ⟨[.ref S, .ref I, res], []⟩) R { s with heap := h, drawn := d, toks := tk } := by
    intro h c1 tk hst hk hS1
    refine codeAny_extend_loopS (W A.in1 hh).toS (fits_of_scanBound T.small) S hSf res es.size 0 _ #[] c1 rfl (Nat.zero_le _) hst hS1 (ItemsOf.nil _) fun s' acc' c' hm hS' hacc => ?_
    rw [Moved.eq_with hm]
    refine hR s'.heap d s'.toks acc' c' (fun b o hb e => hm.heap b o (fun hmem => ?_) (hk b o hb e)) hS' ?_
    · rcases List.mem_cons.mp hmem with e' | hmem
      · exact hb e'
      · exact absurd (Heap.lt_size e) (by rw [List.mem_singleton.mp hmem]; exact Nat.not_lt.mpr L.new)
    · have e : acc'.toList = vals := by
        apply List.ext_getElem?
        intro j
        by_cases hj : j < acc'.size
        · have := hacc.2 j acc'[j] (by simp [hj])
          rw [this]
          simp [hj]
        · have hvl : vals.length = es.size := by rw [hv.length_eq]; simp
          have := hacc.1
          rw [List.getElem?_eq_none (by simp; omega), List.getElem?_eq_none (by omega)]
      rw [e]
      exact hv
  have hS0 := L.old _ _ hS
  refine wpAny_bind (wpAny_holding (hint_set (s := { s with heap := h0, drawn := d }) ⟨_, L.old _ _ T.at_, rfl⟩ ?_))
  refine wpAny_ite_split (fun _ => ?_) (fun _ => wpAny_pure ⟨plainId_quiet PySem.F.plain_extend_loop _, go _ c0 _ st (fun b o _ e => L.old b o e) hS0⟩)
  refine wpAny_bind (wpAny_rule (wpAny_bind ?_))
  show wpAny _ _ (updateSeq S (·.push .none) >>= fun _ => updateSeq S (·.pop)) _ _ _
  refine wpAny_bind (wpAny_updateSeq hS0 rfl ?_)
  have hS2 := Heap.get?_update_self (Obj.mapSeq (·.push Value.none)) hS0 rfl
  refine wpAny_updateSeq (hz := by seq_fits) hS2 rfl ?_
  have hS3 := Heap.get?_update_self (Obj.mapSeq (·.pop)) hS2 rfl
  refine wpAny_pure ⟨plainId_quiet PySem.F.plain_extend_loop _, go _ _ _ ?_ (fun b o hb e => ?_) hS3⟩
  · refine (W A.in1 hh).frame 0 _ _ st fun b hb o e => ?_
    have hbS : b ≠ S := fun h => hSf (h ▸ hb)
    exact (Heap.get?_update_other _ _ (Ne.symm hbS)).trans ((Heap.get?_update_other _ _ (Ne.symm hbS)).trans e)
  · exact (Heap.get?_update_other _ _ (Ne.symm hb)).trans ((Heap.get?_update_other _ _ (Ne.symm hb)).trans (L.old _ _ e))
end
end L2
set_option Elab.async false
set_option linter.all false
set_option maxRecDepth 100000
set_option maxHeartbeats 1600000
namespace L2
open PySem PySem.Spec PyProof.Rows
section
variable {prog : Program} {w : World} {A : Around} {E : Value → Shared → Prop} {s : Shared}
theorem collect_set {R : List Value → Shared → Prop} {a : Addr} {es : Array (Int × Value)} {ep : Nat} {t : SetTable} (T : SetAt prog w s.heap a es ep t) (hh : A.handled = none)
    (h : ∀ (h' : Heap) (d : Drawn) (tk : Nat) (vs : List Value), s.heap.objs.size < h'.objs.size → (∀ b o, s.heap.get? b = some o → h'.get? b = some o) → vs.Perm (es.toList.map (·.2)) → R vs { s with heap := h', drawn := d, toks := tk }) : wpAny (model prog w) A (collect (.ref a)) R E s := by
  have hlt : a < s.heap.objs.size := Heap.lt_size T.at_
  unfold collect
  refine wpAny_bind (wpAny_runValue (codeAny_builtin entry_proto_collect' ?_))
  rw [Around.under_plainId PySem.F.plain_proto_collect _]
  show wpAny _ A.in1 (newList [] >>= fun l => again (.builtin "list.__iadd__" ⟨[l, .ref a], []⟩)) _ _ s
  refine wpAny_bind (wpAny_newObj_type (wpAny_pure ⟨plainId_quiet PySem.F.plain_list_iadd _, codeAny_builtin entry_list_iadd' ?_⟩))
  rw [Around.under_plainId PySem.F.plain_list_iadd _]
  have hS1 : (s.heap.push { cls := .type "list", data := .seq ([] : List Value).toArray }).get? s.heap.objs.size = some { cls := .type "list", data := .seq #[] } := Heap.get?_push_size _ rfl
  show wpAny _ A.in1 (Builtin.List.listExtendWith (.ref s.heap.objs.size) (.ref a) (.ref s.heap.objs.size)) _ _ _
  have key := extend_set (A := A) (s := { s with heap := s.heap.push { cls := .type "list", data := .seq ([] : List Value).toArray } })
    (R := fun (q : Result) (s' : Shared) => ∃ (h' : Heap) (d : Drawn) (tk : Nat) (acc : Array Value) (c' : Nat), q = .ok (.ret (.ref s.heap.objs.size)) ∧ s' = { s with heap := h', drawn := d, toks := tk } ∧
      (∀ b o, s.heap.get? b = some o → h'.get? b = some o) ∧ h'.get? s.heap.objs.size = some { cls := .type "list", dict := none, data := .seq acc c', slots := #[] } ∧ acc.toList.Perm (es.toList.map (·.2)))
    (T.kept fun o e => Heap.get?_push_of_some _ e) hh s.heap.objs.size (Nat.ne_of_gt hlt) (.ref s.heap.objs.size) 0 hS1
    (fun h' d tk acc c' hk hS' hacc => ⟨h', d, tk, acc, c', rfl, rfl, fun b o e => hk b o (Nat.ne_of_lt (Heap.lt_size e)) (Heap.get?_push_of_some _ e), hS', hacc⟩)
  refine wpAny_mono key (fun fin s' x => ?_) fun e s' x => ?_
  · cases fin with
    | done f =>
      obtain ⟨h', d, tk, acc, c', e, rfl, hk, hS', hacc⟩ := x
      cases e
      show wpAny _ A (load s.heap.objs.size >>= _) _ _ _
      exact wpAny_bind (wpAny_load hS' (wpAny_pure (h h' d tk acc.toList (Heap.lt_size hS') hk hacc)))
    | again c1 =>
      refine ⟨x.1, codeAny_mono x.2 fun q s2 y => ?_⟩
      obtain ⟨h', d, tk, acc, c', rfl, rfl, hk, hS', hacc⟩ := y
      show wpAny _ A (load s.heap.objs.size >>= _) _ _ _
      exact wpAny_bind (wpAny_load hS' (wpAny_pure (h h' d tk acc.toList (Heap.lt_size hS') hk hacc)))
  · obtain ⟨_, _, _, _, _, e', _⟩ := x
    cases e'
theorem strs_perm : ∀ {vs : List Value}, (∀ v ∈ vs, ∃ x t, v = .str x t) → StrsAre vs (vs.map strOf)
  | [], _ => .nil
  | v :: r, h => by
    obtain ⟨x, t, rfl⟩ := h v (by simp)
    exact .cons x t (strs_perm fun u hu => h u (by simp [hu]))
theorem sorted_set {a : Addr} {es : Array (Int × Value)} {ep : Nat} {t : SetTable} {Q : Value → Shared → Prop} (T : SetAt prog w s.heap a es ep t) (hh : A.handled = none) (h64 : es.size < 64)
    (h : ∀ (p : Addr) (h' : Heap) (d : Drawn) (tk : Nat) (out : Array Value) (e : Nat) (ss : List Str), s.heap.objs.size ≤ p → (∀ b o, s.heap.get? b = some o → h'.get? b = some o) → h'.get? p = some (seqObj "list" out e) → StrsAre out.toList ss → ss.Perm (keysOf es) → sortedS ss = true → Q (.ref p) { s with heap := h', drawn := d, toks := tk }) :
    wpAny (model prog w) A (call (.builtin "sorted") [.ref a]) Q E s := by
  refine Calls.call_function_entry kind_sorted plain_sorted entry_sorted (args_sorted1 _) ?_
  unfold Builtin.«sorted»
  refine wpAny_bind (m := checkCount "sorted" 1 1 _) (wpAny_pure (wpAny_bind (collect_set (A := A.in1) T hh fun h' d tk vs hlt hk hp => ?_)))
  have hvl : vs.length = es.size := by rw [hp.length_eq]; simp
  have hvs : ∀ v ∈ vs, ∃ x t, v = .str x t := fun v hv => by
    obtain ⟨e, he, rfl⟩ := List.mem_map.mp (hp.mem_iff.mp hv)
    obtain ⟨⟨k, hk, _⟩, _⟩ := T.el e he
    obtain ⟨t, ht⟩ := Value.isStrOf_shape hk
    exact ⟨k, t, ht⟩
  have hS := strs_perm hvs
  refine wpAny_bind (wpAny_newList ?_ (by rw [hvl]; exact fits_of_scanBound T.small))
  have hoL : (h'.push (seqObj "list" vs.toArray 0)).get? h'.objs.size = some (seqObj "list" vs.toArray 0) := Heap.get?_push_size _ rfl
  refine wpAny_bind (wpAny_holding (wpAny_call_entry slot_list_sort ⟨_, hoL, rfl⟩ entry_list_sort (list_sort_treeK (s := { s with heap := h'.push (seqObj "list" vs.toArray 0), drawn := d, toks := tk }) strKind_oneLt hoL hS.keysOf (fun v1 v2 rest e => keyKind_strs (by rw [← e]; exact hS)) (by omega) fun st' a1 a2 => ⟨_, rfl, ?_⟩) (args_list_sort _)))
  obtain ⟨ss', b1, b2, b3⟩ := sorted_out_str hS a1 a2
  obtain ⟨en, hen⟩ := sortedHeap_at (out := (arrOf st').map (·.2)) hoL
  have hle : s.heap.objs.size ≤ h'.objs.size := Nat.le_of_lt hlt
  refine wpAny_pure ⟨_, rfl, h _ _ d tk _ en ss' hle (fun b o e => ?_) hen b1 (b2.trans ?_) b3⟩
  · have e1 := hk b o e
    have hb : b < h'.objs.size := Heap.lt_size e1
    rw [sortedHeap_old (Nat.ne_of_lt hb) (by rw [size_push']; exact Nat.lt_succ_of_lt hb)]
    exact Heap.get?_push_of_some _ e1
  · have := hp.map strOf
    rw [List.map_map] at this
    exact this
theorem Inv.draw {X : Cx} {pins : List (Addr × Obj)} {σ : St} {H : Hp} {s : Shared} (I : Inv X pins σ H s) (d : Drawn) : Inv X pins σ H { s with drawn := d } :=
  ⟨I.ok, I.os, I.bare, I.base, I.loc, I.cell, I.free, I.freeC, I.pin, I.hok, I.len⟩
end
section
variable {X : Cx} {pos : Pos} {e : Expr} {te : TD} {ts : TDa} {t : TA}
end
end L2
set_option Elab.async false
set_option linter.all false
set_option maxRecDepth 100000
set_option maxHeartbeats 1000000
namespace L2
open PySem PySem.Spec PyProof.Rows
section
variable {X : Cx} {pos : Pos} {e i' : Expr} {te ti : TD}
end
end L2
set_option Elab.async false
set_option linter.all false
set_option maxRecDepth 100000
set_option maxHeartbeats 1000000
namespace L2
open PySem PySem.Spec PyProof.Rows
section
variable {κ : Type} [DecidableEq κ]
def valV (kvs : List (κ × V)) (k : κ) : Option V := (kvs.find? fun kv => decide (kv.1 = k)).map (·.2)
def putK (kvs : List (κ × V)) (k : κ) (v : V) : List (κ × V) :=
  if (kvs.any fun kv => decide (kv.1 = k)) = true then kvs.map (fun kv => if kv.1 = k then (kv.1, v) else kv) else kvs ++ [(k, v)]
def dropK (kvs : List (κ × V)) (k : κ) : List (κ × V) := kvs.filter fun kv => decide (kv.1 ≠ k)
theorem valV_pos {p : κ × V} {r : List (κ × V)} {k : κ} (e : p.1 = k) : valV (p :: r) k = some p.2 := by simp [valV, List.find?_cons, e]
theorem valV_neg {p : κ × V} {r : List (κ × V)} {k : κ} (e : ¬ p.1 = k) : valV (p :: r) k = valV r k := by simp [valV, List.find?_cons, e]
theorem valV_any (k : κ) : ∀ kvs : List (κ × V), (kvs.any fun kv => decide (kv.1 = k)) = (valV kvs k).isSome
  | [] => rfl
  | p :: r => by
    rw [List.any_cons]
    by_cases e : p.1 = k
    · simp only [valV_pos e, decide_eq_true e, Bool.true_or, Option.isSome_some]
    · rw [valV_neg e, decide_eq_false e, Bool.false_or]; exact valV_any k r
theorem length_putK (kvs : List (κ × V)) (k : κ) (v : V) : (putK kvs k v).length ≤ kvs.length + 1 := by
  unfold putK
  split
  · rw [List.length_map]; omega
  · rw [List.length_append, List.length_cons, List.length_nil]; omega
theorem RelO.isSome_eq {o : Option V} {u : Option Value} (r : RelO o u) : o.isSome = u.isSome := by
  cases o with
  | none => cases u with
    | none => rfl
    | some _ => exact (show False from r).elim
  | some _ => cases u with
    | none => exact (show False from r).elim
    | some _ => rfl
theorem RelO.getD {o : Option V} {u : Option Value} {d : V} {d' : Value} (r : RelO o u) (rd : RelV d d') : RelV (o.getD d) (u.getD d') := by
  cases o with
  | none => cases u with
    | none => exact rd
    | some _ => exact (show False from r).elim
  | some _ => cases u with
    | none => exact (show False from r).elim
    | some _ => exact r
theorem KV.val {kvs : List (κ × V)} {vs : List (κ × Value)} (r : KV kvs vs) (k : κ) : RelO (valV kvs k) (valueAt vs k) := by
  unfold KV at r
  induction r with
  | nil => exact True.intro
  | @cons p q ps qs h t ih =>
    obtain ⟨h1, h2⟩ := h
    by_cases e : p.1 = k
    · have e' : q.1 = k := h1.symm.trans e
      have b : valueAt (q :: qs) k = some q.2 := by simp [valueAt, List.find?_cons, e']
      rw [valV_pos e, b]; exact h2
    · have e' : ¬ q.1 = k := fun z => e (h1.trans z)
      have b : valueAt (q :: qs) k = valueAt qs k := by simp [valueAt, List.find?_cons, e']
      rw [valV_neg e, b]; exact ih
theorem KV.any {kvs : List (κ × V)} {vs : List (κ × Value)} (r : KV kvs vs) (k : κ) : (kvs.any fun kv => decide (kv.1 = k)) = vs.any fun kv => decide (kv.1 = k) := by
  unfold KV at r
  induction r with
  | nil => rfl
  | cons h t ih => rw [List.any_cons, List.any_cons, ih, h.1]
theorem KV.repl {kvs : List (κ × V)} {vs : List (κ × Value)} (r : KV kvs vs) (k : κ) {y : V} {u : Value} (ry : RelV y u) :
    KV (kvs.map fun kv => if kv.1 = k then (kv.1, y) else kv) (vs.map fun kv => if kv.1 = k then (kv.1, u) else kv) := by
  unfold KV at r ⊢
  induction r with
  | nil => exact .nil
  | @cons p q ps qs h t ih =>
    rw [List.map_cons, List.map_cons]
    refine .cons ?_ ih
    obtain ⟨h1, h2⟩ := h
    by_cases e : p.1 = k
    · rw [if_pos e, if_pos (h1.symm.trans e)]; exact ⟨h1, ry⟩
    · rw [if_neg e, if_neg (fun z => e (h1.trans z))]; exact ⟨h1, h2⟩
theorem KV.put {kvs : List (κ × V)} {vs : List (κ × Value)} (r : KV kvs vs) (k : κ) {y : V} {u : Value} (ry : RelV y u) : KV (putK kvs k y) (stored vs k u) := by
  unfold putK stored
  rw [r.any k]
  by_cases e : (vs.any fun kv => decide (kv.1 = k)) = true
  · rw [if_pos e, if_pos e]; exact r.repl k ry
  · rw [if_neg e, if_neg e]; exact Paired.snoc r ⟨rfl, ry⟩
theorem KV.drop {kvs : List (κ × V)} {vs : List (κ × Value)} (r : KV kvs vs) (k : κ) : KV (dropK kvs k) (without vs k) := by
  unfold KV at r ⊢
  unfold dropK without
  induction r with
  | nil => exact .nil
  | @cons p q ps qs h t ih =>
    obtain ⟨h1, h2⟩ := h
    rw [List.filter_cons, List.filter_cons]
    by_cases e : p.1 = k
    · have a : ¬ decide (p.1 ≠ k) = true := by simp [e]
      have b : ¬ decide (q.1 ≠ k) = true := by simp [h1.symm.trans e]
      rw [if_neg a, if_neg b]; exact ih
    · have e' : ¬ q.1 = k := fun z => e (h1.trans z)
      have a : decide (p.1 ≠ k) = true := by simp [e]
      have b : decide (q.1 ≠ k) = true := by simp [e']
      rw [if_pos a, if_pos b]; exact .cons ⟨h1, h2⟩ ih
theorem KV.keys {kvs : List (κ × V)} {vs : List (κ × Value)} (r : KV kvs vs) : kvs.map (·.1) = vs.map (·.1) := by
  unfold KV at r
  induction r with
  | nil => rfl
  | cons h t ih => rw [List.map_cons, List.map_cons, ih, h.1]
theorem KV.length {kvs : List (κ × V)} {vs : List (κ × Value)} (r : KV kvs vs) : kvs.length = vs.length := Paired.length r
end
theorem kV_is {P : Program} {w : World} {k : Key} {u : Value} (r : RelV (kV k) u) : (mixKind P w).is k u = true := by
  cases k with
  | inl i => obtain ⟨t, e⟩ := (show ∃ t, u = Value.int i t from r); subst e; exact mixKind_int P w i t
  | inr x => obtain ⟨t, e⟩ := (show ∃ t, u = Value.str x t from r); subst e; exact mixKind_str P w x t
section
variable {κ : Type} [DecidableEq κ]
end
section
variable {P : Program} {w : World} {H : Hp} {h : Heap} {a : Addr}
theorem dk_at {kvs : List (Key × V)} {ep : Nat} (ok : HOk P w H h) (e : Rd H a (.dK kvs ep)) : kvs.length ≤ sizeLine ∧ (a == sysModules) = false ∧ ∃ vs, KV kvs vs ∧ h.DictAt (mixKind P w) a vs ep :=
  show ObjOk P w H h a (.dK kvs ep) from e.ok ok
theorem dk_rd {kvs : List (Key × V)} {ep : Nat} (ok : HOk P w H h) (e : Rd H a (.dK kvs ep)) : kvs.length ≤ sizeLine ∧ (a == sysModules) = false ∧ ∃ vs, KV kvs vs ∧ h.DictOf (mixKind P w) a vs :=
  let ⟨z1, z2, vs, z3, z4⟩ := dk_at ok e
  ⟨z1, z2, vs, z3, z4.dictOf⟩
theorem dk_of {kvs : List (Key × V)} {ep : Nat} (ok : HOk P w H h) (e : H a = some (.dK kvs ep)) : kvs.length ≤ sizeLine ∧ (a == sysModules) = false ∧ ∃ vs, KV kvs vs ∧ h.DictOf (mixKind P w) a vs := dk_rd ok (.inl e)
end
def DGet (H : Hp) (a : Addr) (y : V) (r : Option V) : Prop := ∃ kvs ep k, Rd H a (.dK kvs ep) ∧ y = kV k ∧ r = valV kvs k
theorem DGet.k {H : Hp} {a : Addr} {kvs : List (Key × V)} {ep : Nat} {k : Key} (e : H a = some (.dK kvs ep)) : DGet H a (kV k) (valV kvs k) := ⟨kvs, ep, k, .inl e, rfl, rfl⟩
section
variable {X : Cx} {pins : List (Addr × Obj)} {σ : St} {H : Hp} {s : Shared} {a : Addr} {y v : V} {u r : Value} {o : Option V} {A : Around} {E : Value → Shared → Prop}
theorem Inv.big (I : Inv X pins σ H s) : sysModules < s.heap.objs.size := by
  have h : mainGlobals < s.heap.objs.size := (I.mod.glob.keeps I.bk).lt
  exact Nat.lt_trans (by decide) h
theorem d_write {h' : Heap} {t' : Nat} {ob : HO} (I : Inv X pins σ H s) (mu : Mut (H a)) (hs : Heap.SameBut a s.heap h') (he : ∃ q, h'.get? a = some q) (new : ObjOk X.prog X.w (upd H a ob) h' a ob) :
    Inv X pins σ (upd H a ob) { s with heap := h', toks := t' } :=
  I.write (x := a) (e := a) mu (.inl rfl) (fun b q hb z => (hs.2 b hb).trans z) he new
theorem at_of {P : Program} {w : World} {h' : Heap} {vs : List (Key × Value)} (dd : h'.DictOf (mixKind P w) a vs) : ∃ ep, h'.DictAt (mixKind P w) a vs ep := let ⟨o, es, ep, r⟩ := dd; ⟨ep, o, es, r⟩
theorem dk_new {P : Program} {w : World} {H' : Hp} {h' : Heap} {kvs : List (Key × V)} {vs : List (Key × Value)} {ep : Nat} (z : kvs.length ≤ sizeLine) (hd : (a == sysModules) = false) (rel : KV kvs vs) (dd : h'.DictAt (mixKind P w) a vs ep) :
    ObjOk P w H' h' a (.dK kvs ep) := ⟨z, hd, vs, rel, dd⟩
theorem d_setItem {kvs : List (Key × V)} {ep : Nat} {k : Key} {Q : Unit → Shared → Prop} (I : Inv X pins σ H s) (e : H a = some (.dK kvs ep)) (l : kvs.length < sizeLine) (ry : RelV (kV k) u) (rv : RelV v r) (h : ∀ s' ep', Inv X pins σ (upd H a (.dK (putK kvs k v) ep')) s' → Q () s') :
    wpAny (model X.prog X.w) A (setItem (.ref a) u r) Q E s := by
  obtain ⟨z, hd, vs, rel, dd⟩ := dk_of I.hok e
  have hz : vs.length ≤ sizeLine := by rw [← rel.length]; exact z
  have hl : (putK kvs k v).length ≤ sizeLine := by have := length_putK kvs k v; omega
  refine wpAny_setItem_pairs (hsz := hz) (kV_is ry) dd fun h' dd' hs => ?_
  have he : ∃ q, h'.get? a = some q := let ⟨q, _, _, hq, _⟩ := dd'; ⟨q, hq⟩
  obtain ⟨ep', da⟩ := at_of dd'
  exact h _ ep' (d_write I (by rw [e]; exact True.intro) hs he (dk_new hl hd (rel.put k rv) da))
end
def sDPut (td ty tv : TE) : TS := fun D σ H => tv σ H fun v H1 => td σ H1 fun x H2 => ty σ H2 fun y H3 => ∃ a kvs ep k, x = .ref a ∧ H3 a = some (.dK kvs ep) ∧ y = kV k ∧ kvs.length < sizeLine ∧ ∀ ep', D.nx σ (upd H3 a (.dK (putK kvs k v) ep'))
section
variable {X : Cx} {o i e value : Expr} {pos pos' tpos : Pos} {td ty tv : TE}
theorem ps_dput (ho : PE X o td) (hi : PE X i ty) (hv : PE X value tv) (hs : swapsWith value (some (.Subscript o i pos')) pos.line X.env = pure false) :
    PS X (.Assign [.Subscript o i pos'] value pos) (sDPut td ty tv) := by
  intro pins s σ H D I h
  refine wpAny_Assign_Subscript (thn (hv pins s σ H _ I h) fun r s1 ⟨v, H1, I1, rv, q1⟩ => thn (ho pins s1 σ H1 _ I1 q1) fun u s2 ⟨x, H2, I2, rx, q2⟩ => thn (hi pins s2 σ H2 _ I2 q2) fun iv s3 ⟨y, H3, I3, ry, a, kvs, ep, k, ex, g, ey, l, q3⟩ => ?_) hs
  subst ex ey
  obtain rfl : u = Value.ref a := rx
  exact d_setItem I3 g l ry rv fun s4 ep' I4 => ⟨σ, _, I4, q3 ep'⟩
theorem dk_empty {P : Program} {w : World} {H : Hp} (h : Heap) (hb : sysModules < h.objs.size) : ObjOk P w H (h.push { cls := .type "dict", data := .dict #[] }) h.objs.size (.dK [] 0) :=
  ⟨Nat.zero_le _, beq_eq_false_iff_ne.mpr (Ne.symm (Nat.ne_of_lt hb)), [], .nil, _, #[], Heap.get?_push_size _ rfl, ⟨rfl, rfl, rfl⟩, rfl, fun _ he => by simp at he, Pairs.nil, List.nodup_nil⟩
def tDNewK : TE := fun _ H Q => ∀ p, H p = none → Q (.ref p) (upd H p (.dK [] 0))
theorem pe_dnewK : PE X (.Dict [] [] pos) tDNewK := fun pins s σ H Q I h =>
  wpAny_Dict_empty ⟨.ref s.heap.objs.size, _, I.laid (a := s.heap.objs.size) (o := .dK [] 0) (t' := s.toks) (fun _ _ q => Heap.get?_push_of_some _ q) (Nat.le_refl _) (dk_empty s.heap I.big), rfl, h _ (I.hok.fresh (Nat.le_refl _))⟩
end
section
variable {X : Cx} {o e f : Expr} {apos cpos : Pos} {td ty tx : TE}
end
end L2
set_option Elab.async false
set_option linter.all false
set_option maxRecDepth 100000
set_option maxHeartbeats 4000000
namespace PySem
open Sem (wp)
theorem list_no_keys : typeLookup (.type "list") "keys" = pure none := by rw [typeLookup_type, builtinLookup_eq_fast]; kernel_rfl
set_option maxRecDepth 8000 in
theorem getAttr?_miss_list {prog : Program} {w : World} {A : Around} {E : Value → Shared → Prop} {s : Shared} {a : Addr} {o : Obj} {xs : Array Value} {k : Nat} {name : Str} {Q : Option Value → Shared → Prop}
    (hx : s.heap.get? a = some o) (hc : o.cls = .type "list") (hdat : o.data = .seq xs k) (hd : o.dict = none) (hmiss : typeLookup (.type "list") name = pure none) (hname : (["__module__", "__name__", "__qualname__", "__doc__", "__annotations__"] : List Str).contains name = false) (hA : A.handled = none)
    (h : ∀ h' tk e, Heap.NewExcOf s.heap h' e "AttributeError" → Q none { s with heap := h', toks := tk }) (hsz : name.length + 100 ≤ sizeLine := by size_fits) :
    wpAny (model prog w) A (getAttr? (.ref a) name) Q E s := by
  obtain ⟨c, dct, dat, sl⟩ := o
  simp only at hc hdat hd
  subst hc hdat hd
  obtain ⟨hp, g, d, tk, os⟩ := s
  have hT : ∀ tk', (⟨hp, g, d, tk', os⟩ : Shared).TypeIs (.ref a) "list" := fun _ => ⟨_, hx, rfl⟩
  have f1 := sub_AttributeError
  have f3 := F.slot_list_getattribute.lookup
  have f4 := F.slot_list_getattribute.bind (.ref a)
  have f5 := am_list_getattr_none
  unfold getAttr? getAttrBy? getAttrBy
  repeat (any_goals (first | assumption | exact hT _ | ((with_reducible show wpAny _ _ (call (Value.builtin "list.__getattribute__") _ _) _ _ _); refine call_meets F.slot_list_getattribute (hT _) am_entry_list_getattribute (F.args_list_getattribute_2 _ _) (meets_getattribute_miss_list a xs k sl name _ hmiss hname hsz) ⟨hx, hA, fun h' tk' e hx' => ?_⟩) | wp_step))
  obtain ⟨t', u', he⟩ := hx'.there
  show wpAny _ _ (getattributeRaised _ _ _ _ _ _ _) _ _ _
  unfold getattributeRaised
  repeat (any_goals (first | assumption | wp_step))
  exact h _ _ _ hx'.of
end PySem
set_option Elab.async false
set_option linter.all false
set_option maxRecDepth 100000
set_option maxHeartbeats 4000000
namespace PySem
open Sem (wp)
theorem entry_dup_loop : entryFor table "dict.update.loop" = some Builtin.«dict.update.loop» := entryFor_of_tree (by kernel_rfl)
theorem plain_dup_loop : plainId "dict.update.loop" = true := by decide +kernel
section
variable {prog : Program} {w : World} {K : Type} [DecidableEq K] {knd : KeyKind prog w K} {A : Around} {R : Result → Shared → Prop} {I : Addr} {fp wr : List Addr} {G : Array GenState → Array GenState → Prop} {n : Nat} {P : Nat → Value → Prop} {St : Nat → Shared → Prop}
end
section
variable {prog : Program} {w : World} {K : Type} [DecidableEq K] {knd : KeyKind prog w K} {A : Around} {E : Value → Shared → Prop} {s : Shared}
end
end PySem
set_option Elab.async false
set_option linter.all false
set_option maxRecDepth 100000
set_option maxHeartbeats 4000000
namespace PySem
open Sem (wp)
section
variable {prog : Program} {w : World} {K : Type} [DecidableEq K] {knd : KeyKind prog w K} {A : Around} {E : Value → Shared → Prop} {s : Shared}
end
end PySem
set_option Elab.async false
set_option linter.all false
set_option maxRecDepth 100000
set_option maxHeartbeats 1000000
namespace L2
open PySem PySem.Spec PyProof.Rows
def keyD : D → Option Key
  | .int i => some (.inl i)
  | .str x => some (.inr x)
  | _ => none
theorem keyD_rep {K : PySem.W.Frag} {G : Hp} {v : V} {d : D} {k : Key} (r : Rep K G v d) (h : keyD d = some k) : v = kV k := by
  cases d <;> simp only [keyD, Option.some.injEq, reduceCtorEq] at h <;> subst h <;> simp only [Rep] at r <;> subst r <;> rfl
def look (kvs : List (Key × D)) (k : Key) : Option D := (kvs.find? fun kv => decide (kv.1 = k)).map (·.2)
def putM (kvs : List (Key × D)) (k : Key) (d : D) : List (Key × D) :=
  if (kvs.any fun kv => decide (kv.1 = k)) = true then kvs.map (fun kv => if kv.1 = k then (kv.1, d) else kv) else kvs ++ [(k, d)]
section
variable {K : PySem.W.Frag} {G : Hp}
theorem RepK.length : ∀ {ks : List (Key × V)} {kvs : List (Key × D)}, RepK K G ks kvs → ks.length = kvs.length
  | [], [], _ => rfl
  | a :: ks, b :: kvs, h => by
    simp only [RepK] at h
    simp only [List.length_cons, RepK.length h.2]
  | [], _ :: _, h => by simp only [RepK] at h
  | _ :: _, [], h => by simp only [RepK] at h
theorem RepK.nil : RepK K G [] [] := by simp only [RepK]
theorem RepK.any (k : Key) : ∀ {ks : List (Key × V)} {kvs : List (Key × D)}, RepK K G ks kvs → (ks.any fun kv => decide (kv.1 = k)) = kvs.any fun kv => decide (kv.1 = k)
  | [], [], _ => rfl
  | a :: ks, b :: kvs, h => by
    simp only [RepK] at h
    rw [List.any_cons, List.any_cons, h.1.1, RepK.any k h.2]
  | [], _ :: _, h => by simp only [RepK] at h
  | _ :: _, [], h => by simp only [RepK] at h
theorem RepK.snoc {k : Key} {v : V} {d : D} (r : Rep K G v d) : ∀ {ks : List (Key × V)} {kvs : List (Key × D)}, RepK K G ks kvs → RepK K G (ks ++ [(k, v)]) (kvs ++ [(k, d)])
  | [], [], _ => by simp only [List.nil_append, RepK]; exact ⟨⟨trivial, r⟩, trivial⟩
  | a :: ks, b :: kvs, h => by
    simp only [RepK] at h
    simp only [List.cons_append, RepK]
    exact ⟨h.1, RepK.snoc r h.2⟩
  | [], _ :: _, h => by simp only [RepK] at h
  | _ :: _, [], h => by simp only [RepK] at h
theorem RepK.repl {k : Key} {v : V} {d : D} (r : Rep K G v d) : ∀ {ks : List (Key × V)} {kvs : List (Key × D)}, RepK K G ks kvs → RepK K G (ks.map fun kv => if kv.1 = k then (kv.1, v) else kv) (kvs.map fun kv => if kv.1 = k then (kv.1, d) else kv)
  | [], [], _ => by simp only [List.map_nil, RepK]
  | a :: ks, b :: kvs, h => by
    simp only [RepK] at h
    simp only [List.map_cons, RepK]
    refine ⟨?_, RepK.repl r h.2⟩
    rw [h.1.1]
    split
    · exact ⟨rfl, r⟩
    · exact ⟨h.1.1, h.1.2⟩
  | [], _ :: _, h => by simp only [RepK] at h
  | _ :: _, [], h => by simp only [RepK] at h
theorem RepK.put {ks : List (Key × V)} {kvs : List (Key × D)} {k : Key} {v : V} {d : D} (h : RepK K G ks kvs) (r : Rep K G v d) : RepK K G (putK ks k v) (putM kvs k d) := by
  unfold putK putM
  rw [h.any k]
  split
  · exact h.repl r
  · exact h.snoc r
theorem RepK.look {k : Key} {d : D} : ∀ {ks : List (Key × V)} {kvs : List (Key × D)}, RepK K G ks kvs → look kvs k = some d → ∃ v, valV ks k = some v ∧ Rep K G v d
  | [], [], _, e => by simp [L2.look] at e
  | a :: ks, b :: kvs, h, e => by
    simp only [RepK] at h
    unfold L2.look at e
    unfold valV
    rw [List.find?_cons] at e ⊢
    rw [h.1.1]
    by_cases hk : b.1 = k
    · simp only [hk, decide_true, Option.map_some, Option.some.injEq] at e ⊢
      subst e
      exact ⟨_, rfl, h.1.2⟩
    · simp only [hk, decide_false] at e ⊢
      exact RepK.look h.2 e
  | [], _ :: _, h, _ => by simp only [RepK] at h
  | _ :: _, [], h, _ => by simp only [RepK] at h
theorem RepK.isSome (k : Key) : ∀ {ks : List (Key × V)} {kvs : List (Key × D)}, RepK K G ks kvs → (valV ks k).isSome = (L2.look kvs k).isSome
  | [], [], _ => rfl
  | a :: ks, b :: kvs, h => by
    simp only [RepK] at h
    unfold L2.look valV
    rw [List.find?_cons, List.find?_cons, h.1.1]
    by_cases hk : b.1 = k
    · simp only [hk, decide_true, Option.map_some, Option.isSome_some]
    · simp only [hk, decide_false]
      exact RepK.isSome k h.2
  | [], _ :: _, h => by simp only [RepK] at h
  | _ :: _, [], h => by simp only [RepK] at h
end
section
variable {X : Cx} {pos : Pos} {e i' : Expr} {te ti tv : TD}
def dNewD : TD := fun _ Q => Q (.ov (.dc []))
theorem pd_dnew : PD X (.Dict [] [] pos) dNewD := by
  refine ⟨_, pe_dnewK, fun ρ σ G0 H0 G H Q P E h k => fun d hd => ?_⟩
  refine k _ _ (.ov (.dc [])) G (.own E.e.s hd) ⟨d, [], rfl, by simp, ⟨rfl, [], 0, upd_same, RepK.nil⟩, fun q hq => ?_⟩ h
  simp only [List.mem_singleton] at hq
  subst hq
  exact ⟨hd, E.e.s.free hd⟩
def xPut (i : Nat) (ti tv : TD) : TX := fun D ρ => match gt ρ i with
  | .ov (.dc kvs) => tv ρ fun r => ti ρ fun rk => ∃ k, keyD rk.val = some k ∧ kvs.length < sizeLine ∧ D.nx (ρ.set i (.ov (.dc (putM kvs k r.val))))
  | _ => False
theorem px_put (hu : X.A.units + 64 < cLine) (i : Nat) {x : Str} {p1 p2 : Pos} (hi : PD X i' ti) (he : PD X e tv) (hN : X.N[i]? = some x := by rfl) (hv : Vis X.env.scope x := by first | exact Or.inl rfl | exact Or.inr (Or.inl rfl) | exact Or.inr (Or.inr rfl)) (hd : (x == ("__debug__" : Str)) = false := by decide) (hcd : (x == ("__classdict__" : Str)) = false := by decide)
    (hs : swapsWith e (some (.Subscript (.Name x p1) i' p2)) pos.line X.env = pure false := by rfl) :
    PX X (.Assign [.Subscript (.Name x p1) i' p2] e pos) (xPut i ti tv) := by
  obtain ⟨t, p, q⟩ := he
  obtain ⟨t2, p2', q2⟩ := hi
  refine ⟨_, ps_dput (pe_var hN hv hd hcd) p2' p hs, fun ρ σ G0 H0 G H D E k h g => ?_⟩
  unfold xPut at h
  split at h
  · rename_i kvs hg
    obtain ⟨own, o1, o2⟩ := k.on
    obtain ⟨a, fp, b1, b2, ⟨rfl, ks, ep, ha, rks⟩, b4⟩ := o2 i _ hg
    refine q ρ σ G0 H0 G H _ _ k h fun v H' r G' x1 rr hq => ?_
    obtain ⟨G2, x2, rv, _⟩ := rr.freeze x1
    refine ⟨_, b1, q2 ρ σ G0 H0 G2 H' _ _ (k.ext x2) hq fun u H3 rk G3 x3 rr3 hq3 => ?_⟩
    obtain ⟨G4, x4, rv4, _⟩ := rr3.freeze x3
    obtain ⟨key, hk, hlen, hq3⟩ := hq3
    have x24 := x2.trans x4
    refine ⟨a, ks, ep, key, rfl, x24.h _ _ ha, keyD_rep rv4 hk, by rw [rks.length]; exact hlen, fun ep' => ?_⟩
    refine g.nx _ _ G4 _ x24.g ((k.ext x24).changeO hg b1 fun fp nd ow => ?_) hq3
    obtain ⟨rfl, ks', ep2, ha', rks'⟩ := ow
    have e1 : ks' = ks := by
      have := (x24.h _ _ ha).symm.trans ha'
      injection this with this
      injection this with this
      exact this.symm
    subst e1
    refine ⟨[], by simp, ⟨rfl, _, ep', upd_same, rks'.put (rv.mono x4.g)⟩, fun q hq => .inl hq, fun b hb _ => upd_ne fun z => hb (by simp [z])⟩
  · exact h.elim
end
end L2
set_option Elab.async false
set_option linter.all false
set_option maxRecDepth 100000
set_option maxHeartbeats 1000000
namespace L2
open PySem PySem.Spec PyProof.Rows
section
variable {K : PySem.W.Frag} {G H : Hp}
theorem RepL.length : ∀ {qs : List Addr} {dss : List (List D)}, RepL K G H qs dss → qs.length = dss.length
  | [], [], _ => rfl
  | q :: qs, ds :: dss, h => by
    simp only [RepL] at h
    simp only [List.length_cons, RepL.length h.2]
  | [], _ :: _, h => by simp only [RepL] at h
  | _ :: _, [], h => by simp only [RepL] at h
theorem RepL.snoc {p : Addr} {ds : List D} {zs : List V} : ∀ {qs : List Addr} {dss : List (List D)}, RepL K G H qs dss → H p = some (.lst zs) → Reps K G zs ds → RepL K G H (qs ++ [p]) (dss ++ [ds])
  | [], [], _, h1, h2 => by simp only [List.nil_append, RepL]; exact ⟨⟨zs, h1, h2⟩, trivial⟩
  | q :: qs, es :: dss, h, h1, h2 => by
    simp only [RepL] at h
    simp only [List.cons_append, RepL]
    exact ⟨h.1, RepL.snoc h.2 h1 h2⟩
  | [], _ :: _, h, _, _ => by simp only [RepL] at h
  | _ :: _, [], h, _, _ => by simp only [RepL] at h
theorem RepL.get : ∀ {qs : List Addr} {dss : List (List D)} {j : Nat} {ds : List D}, RepL K G H qs dss → dss[j]? = some ds → ∃ q xs, qs[j]? = some q ∧ H q = some (.lst xs) ∧ Reps K G xs ds
  | [], [], j, ds, _, e => by simp at e
  | q :: qs, es :: dss, 0, ds, h, e => by
    simp only [RepL] at h
    simp only [List.getElem?_cons_zero, Option.some.injEq] at e
    subst e
    obtain ⟨⟨xs, h1, h2⟩, _⟩ := h
    exact ⟨q, xs, rfl, h1, h2⟩
  | q :: qs, es :: dss, j + 1, ds, h, e => by
    simp only [RepL] at h
    simp only [List.getElem?_cons_succ] at e ⊢
    exact RepL.get h.2 e
  | [], _ :: _, _, _, h, _ => by simp only [RepL] at h
  | _ :: _, [], _, _, h, _ => by simp only [RepL] at h
theorem RepL.set {q : Addr} {ys : List V} {es : List D} (hy : Reps K G ys es) : ∀ {qs : List Addr} {dss : List (List D)} {j : Nat}, RepL K G H qs dss → qs.Nodup → qs[j]? = some q → RepL K G (upd H q (.lst ys)) qs (dss.set j es)
  | [], [], j, _, _, e => by simp at e
  | r :: qs, ds :: dss, 0, h, nd, e => by
    simp only [RepL] at h
    simp only [List.getElem?_cons_zero, Option.some.injEq] at e
    subst e
    simp only [List.set_cons_zero, RepL]
    refine ⟨⟨ys, upd_same, hy⟩, h.2.mono (Same.refl _) fun p hp xs e => ?_⟩
    rw [upd_ne (fun z : p = r => (List.nodup_cons.mp nd).1 (z ▸ hp))]
    exact e
  | r :: qs, ds :: dss, j + 1, h, nd, e => by
    simp only [RepL] at h
    simp only [List.getElem?_cons_succ] at e
    simp only [List.set_cons_succ, RepL]
    refine ⟨?_, RepL.set hy h.2 (List.nodup_cons.mp nd).2 e⟩
    obtain ⟨⟨xs, h1, h2⟩, _⟩ := h
    refine ⟨xs, ?_, h2⟩
    rw [upd_ne (fun z : r = q => (List.nodup_cons.mp nd).1 (z ▸ List.mem_of_getElem? e))]
    exact h1
  | [], _ :: _, _, h, _, _ => by simp only [RepL] at h
  | _ :: _, [], _, h, _, _ => by simp only [RepL] at h
end
section
variable {X : Cx} {elt iter tg : Expr} {ifs : List Expr} {scope : Scope} {pos : Pos} {N' : List Str} {m : List (Option Nat)} {wi : TId} {g : TGd} {tc : TDb} {te : TD}
end
section
variable {X : Cx} {pos : Pos} {e i' : Expr} {te ti : TD}
end
end L2
set_option Elab.async false
set_option linter.all false
set_option maxRecDepth 100000
set_option maxHeartbeats 1000000
namespace L2
open PySem PySem.Spec PyProof.Rows
section
variable {X : Cx} {pos : Pos} {e i' : Expr} {te ti : TD}
end
section
variable {X : Cx} {elt iter tg : Expr} {ifs : List Expr} {scope : Scope} {pos : Pos} {N' : List Str} {m : List (Option Nat)} {wi : TId} {g : TGd} {tc : TDb} {te : TD}
end
section
variable {X : Cx} {pos : Pos} {e i' : Expr} {te ti : TD}
end
end L2
set_option Elab.async false
set_option linter.all false
set_option maxRecDepth 100000
set_option maxHeartbeats 1000000
namespace L2
open PySem PySem.Spec PyProof.Rows
section
variable {X : Cx} {pos : Pos} {e i' : Expr} {te ti : TD}
def pairsOf : List D → Option (List (Key × D))
  | [] => some []
  | .tup [k, v] :: r => match keyD k with
    | some key => (pairsOf r).map ((key, v) :: ·)
    | none => none
  | _ => none
def PairsV (K : PySem.W.Frag) (H : Hp) : List V → List (Key × V) → Prop
  | [], [] => True
  | y :: ys, p :: ps => (∃ b, y = .ref b ∧ SqT K H b [kV p.1, p.2]) ∧ PairsV K H ys ps
  | _, _ => False
theorem PairsV.at {K : PySem.W.Frag} {H : Hp} : ∀ {ys : List V} {ps : List (Key × V)} {i : Nat} {y : V}, PairsV K H ys ps → ys[i]? = some y → ∃ k v b, ps[i]? = some (k, v) ∧ y = .ref b ∧ SqT K H b [kV k, v]
  | [], [], i, y, _, e => by simp at e
  | y :: ys, p :: ps, 0, z, h, e => by
    simp only [PairsV] at h
    simp only [List.getElem?_cons_zero, Option.some.injEq] at e
    subst e
    obtain ⟨⟨b, h1, h2⟩, _⟩ := h
    exact ⟨p.1, p.2, b, rfl, h1, h2⟩
  | y :: ys, p :: ps, i + 1, z, h, e => by
    simp only [PairsV] at h
    simp only [List.getElem?_cons_succ] at e ⊢
    exact PairsV.at h.2 e
  | [], _ :: _, _, _, h, _ => by simp only [PairsV] at h
  | _ :: _, [], _, _, h, _ => by simp only [PairsV] at h
theorem PairsV.length {K : PySem.W.Frag} {H : Hp} : ∀ {ys : List V} {ps : List (Key × V)}, PairsV K H ys ps → ys.length = ps.length
  | [], [], _ => rfl
  | y :: ys, p :: ps, h => by
    simp only [PairsV] at h
    simp only [List.length_cons, PairsV.length h.2]
  | [], _ :: _, h => by simp only [PairsV] at h
  | _ :: _, [], h => by simp only [PairsV] at h
theorem PairsV.vals {pins : List (Addr × Obj)} {σ : St} {H : Hp} {s : Shared} (I : Inv X pins σ H s) : ∀ {ys : List V} {ps : List (Key × V)} {us : List Value}, PairsV X.K H ys ps → Vals ys us →
    ∃ vs : List (Key × Value), KV ps vs ∧ ∀ (i : Nat) (u : Value), us[i]? = some u → ∃ k y key a, vs[i]? = some (k, y) ∧ u = .ref a ∧ (mixKind X.prog X.w).is k key = true ∧ s.heap.IsTuple a #[key, y]
  | [], [], us, _, r => by
    cases r
    exact ⟨[], by unfold KV; exact .nil, fun i u e => by simp at e⟩
  | y :: ys, p :: ps, us, h, r => by
    simp only [PairsV] at h
    obtain ⟨⟨b, rfl, hb⟩, h2⟩ := h
    cases r with
    | cons r0 rr =>
      rename_i u0 us
      cases (show u0 = Value.ref b from r0)
      obtain ⟨vs, k1, k2⟩ := PairsV.vals I h2 rr
      obtain ⟨its, rv, ht, _⟩ := I.tuple hb
      obtain ⟨w1, w2, rfl, q1, q2⟩ := vals2 rv
      refine ⟨(p.1, w2) :: vs, ?_, fun i u e => ?_⟩
      · unfold KV at k1 ⊢
        exact .cons ⟨rfl, q2⟩ k1
      · cases i with
        | zero =>
          simp only [List.getElem?_cons_zero, Option.some.injEq] at e
          subst e
          exact ⟨p.1, w2, w1, b, rfl, rfl, kV_is q1, by simpa using (show s.heap.IsTuple b [w1, w2].toArray from ht)⟩
        | succ i =>
          simp only [List.getElem?_cons_succ] at e ⊢
          exact k2 i u e
  | [], _ :: _, _, h, _ => by simp only [PairsV] at h
  | _ :: _, [], _, h, _ => by simp only [PairsV] at h
theorem pairs_rep {K : PySem.W.Frag} {G H : Hp} (s : Same G H) : ∀ {es : List D} {ys : List V} {kvs : List (Key × D)}, pairsOf es = some kvs → Reps K G ys es → ∃ ks, PairsV K H ys ks ∧ RepK K G ks kvs
  | [], ys, kvs, h, r => by
    simp only [pairsOf, Option.some.injEq] at h
    subst h
    cases ys with
    | nil => exact ⟨[], by simp only [PairsV], RepK.nil⟩
    | cons => simp only [Reps] at r
  | e :: es, ys, kvs, h, r => by
    cases ys with
    | nil => simp only [Reps] at r
    | cons y ys =>
      simp only [Reps] at r
      unfold pairsOf at h
      split at h
      · rename_i hh; cases hh
      · rename_i k v r' heq
        cases heq
        cases hk : keyD k with
        | none => rw [hk] at h; cases h
        | some key =>
          rw [hk] at h
          simp only [Option.map_eq_some_iff] at h
          obtain ⟨kvs', h1, rfl⟩ := h
          obtain ⟨ks, p1, p2⟩ := pairs_rep s h1 r.2
          have r1 := r.1
          simp only [Rep] at r1
          obtain ⟨b, xs, rfl, hb, rx⟩ := r1
          match xs, rx with
          | [a1, a2], rx =>
            simp only [Reps] at rx
            refine ⟨(key, a2) :: ks, ?_, ?_⟩
            · simp only [PairsV]
              refine ⟨⟨b, rfl, ?_⟩, p1⟩
              rw [← keyD_rep rx.1 hk]
              exact s.seqT hb
            · simp only [RepK]
              exact ⟨⟨trivial, rx.2.1⟩, p2⟩
          | [], rx => simp only [Reps] at rx
          | [_], rx => simp only [Reps] at rx; exact rx.2.elim
          | _ :: _ :: _ :: _, rx => simp only [Reps] at rx; exact rx.2.2.elim
      · cases h
theorem RepK.keys {K : PySem.W.Frag} {G : Hp} : ∀ {ks : List (Key × V)} {kvs : List (Key × D)}, RepK K G ks kvs → ks.map (·.1) = kvs.map (·.1)
  | [], [], _ => rfl
  | a :: ks, b :: kvs, h => by
    simp only [RepK] at h
    simp only [List.map_cons, h.1.1, RepK.keys h.2]
  | [], _ :: _, h => by simp only [RepK] at h
  | _ :: _, [], h => by simp only [RepK] at h
theorem Reps.eraseIdx {K : PySem.W.Frag} {H : Hp} : ∀ {vs : List V} {ds : List D} (n : Nat), Reps K H vs ds → Reps K H (vs.eraseIdx n) (ds.eraseIdx n)
  | [], [], _, _ => Reps.nil
  | v :: vs, d :: ds, 0, h => by
    simp only [Reps] at h
    exact h.2
  | v :: vs, d :: ds, n + 1, h => by
    simp only [Reps] at h
    exact Reps.cons h.1 (Reps.eraseIdx n h.2)
  | [], _ :: _, _, h => by simp only [Reps] at h
  | _ :: _, [], _, h => by simp only [Reps] at h
end
end L2
set_option Elab.async false
set_option linter.all false
set_option maxRecDepth 100000
set_option maxHeartbeats 1000000
namespace L2
open PySem PySem.Spec PyProof.Rows
section
variable {X : Cx} {tg : Expr}
end
end L2
set_option Elab.async false
set_option linter.all false
set_option maxRecDepth 100000
set_option maxHeartbeats 1000000
namespace HT
open PySem PyProof.Rows
section
open PySem.SeqAt
open PySem.AutoSeq1 (wpAny_loadPart')
open PySem.MeetsSeq PySem.MeetsSeq2 PySem.MeetsSeq3
end
section
variable {prog : Program} {w : World} {A : Around} {E : Value → Shared → Prop} {s : Shared}
end
end HT
set_option Elab.async false
set_option linter.all false
set_option maxRecDepth 100000
set_option maxHeartbeats 1000000
namespace L2
open PySem PySem.Spec PyProof.Rows
section
variable {prog : Program} {w : World} {A : Around} {Rz : Result → Shared → Prop} {I : Addr} {fp wr : List Addr} {n : Nat} {P : Nat → Value → Prop} {St : Nat → Heap → Prop} {Hk : Heap → Prop}
end
section
variable {prog : Program} {w : World} {A : Around} {E : Value → Shared → Prop} {s : Shared}
end
end L2
set_option Elab.async false
set_option linter.all false
set_option maxRecDepth 100000
set_option maxHeartbeats 1000000
namespace HT
end HT
namespace L2
open PySem PySem.Spec PyProof.Rows
section
variable {X : Cx} {pos p kp : Pos} {e e2 : Expr} {te te2 : TD}
end
end L2
set_option Elab.async false
set_option linter.all false
set_option maxRecDepth 100000
set_option maxHeartbeats 1000000
namespace L2
open PySem PySem.Spec PyProof.Rows
section
variable {X : Cx} {pos : Pos} {e : Expr} {te : TD}
end
end L2
set_option Elab.async false
set_option linter.all false
set_option maxRecDepth 100000
set_option maxHeartbeats 1000000
namespace L2
open PySem PySem.Spec PyProof.Rows
section
variable {X : Cx} {pos : Pos} {e : Expr} {te : TD}
theorem kit_ty2 {K : PySem.W.Frag} {t S T : String} (ht : t ∈ ["NoneType", "bool", "int", "str", "tuple", "list"]) (hS : S ∈ ["bool", "int", "str", "tuple", "list"]) (hT : T ∈ ["bool", "int", "str", "tuple", "list"]) : PySem.W.kitAny K (.type t) [.type S, .type T] = some (isTy t S || isTy t T) := by
  simp only [PySem.W.kitAny, kit_ty ht hS, kit_ty ht hT]
  cases isTy t S <;> cases isTy t T <;> rfl
theorem call_isi2 {S T : String} (hS : S ∈ ["bool", "int", "str", "tuple", "list"]) (hT : T ∈ ["bool", "int", "str", "tuple", "list"]) : CallR X (.builtin "isinstance") (fun xs H Q => ∃ x d p, xs = [x, .ref p] ∧ SqT X.K H p [.ty S, .ty T] ∧ Rep X.K H x d ∧ noObj d = true ∧ Q (.bl (isTy (tyD d) S || isTy (tyD d) T)) H) := by
  intro pins s σ H xs us Q I r h
  obtain ⟨x, d, p, rfl, hp, rd, ho, q⟩ := h
  obtain ⟨u, c, rfl, ru, rc⟩ := vals2 r
  cases (show c = Value.ref p from rc)
  obtain ⟨cs, rv, ht, _⟩ := I.tuple hp
  obtain ⟨c1, c2, rfl, r1, r2⟩ := vals2 rv
  cases (show c1 = Value.type S from r1)
  cases (show c2 = Value.type T from r2)
  obtain ⟨⟨cls, dd, data, sl⟩, g1, g2, n, g3⟩ := ht
  simp only at g2 g3
  subst g2 g3
  have fin : ∀ tk, EP X pins σ Q (.bool (isTy (tyD d) S || isTy (tyD d) T)) { s with toks := tk } := fun tk => ⟨.bl _, H, I.tok tk, rfl, q⟩
  cases d with
  | non => simp only [Rep] at rd; subst rd; cases (show u = Value.none from ru); exact PySem.W.kia_tup PySem.W.kitx_none I.kIn True.intro g1 (kit_ty2 (by simp) hS hT) (fun z => nomatch z) fin
  | bl y => simp only [Rep] at rd; subst rd; cases (show u = Value.bool y from ru); exact PySem.W.kia_tup PySem.W.kitx_bool I.kIn True.intro g1 (kit_ty2 (by simp) hS hT) (fun z => nomatch z) fin
  | int i => simp only [Rep] at rd; subst rd; obtain ⟨t, q'⟩ := (show ∃ t, u = Value.int i t from ru); cases q'; exact PySem.W.kia_tup PySem.W.kitx_int I.kIn True.intro g1 (kit_ty2 (by simp) hS hT) (fun z => nomatch z) fin
  | str y => simp only [Rep] at rd; subst rd; obtain ⟨t, q'⟩ := (show ∃ t, u = Value.str y t from ru); cases q'; exact PySem.W.kia_tup PySem.W.kitx_str I.kIn True.intro g1 (kit_ty2 (by simp) hS hT) (fun z => nomatch z) fin
  | tup ds =>
    simp only [Rep] at rd
    obtain ⟨a, xs, rfl, hq, _⟩ := rd
    cases (show u = Value.ref a from ru)
    obtain ⟨its, _, ht, _⟩ := I.tuple hq
    obtain ⟨o, h1, h2, _⟩ := ht
    exact PySem.W.kia_tup PySem.W.kitx_tuple I.kIn ⟨o, h1, h2⟩ g1 (kit_ty2 (by simp) hS hT) (fun z => nomatch z) fin
  | lst ds =>
    simp only [Rep] at rd
    obtain ⟨a, xs, rfl, hq, _⟩ := rd
    cases (show u = Value.ref a from ru)
    obtain ⟨its, _, ht, _⟩ := I.list hq.sq
    obtain ⟨o, n, h1, h2, _⟩ := ht
    exact PySem.W.kia_tup PySem.W.kitx_list I.kIn ⟨o, h1, h2⟩ g1 (kit_ty2 (by simp) hS hT) (fun z => nomatch z) fin
  | obj => cases ho
  | dic => cases ho
  | dit => cases ho
def dIsi2 (S T : String) (te : TD) : TD := fun ρ Q => te ρ fun r => noObj r.val = true ∧ Q (.fz (.bl (isTy (tyD r.val) S || isTy (tyD r.val) T)))
theorem pd_isi2 {S T : String} {SN TN : Str} {p p1 p2 p3 : Pos} {x1 : Nat} (he : PD X e te) (hm : X.mg "isinstance" = none) (hm1 : X.mg SN = none) (hm2 : X.mg TN = none) (hv1 : bootBuiltins SN = some (.type S)) (hv2 : bootBuiltins TN = some (.type T)) (hS : S ∈ ["bool", "int", "str", "tuple", "list"] := by decide) (hT : T ∈ ["bool", "int", "str", "tuple", "list"] := by decide)
    (hg : Gl X "isinstance" := by rfl) (hg1 : Gl X SN := by rfl) (hg2 : Gl X TN := by rfl) (hn1 : SN ≠ "__name__" := by decide) (hn2 : TN ≠ "__name__" := by decide) (hd1 : (SN == ("__debug__" : Str)) = false := by decide) (hd2 : (TN == ("__debug__" : Str)) = false := by decide)
    (hst : starEach [e, Expr.Tuple [.Name SN p1, .Name TN p2] x1 p3] X.env = (false, eval e X.env) :: starEach [Expr.Tuple [.Name SN p1, .Name TN p2] x1 p3] X.env := by rfl) (hst2 : starEach [Expr.Tuple [.Name SN p1, .Name TN p2] x1 p3] X.env = (false, eval (Expr.Tuple [.Name SN p1, .Name TN p2] x1 p3) X.env) :: starEach [] X.env := by rfl)
    (hst3 : starEach [Expr.Name SN p1, .Name TN p2] X.env = (false, eval (.Name SN p1) X.env) :: starEach [Expr.Name TN p2] X.env := by rfl) (hst4 : starEach [Expr.Name TN p2] X.env = (false, eval (.Name TN p2) X.env) :: starEach [] X.env := by rfl)
    (hpl : (backTo pos (starEach [Expr.Tuple [.Name SN p1, .Name TN p2] x1 p3] X.env)).any (·.1) = false := by rfl) : PD X (.Call (.Name "isinstance" p) [e, .Tuple [.Name SN p1, .Name TN p2] x1 p3] [] pos) (dIsi2 S T te) := by
  obtain ⟨t, pp, q⟩ := he
  refine ⟨_, pe_callB (call_isi2 hS hT) hg hm boot_isinstance (pa_cons pp (pa_cons (pe_tup (pa_cons (pe_bltn (v := .ty S) hg1 hm1 hv1 rfl hn1 hd1) (pa_cons (pe_bltn (v := .ty T) hg2 hm2 hv2 rfl hn2 hd2) pa_nil hst4) hst3)) pa_nil hst2) hst) (by decide) (by decide) hst hpl, fun ρ σ G0 H0 G H Q P E h k => q ρ σ G0 H0 G H _ _ E h fun v H' r G' x rr hq => ?_⟩
  obtain ⟨G2, x2, rv, _⟩ := rr.freeze x
  refine ⟨by show 2 ≤ sizeLine; decide, fun p hp => ?_⟩
  have x3 := x2.trans (Ext.own (o := .tup [.ty S, .ty T]) x2.s hp)
  exact ⟨v, r.val, p, rfl, SqT.of upd_same, rv.mono x3.s, hq.1, k _ _ _ G2 x3 (fzR (rep_bl _ _ _)) hq.2⟩
end
end L2
set_option Elab.async false
set_option linter.all false
set_option maxRecDepth 100000
set_option maxHeartbeats 1000000
namespace Ts
open PySem PyProof.Rows
variable {M : Model} {A : Around} {E : Value → Shared → Prop} {s : Shared}
end Ts
set_option Elab.async false
set_option linter.all false
set_option maxRecDepth 100000
set_option maxHeartbeats 1000000
namespace Ts
open PySem PyProof.Rows
variable {α : Type} (rk : α → Int)
structure MI (a b out : List α) (ia ib : Nat) : Prop where
  la : ia ≤ a.length
  lb : ib ≤ b.length
  pm : out.Perm (a.take ia ++ b.take ib)
  so : out.Pairwise fun x y => rk x ≤ rk y
  ga : ∀ x ∈ out, ∀ y ∈ a.drop ia, rk x ≤ rk y
  gb : ∀ x ∈ out, ∀ y ∈ b.drop ib, rk x ≤ rk y
variable {rk}
theorem MI.len {a b out : List α} {ia ib : Nat} (h : MI rk a b out ia ib) : out.length = ia + ib := by
  have := h.pm.length_eq
  rw [List.length_append, List.length_take, List.length_take] at this
  have := h.la
  have := h.lb
  omega
theorem MI.swap {a b out : List α} {ia ib : Nat} (h : MI rk a b out ia ib) : MI rk b a out ib ia := ⟨h.lb, h.la, h.pm.trans List.perm_append_comm, h.so, h.gb, h.ga⟩
end Ts
set_option Elab.async false
set_option linter.all false
set_option maxRecDepth 100000
set_option maxHeartbeats 1000000
namespace Ts
open PySem PyProof.Rows
variable {M : Model} {A : Around} {E : Value → Shared → Prop} {s : Shared}
section
variable {rk : Keyed → Int} {a b out : Array Keyed} {ia ib : Nat}
end
abbrev dk : Keyed := (Value.none, Value.none)
end Ts
set_option Elab.async false
set_option linter.all false
set_option maxRecDepth 100000
set_option maxHeartbeats 1000000
namespace Ts
open PySem PyProof.Rows
section
variable {α : Type} (rk : α → Int)
structure MH (a b out : List α) (na nb : Nat) : Prop where
  la : na ≤ a.length
  lb : nb ≤ b.length
  pm : out.reverse.Perm (a.drop na ++ b.drop nb)
  so : out.reverse.Pairwise fun x y => rk x ≤ rk y
  ga : ∀ y ∈ a.take na, ∀ x ∈ out, rk y ≤ rk x
  gb : ∀ y ∈ b.take nb, ∀ x ∈ out, rk y ≤ rk x
variable {rk}
theorem MH.len {a b out : List α} {na nb : Nat} (h : MH rk a b out na nb) : out.length + na + nb = a.length + b.length := by
  have := h.pm.length_eq
  rw [List.length_append, List.length_drop, List.length_drop, List.length_reverse] at this
  have := h.la
  have := h.lb
  omega
theorem MH.swap {a b out : List α} {na nb : Nat} (h : MH rk a b out na nb) : MH rk b a out nb na := ⟨h.lb, h.la, h.pm.trans List.perm_append_comm, h.so, h.gb, h.ga⟩
end
section
variable {rk : Keyed → Int} {a b out : Array Keyed} {na nb : Nat}
end
end Ts
set_option Elab.async false
set_option linter.all false
set_option maxRecDepth 100000
set_option maxHeartbeats 1000000
namespace Ts
open PySem PyProof.Rows
variable {M : Model} {A : Around} {E : Value → Shared → Prop} {s : Shared}
end Ts
set_option Elab.async false
set_option linter.all false
set_option maxRecDepth 100000
set_option maxHeartbeats 1000000
namespace Ts
open PySem PyProof.Rows
variable {M : Model} {A : Around} {E : Value → Shared → Prop} {s : Shared}
end Ts
set_option Elab.async false
set_option linter.all false
set_option maxRecDepth 100000
set_option maxHeartbeats 1000000
namespace Ts
open PySem PyProof.Rows
def kr (rk : Keyed → Int) (xs : Array Keyed) (i : Nat) : Int := rk (xs.getD i dk)
def SrtI (rk : Keyed → Int) (xs : Array Keyed) (lo n : Nat) : Prop := ∀ i j, i ≤ j → j < n → kr rk xs (lo + i) ≤ kr rk xs (lo + j)
structure Sl (xs ys : Array Keyed) (lo n : Nat) : Prop where
  pm : ys.Perm xs
  out : ∀ j, j < lo ∨ lo + n ≤ j → ys[j]? = xs[j]?
theorem Sl.size {xs ys : Array Keyed} {lo n : Nat} (h : Sl xs ys lo n) : ys.size = xs.size := h.pm.size_eq
theorem Sl.refl (xs : Array Keyed) (lo n : Nat) : Sl xs xs lo n := ⟨Array.Perm.refl _, fun _ _ => rfl⟩
theorem Sl.trans {xs ys zs : Array Keyed} {lo n : Nat} (h : Sl xs ys lo n) (h' : Sl ys zs lo n) : Sl xs zs lo n := ⟨h'.pm.trans h.pm, fun j hj => (h'.out j hj).trans (h.out j hj)⟩
theorem kr_congr {rk : Keyed → Int} {xs ys : Array Keyed} {i j : Nat} (h : ys[i]? = xs[j]?) : kr rk ys i = kr rk xs j := by
  unfold kr
  rw [Array.getD_eq_getD_getElem?, Array.getD_eq_getD_getElem?, h]
variable {M : Model} {A : Around} {E : Value → Shared → Prop} {s : Shared}
theorem Sl.ok {xs ys : Array Keyed} {lo n : Nat} (h : Sl xs ys lo n) {ok : Keyed → Prop} (oa : ∀ x ∈ xs, ok x) : ∀ x ∈ ys, ok x := fun x hx => oa x (h.pm.mem_iff.mp hx)
end Ts
set_option Elab.async false
set_option linter.all false
set_option maxRecDepth 100000
set_option maxHeartbeats 1000000
namespace Ts
open PySem PyProof.Rows
theorem kr_mirror {rk : Keyed → Int} {xs : Array Keyed} {i j : Nat} (hj : j ≤ xs.size) (k : Nat) : kr rk (mirror xs i j ((j - i) / 2)) k = if i ≤ k ∧ k < j then kr rk xs (i + j - 1 - k) else kr rk xs k := by
  have e := getElem?_mirror_all (i := i) hj k
  by_cases h1 : i ≤ k ∧ k < j
  · rw [if_pos h1] at e ⊢; exact kr_congr e
  · rw [if_neg h1] at e ⊢; exact kr_congr e
def Dec (rk : Keyed → Int) (xs : Array Keyed) (lo n : Nat) : Prop := ∀ i j, i ≤ j → j < n → kr rk xs (lo + j) ≤ kr rk xs (lo + i)
theorem SrtI.more {rk : Keyed → Int} {xs : Array Keyed} {lo n : Nat} (h : SrtI rk xs lo n) (hn : 1 ≤ n) (hl : kr rk xs (lo + n - 1) ≤ kr rk xs (lo + n)) : SrtI rk xs lo (n + 1) := fun i j hij hj => by
  by_cases e : j = n
  · subst e
    by_cases e2 : i = j
    · subst e2; exact Int.le_refl _
    · have := h i (j - 1) (by omega) (by omega)
      rw [show lo + (j - 1) = lo + j - 1 by omega] at this
      omega
  · exact h i j hij (by omega)
theorem Dec.more {rk : Keyed → Int} {xs : Array Keyed} {lo n : Nat} (h : Dec rk xs lo n) (hn : 1 ≤ n) (hl : kr rk xs (lo + n) ≤ kr rk xs (lo + n - 1)) : Dec rk xs lo (n + 1) := fun i j hij hj => by
  by_cases e : j = n
  · subst e
    by_cases e2 : i = j
    · subst e2; exact Int.le_refl _
    · have := h i (j - 1) (by omega) (by omega)
      rw [show lo + (j - 1) = lo + j - 1 by omega] at this
      omega
  · exact h i j hij (by omega)
theorem Dec.turn {rk : Keyed → Int} {xs : Array Keyed} {lo n : Nat} (h : Dec rk xs lo n) (hn : lo + n ≤ xs.size) : SrtI rk (mirror xs lo (lo + n) ((lo + n - lo) / 2)) lo n := fun i j hij hj => by
  rw [kr_mirror hn, kr_mirror hn, if_pos (by omega), if_pos (by omega)]
  have := h (n - 1 - j) (n - 1 - i) (by omega) (by omega)
  rw [show lo + (lo + n) - 1 - (lo + i) = lo + (n - 1 - i) by omega, show lo + (lo + n) - 1 - (lo + j) = lo + (n - 1 - j) by omega]
  exact this
variable {M : Model} {A : Around} {E : Value → Shared → Prop} {s : Shared}
end Ts
set_option Elab.async false
set_option linter.all false
set_option maxRecDepth 100000
set_option maxHeartbeats 1000000
namespace Ts
open PySem PyProof.Rows
variable {M : Model} {A : Around} {E : Value → Shared → Prop} {s : Shared}
end Ts
set_option Elab.async false
set_option linter.all false
set_option maxRecDepth 100000
set_option maxHeartbeats 1000000
namespace Ts
open PySem PyProof.Rows
variable {M : Model} {A : Around} {E : Value → Shared → Prop} {s : Shared}
theorem Sl.wide {xs ys : Array Keyed} {lo n m : Nat} (h : Sl xs ys lo n) (hn : n ≤ m) : Sl xs ys lo m := ⟨h.pm, fun j hj => h.out j (by omega)⟩
end Ts
set_option Elab.async false
set_option linter.all false
set_option maxRecDepth 100000
set_option maxHeartbeats 1000000
namespace Ts
open PySem PyProof.Rows
section
variable {prog : Program} {w : World} {A : Around} {E : Value → Shared → Prop} {s : Shared}
end
end Ts
set_option Elab.async false
set_option linter.all false
set_option maxRecDepth 100000
set_option maxHeartbeats 1000000
namespace HT
end HT
namespace Ts
open PySem PySem.W PyProof.Rows
section
variable {prog : Program} {w : World} {A : Around} {E : Value → Shared → Prop} {s : Shared} {fin : Bool} {Q : Bool → Shared → Prop}
end
end Ts
set_option Elab.async false
set_option linter.all false
set_option maxRecDepth 100000
set_option maxHeartbeats 1000000
namespace Ts
open PySem PyProof.Rows
end Ts
set_option Elab.async false
set_option linter.all false
set_option maxRecDepth 100000
set_option maxHeartbeats 1000000
namespace L2
open PySem PySem.Spec PyProof.Rows
section
variable {X : Cx} {pos : Pos} {e : Expr} {te : TD}
end
end L2
set_option Elab.async false
set_option linter.all false
set_option maxRecDepth 100000
set_option maxHeartbeats 1000000
namespace L2
open PySem PySem.Spec PyProof.Rows
section
variable {K : PySem.W.Frag} {G H : Hp}
theorem RepE.length : ∀ {qs : List Addr} {dss : List (List (Key × D))}, RepE K G H qs dss → qs.length = dss.length
  | [], [], _ => rfl
  | q :: qs, ds :: dss, h => by
    simp only [RepE] at h
    simp only [List.length_cons, RepE.length h.2]
  | [], _ :: _, h => by simp only [RepE] at h
  | _ :: _, [], h => by simp only [RepE] at h
theorem RepE.snoc {p : Addr} {ds : List (Key × D)} {zs : List (Key × V)} {ep : Nat} : ∀ {qs : List Addr} {dss : List (List (Key × D))}, RepE K G H qs dss → H p = some (.dK zs ep) → RepK K G zs ds → RepE K G H (qs ++ [p]) (dss ++ [ds])
  | [], [], _, h1, h2 => by simp only [List.nil_append, RepE]; exact ⟨⟨zs, ep, h1, h2⟩, trivial⟩
  | q :: qs, es :: dss, h, h1, h2 => by
    simp only [RepE] at h
    simp only [List.cons_append, RepE]
    exact ⟨h.1, RepE.snoc h.2 h1 h2⟩
  | [], _ :: _, h, _, _ => by simp only [RepE] at h
  | _ :: _, [], h, _, _ => by simp only [RepE] at h
theorem RepE.get : ∀ {qs : List Addr} {dss : List (List (Key × D))} {j : Nat} {ds : List (Key × D)}, RepE K G H qs dss → dss[j]? = some ds → ∃ q ks ep, qs[j]? = some q ∧ H q = some (.dK ks ep) ∧ RepK K G ks ds
  | [], [], j, ds, _, e => by simp at e
  | q :: qs, es :: dss, 0, ds, h, e => by
    simp only [RepE] at h
    simp only [List.getElem?_cons_zero, Option.some.injEq] at e
    subst e
    obtain ⟨⟨ks, ep, h1, h2⟩, _⟩ := h
    exact ⟨q, ks, ep, rfl, h1, h2⟩
  | q :: qs, es :: dss, j + 1, ds, h, e => by
    simp only [RepE] at h
    simp only [List.getElem?_cons_succ] at e ⊢
    exact RepE.get h.2 e
  | [], _ :: _, _, _, h, _ => by simp only [RepE] at h
  | _ :: _, [], _, _, h, _ => by simp only [RepE] at h
theorem RepE.set {q : Addr} {ys : List (Key × V)} {ep : Nat} {es : List (Key × D)} (hy : RepK K G ys es) : ∀ {qs : List Addr} {dss : List (List (Key × D))} {j : Nat}, RepE K G H qs dss → qs.Nodup → qs[j]? = some q → RepE K G (upd H q (.dK ys ep)) qs (dss.set j es)
  | [], [], j, _, _, e => by simp at e
  | r :: qs, ds :: dss, 0, h, nd, e => by
    simp only [RepE] at h
    simp only [List.getElem?_cons_zero, Option.some.injEq] at e
    subst e
    simp only [List.set_cons_zero, RepE]
    refine ⟨⟨ys, ep, upd_same, hy⟩, h.2.mono (Same.refl _) fun p hp u e => ?_⟩
    rw [upd_ne (fun z : p = r => (List.nodup_cons.mp nd).1 (z ▸ hp))]
    exact e
  | r :: qs, ds :: dss, j + 1, h, nd, e => by
    simp only [RepE] at h
    simp only [List.getElem?_cons_succ] at e
    simp only [List.set_cons_succ, RepE]
    refine ⟨?_, RepE.set hy h.2 (List.nodup_cons.mp nd).2 e⟩
    obtain ⟨⟨ks, ep, h1, h2⟩, _⟩ := h
    refine ⟨ks, ep, ?_, h2⟩
    rw [upd_ne (fun z : r = q => (List.nodup_cons.mp nd).1 (z ▸ List.mem_of_getElem? e))]
    exact h1
  | [], _ :: _, _, h, _, _ => by simp only [RepE] at h
  | _ :: _, [], _, h, _, _ => by simp only [RepE] at h
end
section
variable {X : Cx} {elt iter tg : Expr} {ifs : List Expr} {scope : Scope} {pos : Pos} {N' : List Str} {m : List (Option Nat)} {wi : TId} {g : TGd} {tc : TDb} {te : TD}
end
section
variable {X : Cx} {pos : Pos} {e i' i2 : Expr} {te ti tk : TD}
end
end L2
set_option Elab.async false
set_option linter.all false
set_option maxRecDepth 100000
set_option maxHeartbeats 1000000
namespace L2
open PySem PySem.Spec PyProof.Rows
theorem pxs_false {X : Cx} {sts : List Stmt} : PXs X sts (fun _ _ => False) := ⟨fun _ _ _ => False, fun _ _ _ _ _ _ h => h.elim, fun _ _ _ _ _ _ _ _ _ h _ => h.elim⟩
end L2
set_option Elab.async false
set_option linter.all false
set_option maxRecDepth 100000
set_option maxHeartbeats 1000000
namespace L2
open PySem PySem.Spec PyProof.Rows
abbrev KT (H : Hp) : List (List Key × V) → List (List Key × Addr × Value) → Prop := Paired fun p q => p.1 = q.1 ∧ H q.2.1 = some (.tup (p.1.map kV)) ∧ RelV p.2 q.2.2
theorem KT.val {H : Hp} {kvs : List (List Key × V)} {xs : List (List Key × Addr × Value)} (r : KT H kvs xs) (k : List Key) : RelO (valV kvs k) ((atKey xs k).map (·.2)) := by
  induction r with
  | nil => exact True.intro
  | @cons p q ps qs h t ih =>
    obtain ⟨h1, _, h2⟩ := h
    by_cases e : p.1 = k
    · have e' : q.1 = k := h1.symm.trans e
      have b : atKey (q :: qs) k = some q.2 := by simp [atKey, List.find?_cons, e']
      rw [valV_pos e, b]; exact h2
    · have e' : ¬ q.1 = k := fun z => e (h1.trans z)
      have b : atKey (q :: qs) k = atKey qs k := by simp [atKey, List.find?_cons, e']
      rw [valV_neg e, b]; exact ih
theorem KT.repl {H : Hp} {kvs : List (List Key × V)} {xs : List (List Key × Addr × Value)} (r : KT H kvs xs) (k : List Key) {y : V} {u : Value} (ry : RelV y u) :
    KT H (kvs.map fun kv => if kv.1 = k then (kv.1, y) else kv) (xs.map (putAt k u)) := by
  induction r with
  | nil => exact .nil
  | @cons p q ps qs h t ih =>
    rw [List.map_cons, List.map_cons]
    refine .cons ?_ ih
    obtain ⟨h1, h2, h3⟩ := h
    unfold putAt
    by_cases e : p.1 = k
    · rw [if_pos e, if_pos (h1.symm.trans e)]; exact ⟨h1, h2, ry⟩
    · rw [if_neg e, if_neg (fun z => e (h1.trans z))]; exact ⟨h1, h2, h3⟩
theorem KT.put {H : Hp} {kvs : List (List Key × V)} {xs : List (List Key × Addr × Value)} (r : KT H kvs xs) (k : List Key) {b : Addr} {y : V} {u : Value} (hb : H b = some (.tup (k.map kV))) (ry : RelV y u) :
    KT H (putK kvs k y) (storedH xs k b u) := by
  have e : (kvs.any fun kv => decide (kv.1 = k)) = (atKey xs k).isSome := by
    rw [valV_any, (r.val k).isSome_eq, Option.isSome_map]
  unfold putK storedH
  rw [e]
  by_cases q : (atKey xs k).isSome = true
  · rw [if_pos q, if_pos q]; exact r.repl k ry
  · rw [if_neg q, if_neg q]; exact Paired.snoc r ⟨rfl, hb, ry⟩
theorem KT.keeps {H H' : Hp} {kvs : List (List Key × V)} {xs : List (List Key × Addr × Value)} (r : KT H kvs xs) (ht : ∀ b ys, H b = some (.tup ys) → H' b = some (.tup ys)) : KT H' kvs xs :=
  Paired.mapP r fun _ _ z => ⟨z.1, ht _ _ z.2.1, z.2.2⟩
section
variable {P : Program} {w : World} {H : Hp} {h : Heap} {a : Addr}
end
end L2
set_option Elab.async false
set_option linter.all false
set_option maxRecDepth 100000
set_option maxHeartbeats 4000000
namespace PySem
open Sem (wp)
section
variable {prog : Program} {w : World} {K : Type} [DecidableEq K] {knd : HeapKind prog w K} {A : Around} {E : Value → Shared → Prop} {s : Shared}
end
end PySem
set_option Elab.async false
set_option linter.all false
set_option maxRecDepth 100000
set_option maxHeartbeats 4000000
namespace PySem
open Sem (wp)
def RawAt (h : Heap) (d : Addr) (es : Array DictEntry) (ep : Nat) : Prop := ∃ o, h.get? d = some o ∧ o.ExactDict ∧ o.data = .dict es ep
theorem RawAt.kept {h h' : Heap} {d : Addr} {es : Array DictEntry} {ep : Nat} (x : RawAt h d es ep) (k : ∀ o, h.get? d = some o → h'.get? d = some o) : RawAt h' d es ep := let ⟨o, ho, r⟩ := x; ⟨o, k o ho, r⟩
section
variable {prog : Program} {w : World} {A : Around} {E : Value → Shared → Prop} {s : Shared} {d it : Addr} {es : Array DictEntry} {ep i : Nat}
theorem RawAt.ty (x : RawAt s.heap d es ep) : s.TypeIs (.ref d) "dict" := let ⟨o, ho, hc, _⟩ := x; ⟨o, ho, hc.1⟩
end
end PySem
set_option Elab.async false
set_option linter.all false
set_option maxRecDepth 100000
set_option maxHeartbeats 1000000
namespace L2
open PySem PySem.Spec PyProof.Rows
section
variable {P : Program} {w : World} {H : Hp} {h : Heap} {a : Addr}
end
section
variable {X : Cx} {pos : Pos} {e i' : Expr} {te ti : TD}
theorem KeyIn.snoc {H : Hp} {k : List Key} {v : V} {b : Addr} (hb : H b = some (.tup (k.map kV))) : ∀ {ps : List (List Key × V)} {bs : List Addr}, KeyIn H ps bs → KeyIn H (ps ++ [(k, v)]) (bs ++ [b])
  | [], [], _ => ⟨hb, trivial⟩
  | p :: ps, c :: bs, h => ⟨h.1, KeyIn.snoc hb h.2⟩
  | [], _ :: _, h => h.elim
  | _ :: _, [], h => h.elim
end
end L2
set_option Elab.async false
set_option linter.all false
set_option maxRecDepth 100000
set_option maxHeartbeats 1600000
namespace L2
open PySem PySem.Spec PyProof.Rows
section
variable {prog : Program} {w : World} {A : Around} {E : Value → Shared → Prop} {s : Shared}
end
section
variable {X : Cx} {pos : Pos} {e i' : Expr} {te ti : TD}
theorem RepT.keys {K : PySem.W.Frag} {G : Hp} : ∀ {ks : List (List Key × V)} {kvs : List (List Key × D)}, RepT K G ks kvs → ks.map (·.1) = kvs.map (·.1)
  | [], [], _ => rfl
  | a :: ks, b :: kvs, h => by
    simp only [RepT] at h
    rw [List.map_cons, List.map_cons, h.1.1, RepT.keys h.2]
  | [], _ :: _, h => by simp only [RepT] at h
  | _ :: _, [], h => by simp only [RepT] at h
theorem KeyIn.at {H : Hp} : ∀ {ps : List (List Key × V)} {bs : List Addr} {i : Nat} {b : Addr} {k : List Key}, KeyIn H ps bs → bs[i]? = some b → (ps.map (·.1))[i]? = some k → H b = some (.tup (k.map kV))
  | p :: ps, c :: bs, 0, b, k, h, e1, e2 => by
    simp only [List.getElem?_cons_zero, Option.some.injEq, List.map_cons] at e1 e2
    subst e1 e2
    exact h.1
  | p :: ps, c :: bs, i + 1, b, k, h, e1, e2 => by
    simp only [List.getElem?_cons_succ, List.map_cons] at e1 e2
    exact KeyIn.at h.2 e1 e2
  | [], [], _, _, _, _, e1, _ => by simp at e1
  | [], _ :: _, _, _, _, h, _, _ => h.elim
  | _ :: _, [], _, _, _, h, _, _ => h.elim
def lookT (kvs : List (List Key × D)) (k : List Key) : Option D := (kvs.find? fun kv => decide (kv.1 = k)).map (·.2)
theorem RepT.look {K : PySem.W.Frag} {G : Hp} {k : List Key} {d : D} : ∀ {ks : List (List Key × V)} {kvs : List (List Key × D)}, RepT K G ks kvs → lookT kvs k = some d → ∃ v, valV ks k = some v ∧ Rep K G v d
  | [], [], _, e => by simp [lookT] at e
  | a :: ks, b :: kvs, h, e => by
    simp only [RepT] at h
    unfold lookT at e
    unfold valV
    rw [List.find?_cons] at e ⊢
    rw [h.1.1]
    by_cases hk : b.1 = k
    · simp only [hk, decide_true, Option.map_some, Option.some.injEq] at e ⊢
      subst e
      exact ⟨_, rfl, h.1.2⟩
    · simp only [hk, decide_false] at e ⊢
      exact RepT.look h.2 e
  | [], _ :: _, h, _ => by simp only [RepT] at h
  | _ :: _, [], h, _ => by simp only [RepT] at h
end
end L2
set_option Elab.async false
set_option linter.all false
set_option maxRecDepth 100000
set_option maxHeartbeats 1000000
namespace L2
open PySem PySem.Spec PyProof.Rows
section
variable {K : PySem.W.Frag} {G0 H0 G H G' H' G2 H2 : Hp} {ρ : Ev} {σ : St} {v : V}
end
section
variable {X : Cx} {pos : Pos} {scope : Scope} {N' : List Str} {m : List (Option Nat)}
end
end L2
set_option Elab.async false
set_option linter.all false
set_option maxRecDepth 100000
set_option maxHeartbeats 1000000
namespace PySem
open Sem (wp)
def StopAt (h : Heap) (e : Addr) : Prop := ∃ o, h.get? e = some o ∧ o.cls = .type "StopIteration"
def Grown (h h' : Heap) : Prop := ∀ c o, h.get? c = some o → h'.get? c = some o
section
variable {prog : Program} {w : World} {A : Around} {E : Value → Shared → Prop} {s : Shared}
theorem wpAny_stop {α : Type} {M : Model} {Q : α → Shared → Prop} (hh : A.handled = none) (hE : ∀ h' e, Grown s.heap h' → StopAt h' e → E (.ref e) { s with heap := h' }) : wpAny M A (Builtin.SmallTypes.stopIteration : Sem α) Q E s := by
  refine wpAny_bind (wpAny_bind (wpAny_newObj_type ?_ (by size_fits)))
  refine wpAny_bind (wpAny_of_eq (a := Value.none) (by simp only [firstArgMember]; rfl) (wpAny_newObj_type ?_ (by size_fits)))
  exact wpAny_raiseNew_none hh (hE _ _ (fun c o e => Heap.get?_push_of_some _ (Heap.get?_push_of_some _ e)) ⟨_, Heap.get?_push_size _ rfl, rfl⟩)
theorem tup_next {it t : Addr} {i : Nat} {items : Array Value} {Q : Value → Shared → Prop} (hh : items[i]? = none → A.handled = none) (hit : s.heap.IsTupleIter it t i) (ht : s.heap.IsTuple t items)
    (hQ : ∀ x h', items[i]? = some x → h'.IsTupleIter it t (i + 1) → Heap.ExtBut it s.heap h' → h'.objs.size = s.heap.objs.size → Q x { s with heap := h' })
    (hE : ∀ h' e, items[i]? = none → Heap.ExtBut it s.heap h' → StopAt h' e → E (.ref e) { s with heap := h' }) :
    wpAny (model prog w) A (Builtin.SmallTypes.nextOf (.ref it)) Q E s := by
  obtain ⟨o, ho, hc, hd⟩ := id hit
  obtain ⟨ol, hol, _, nl, hdl⟩ := ht
  refine wpAny_bind (wpAny_callSpecial?_slot (name := Str.ofString "__next__") hit.typeIs F.slot_tuple_iterator_next
    (wpAny_call_entry F.slot_tuple_iterator_next hit.typeIs F.entry_tuple_iterator_next ?_ (F.args_tuple_iterator_next_1 _)))
  refine wpAny_bind (wpAny_of_eq rfl (wpAny_bind (wpAny_field ho hd rfl ?_)))
  refine wpAny_bind (wpAny_field ho hd rfl (wpAny_bind (wpAny_seqItems hol hdl ?_)))
  simp only [Int.toNat_natCast]
  cases hx : items[i]? with
  | some x =>
    refine wpAny_bind (wpAny_setField ho hd (by exact Nat.le_refl _) (wpAny_pure ⟨x, rfl, wpAny_pure (hQ x _ hx ⟨_, Heap.get?_update_self _ ho (Obj.isFreed_of_fields (Obj.data_mapFields hd _)), (Obj.cls_mapFields ..).trans hc, ?_⟩ (Heap.SameBut.update ..).extBut (Heap.SameBut.update ..).1)⟩))
    rw [Obj.data_mapFields hd]
    rfl
  | none =>
    refine wpAny_bind (wpAny_rule (wpAny_bind (wpAny_setField ho hd (by exact Nat.le_succ _) ?_)))
    exact wpAny_stop (hh hx) fun h' e k q => hE h' e hx (fun c o hc q => k c o ((Heap.SameBut.update ..).extBut c o hc q)) q
theorem Heap.IsTupleIter.at' {h h' : Heap} {it t : Addr} {i : Nat} (x : h.IsTupleIter it t i) (k : ∀ o, h.get? it = some o → h'.get? it = some o) : h'.IsTupleIter it t i := let ⟨o, a, b⟩ := x; ⟨o, k o a, b⟩
theorem Heap.IsTuple.at' {h h' : Heap} {t : Addr} {xs : Array Value} (x : h.IsTuple t xs) (k : ∀ o, h.get? t = some o → h'.get? t = some o) : h'.IsTuple t xs := let ⟨o, a, b⟩ := x; ⟨o, k o a, b⟩
def Els (z T i j : Addr) (h h' : Heap) : Prop := ∀ c o, c ≠ z → c ≠ T → c ≠ i → c ≠ j → h.get? c = some o → h'.get? c = some o
theorem zip_turn {z TI TO i1 i2 l1 l2 : Addr} {k : Nat} {xs ys : Array Value} {a b : Value} {Q : Value → Shared → Prop} (hh : xs[k]? = none ∨ ys[k]? = none → A.handled = none) (D : ZipApart z TI TO i1 i2 l1 l2)
    (hz : IsZip s.heap z TI TO .none) (hTI : IsPair s.heap TI (.ref i1) (.ref i2)) (hTO : IsPair s.heap TO a b)
    (h1 : s.heap.IsTupleIter i1 l1 k) (h2 : s.heap.IsTupleIter i2 l2 k) (hl1 : s.heap.IsTuple l1 xs) (hl2 : s.heap.IsTuple l2 ys)
    (hQ : ∀ h' x y, xs[k]? = some x → ys[k]? = some y → IsZip h' z TI TO (rawInt s.heap.objs.size) → IsPair h' TO x y → h'.IsTupleIter i1 l1 (k + 1) → h'.IsTupleIter i2 l2 (k + 1) →
      IsPair h' s.heap.objs.size x y → Els z TO i1 i2 s.heap h' → Q (.ref s.heap.objs.size) { s with heap := h' })
    (hE : ∀ h' e, (xs[k]? = none ∨ ys[k]? = none) → Els z TO i1 i2 s.heap h' → StopAt h' e → E (.ref e) { s with heap := h' }) :
    wpAny (model prog w) A (Builtin.«zip.__next__» ⟨[.ref z], []⟩) (fun fin s' => ∃ v, fin = .done (.ret v) ∧ Q v s') E s := by
  refine wpAny_bind (wpAny_of_eq rfl (wpAny_bind (wpAny_field hz rfl rfl (wpAny_bind (wpAny_field hz rfl rfl (wpAny_bind (wpAny_seqItems hTI rfl ?_)))))))
  refine wpAny_bind (wpAny_bind (wpAny_field hz rfl rfl (wpAny_pure (wpAny_bind (wpAny_rule (wpAny_bind (wpAny_field hz rfl rfl ?_)))))))
  refine wpAny_bind (wpAny_setField_rec hz (by exact Nat.succ_pos _) fun g1 z1 c1 => wpAny_bind ?_)
  replace z1 : IsZip g1 z TI TO .ellipsis := z1
  have off : ∀ (g : Heap) (e : Addr), IsZip g z TI TO .ellipsis → Els z TO i1 i2 s.heap g → StopAt g e → (xs[k]? = none ∨ ys[k]? = none) → wpAny (model prog w) A (setField (.ref z) 0 Value.none) (fun _ s' => E (.ref e) s') E { s with heap := g } := by
    intro g e hg kg st d
    refine wpAny_setField_rec hg (by exact Nat.succ_pos _) fun g' _ cg => hE g' e d (fun c o a1 a2 a3 a4 q => cg.extBut c o a1 (kg c o a1 a2 a3 a4 q)) ?_
    obtain ⟨o, p, q⟩ := st
    exact ⟨o, cg.extBut _ _ (fun x => by subst x; rw [hg] at p; cases p; simp at q) p, q⟩
  have k1 : Els z TO i1 i2 s.heap g1 := fun c o a1 _ _ _ q => c1.extBut c o a1 q
  simp only [List.zipIdx_cons, List.zipIdx_nil, List.forIn_cons, List.forIn_nil]
  refine wpAny_bind (wpAny_bind (wpAny_onRaise ?_))
  refine wpAny_bind (tup_next (fun e => hh (.inl e)) (h1.at' fun o => c1.extBut _ o D.i1z) (hl1.at' fun o => c1.extBut _ o D.l1z) (fun x g2 hx i1' c2 n2 => wpAny_pure ?_) fun g2 e hx c2 st => off g2 e (c2 _ _ D.i1z.symm z1) (fun c o a1 a2 a3 a4 q => c2 c o a3 (k1 c o a1 a2 a3 a4 q)) st (.inl hx))
  have k2 : Els z TO i1 i2 s.heap g2 := fun c o a1 a2 a3 a4 q => c2 c o a3 (k1 c o a1 a2 a3 a4 q)
  have t2 : IsPair g2 TO a b := c2 _ _ D.TOi1 (c1.extBut _ _ D.TOz hTO)
  refine wpAny_bind (wpAny_seqItems t2 rfl (wpAny_bind (wpAny_updateSeq_pair t2 fun g3 t3 c3 => wpAny_bind (wpAny_letGo (wpAny_pure ?_)))))
  replace t3 : IsPair g3 TO x b := t3
  have k3 : Els z TO i1 i2 s.heap g3 := fun c o a1 a2 a3 a4 q => c3.extBut c o a2 (k2 c o a1 a2 a3 a4 q)
  have z3 : IsZip g3 z TI TO .ellipsis := c3.extBut _ _ D.TOz.symm (c2 _ _ D.i1z.symm z1)
  have i2' : ∀ o, s.heap.get? i2 = some o → g3.get? i2 = some o := fun o q => c3.extBut _ o D.TOi2.symm (c2 _ o D.i12.symm (c1.extBut _ o D.i2z q))
  refine wpAny_bind (wpAny_bind (wpAny_onRaise ?_))
  refine wpAny_bind (tup_next (fun e => hh (.inr e)) (h2.at' i2') (hl2.at' fun o => k3 _ o D.l2z D.l2TO D.l2i1 D.l2i2) (fun y g4 hy i2'' c4 n4 => wpAny_pure ?_) fun g4 e hy c4 st => off g4 e (c4 _ _ D.i2z.symm z3) (fun c o a1 a2 a3 a4 q => c4 c o a4 (k3 c o a1 a2 a3 a4 q)) st (.inr hy))
  have t4 : IsPair g4 TO x b := c4 _ _ D.TOi2 t3
  refine wpAny_bind (wpAny_seqItems t4 rfl (wpAny_bind (wpAny_updateSeq_pair t4 fun g5 t5 c5 => wpAny_bind (wpAny_letGo (wpAny_pure (wpAny_pure ?_))))))
  replace t5 : IsPair g5 TO x y := t5
  refine wpAny_bind (wpAny_seqItems t5 rfl (wpAny_bind (wpAny_newTuple (wpAny_bind ?_))))
  have n5 : g5.objs.size = s.heap.objs.size := by rw [c5.1, n4, c3.1, n2, c1.1]
  have z5 : IsZip g5 z TI TO .ellipsis := c5.extBut _ _ D.TOz.symm (c4 _ _ D.i2z.symm z3)
  have k5 : Els z TO i1 i2 s.heap g5 := fun c o a1 a2 a3 a4 q => c5.extBut c o a2 (c4 c o a4 (k3 c o a1 a2 a3 a4 q))
  have new : z ≠ g5.objs.size := Nat.ne_of_lt (Heap.lt_size z5)
  have z6 : IsZip (g5.push { cls := .type "tuple", data := .seq #[x, y] }) z TI TO .ellipsis := Heap.get?_push_of_some _ z5
  refine wpAny_bind (wpAny_setField_rec z6 (by exact Nat.succ_pos _) fun g7 z7 c7 => ?_)
  replace z7 : IsZip g7 z TI TO (rawInt g5.objs.size) := z7
  refine wpAny_setField_rec z7 (by simp) fun g8 z8 c8 => wpAny_pure ⟨_, rfl, ?_⟩
  have up : ∀ c o, c ≠ z → (g5.push { cls := .type "tuple", data := .seq #[x, y] }).get? c = some o → g8.get? c = some o := fun c o a q => c8.extBut c o a (c7.extBut c o a q)
  have dn : ∀ c o, c ≠ z → g5.get? c = some o → g8.get? c = some o := fun c o a q => up c o a (Heap.get?_push_of_some _ q)
  have T8 : IsPair g8 g5.objs.size x y := up _ _ new.symm (Heap.get?_push_size _ rfl)
  rw [n5] at z8 T8
  show Q (.ref g5.objs.size) _
  rw [n5]
  exact hQ g8 x y hx hy z8 (dn _ _ D.TOz t5) (i1'.at' fun o q => dn _ o D.i1z (c5.extBut _ o D.TOi1.symm (c4 _ o D.i12 (c3.extBut _ o D.TOi1.symm q)))) (i2''.at' fun o q => dn _ o D.i2z (c5.extBut _ o D.TOi2.symm q)) T8 fun c o a1 a2 a3 a4 q => dn c o a1 (k5 c o a1 a2 a3 a4 q)
theorem zip_asked {z TI TO i1 i2 l1 l2 : Addr} {k : Nat} {xs ys : Array Value} {a b : Value} {Q : Option Value → Shared → Prop} (hh : xs[k]? = none ∨ ys[k]? = none → A.handled = none) (D : ZipApart z TI TO i1 i2 l1 l2)
    (hz : IsZip s.heap z TI TO .none) (hTI : IsPair s.heap TI (.ref i1) (.ref i2)) (hTO : IsPair s.heap TO a b)
    (h1 : s.heap.IsTupleIter i1 l1 k) (h2 : s.heap.IsTupleIter i2 l2 k) (hl1 : s.heap.IsTuple l1 xs) (hl2 : s.heap.IsTuple l2 ys)
    (hQ : ∀ h' x y, xs[k]? = some x → ys[k]? = some y → IsZip h' z TI TO (rawInt s.heap.objs.size) → IsPair h' TO x y → h'.IsTupleIter i1 l1 (k + 1) → h'.IsTupleIter i2 l2 (k + 1) →
      IsPair h' s.heap.objs.size x y → Els z TO i1 i2 s.heap h' → Q (some (.ref s.heap.objs.size)) { s with heap := h' })
    (hE : ∀ h', (xs[k]? = none ∨ ys[k]? = none) → Els z TO i1 i2 s.heap h' → Q none { s with heap := h' }) : wpAny (model prog w) A (pyNext (.ref z)) Q E s := by
  have hT : s.TypeIs (.ref z) "zip" := ⟨_, hz, rfl⟩
  refine wpAny_bind (wpAny_attempt (wpAny_callSpecial?_slot (name := Str.ofString "__next__") hT F.slot_zip_next (wpAny_call_entry F.slot_zip_next hT F.entry_zip_next
    (zip_turn hh D hz hTI hTO h1 h2 hl1 hl2 (fun h' x y a1 a2 a3 a4 a5 a6 a7 a8 => wpAny_pure (hQ h' x y a1 a2 a3 a4 a5 a6 a7 a8)) fun h' e d kk q => ?_) (F.args_zip_next_1 _))))
  exact wpAny_bind (wpAny_isInstance (b := true) q isSubtype_stop (wpAny_pure (hE _ d kk)))
theorem grown_all (os : List Obj) : ∀ h : Heap, Grown h (os.foldl Heap.push h) := by
  induction os with
  | nil => exact fun h c o q => q
  | cons o os ih => exact fun h c o' q => ih _ c o' (Heap.get?_push_of_some _ q)
theorem got_all (os : List Obj) : ∀ (h : Heap) (i : Nat) (o : Obj), os[i]? = some o → o.isFreed = false → (os.foldl Heap.push h).get? (h.objs.size + i) = some o := by
  induction os with
  | nil => exact fun h i o e => by cases e
  | cons o' os ih =>
    intro h i o e f
    cases i with
    | zero => cases e; exact grown_all os _ _ _ (Heap.get?_push_size _ f)
    | succ i =>
      have := ih (h.push o') i o e f
      rw [Heap.size_push, Nat.add_right_comm] at this
      exact this
theorem zip_made {l1 l2 : Addr} {xs ys : Array Value} {Q : Value → Shared → Prop} (hl1 : s.heap.IsTuple l1 xs) (hl2 : s.heap.IsTuple l2 ys)
    (h : ∀ h' n, n = s.heap.objs.size → IsZip h' (n + 4) (n + 2) (n + 3) .none → IsPair h' (n + 2) (.ref n) (.ref (n + 1)) → IsPair h' (n + 3) .none .none → h'.IsTupleIter n l1 0 → h'.IsTupleIter (n + 1) l2 0 → Grown s.heap h' → Q (.ref (n + 4)) { s with heap := h' }) :
    wpAny (model prog w) A (call (.type "zip") [.ref l1, .ref l2]) Q E s := by
  let os (n : Nat) : List Obj := [{ cls := .type "tuple_iterator", data := .fields #[.ref l1, .int 0 0] }, { cls := .type "tuple_iterator", data := .fields #[.ref l2, .int 0 0] }, { cls := .type "tuple", data := .seq #[.ref n, .ref (n + 1)] },
    { cls := .type "tuple", data := .seq #[.none, .none] }, { cls := .type "zip", data := .fields #[.none, .bool false, .bool false, .ref (n + 2), .ref (n + 3)] }]
  let hp (n : Nat) (h : Heap) : Heap := (os n).foldl Heap.push h
  have M : Meets (Builtin.«zip.__new__» ⟨[.type "zip", .ref l1, .ref l2], []⟩) (fun _ R s => s.heap.IsTuple l1 xs ∧ s.heap.IsTuple l2 ys ∧ R (.ok (.ret (.ref (s.heap.objs.size + 4)))) { s with heap := hp s.heap.objs.size s.heap }) :=
    .of_wp fun prog w A R s q => by
      obtain ⟨h0, g, d, tk, os⟩ := s
      obtain ⟨q1, q2, q3⟩ := q
      have e1 : Heap.IsTuple (Shared.heap ⟨h0, g, d, tk, os⟩) l1 xs := q1
      have e2 : Heap.IsTuple (Shared.heap ⟨h0.push { cls := .type "tuple_iterator", data := .fields #[.ref l1, .int 0 0] }, g, d, tk, os⟩) l2 ys := Heap.IsTuple.push q2 _
      have hs := sub_zip
      wp_walk using wpAny_pyIter_tuple e1, wpAny_pyIter_tuple e2
      simp only [Heap.size_push]
      exact ⟨_, rfl, q3⟩
  refine callType_new F.called_zip (by rfl) (F.typeCall_zip_2 _ _) (F.newCall_zip_2 _ _) (fun obj => F.args_object_init_3 obj _ _) F.entry_zip_new M ⟨hl1, hl2, ?_⟩
  have at' : ∀ i o, (os s.heap.objs.size)[i]? = some o → o.isFreed = false → (hp s.heap.objs.size s.heap).get? (s.heap.objs.size + i) = some o := got_all _ _
  exact ⟨⟨_, at' 4 _ rfl rfl, rfl⟩, h _ _ rfl (at' 4 _ rfl rfl) (at' 2 _ rfl rfl) (at' 3 _ rfl rfl) ⟨_, at' 0 _ rfl rfl, rfl, rfl⟩ ⟨_, at' 1 _ rfl rfl, rfl, rfl⟩ (grown_all _ _)⟩
end
section
variable {prog : Program} {w : World} {A : Around} {E : Value → Shared → Prop} {s : Shared}
theorem wpAny_pyNext_zip_itemT {z TI TO i1 i2 l1 l2 : Addr} {k : Nat} {xs ys : Array Value} {x y a b : Value} {Q : Option Value → Shared → Prop} (D : ZipApart z TI TO i1 i2 l1 l2) (hz : IsZip s.heap z TI TO .none)
    (hp : IsPair s.heap TI (.ref i1) (.ref i2)) (ho : IsPair s.heap TO a b) (h1 : s.heap.IsTupleIter i1 l1 k) (h2 : s.heap.IsTupleIter i2 l2 k) (m1 : s.heap.IsTuple l1 xs) (m2 : s.heap.IsTuple l2 ys) (hx : xs[k]? = some x) (hy : ys[k]? = some y)
    (q : ∀ h', IsZip h' z TI TO (rawInt s.heap.objs.size) → IsPair h' TO x y → h'.IsTupleIter i1 l1 (k + 1) → h'.IsTupleIter i2 l2 (k + 1) → IsPair h' s.heap.objs.size x y → True → Els z TO i1 i2 s.heap h' → Q (some (.ref s.heap.objs.size)) { s with heap := h' }) : wpAny (model prog w) A (pyNext (.ref z)) Q E s :=
  zip_asked (fun e => by simp [hx, hy] at e) D hz hp ho h1 h2 m1 m2 (fun h' x' y' e1 e2 a1 a2 a3 a4 a5 a6 => by rw [hx] at e1; rw [hy] at e2; cases e1; cases e2; exact q h' a1 a2 a3 a4 a5 trivial a6) fun _ e _ => by simp [hx, hy] at e
theorem wpAny_pyNext_zip_endT {z TI TO i1 i2 l1 l2 : Addr} {k : Nat} {xs ys : Array Value} {a b : Value} {Q : Option Value → Shared → Prop} (hh : A.handled = none) (D : ZipApart z TI TO i1 i2 l1 l2) (hz : IsZip s.heap z TI TO .none)
    (hp : IsPair s.heap TI (.ref i1) (.ref i2)) (ho : IsPair s.heap TO a b) (h1 : s.heap.IsTupleIter i1 l1 k) (h2 : s.heap.IsTupleIter i2 l2 k) (m1 : s.heap.IsTuple l1 xs) (m2 : s.heap.IsTuple l2 ys) (d : xs[k]? = none ∨ ys[k]? = none)
    (q : ∀ h', Els z TO i1 i2 s.heap h' → Q none { s with heap := h' }) : wpAny (model prog w) A (pyNext (.ref z)) Q E s :=
  zip_asked (fun _ => hh) D hz hp ho h1 h2 m1 m2 (fun _ _ _ e1 e2 _ _ _ _ _ _ => by simp [e1, e2] at d) fun h' _ a => q h' a
theorem call_zip_2T {l1 l2 : Addr} {xs ys : Array Value} {Q : Value → Shared → Prop} (m1 : s.heap.IsTuple l1 xs) (m2 : s.heap.IsTuple l2 ys)
    (q : ∀ h', IsZip h' (s.heap.objs.size + 4) (s.heap.objs.size + 2) (s.heap.objs.size + 3) .none → IsPair h' (s.heap.objs.size + 2) (.ref s.heap.objs.size) (.ref (s.heap.objs.size + 1)) → IsPair h' (s.heap.objs.size + 3) .none .none → h'.IsTupleIter s.heap.objs.size l1 0 → h'.IsTupleIter (s.heap.objs.size + 1) l2 0 → True → Grown s.heap h' → Q (.ref (s.heap.objs.size + 4)) { s with heap := h' }) : wpAny (model prog w) A (call (.type "zip") [.ref l1, .ref l2]) Q E s :=
  zip_made m1 m2 fun h' n e a1 a2 a3 a4 a5 a6 => by subst e; exact q h' a1 a2 a3 a4 a5 trivial a6
end
end PySem
set_option Elab.async false
set_option linter.all false
set_option maxRecDepth 100000
set_option maxHeartbeats 1000000
namespace L2
open PySem PySem.Spec PyProof.Rows
def ItzT (K : PySem.W.Frag) (a b : Addr) : It :=
  ⟨fun i H => ∃ xs ys x y, SqT K H a xs ∧ SqT K H b ys ∧ xs[i]? = some x ∧ ys[i]? = some y, fun i H v H' => ∃ t, v = .ref t ∧ H t = none ∧ ∀ xs ys, SqT K H a xs → SqT K H b ys → ∃ x y, xs[i]? = some x ∧ ys[i]? = some y ∧ H' = upd H t (.tup [x, y]),
    fun i H => ∃ xs ys, SqT K H a xs ∧ SqT K H b ys ∧ (xs.length ≤ i ∨ ys.length ≤ i)⟩
section
variable {X : Cx} {elts : List Expr} {x1 : Nat} {tpos : Pos}
theorem turn_zipT {P : Program} {w : World} {K : PySem.W.Frag} (a b z TI TO i1 i2 : Addr) (D : ZipApart z TI TO i1 i2 a b) : Turn P w K (.Tuple elts x1 tpos) (ItzT K a b) [z, TI, TO, i1, i2] z
    (fun i h => IsZip h z TI TO .none ∧ IsPair h TI (.ref i1) (.ref i2) ∧ (∃ a b, IsPair h TO a b) ∧ h.IsTupleIter i1 a i ∧ h.IsTupleIter i2 b i) where
  mem := by simp
  obj := fun i h st c hc => by
    obtain ⟨h1, h2, ⟨u, v, h3⟩, ⟨o1, g1, _, d1⟩, ⟨o2, g2, _, d2⟩⟩ := st
    simp only [List.mem_cons, List.not_mem_nil, or_false] at hc
    rcases hc with rfl | rfl | rfl | rfl | rfl
    · exact ⟨_, h1, fun v z => by have z' : Data.fields _ = Data.cell v := z; cases z'⟩
    · exact ⟨_, h2, fun v z => by have z' : Data.seq _ _ = Data.cell v := z; cases z'⟩
    · exact ⟨_, h3, fun v z => by have z' : Data.seq _ _ = Data.cell v := z; cases z'⟩
    · exact ⟨_, g1, fun v z => by rw [d1] at z; cases z⟩
    · exact ⟨_, g2, fun v z => by rw [d2] at z; cases z⟩
  keep := fun i h h' st k => by
    obtain ⟨h1, h2, ⟨u, v, h3⟩, h4, h5⟩ := st
    exact ⟨k z (by simp) _ h1, k TI (by simp) _ h2, ⟨u, v, k TO (by simp) _ h3⟩, h4.at fun o q => k i1 (by simp) o q, h5.at fun o q => k i2 (by simp) o q⟩
  item := by
    intro X hP hw hK hc i pins s σ H E I hf st hg
    subst hP hw hK
    obtain ⟨xs, ys, x, y, hq, hq2, hx, hy⟩ := hg
    obtain ⟨its, rv, p, hz⟩ := I.tuple hq
    obtain ⟨its2, rv2, p2, hz2⟩ := I.tuple hq2
    obtain ⟨u, hu, ru⟩ := rv.get hx
    obtain ⟨v, hv, rw2⟩ := rv2.get hy
    obtain ⟨h1, h2, ⟨c, d, h3⟩, h4, h5⟩ := st
    refine wpAny_pyNext_zip_itemT D h1 h2 h3 h4 h5 (show s.heap.IsTuple a its.toArray from p) (show s.heap.IsTuple b its2.toArray from p2) (x := u) (y := v) (by simpa using hu) (by simpa using hv) fun h' a1 a2 a3 a4 a5 a6 kk => ?_
    refine ⟨_, rfl, wpAny_letOwnedTupleGo_zip a1 fun h'' b1 sb => ?_⟩
    have hTz : s.heap.objs.size ≠ z := Nat.ne_of_gt (Heap.lt_size h1)
    have hfree : H s.heap.objs.size = none := I.hok.fresh (Nat.le_refl _)
    have hT : h''.get? s.heap.objs.size = some { cls := .type "tuple", data := .seq #[u, v] } := sb.extBut _ _ hTz a5
    have new : ObjOk X.prog X.w (upd H s.heap.objs.size (.tup [x, y])) h'' s.heap.objs.size (.tup [x, y]) := ⟨small2, [u, v], .cons ru (.cons rw2 .nil), ⟨_, hT, rfl, _, rfl⟩⟩
    have lt : ∀ {c o}, s.heap.get? c = some o → c ≠ s.heap.objs.size := fun e => Nat.ne_of_lt (Heap.lt_size e)
    refine ⟨.ref s.heap.objs.size, upd H s.heap.objs.size (.tup [x, y]), I.turnedNew (fp := [z, TI, TO, i1, i2]) (t' := s.toks) (fun c o hc q => sb.extBut c o (fun e => hc (by simp [e])) (kk c o (fun e => hc (by simp [e])) (fun e => hc (by simp [e])) (fun e => hc (by simp [e])) (fun e => hc (by simp [e])) q)) hf (Nat.le_refl _) new, rfl,
      ⟨_, rfl, hfree, fun zs ws h6 h7 => ⟨x, y, by rw [I.tuple_inj h6 hq]; exact hx, by rw [I.tuple_inj h7 hq2]; exact hy, rfl⟩⟩,
      ⟨b1, sb.extBut _ _ D.TIz (kk _ _ D.TIz D.TITO D.TIi1 D.TIi2 h2), ⟨_, _, sb.extBut _ _ D.TOz a2⟩, a3.extBut sb.extBut D.i1z, a4.extBut sb.extBut D.i2z⟩, upd_fp (fun b hb => (hf b hb).1) fun c hc => ?_⟩
    simp only [List.mem_cons, List.not_mem_nil, or_false] at hc
    rcases hc with rfl | rfl | rfl | rfl | rfl
    · exact lt h1
    · exact lt h2
    · exact lt h3
    · obtain ⟨_, g, _⟩ := h4; exact lt g
    · obtain ⟨_, g, _⟩ := h5; exact lt g
  done := by
    intro X hP hw hK hc i pins s σ H E I hf st hg
    subst hP hw hK
    obtain ⟨xs, ys, hq, hq2, hx⟩ := hg
    obtain ⟨its, rv, p, hz⟩ := I.tuple hq
    obtain ⟨its2, rv2, p2, hz2⟩ := I.tuple hq2
    obtain ⟨h1, h2, ⟨c, d, h3⟩, h4, h5⟩ := st
    have l1 := rv.length
    have l2 := rv2.length
    have hend : its.toArray[i]? = none ∨ its2.toArray[i]? = none := by
      rcases hx with hx | hx
      · exact .inl (by simp; omega)
      · exact .inr (by simp; omega)
    exact wpAny_pyNext_zip_endT (I.ok.hd hc) D h1 h2 h3 h4 h5 (show s.heap.IsTuple a its.toArray from p) (show s.heap.IsTuple b its2.toArray from p2) hend fun h' kk => ⟨rfl, I.turnedS (fp := [z, TI, TO, i1, i2]) (t' := s.toks) (fun c o hc q => kk c o (fun e => hc (by simp [e])) (fun e => hc (by simp [e])) (fun e => hc (by simp [e])) (fun e => hc (by simp [e])) q) hf⟩
  self := fun _ _ _ _ _ st h => wpAny_pyIter_zip st.1 h
def iZipB (K : PySem.W.Frag) (ta : TA) : TI := fun σ H R => ta σ H fun vs H1 => ∃ a b, vs = [.ref a, .ref b] ∧ (((∃ xs, SqL K H1 a xs) ∧ (∃ ys, SqL K H1 b ys) ∧ R (Itz K a b) H1) ∨ ((∃ xs, SqT K H1 a xs) ∧ (∃ ys, SqT K H1 b ys) ∧ R (ItzT K a b) H1))
theorem pi_zipB {a b : Expr} {ta : TA} {p pos : Pos} (hg : Gl X "zip") (hm : X.mg "zip" = none) (ha : PA X [a, b] ta) (hs : starEach [a, b] X.env = [(false, eval a X.env), (false, eval b X.env)] := by rfl) (hs2 : starEach [b] X.env = [(false, eval b X.env)] := by rfl) :
    PI X (.Tuple elts x1 tpos) (.Call (.Name "zip" p) [a, b] [] pos) (iZipB X.K ta) := by
  intro pins s σ H R I h
  refine Call_ (ld_blt I hg hm boot_zip (PyProof.Rows.callWith_type1 (thn (ha pos pins s σ H _ I h) fun us s1 ⟨vs, H1, I1, r1, q1⟩ => ?_) (by rw [hs, hs2]) (by rw [hs2]; rfl)))
  obtain ⟨l, l', e, q1⟩ := q1
  subst e
  obtain ⟨u, v, rfl, ru, rv⟩ := vals2 r1
  cases ru
  cases rv
  rcases q1 with ⟨⟨xs, hl⟩, ⟨ys, hl'⟩, q⟩ | ⟨⟨xs, hl⟩, ⟨ys, hl'⟩, q⟩
  · obtain ⟨its, _, p1, _⟩ := I1.list hl
    obtain ⟨its', _, p2, _⟩ := I1.list hl'
    refine call_zip_2 p1.isList p2.isList fun h' e1 e2 e3 e4 e5 e6 kk => ?_
    refine wpAny_pyIter_zip e1 ?_
    refine ⟨s1.heap.objs.size + 4, [s1.heap.objs.size + 4, s1.heap.objs.size + 2, s1.heap.objs.size + 3, s1.heap.objs.size, s1.heap.objs.size + 1], _, _, H1, rfl, I1.kept (t' := s1.toks) kk, turn_zip l l' _ _ _ _ _ (zip_apart _),
      ⟨e1, e2, ⟨_, _, e3⟩, e4, e5⟩, fun b hb => ?_, q⟩
    have hb' : s1.heap.objs.size ≤ b := by
      simp only [List.mem_cons, List.not_mem_nil, or_false] at hb
      rcases hb with rfl | rfl | rfl | rfl | rfl <;> first | exact Nat.le_add_right _ _ | exact Nat.le_refl _
    exact I1.fpOk hb' (I1.hok.fresh hb')
  · obtain ⟨its, _, p1, _⟩ := I1.tuple hl
    obtain ⟨its', _, p2, _⟩ := I1.tuple hl'
    have g1 : l < s1.heap.objs.size := by obtain ⟨_, e, _⟩ := p1; exact Heap.lt_size e
    have g2 : l' < s1.heap.objs.size := by obtain ⟨_, e, _⟩ := p2; exact Heap.lt_size e
    refine call_zip_2T (show s1.heap.IsTuple l its.toArray from p1) (show s1.heap.IsTuple l' its'.toArray from p2) fun h' e1 e2 e3 e4 e5 e6 kk => ?_
    refine wpAny_pyIter_zip e1 ?_
    obtain ⟨d1, d2, d3, d4, d5, d6, d7, d8, d9, d10⟩ := zip_apart s1.heap.objs.size
    have far : ∀ {m : Addr} (k : Nat), m < s1.heap.objs.size → m ≠ s1.heap.objs.size + k := fun {m} k h => Nat.ne_of_lt (Nat.lt_of_lt_of_le h (Nat.le_add_right _ _))
    refine ⟨s1.heap.objs.size + 4, [s1.heap.objs.size + 4, s1.heap.objs.size + 2, s1.heap.objs.size + 3, s1.heap.objs.size, s1.heap.objs.size + 1], _, _, H1, rfl, I1.kept (t' := s1.toks) kk,
      turn_zipT l l' _ _ _ _ _ ⟨d1, d2, d3, d4, d5, d6, d7, d8, d9, d10, far 4 g1, far 3 g1, far 0 g1, far 1 g1, far 4 g2, far 3 g2, far 0 g2, far 1 g2⟩,
      ⟨e1, e2, ⟨_, _, e3⟩, e4, e5⟩, fun b hb => ?_, q⟩
    have hb' : s1.heap.objs.size ≤ b := by
      simp only [List.mem_cons, List.not_mem_nil, or_false] at hb
      rcases hb with rfl | rfl | rfl | rfl | rfl <;> first | exact Nat.le_add_right _ _ | exact Nat.le_refl _
    exact I1.fpOk hb' (I1.hok.fresh hb')
end
theorem walk_zipT {K : PySem.W.Frag} {G : Hp} {a b : Addr} {xs ys : List V} {ds es : List D} (h : SqT K G a xs) (r : Reps K G xs ds) (h' : SqT K G b ys) (r' : Reps K G ys es) : Walk K (ItzT K a b) G (zipD ds es) := by
  refine ⟨fun i d G' H' hd s1 s2 => ?_, fun G' H' s1 s2 => ⟨xs, ys, s2.seqT (s1.seqT h), s2.seqT (s1.seqT h'), ?_⟩⟩
  · unfold zipD at hd
    rw [List.getElem?_zipWith] at hd
    cases e : ds[i]? with
    | none => rw [e] at hd; cases hd
    | some d' =>
      cases e2 : es[i]? with
      | none => rw [e, e2] at hd; cases hd
      | some d2 =>
        rw [e, e2] at hd
        cases hd
        obtain ⟨v, hv, rv⟩ := r.get e
        obtain ⟨v', hv', rv'⟩ := r'.get e2
        have hs : SqT K H' a xs := s2.seqT (s1.seqT h)
        have hs' : SqT K H' b ys := s2.seqT (s1.seqT h')
        refine ⟨⟨xs, ys, v, v', hs, hs', hv, hv'⟩, fun u H2 hy => ?_⟩
        obtain ⟨t, rfl, ht, y⟩ := hy
        obtain ⟨x, x', hx, hx', rfl⟩ := y xs ys hs hs'
        rw [hv] at hx
        rw [hv'] at hx'
        cases hx
        cases hx'
        have x2 : Ext G' H' (upd G' t (.tup [v, v'])) (upd H' t (.tup [v, v'])) := .new s2 ht
        exact ⟨_, x2, rep_pair (SqT.of upd_same) ((rv.mono s1).mono x2.g) ((rv'.mono s1).mono x2.g)⟩
  · rw [r.length, r'.length]
    unfold zipD
    rw [List.length_zipWith]
    omega
section
variable {X : Cx} {pos : Pos}
def zZipB (ts : TDa) : TId := fun ρ Q => ts ρ fun ds => match ds with
  | [.lst es, .lst fs] => Q (zipD es fs)
  | [.tup es, .tup fs] => Q (zipD es fs)
  | _ => False
theorem pid_zipB {a b : Expr} {ts : TDa} {p tp : Pos} {elts : List Expr} {x1 : Nat} (hm : X.mg "zip" = none) (ha : PDa X [a, b] ts) (hg : Gl X "zip" := by rfl) (hs : starEach [a, b] X.env = [(false, eval a X.env), (false, eval b X.env)] := by rfl) (hs2 : starEach [b] X.env = [(false, eval b X.env)] := by rfl) :
    PId X (.Tuple elts x1 tp) (.Call (.Name "zip" p) [a, b] [] pos) (zZipB ts) := by
  obtain ⟨t, pp, q⟩ := ha
  refine ⟨_, pi_zipB hg hm pp hs hs2, fun ρ σ G0 H0 G H Q P E h k => q ρ σ G0 H0 G H _ _ E h fun vs H' ds G' x rs hq => ?_⟩
  split at hq
  · obtain ⟨v, w', rfl, rv, rw'⟩ := reps2 rs
    simp only [Rep] at rv rw'
    obtain ⟨a, xs, rfl, h1, h2⟩ := rv
    obtain ⟨b, ys, rfl, h3, h4⟩ := rw'
    exact ⟨a, b, rfl, .inl ⟨⟨xs, (x.s.rdl h1).sq⟩, ⟨ys, (x.s.rdl h3).sq⟩, k _ H' _ G' x (walk_zip h1 h2 h3 h4) hq⟩⟩
  · obtain ⟨v, w', rfl, rv, rw'⟩ := reps2 rs
    simp only [Rep] at rv rw'
    obtain ⟨a, xs, rfl, h1, h2⟩ := rv
    obtain ⟨b, ys, rfl, h3, h4⟩ := rw'
    exact ⟨a, b, rfl, .inr ⟨⟨xs, x.s.seqT h1⟩, ⟨ys, x.s.seqT h3⟩, k _ H' _ G' x (walk_zipT h1 h2 h3 h4) hq⟩⟩
  · exact hq.elim
end
end L2
set_option Elab.async false
set_option linter.all false
set_option maxRecDepth 100000
set_option maxHeartbeats 1000000
namespace L2
open PySem PySem.Spec PyProof.Rows
theorem preSum_getD (ns : List Int) : ∀ n, n ≤ ns.length → preSum (fun i => ns.getD i 0) n = (ns.take n).sum
  | 0, _ => by simp [preSum]
  | n + 1, h => by
    have ih := preSum_getD ns n (by omega)
    show preSum (fun i => ns.getD i 0) n + ns.getD n 0 = _
    have e : ns.take (n + 1) = ns.take n ++ [ns[n]] := by rw [List.take_add_one, List.getElem?_eq_getElem (by omega)]; rfl
    rw [ih, e, List.sum_append, List.getD_eq_getElem?_getD, List.getElem?_eq_getElem (by omega)]
    simp
theorem kv_at {κ : Type} {kvs : List (κ × V)} {vs : List (κ × Value)} (r : KV kvs vs) : ∀ (i : Nat) {k : κ} {v : Value}, vs[i]? = some (k, v) → ∃ x, kvs[i]? = some (k, x) ∧ RelV x v := by
  unfold KV at r
  induction r with
  | nil => intro i k v h; simp at h
  | @cons p q ps qs h t ih =>
    intro i k v hv
    cases i with
    | zero =>
      simp only [List.getElem?_cons_zero, Option.some.injEq] at hv
      subst hv
      exact ⟨p.2, by simp only [List.getElem?_cons_zero]; exact congrArg some (Prod.ext h.1 rfl), h.2⟩
    | succ i =>
      simp only [List.getElem?_cons_succ] at hv ⊢
      exact ih i hv
section
variable {X : Cx}
def tSumV (to : TE) : TE := fun σ H Q => to σ H fun x H1 => ∃ (a : Addr) (ks : List (Key × V)) (ep : Nat) (ns : List Int), x = .ref a ∧ H1 a = some (.dK ks ep) ∧ ks.map (·.2) = ns.map V.int ∧ Q (.int ns.sum) H1
theorem pe_sumV {o : Expr} {to : TE} {p apos cpos pos : Pos} (hc : X.calm = true) (hg : Gl X "sum") (hm : X.mg "sum" = none) (ho : PE X o to)
    (hbase : attributeBase o "values" X.env (eval o X.env) = eval o X.env := by rfl) (hline : (apos.endLine == cpos.line) = true := by rfl)
    (he : starEach [Expr.Call (.Attribute o "values" apos) [] [] cpos] X.env = [(false, eval (.Call (.Attribute o "values" apos) [] [] cpos) X.env)] := by rfl) :
    PE X (.Call (.Name "sum" p) [.Call (.Attribute o "values" apos) [] [] cpos] [] pos) (tSumV to) := by
  intro pins s σ H Q I h
  refine wpAny_Call_Name_kw (ld_blt I hg hm boot_sum (PyProof.Rows.callWith_builtin1 ?_ he rfl))
  rw [he]
  show wpAny _ _ (spliced ((false, eval (.Call (.Attribute o "values" apos) [] [] cpos) X.env) :: [])) _ _ s
  refine Calls.spliced_cons ?_
  refine wpAny_Call_method0_late hbase hline (thn (ho pins s σ H _ I h) fun v s1 ⟨x, H1, I1, r1, a, ks, ep0, ns, ex, hk, hn, q⟩ => ?_)
  subst ex
  obtain ⟨h1, h2⟩ := tyV_is (T := "dict") I1 r1 (.inr (.inr (.inl ⟨rfl, .inl ⟨ks, ep0, hk⟩⟩)))
  obtain rfl : v = Value.ref a := r1
  refine ⟨"dict", "dict.values", PySem.F.plainAttrs_dict, PySem.F.slot_dict_values, PySem.F.type_dict_values, h1, h2, Calls.callWith_builtin rfl (PySem.evalArgs_none ?_)⟩
  obtain ⟨hz, hd, vs, rel, dd⟩ := dk_of I1.hok hk
  have dd0 := dd
  obtain ⟨o', es, ep, ho', r5⟩ := dd
  have dat : s1.heap.DictAt (mixKind X.prog X.w) a vs ep := ⟨o', es, ho', r5⟩
  have hlt : a < s1.heap.objs.size := Heap.lt_size ho'
  have hlen : vs.length = ns.length := by
    rw [← rel.length]
    have := congrArg List.length hn
    simpa using this
  refine call_meetsIn PySem.F.slot_dict_values h1 PySem.F.entry_dict_values (PySem.F.args_dict_values_1 _) (meets_dict_values (mixKind X.prog X.w) a hd) ⟨⟨vs, dd0⟩, ?_⟩
  refine Calls.spliced_nil ?_
  have hvw : (s1.heap.push { cls := .type "dict_values", data := .fields #[.ref a] }).IsValuesView s1.heap.objs.size a := ⟨_, Heap.get?_push_size _ rfl, rfl, rfl⟩
  have dat1 : (s1.heap.push { cls := .type "dict_values", data := .fields #[.ref a] }).DictAt (mixKind X.prog X.w) a vs ep := ⟨o', es, Heap.get?_push_of_some _ ho', r5⟩
  refine call_sum_walkG (wpAny_pyIter_values hvw dat1 ?_)
  refine ⟨_, _, _, _, _, _, fun i => ns.getD i 0, rfl, Walks.dictValues (knd := mixKind X.prog X.w) (A := X.A.in1) (by simpa using I1.ok.hd hc) _ a ?_ vs ep, ⟨⟨_, Heap.get?_push_size _ rfl, rfl, rfl⟩, ⟨o', es, Heap.get?_push_of_some _ (Heap.get?_push_of_some _ ho'), r5⟩⟩, fun b hb => ?_, fun i v hP => ?_, fun h' tk t' hk' => ?_⟩
  · show a ≠ (s1.heap.push _).objs.size
    rw [Heap.size_push]
    exact Nat.ne_of_lt (Nat.lt_succ_of_lt hlt)
  · show b < ((s1.heap.push _).push _).objs.size
    rw [Heap.size_push, Heap.size_push]
    simp only [List.mem_cons, List.not_mem_nil, or_false] at hb
    rcases hb with rfl | rfl
    · show (s1.heap.push _).objs.size < _
      rw [Heap.size_push]
      exact Nat.lt_succ_self _
    · exact Nat.lt_succ_of_lt (Nat.lt_succ_of_lt hlt)
  · obtain ⟨k, hv⟩ := hP
    obtain ⟨x, hx, rx⟩ := kv_at rel i hv
    have e := congrArg (fun l => l[i]?) hn
    simp only [List.getElem?_map, hx, Option.map_some] at e
    cases hi : ns[i]? with
    | none => rw [hi] at e; cases e
    | some m =>
      rw [hi] at e
      have e2 : x = V.int m := by simpa using e
      subst e2
      show ∃ t, v = Value.int (ns.getD i 0) t
      rw [List.getD_eq_getElem?_getD, hi]
      exact rx
  · have e : preSum (fun i => ns.getD i 0) vs.length = ns.sum := by rw [preSum_getD ns vs.length (by omega), hlen, List.take_length]
    rw [e]
    have keep : ∀ b ob, s1.heap.get? b = some ob → h'.get? b = some ob := fun b ob e1 => by
      refine hk' b ob (fun z => ?_) (Heap.get?_push_of_some _ (Heap.get?_push_of_some _ e1))
      have z1 : b = (s1.heap.push { cls := .type "dict_values", data := .fields #[.ref a] }).objs.size := by simpa using z
      rw [Heap.size_push] at z1
      have := Heap.lt_size e1
      rw [z1] at this
      exact absurd this (Nat.not_lt.mpr (Nat.le_succ _))
    exact ⟨.int ns.sum, H1, I1.kept keep, ⟨_, rfl⟩, q⟩
def valsI : List (Key × D) → Option (List Int)
  | [] => some []
  | (_, .int i) :: r => (valsI r).map (i :: ·)
  | _ => none
theorem valsI_rep {K : PySem.W.Frag} {G : Hp} : ∀ {ks : List (Key × V)} {kvs : List (Key × D)} {ns : List Int}, RepK K G ks kvs → valsI kvs = some ns → ks.map (·.2) = ns.map V.int
  | [], [], ns, _, h => by simp only [valsI, Option.some.injEq] at h; subst h; rfl
  | (a, v) :: ks, (b, .int i) :: kvs, ns, r, h => by
    simp only [RepK, Rep] at r
    simp only [valsI, Option.map_eq_some_iff] at h
    obtain ⟨ms, h1, rfl⟩ := h
    rw [List.map_cons, List.map_cons, valsI_rep r.2 h1, r.1.2]
  | [], _ :: _, _, r, _ => by simp only [RepK] at r
  | _ :: _, [], _, r, _ => by simp only [RepK] at r
  | _ :: _, (_, .non) :: _, _, _, h => by simp [valsI] at h
  | _ :: _, (_, .bl _) :: _, _, _, h => by simp [valsI] at h
  | _ :: _, (_, .str _) :: _, _, _, h => by simp [valsI] at h
  | _ :: _, (_, .tup _) :: _, _, _, h => by simp [valsI] at h
  | _ :: _, (_, .lst _) :: _, _, _, h => by simp [valsI] at h
  | _ :: _, (_, .obj _ _) :: _, _, _, h => by simp [valsI] at h
  | _ :: _, (_, .dic _) :: _, _, _, h => by simp [valsI] at h
  | _ :: _, (_, .dit _) :: _, _, _, h => by simp [valsI] at h
def dSumV (td : TD) : TD := fun ρ Q => td ρ fun r => match r.val with
  | .dic kvs => ∃ ns, valsI kvs = some ns ∧ Q (.fz (.int ns.sum))
  | _ => False
theorem pd_sumV {o : Expr} {td : TD} {p apos cpos pos : Pos} (hc : X.calm = true) (hm : X.mg "sum" = none) (ho : PD X o td) (hg : Gl X "sum" := by rfl)
    (hbase : attributeBase o "values" X.env (eval o X.env) = eval o X.env := by rfl) (hline : (apos.endLine == cpos.line) = true := by rfl)
    (he : starEach [Expr.Call (.Attribute o "values" apos) [] [] cpos] X.env = [(false, eval (.Call (.Attribute o "values" apos) [] [] cpos) X.env)] := by rfl) :
    PD X (.Call (.Name "sum" p) [.Call (.Attribute o "values" apos) [] [] cpos] [] pos) (dSumV td) := by
  obtain ⟨t, pp, q⟩ := ho
  refine ⟨_, pe_sumV hc hg hm pp hbase hline he, fun ρ σ G0 H0 G H Q P E h k => q ρ σ G0 H0 G H _ _ E h fun v H' r G' x rr hq => ?_⟩
  obtain ⟨G2, x2, rv, _⟩ := rr.freeze x
  split at hq
  · rename_i kvs e
    obtain ⟨ns, hn, hq⟩ := hq
    rw [e] at rv
    simp only [Rep] at rv
    obtain ⟨a, ks, ep, rfl, ha, rk⟩ := rv
    exact ⟨a, ks, ep, ns, rfl, x2.s _ _ ha, valsI_rep rk hn, k _ H' _ G2 x2 (fzR (rep_int _ _ _)) hq⟩
  · exact hq.elim
end
end L2
set_option Elab.async false
set_option linter.all false
set_option maxRecDepth 100000
set_option maxHeartbeats 4000000
namespace PySem
open Sem (wp)
section
variable {prog : Program} {w : World} {K : Type} [DecidableEq K] {knd : KeyKind prog w K} {A : Around} {R : Result → Shared → Prop} {I : Addr} {fp wr : List Addr} {G : Array GenState → Array GenState → Prop} {n : Nat} {P : Nat → Value → Prop} {St : Nat → Shared → Prop}
def bK (l : List (K × Value)) : List (K × Value) := l.foldl (fun acc p => stored acc p.1 p.2) []
theorem bK_take {kvs : List (K × Value)} {i : Nat} {k : K} {y : Value} (e : kvs[i]? = some (k, y)) : stored (bK (kvs.take i)) k y = bK (kvs.take (i + 1)) := by
  unfold bK
  have e1 : kvs.take (i + 1) = kvs.take i ++ [(k, y)] := by rw [List.take_add_one, e]; rfl
  rw [e1, List.foldl_append]; rfl
theorem stored_len (l : List (K × Value)) (k : K) (y : Value) : (stored l k y).length ≤ l.length + 1 := by
  unfold stored
  split
  · simp
  · simp
theorem bK_len (l : List (K × Value)) : (bK l).length ≤ l.length := by
  have : ∀ (r acc : List (K × Value)), (r.foldl (fun acc p => stored acc p.1 p.2) acc).length ≤ acc.length + r.length := by
    intro r
    induction r with
    | nil => intro acc; simp
    | cons p r ih =>
      intro acc
      have h1 := ih (stored acc p.1 p.2)
      have h2 := stored_len acc p.1 p.2
      rw [List.foldl_cons, List.length_cons]
      omega
  simpa [bK] using this l []
theorem dup_loopA (W : WalksS prog w A.in1 I fp wr G n P St) (S : Addr) (hSf : S ∉ fp) (h0 : Heap) (kvs : List (K × Value)) (hx : kvs.length = n) (hsz : kvs.length ≤ sizeLine)
    (hval : ∀ i v, P i v → ∃ k y key a, kvs[i]? = some (k, y) ∧ v = .ref a ∧ knd.is k key = true ∧ h0.IsTuple a #[key, y] ∧ a ≠ S ∧ a ∉ wr) :
    ∀ (m i : Nat) (s : Shared), n - i = m → i ≤ n → St i s → s.heap.DictOf knd S (bK (kvs.take i)) → (∀ b o, b ≠ S → b ∉ wr → h0.get? b = some o → s.heap.get? b = some o) →
      (∀ s', Moved (S :: wr) G s s' → s'.heap.DictOf knd S (bK kvs) → R (.ok (.ret .none)) s') → codeAny (model prog w) A (.builtin "dict.update.loop" ⟨[.ref S, .ref I, rawInt (i : Int), .none], []⟩) R s := by
  have offW : S ∉ wr := fun h => hSf (W.sub _ h)
  have more : ∀ b ∈ wr, b ∈ S :: wr := fun b hb => List.mem_cons_of_mem _ hb
  intro m
  induction m with
  | zero =>
    intro i s hk hi st T hold q
    have e : i = n := by omega
    subst e
    refine codeAny_builtin entry_dup_loop ?_
    rw [Around.under_plainId plain_dup_loop _]
    show wpAny _ A.in1 (pyNext (.ref I) >>= _) _ _ s
    refine wpAny_bind (W.done s _ _ st fun s' hm => ?_)
    show wpAny _ A.in1 (Builtin.Dict.addKeywords S [] >>= _) _ _ s'
    rw [← hx, List.take_length] at T
    refine wpAny_bind (wpAny_pure (wpAny_pure (q s' (hm.mono more) ?_)))
    obtain ⟨o, es, ep, h1, r⟩ := T
    exact ⟨o, es, ep, hm.heap S _ offW h1, r⟩
  | succ m ih =>
    intro i s hk hi st T hold q
    have hlt : i < n := by omega
    refine codeAny_builtin entry_dup_loop ?_
    rw [Around.under_plainId plain_dup_loop _]
    show wpAny _ A.in1 (pyNext (.ref I) >>= _) _ _ s
    refine wpAny_bind (W.item i s _ _ hlt st fun v s' hP st' hm => ?_)
    obtain ⟨k, y, key, a, hki, rfl, hkey, hT, haS, haw⟩ := hval i v hP
    have T' : s'.heap.DictOf knd S (bK (kvs.take i)) := by
      obtain ⟨o, es, ep, h1, r⟩ := T
      exact ⟨o, es, ep, hm.heap S _ offW h1, r⟩
    obtain ⟨o, ho, hc, nn, hd⟩ := hT
    have ho' : s'.heap.get? a = some o := hm.heap a o haw (hold a o haS haw ho)
    show wpAny _ A.in1 (holding [Value.ref a] _ >>= _) _ _ s'
    refine wpAny_bind (wpAny_holding ?_)
    refine wpAny_bind (wpAny_tryCatch ?_)
    unfold Builtin.Dict.pairItems
    refine wpAny_bind (wpAny_typeOf (T := "tuple") ⟨o, ho', hc⟩ ?_)
    rw [if_pos (by decide)]
    refine wpAny_bind (wpAny_seqItems ho' hd ?_)
    refine wpAny_pure ?_
    show wpAny _ A.in1 (holding [key, y] (dictSet S key y)) _ _ s'
    refine wpAny_holding (wpAny_dictSet_pairs (hsz := by have := bK_len (kvs.take i); rw [List.length_take] at this; omega) hkey T' fun h' T2 sb => ?_)
    rw [bK_take hki] at T2
    refine wpAny_pure ⟨plainId_quiet plain_dup_loop _, ih (i + 1) _ (by omega) hlt (W.frame _ s' _ _ st' (Nat.le_succ _) fun b hb o e => ?_) T2 (fun b o hbS hbw e => ?_) fun s2 hm2 T3 => ?_⟩
    · rw [sb.2 b (fun z : b = S => hSf (by rw [← z]; exact hb))]; exact e
    · show h'.get? b = some o
      rw [sb.2 b hbS]
      exact hm.heap b o hbw (hold b o hbS hbw e)
    · refine q s2 (Moved.trans W.gtrans ((hm.mono more).then_heap (Nat.le_succ _) fun b o hb e => ?_) hm2) T3
      rw [sb.2 b (fun z : b = S => hb (by rw [z]; exact List.mem_cons_self))]; exact e
end
section
variable {prog : Program} {w : World} {K : Type} [DecidableEq K] {knd : KeyKind prog w K} {A : Around} {E : Value → Shared → Prop} {s : Shared}
theorem dict_pairsA {l : Addr} {items : List Value} {kvs : List (K × Value)} {Q : Value → Shared → Prop} (hh : A.handled = none) (hl : ∃ o n, s.heap.get? l = some o ∧ o.cls = .type "list" ∧ o.dict = none ∧ o.data = .seq items.toArray n) (hx : kvs.length = items.length) (hsz : kvs.length ≤ sizeLine)
    (hval : ∀ (i : Nat) (v : Value), items[i]? = some v → ∃ k y key a, kvs[i]? = some (k, y) ∧ v = .ref a ∧ knd.is k key = true ∧ s.heap.IsTuple a #[key, y])
    (h : ∀ h' tk, h'.DictOf knd s.heap.objs.size (bK kvs) → (∀ b o, s.heap.get? b = some o → h'.get? b = some o) → Q (.ref s.heap.objs.size) { s with heap := h', toks := tk }) :
    wpAny (model prog w) A (call (.type "dict") [.ref l]) Q E s := by
  obtain ⟨ol, nl, hol, hcl, hdl, hsl⟩ := hl
  refine callType_codes (Q₁ := fun obj s₁ => obj = .ref s.heap.objs.size ∧ s₁ = { s with heap := s.heap.push { cls := .type "dict", data := .dict #[] } }) F.kt_called_dict (F.kt_typeCall_dict_1 _) F.entry_dict_init (kt_code_dict_new _ ⟨rfl, rfl⟩) ?_
  rintro obj s₁ ⟨rfl, rfl⟩
  have hnew : (s.heap.push { cls := .type "dict", data := .dict #[] }).DictOf knd s.heap.objs.size [] := Heap.DictOf.new s.heap
  refine ⟨hnew.typeIs, F.args_dict_init_2 _ _, ?_⟩
  have hol' : (s.heap.push { cls := .type "dict", data := .dict #[] }).get? l = some ol := Heap.get?_push_of_some _ hol
  unfold Builtin.«dict.__init__»
  refine wpAny_bind ?_
  unfold Builtin.Dict.selfAndRest
  refine wpAny_bind (wpAny_notOrdered_dict hnew.typeIs ?_)
  show wpAny _ _ (pure (s.heap.objs.size, [Value.ref l])) _ _ _
  refine wpAny_pure ?_
  show wpAny _ _ (Builtin.Dict.updateFrom "dict.__init__" s.heap.objs.size (.ref l) [] .none) _ _ _
  unfold Builtin.Dict.updateFrom
  refine wpAny_bind (wpAny_typeOf (T := "list") ⟨_, hol', hcl⟩ ?_)
  rw [if_pos (by decide)]
  refine wpAny_bind (getAttr?_miss_list hol' hcl hsl hdl list_no_keys (by decide) (by simpa using hh) ?_)
  intro h' tk e ne
  simp only [Option.isNone_none, if_true]
  refine wpAny_bind (wpAny_rule ?_)
  have kp : ∀ b o, (s.heap.push { cls := .type "dict", data := .dict #[] }).get? b = some o → h'.get? b = some o := ne.keeps
  have hl1 : h'.IsList l items.toArray := ⟨_, kp _ _ hol', hcl, nl, hsl⟩
  have hD1 : h'.DictOf knd s.heap.objs.size [] := by
    obtain ⟨o, es, ep, h1, r⟩ := hnew
    exact ⟨o, es, ep, kp _ _ h1, r⟩
  have hlS : l < s.heap.objs.size := Heap.lt_size hol
  have hSs : s.heap.objs.size < h'.objs.size := by
    obtain ⟨o, es, ep, h1, r⟩ := hD1
    exact Heap.lt_size h1
  refine wpAny_bind (wpAny_pyIter_list hl1 (wpAny_pure ⟨plainId_quiet plain_dup_loop _, ?_⟩))
  have hneI : l ≠ h'.objs.size := Nat.ne_of_lt (Nat.lt_trans hlS hSs)
  have hSf : s.heap.objs.size ∉ [h'.objs.size, l] := by
    simp only [List.mem_cons, List.not_mem_nil, or_false, not_or]
    exact ⟨Nat.ne_of_lt hSs, Nat.ne_of_gt hlS⟩
  have hh2 : A.in1.in1.handled = none := by simpa using hh
  refine dup_loopA ((Walks.list hh2 _ l hneI items.toArray).toS) s.heap.objs.size hSf s.heap kvs (by simpa using hx) hsz (fun i v hv => ?_) (items.toArray.size - 0) 0 _ rfl (Nat.zero_le _)
    ⟨⟨_, Heap.get?_push_size _ rfl, rfl, rfl⟩, (hl1.push _)⟩ (by
      obtain ⟨o, es, ep, h1, r⟩ := hD1
      exact ⟨o, es, ep, Heap.get?_push_of_some _ h1, r⟩) (fun b o hb1 hb2 e => Heap.get?_push_of_some _ (kp _ _ (Heap.get?_push_of_some _ e))) ?_
  · rw [List.getElem?_toArray] at hv
    obtain ⟨k, y, key, a, h1, h2, h3, h4⟩ := hval i v hv
    have ha : a < s.heap.objs.size := by obtain ⟨o, ho, _⟩ := h4; exact Heap.lt_size ho
    refine ⟨k, y, key, a, h1, h2, h3, h4, Nat.ne_of_lt ha, ?_⟩
    simp only [List.mem_singleton]
    exact Nat.ne_of_lt (Nat.lt_trans ha hSs)
  · intro s' hm T
    obtain ⟨h2, g', d', tk', os'⟩ := s'
    have eg : g' = s.gens := hm.gens
    have ed : d' = s.drawn := hm.drawn
    have eo : os' = s.os := hm.os
    subst eg ed eo
    refine ⟨rfl, h h2 tk' T fun b o e => ?_⟩
    have hb : b < s.heap.objs.size := Heap.lt_size e
    refine hm.heap b o ?_ (Heap.get?_push_of_some _ (kp _ _ (Heap.get?_push_of_some _ e)))
    simp only [List.mem_cons, List.not_mem_nil, or_false, not_or]
    exact ⟨Nat.ne_of_lt hb, Nat.ne_of_lt (Nat.lt_trans hb hSs)⟩
end
end PySem
namespace L2
open PySem PySem.Spec PyProof.Rows
def putAll (ks : List (Key × V)) : List (Key × V) := ks.foldl (fun acc p => putK acc p.1 p.2) []
def putAllM (kvs : List (Key × D)) : List (Key × D) := kvs.foldl (fun acc p => putM acc p.1 p.2) []
theorem kv_all : ∀ {ks : List (Key × V)} {vs : List (Key × Value)} {ka : List (Key × V)} {va : List (Key × Value)}, KV ks vs → KV ka va → KV (ks.foldl (fun acc p => putK acc p.1 p.2) ka) (vs.foldl (fun acc p => stored acc p.1 p.2) va) := by
  intro ks vs ka va r
  unfold KV at r
  induction r generalizing ka va with
  | nil => intro h; exact h
  | @cons p q ps qs h t ih =>
    intro ha
    rw [List.foldl_cons, List.foldl_cons]
    refine ih ?_
    rw [← h.1]
    exact ha.put p.1 h.2
theorem repk_all {K : PySem.W.Frag} {G : Hp} : ∀ {ks : List (Key × V)} {kvs : List (Key × D)} {ka : List (Key × V)} {va : List (Key × D)}, RepK K G ks kvs → RepK K G ka va → RepK K G (ks.foldl (fun acc p => putK acc p.1 p.2) ka) (kvs.foldl (fun acc p => putM acc p.1 p.2) va)
  | [], [], _, _, _, h => h
  | a :: ks, b :: kvs, ka, va, r, h => by
    simp only [RepK] at r
    rw [List.foldl_cons, List.foldl_cons]
    refine repk_all r.2 ?_
    rw [← r.1.1]
    exact h.put r.1.2
  | [], _ :: _, _, _, r, _ => by simp only [RepK] at r
  | _ :: _, [], _, _, r, _ => by simp only [RepK] at r
section
variable {X : Cx}
theorem call_dictA (hc : X.calm = true) : CallR X (.type "dict") (fun xs H Q => ∃ p ys ks, xs = [V.ref p] ∧ SqL X.K H p ys ∧ PairsV X.K H ys ks ∧ ∀ l ep, H l = none → Q (.ref l) (upd H l (.dK (putAll ks) ep))) := by
  intro pins s σ H xs us Q I r h
  obtain ⟨p, ys, ks, rfl, hq, hp, q⟩ := h
  obtain ⟨u, rfl, ru⟩ := vals1 r
  cases ru
  obtain ⟨its, rv, pl, hz⟩ := I.list hq
  obtain ⟨vs, kv, hval⟩ := hp.vals I rv
  have hlen : vs.length = its.length := by rw [← kv.length, ← hp.length, rv.length]
  obtain ⟨o, n, h1, h2, h3, h4⟩ := pl
  have hlen2 : vs.length ≤ sizeLine := by rw [hlen, ← rv.length]; exact hz
  have kva : KV (putAll ks) (bK vs) := kv_all kv (by unfold KV; exact .nil)
  refine dict_pairsA (knd := mixKind X.prog X.w) (kvs := vs) (items := its) (I.ok.hd hc) ⟨o, n, h1, h2, h3, h4⟩ hlen hlen2 hval fun h' tk dd kp => ?_
  have hf : H s.heap.objs.size = none := I.hok.fresh (Nat.le_refl _)
  obtain ⟨ep, da⟩ := at_of dd
  refine ⟨.ref s.heap.objs.size, _, I.laid (a := s.heap.objs.size) (o := .dK (putAll ks) ep) (t' := tk) kp (Nat.le_refl _) (dk_new (by rw [kva.length]; exact Nat.le_trans (bK_len vs) hlen2) ?_ kva da), rfl, q _ ep hf⟩
  have hb := I.big
  simpa using Nat.ne_of_gt hb
def oDictA : SpD := fun ds Q => match ds with
  | [.lst es] => match pairsOf es with
    | some kvs => Q (.ov (.dc (putAllM kvs)))
    | none => False
  | _ => False
theorem c_dictA (hc : X.calm = true) : CallP X (.type "dict") oDictA := by
  refine ⟨_, call_dictA hc, fun G H vs ds Q P s r h k => ?_⟩
  unfold oDictA at h
  split at h
  · rename_i es
    split at h
    · rename_i kvs hp
      cases vs with
      | nil => simp only [Reps] at r
      | cons v vs =>
        cases vs with
        | cons => simp only [Reps] at r; exact r.2.elim
        | nil =>
          simp only [Reps, Rep] at r
          obtain ⟨⟨a, ys, rfl, ha, ry⟩, _⟩ := r
          obtain ⟨ks, p1, p2⟩ := pairs_rep s hp ry
          refine ⟨a, ys, ks, rfl, (s.rdl ha).sq, p1, fun l ep hl => ?_⟩
          refine k _ _ (.ov (.dc (putAllM kvs))) G (.own s hl) ⟨l, [], rfl, by simp, ⟨rfl, putAll ks, ep, upd_same, repk_all p2 RepK.nil⟩, fun q hq => ?_⟩ h
          simp only [List.mem_singleton] at hq
          subst hq
          exact ⟨hl, s.free hl⟩
    · exact h.elim
  · exact h.elim
end
end L2
set_option Elab.async false
set_option linter.all false
set_option maxRecDepth 100000
set_option maxHeartbeats 1000000
namespace L2
open PySem
def Rise (xs : Array Nat) : Prop := xs.toList.Pairwise (· < ·)
theorem Rise.lt {xs : Array Nat} (h : Rise xs) {i k : Nat} (hi : i < k) (hk : k < xs.size) : xs[i] < xs[k] := by
  have := List.pairwise_iff_getElem.mp h i k (by simpa using Nat.lt_trans hi hk) (by simpa using hk) hi
  simpa using this
theorem below_go {xs : Array Nat} (h : Rise xs) (j : Nat) : ∀ (fuel lo hi : Nat), lo ≤ hi → hi ≤ xs.size → hi - lo ≤ fuel → (∀ i (hi' : i < xs.size), i < lo → xs[i] < j) → (∀ i (hi' : i < xs.size), hi ≤ i → j ≤ xs[i]) →
    SetTable.below.go xs j fuel lo hi ≤ xs.size ∧ (∀ i (hi' : i < xs.size), i < SetTable.below.go xs j fuel lo hi → xs[i] < j) ∧ ∀ i (hi' : i < xs.size), SetTable.below.go xs j fuel lo hi ≤ i → j ≤ xs[i]
  | 0, lo, hi, h1, h2, h3, a, b => by
    have e : lo = hi := by omega
    subst e
    exact ⟨h2, a, b⟩
  | fuel + 1, lo, hi, h1, h2, h3, a, b => by
    unfold SetTable.below.go
    by_cases c : lo < hi
    · rw [if_pos c]
      have hm : (lo + hi) / 2 < xs.size := by omega
      have hg : xs.getD ((lo + hi) / 2) j = xs[(lo + hi) / 2] := by simp [Array.getD, hm]
      simp only [hg]
      by_cases d : xs[(lo + hi) / 2] < j
      · rw [if_pos d]
        refine below_go h j fuel _ hi (by omega) h2 (by omega) (fun i hi' hlt => ?_) b
        by_cases e : i = (lo + hi) / 2
        · subst e; exact d
        · exact Nat.lt_trans (h.lt (by omega) hm) d
      · rw [if_neg d]
        refine below_go h j fuel lo _ (by omega) (by omega) (by omega) a (fun i hi' hle => ?_)
        by_cases e : i = (lo + hi) / 2
        · subst e; omega
        · have := h.lt (show (lo + hi) / 2 < i by omega) hi'
          omega
    · rw [if_neg c]
      have e : lo = hi := by omega
      subst e
      exact ⟨h2, a, b⟩
theorem below_spec {xs : Array Nat} (h : Rise xs) (j : Nat) : SetTable.below xs j ≤ xs.size ∧ (∀ i (hi' : i < xs.size), i < SetTable.below xs j → xs[i] < j) ∧ ∀ i (hi' : i < xs.size), SetTable.below xs j ≤ i → j ≤ xs[i] :=
  below_go h j xs.size 0 xs.size (Nat.zero_le _) (Nat.le_refl _) (by omega) (fun i _ z => absurd z (Nat.not_lt_zero _)) (fun i hi z => absurd hi (by omega))
theorem below_next {xs : Array Nat} (h : Rise xs) (i : Nat) (hi : i < xs.size) : SetTable.below xs (xs[i] + 1) = i + 1 := by
  obtain ⟨a, b, c⟩ := below_spec h (xs[i] + 1)
  generalize SetTable.below xs (xs[i] + 1) = p at a b c
  by_cases h1 : p ≤ i
  · have := c i hi h1
    omega
  · by_cases h2 : i + 1 < p
    · have := b (i + 1) (by omega) h2
      have := h.lt (show i < i + 1 by omega) (show i + 1 < xs.size by omega)
      omega
    · omega
theorem below_zero {xs : Array Nat} (h : Rise xs) : SetTable.below xs 0 = 0 := by
  obtain ⟨a, b, c⟩ := below_spec h 0
  generalize SetTable.below xs 0 = p at a b c
  cases p with
  | zero => rfl
  | succ p =>
    have := b 0 (by omega) (by omega)
    omega
theorem insert_toList {α : Type} (xs : Array α) (p : Nat) (x : α) : (SetTable.insertAt xs p x).toList = xs.toList.take p ++ x :: xs.toList.drop p := by
  unfold SetTable.insertAt
  simp only [Array.toList_append, Array.toList_push, Array.toList_extract, List.extract_eq_take_drop, Nat.sub_zero, List.drop_zero, List.append_assoc, List.singleton_append]
  congr 2
  exact List.take_of_length_le (by simp)
theorem insert_rise {xs : Array Nat} (h : Rise xs) (j : Nat) (hj : xs[SetTable.below xs j]? ≠ some j) : Rise (SetTable.insertAt xs (SetTable.below xs j) j) := by
  obtain ⟨a, b, c⟩ := below_spec h j
  unfold Rise
  rw [insert_toList]
  generalize hp : SetTable.below xs j = p at a b c hj
  have e : xs.toList = xs.toList.take p ++ xs.toList.drop p := (List.take_append_drop _ _).symm
  have h' := h
  unfold Rise at h'
  rw [e, List.pairwise_append] at h'
  obtain ⟨t1, t2, t3⟩ := h'
  have lo : ∀ x ∈ xs.toList.take p, x < j := fun x hx => by
    obtain ⟨i, hi, rfl⟩ := List.mem_take_iff_getElem.mp hx
    have hi2 : i < xs.size := by simp at hi; omega
    have := b i hi2 (by omega)
    simpa using this
  have up : ∀ x ∈ xs.toList.drop p, j < x := fun x hx => by
    obtain ⟨i, hi, rfl⟩ := List.mem_drop_iff_getElem.mp hx
    have hi2 : p + i < xs.size := by simp at hi; omega
    have h1 := c (p + i) hi2 (by omega)
    have h2 : j ≠ xs[p + i] := fun z => by
      cases i with
      | zero => exact hj (by rw [Array.getElem?_eq_getElem (by omega)]; exact congrArg some z.symm)
      | succ i =>
        have h3 := c p (by omega) (Nat.le_refl _)
        have h4 := h.lt (show p < p + (i + 1) by omega) hi2
        omega
    simp
    omega
  rw [List.pairwise_append, List.pairwise_cons]
  refine ⟨t1, ⟨up, t2⟩, fun x hx y hy => ?_⟩
  rcases List.mem_cons.mp hy with rfl | hy
  · exact lo x hx
  · exact Nat.lt_trans (lo x hx) (up y hy)
theorem slot_free {t : SetTable} {j : Nat} (h : t.slot j = .empty ∨ t.slot j = .dummy) : t.place[SetTable.below t.place j]? ≠ some j := fun z => by
  have e : t.slot j = .live (SetTable.below t.place j) := by
    unfold SetTable.slot
    simp [z]
  rw [e] at h
  rcases h with h | h <;> cases h
theorem probe_go {t : SetTable} {ha : Nat → Int} {h : Int} : ∀ (fuel : Nat) (p : SetTable.Probe) (j : Nat) (dm : Option Nat), (∀ d, p.dummy = some d → t.slot d = .dummy) → SetTable.probe.go t ha h fuel p = some (.empty j dm) → t.slot j = .empty ∧ ∀ d, dm = some d → t.slot d = .dummy
  | 0, p, j, dm, _, e => by unfold SetTable.probe.go at e; cases e
  | fuel + 1, p, j, dm, hd, e => by
    have adv : ∀ q : SetTable.Probe, (t.advance q).dummy = q.dummy := fun q => by
      unfold SetTable.advance
      split <;> rfl
    unfold SetTable.probe.go at e
    cases hs : t.slot p.j with
    | empty =>
      rw [hs] at e
      cases e
      exact ⟨hs, hd⟩
    | dummy =>
      rw [hs] at e
      refine probe_go fuel _ j dm (fun d z => ?_) e
      rw [adv] at z
      cases z
      exact hs
    | live i =>
      rw [hs] at e
      dsimp only at e
      split at e
      · cases e
      · refine probe_go fuel _ j dm (fun d z => ?_) e
        rw [adv] at z
        exact hd d z
theorem freeSlot_free {t : SetTable} {h : Int} {j : Nat} {b : Bool} (e : t.freeSlot h = some (j, b)) : t.place[SetTable.below t.place j]? ≠ some j := by
  unfold SetTable.freeSlot at e
  split at e
  · rename_i j' dm he
    obtain ⟨h1, h2⟩ := probe_go _ _ _ _ (fun d z => by cases z) he
    cases dm with
    | none => cases e; exact slot_free (.inl h1)
    | some d => cases e; exact slot_free (.inr (h2 d rfl))
  · cases e
theorem range_rise (n : Nat) : Rise (Array.range n) := by
  unfold Rise
  rw [Array.toList_range]
  exact List.pairwise_lt_range
theorem standIn_rise (t : SetTable) (n : Nat) : Rise (t.standIn n).place := range_rise n
theorem layNew_rise {t : SetTable} (h : Rise t.place) (es : Array (Int × Value)) (hh : Int) (x : Value) : Rise (layNew t es hh x).2.1.place := by
  unfold layNew
  split
  · rename_i sl wd he
    dsimp only
    unfold SetTable.orStandIn
    split
    · exact insert_rise h sl (freeSlot_free he)
    · exact standIn_rise _ _
  · exact standIn_rise _ _
theorem relaid_rise {t t' : SetTable} {hs : Array Int} {n : Nat} {o : Array Nat} (e : t.relaid hs n = some (t', o)) : Rise t'.place := by
  unfold SetTable.relaid SetTable.laid at e
  cases hc : SetTable.layClean (SetTable.sizeAbove n - 1) hs with
  | none => rw [hc] at e; cases e
  | some owner =>
    rw [hc] at e
    cases e
    unfold Rise
    show List.Pairwise _ (List.map _ (List.filterMap _ (List.range _)))
    rw [List.pairwise_map, List.pairwise_filterMap]
    refine List.pairwise_lt_range.imp fun {a b} hab x hx y hy => ?_
    obtain ⟨u, _, rfl⟩ := Option.map_eq_some_iff.mp hx
    obtain ⟨v, _, rfl⟩ := Option.map_eq_some_iff.mp hy
    exact hab
theorem relayAll_rise {t : SetTable} (es : Array (Int × Value)) (n : Nat) : Rise (relayAll t es n).2.1.place := by
  unfold relayAll
  split
  · rename_i t' order hr
    dsimp only
    split
    · exact relaid_rise hr
    · exact standIn_rise _ _
  · exact standIn_rise _ _
end L2
set_option Elab.async false
set_option linter.all false
set_option maxRecDepth 100000
set_option maxHeartbeats 3200000
namespace L2
namespace SI
open PySem PySem.Spec PyProof.Rows
def intOf : Value → Int
  | .int i _ => i
  | _ => 0
theorem relayAll_led (t : SetTable) (es : Array (Int × Value)) (wanted : Nat) : (relayAll t es wanted).2.1.led = t.led := by
  unfold relayAll
  split
  · rename_i t' order hr
    obtain ⟨h1, h2⟩ := relaid_marks hr
    dsimp only
    split
    · exact h1
    · rfl
  · rfl
section
variable {prog : Program} {w : World} {A : Around} {E : Value → Shared → Prop} {s : Shared}
structure Marks (w : World) (es : Array (Int × Value)) (t : SetTable) : Prop where
  led : t.led = !(w.params.followText "set-order")
  rise : Rise t.place
structure SetAt (prog : Program) (w : World) (h : Heap) (a : Addr) (es : Array (Int × Value)) (ep : Nat) (t : SetTable) : Prop where
  at_ : h.get? a = some { cls := .type "set", dict := none, data := .set es ep t, slots := #[] }
  el : ElemsOf (intKind prog w) es.toList
  small : es.size < scanBound
  fits : t.fits es.size = true
  marks : Marks w es t
def Mem (prog : Program) (w : World) (es : Array (Int × Value)) (k : Int) : Prop := ∃ e ∈ es.toList, (intKind prog w).is k e.2 = true
theorem set_add {a : Addr} {es : Array (Int × Value)} {ep : Nat} {t : SetTable} {x : Int} {tk : Tok} {Q : Bool → Shared → Prop} (S : SetAt prog w s.heap a es ep t) (room : es.size + 1 < scanBound)
    (h : ∀ h' es' ep' t', Heap.SameBut a s.heap h' → SetAt prog w h' a es' ep' t' → ((es' = es ∧ Mem prog w es x) ∨ (¬ Mem prog w es x ∧ List.Perm es'.toList (es.toList ++ [(hashInt x, .int x tk)]))) → ∀ b, Q b { s with heap := h' }) :
    wpAny (model prog w) A (setAddHashed a (.int x tk) ((intKind prog w).hash x)) Q E s := by
  have hkey : (intKind prog w).is x (.int x tk) = true := by show Value.isInt x (.int x tk) = true; simp [Value.isInt]
  have hsc : (Value.int x tk).scannable = true := rfl
  have ho := S.at_
  unfold setAddHashed setAddHashedIn
  refine wpAny_holding (wpAny_bind (wpAny_setState_of ho rfl S.fits ?_))
  dsimp only
  rw [byScan_of hsc S.small S.el]
  simp only [↓reduceIte]
  unfold setAddByScan
  refine wpAny_bind (wpAny_bind (wpAny_rule (wpAny_bind (wpAny_setScan_of hkey ho rfl S.fits S.el ?_))))
  cases hr : List.findIdx? (fun e => (intKind prog w).is x e.2) es.toList with
  | some j =>
    dsimp only
    obtain ⟨hj, hpj, _⟩ := List.findIdx?_eq_some_iff_getElem.mp hr
    refine wpAny_pure (wpAny_pure ?_)
    exact h s.heap es ep t (Heap.SameBut.refl a s.heap) S (.inl ⟨rfl, es.toList[j], List.getElem_mem hj, hpj⟩) _
  | none =>
    dsimp only
    have hno : ¬ Mem prog w es x := fun ⟨e, he, hp⟩ => by
      have := List.findIdx?_eq_none_iff.mp hr e he
      rw [hp] at this
      cases this
    have way : ∀ (b : Bool) {s1 : Shared} {Q' : Unit → Shared → Prop}, Q' () s1 → wpAny (model prog w) A (match b with | true => rule "set.scan.the-table-gave-way" | false => pure ()) Q' E s1 := fun b s1 Q' q => by
      cases b
      · exact wpAny_pure q
      · exact wpAny_rule q
    have hperm := layNew_perm t es ((intKind prog w).hash x) (.int x tk)
    have hfits := layNew_fits t es ((intKind prog w).hash x) (.int x tk)
    have hled := layNew_led t es ((intKind prog w).hash x) (.int x tk)
    have hrise := layNew_rise S.marks.rise es ((intKind prog w).hash x) (.int x tk)
    generalize layNew t es ((intKind prog w).hash x) (.int x tk) = L at hperm hfits hled hrise ⊢
    obtain ⟨es1, t1, dum, gave⟩ := L
    dsimp only at hperm hfits hled hrise ⊢
    rw [Array.toList_push] at hperm
    have hel1 : ElemsOf (intKind prog w) es1.toList := (S.el.push hkey hsc).perm hperm
    have hsz : es1.size = es.size + 1 := by rw [← Array.length_toList, hperm.length_eq, List.length_append, Array.length_toList]; rfl
    have hb1 : es1.size < scanBound := by omega
    refine wpAny_bind (way _ ?_)
    -- the table, not plain any more
    have tail : ∀ (g : Bool → Sem Unit), (∀ (b : Bool) (s1 : Shared) (Q' : Unit → Shared → Prop), Q' () s1 → wpAny (model prog w) A (g b) Q' E s1) → ∀ t2 : SetTable, t2.fits es1.size = true → t2.led = t.led → Rise t2.place → wpAny (model prog w) A (do
        storeSet a es1 t2
        if (!dum && t2.tooFull) = true then do
            g (relayAll t2 es1 (SetTable.grown es1.size)).2.2
            storeSet a (relayAll t2 es1 (SetTable.grown es1.size)).1 (relayAll t2 es1 (SetTable.grown es1.size)).2.1
            pure (some true)
          else pure (some true)) (fun r s' => wpAny (model prog w) A (match r with | some added => pure added | none => setAddHashedIn a (Value.int x tk) ((intKind prog w).hash x) 99999) Q E s') E s := by
      intro g hg t2 f2 l2 p2
      refine wpAny_bind (store_set ho hb1 fun h1 sb1 g1 => ?_)
      have fin1 : ∀ b, Q b { s with heap := h1 } := h h1 es1 _ t2 sb1 ⟨g1, hel1, hb1, f2, ⟨l2.trans S.marks.led, p2⟩⟩ (.inr ⟨hno, hperm⟩)
      split
      · have hp := relayAll_perm t2 es1 (SetTable.grown es1.size)
        have hfr := relayAll_fits t2 es1 (SetTable.grown es1.size)
        have hml := relayAll_led t2 es1 (SetTable.grown es1.size)
        have hmr := relayAll_rise (t := t2) es1 (SetTable.grown es1.size)
        generalize relayAll t2 es1 (SetTable.grown es1.size) = Rl at hp hfr hml hmr ⊢
        obtain ⟨es2, t3, gave2⟩ := Rl
        dsimp only at hp hfr hml hmr ⊢
        have hs2 : es2.size = es1.size := by rw [← Array.length_toList, hp.length_eq, Array.length_toList]
        refine wpAny_bind (hg _ _ _ ?_)
        refine wpAny_bind (store_set (s := { s with heap := h1 }) g1 (by rw [hs2]; exact hb1) fun h2 sb2 g2 => wpAny_pure (wpAny_pure ?_))
        exact h h2 es2 _ t3 (sb1.trans sb2) ⟨g2, hel1.perm hp, by rw [hs2]; exact hb1, hfr, ⟨(hml.trans l2).trans S.marks.led, hmr⟩⟩ (.inr ⟨hno, hp.trans hperm⟩) _
      · exact wpAny_pure (wpAny_pure (fin1 _))
    by_cases hpl : t1.plain = true
    · rw [if_pos hpl]
      refine wpAny_bind ?_
      rw [hashByValue_scannable 8 hsc]
      refine wpAny_pure ?_
      have hk : plainKind (.int x tk) = true := rfl
      rw [hk]
      simp only [if_true]
      exact tail _ (fun b s1 Q' q => by cases b <;> first | exact wpAny_pure q | exact wpAny_rule q) t1 hfits hled hrise
    · rw [if_neg hpl]
      refine wpAny_bind (wpAny_pure ?_)
      simp only [if_true]
      exact tail _ (fun b s1 Q' q => by cases b <;> first | exact wpAny_pure q | exact wpAny_rule q) t1 hfits hled hrise
def keysOf (es : Array (Int × Value)) : List Int := es.toList.map fun e => intOf e.2
theorem mem_keys {es : Array (Int × Value)} (el : ElemsOf (intKind prog w) es.toList) (k : Int) : Mem prog w es k ↔ k ∈ keysOf es := by
  unfold Mem keysOf
  rw [List.mem_map]
  constructor
  · rintro ⟨e, he, hk⟩
    obtain ⟨t, ht⟩ := Value.isInt_shape hk
    exact ⟨e, he, by rw [ht]; rfl⟩
  · rintro ⟨e, he, rfl⟩
    obtain ⟨⟨k, hk, _⟩, _⟩ := el e he
    obtain ⟨t, ht⟩ := Value.isInt_shape hk
    refine ⟨e, he, ?_⟩
    rw [ht]
    show Value.isInt k (.int k t) = true
    simp [Value.isInt]
theorem keys_perm {es es' : Array (Int × Value)} {x : Int} {tk : Tok} {hs : Int} (p : List.Perm es'.toList (es.toList ++ [(hs, .int x tk)])) : List.Perm (keysOf es') (keysOf es ++ [x]) := by
  have := p.map fun e => intOf e.2
  rw [List.map_append] at this
  exact this
structure Holds (es : Array (Int × Value)) (xs : List Int) : Prop where
  nd : (keysOf es).Nodup
  mem : ∀ x, x ∈ keysOf es ↔ x ∈ xs
  len : es.size ≤ xs.length
theorem Holds.put {es es' : Array (Int × Value)} {xs : List Int} {x : Int} {tk : Tok} (H : Holds es xs) (el : ElemsOf (intKind prog w) es.toList)
    (h : (es' = es ∧ Mem prog w es x) ∨ (¬ Mem prog w es x ∧ List.Perm es'.toList (es.toList ++ [(hashInt x, .int x tk)]))) : Holds es' (xs ++ [x]) := by
  rcases h with ⟨rfl, hm⟩ | ⟨hm, hp⟩
  · refine ⟨H.nd, fun y => ?_, by simp; have := H.len; omega⟩
    rw [List.mem_append, ← H.mem, List.mem_singleton]
    constructor
    · exact .inl
    · rintro (h | rfl)
      · exact h
      · exact (mem_keys el _).mp hm
  · have hk := keys_perm hp
    refine ⟨hk.nodup_iff.mpr ?_, fun y => ?_, ?_⟩
    · rw [List.nodup_append]
      refine ⟨H.nd, by simp, fun a ha b hb => ?_⟩
      rw [List.mem_singleton.mp hb]
      rintro rfl
      exact hm ((mem_keys el _).mpr ha)
    · rw [hk.mem_iff, List.mem_append, List.mem_append, H.mem]
    · have e1 := hk.length_eq
      have e2 : (keysOf es').length = es'.size := by simp [keysOf]
      have e3 : (keysOf es).length = es.size := by simp [keysOf]
      have := H.len
      simp only [List.length_append, List.length_cons, List.length_nil] at e1 ⊢
      omega
theorem SetAt.kept {h h' : Heap} {a : Addr} {es : Array (Int × Value)} {ep : Nat} {t : SetTable} (S : SetAt prog w h a es ep t) (k : ∀ o, h.get? a = some o → h'.get? a = some o) : SetAt prog w h' a es ep t := ⟨k _ S.at_, S.el, S.small, S.fits, S.marks⟩
end
section
variable {prog : Program} {w : World} {A : Around} {R : Result → Shared → Prop} {I : Addr} {fp wr : List Addr} {G : Array GenState → Array GenState → Prop} {n : Nat} {P : Nat → Value → Prop} {St : Nat → Shared → Prop}
theorem fill_loop (W : WalksS prog w A.in1 I fp wr G n P St) (S : Addr) (hSf : S ∉ fp) (xs : List Int) (hx : xs.length = n) (hval : ∀ i v, P i v → ∃ x t, xs[i]? = some x ∧ v = .int x t) (hb : n + 1 < scanBound) :
    ∀ (k i : Nat) (s : Shared) (es : Array (Int × Value)) (ep : Nat) (t : SetTable), n - i = k → i ≤ n → St i s → SetAt prog w s.heap S es ep t → Holds es (xs.take i) →
      (∀ s' es' ep' t', Moved (S :: wr) G s s' → SetAt prog w s'.heap S es' ep' t' → Holds es' xs → R (.ok (.ret .none)) s') → codeAny (model prog w) A (.builtin "set.update.loop" ⟨[.ref S, .ref I], []⟩) R s := by
  have offW : S ∉ wr := fun h => hSf (W.sub _ h)
  have more : ∀ b ∈ wr, b ∈ S :: wr := fun b hb => List.mem_cons_of_mem _ hb
  intro k
  induction k with
  | zero =>
    intro i s es ep t hk hi st T H q
    have e : i = n := by omega
    subst e
    refine codeAny_builtin PyProof.Rows.F.entry_set_update_loop ?_
    rw [Around.under_plainId PyProof.Rows.F.plain_set_update_loop _]
    show wpAny _ A.in1 (pyNext (.ref I) >>= _) _ _ s
    refine wpAny_bind (W.done s _ _ st fun s' hm => ?_)
    show wpAny _ A.in1 (ret Value.none) _ _ s'
    rw [← hx, List.take_length] at H
    exact wpAny_pure (q s' es ep t (hm.mono more) (T.kept fun o e => hm.heap S _ offW e) H)
  | succ k ih =>
    intro i s es ep t hk hi st T H q
    have hlt : i < n := by omega
    refine codeAny_builtin PyProof.Rows.F.entry_set_update_loop ?_
    rw [Around.under_plainId PyProof.Rows.F.plain_set_update_loop _]
    show wpAny _ A.in1 (pyNext (.ref I) >>= _) _ _ s
    refine wpAny_bind (W.item i s _ _ hlt st fun v s' hP st' hm => ?_)
    obtain ⟨x, tk, hxi, rfl⟩ := hval i v hP
    have T' : SetAt prog w s'.heap S es ep t := T.kept fun o e => hm.heap S _ offW e
    show wpAny _ A.in1 (holding [Value.int x tk] (setAdd S (.int x tk)) >>= _) _ _ s'
    refine wpAny_bind (wpAny_holding ?_)
    unfold setAdd
    refine wpAny_holding (wpAny_bind ((intKind prog w).pyHash (k := x) (by show Value.isInt x (.int x tk) = true; simp [Value.isInt]) ?_))
    have hl := H.len
    rw [List.length_take] at hl
    refine set_add (s := { s' with toks := s'.toks + 1 }) T' (by omega) fun h' es' ep' t' sb T2 hput b => ?_
    have tk1 : xs.take (i + 1) = xs.take i ++ [x] := by rw [List.take_add_one, hxi]; rfl
    have H2 : Holds es' (xs.take (i + 1)) := by rw [tk1]; exact H.put T.el hput
    refine wpAny_pure ⟨plainId_quiet PyProof.Rows.F.plain_set_update_loop _, ih (i + 1) _ es' ep' t' (by omega) hlt (W.frame _ s' _ _ st' (Nat.le_succ _) fun b hb o e => ?_) T2 H2 fun s2 es2 ep2 t2 hm2 T3 H3 => ?_⟩
    · rw [sb.2 b (fun z : b = S => hSf (by rw [← z]; exact hb))]; exact e
    · refine q s2 es2 ep2 t2 (Moved.trans W.gtrans ((hm.mono more).then_heap (Nat.le_succ _) fun b o hb e => ?_) hm2) T3 H3
      rw [sb.2 b (fun z : b = S => hb (by rw [z]; exact List.mem_cons_self))]; exact e
end
section
variable {prog : Program} {w : World} {A : Around} {E : Value → Shared → Prop} {s : Shared}
theorem bare_at {h : Heap} {a : Addr} (e : h.get? a = some (bareSet w)) : SetAt prog w h a #[] 0 (.fresh 0 0 (!(w.params.followText "set-order"))) :=
  ⟨e, fun x hx => by simp at hx, by show 0 < 4096; decide, by simp [SetTable.fits, SetTable.fresh, SetTable.fill], ⟨rfl, by show List.Pairwise _ ([] : List Nat); exact .nil⟩⟩
theorem set_ints {l : Addr} {items : List Value} {xs : List Int} {Q : Value → Shared → Prop} (hh : A.handled = none) (hl : s.heap.IsList l items.toArray) (hi : IntsAre items xs) (hb : xs.length + 1 < scanBound)
    (h : ∀ (h' : Heap) (tk : Nat) es ep t, SetAt prog w h' s.heap.objs.size es ep t → L2.SI.Holds es xs → (∀ b o, b < s.heap.objs.size → s.heap.get? b = some o → h'.get? b = some o) → Q (.ref s.heap.objs.size) { s with heap := h', toks := tk }) :
    wpAny (model prog w) A (call (.type "set") [.ref l]) Q E s := by
  obtain ⟨c, tl, hmro⟩ := PySem.F.called_set.mro
  have hmade := PySem.F.called_set.made
  have hsub := PySem.F.called_set.sub
  refine wpAny_call (codeAny_of_tree ?_)
  show wpAny _ _ (callAny (.type "set") _) _ _ _
  refine wpAny_pure ⟨Code.quiet_builtin _ (by decide +kernel), codeAny_builtin PySem.F.entry_type_call ?_⟩
  rw [Around.under_plain (weight_type_call_type "set" [.ref l] []) rfl]
  have h1 := PySem.F.called_set.notType
  have h2 := PySem.F.called_set.canCreate
  have hct := PySem.F.typeCall_set_1 (.ref l)
  repeat (any_goals (first | assumption | wp_step))
  refine codeAny_mono (bare_new (.ref l) (E := E) (Q1 := fun obj s1 => obj = .ref s.heap.objs.size ∧ s1 = { s with heap := s.heap.push (bareSet w) }) ⟨rfl, rfl⟩) fun r s1 hr => ?_
  cases r with
  | error e => exact hr
  | ok fl =>
    cases fl with
    | ret obj =>
      obtain ⟨rfl, rfl⟩ := hr
      have hS : (s.heap.push (bareSet w)).get? s.heap.objs.size = some (bareSet w) := Heap.get?_push_size _ rfl
      have hT : Shared.TypeIs { s with heap := s.heap.push (bareSet w) } (.ref s.heap.objs.size) "set" := ⟨_, hS, rfl⟩
      have hli := PySem.F.called_set.init.lookup
      have hbi := PySem.F.called_set.init.bind (.ref s.heap.objs.size)
      repeat (any_goals (first | assumption | wp_step))
      refine codeAny_mono (codeAny_call_builtin (R := wants (fun r s2 => r = .none ∧ ∃ h' tk es ep t, s2 = { s with heap := h', toks := tk } ∧ SetAt prog w h' s.heap.objs.size es ep t ∧ L2.SI.Holds es xs ∧
          (∀ b o, b < s.heap.objs.size → s.heap.get? b = some o → h'.get? b = some o)) E) PySem.F.called_set.init.plain PySem.F.entry_set_init (check_set_init_1 hT ?_)) fun r2 s2 hr2 => ?_
      · obtain ⟨ol, hol, hcl, nl, hdl⟩ := hl
        obtain ⟨ocls, odict, odata, oslots⟩ := ol
        simp only at hcl hdl
        subst hcl hdl
        have hol' : (s.heap.push (bareSet w)).get? l = some { cls := .type "list", dict := odict, data := .seq items.toArray nl, slots := oslots } := Heap.get?_push_of_some _ hol
        have hsls := PySem.F.sub_list_set
        have hslf := PySem.F.sub_list_frozenset
        have hne : (Value.type "list" == Value.type "dict") = false := by decide
        have hl1 : (s.heap.push (bareSet w)).IsList l items.toArray := ⟨_, hol', rfl, nl, rfl⟩
        unfold Builtin.«set.__init__» noKeywords Builtin.Frozenset.updateFrom
        generalize hPI : pyIter = PI
        wp_walk
        subst hPI
        refine wpAny_pyIter_list hl1 (wpAny_bind (wpAny_runValue ?_))
        have hlS : l < s.heap.objs.size := Heap.lt_size hol
        have hh3 : A.in1.in1.in1.handled = none := by simp [hh]
        have hsz : (s.heap.push (bareSet w)).objs.size = s.heap.objs.size + 1 := Heap.size_push ..
        have hneI : l ≠ (s.heap.push (bareSet w)).objs.size := by rw [hsz]; exact Nat.ne_of_lt (Nat.lt_succ_of_lt hlS)
        have hSf : s.heap.objs.size ∉ [(s.heap.push (bareSet w)).objs.size, l] := by
          rw [hsz]
          simp only [List.mem_cons, List.not_mem_nil, or_false, not_or]
          exact ⟨Nat.ne_of_lt (Nat.lt_succ_self _), Nat.ne_of_gt hlS⟩
        have hxn : xs.length = items.toArray.size := by
          rw [List.size_toArray]
          clear hol hol' hl1 h hb
          induction hi with
          | nil => rfl
          | cons _ _ _ ih => simp [ih]
        have hval : ∀ (i : Nat) (v : Value), items.toArray[i]? = some v → ∃ x t, xs[i]? = some x ∧ v = .int x t := fun i v hv => by
          rw [List.getElem?_toArray] at hv
          clear hol hol' hl1 h hb hxn
          induction hi generalizing i with
          | nil => simp at hv
          | cons x t hr ih =>
            cases i with
            | zero => simp at hv; exact ⟨x, t, rfl, hv.symm⟩
            | succ i => simp only [List.getElem?_cons_succ] at hv ⊢; exact ih i hv
        refine fill_loop ((Walks.list hh3 _ l hneI items.toArray).toS) s.heap.objs.size hSf xs hxn hval (by omega) (items.toArray.size - 0) 0 _ #[] 0 _ (by omega) (Nat.zero_le _)
          ⟨⟨_, Heap.get?_push_size _ rfl, rfl, rfl⟩, (hl1.push _)⟩ (bare_at (Heap.get?_push_of_some _ hS)) ⟨by simp [keysOf], by simp [keysOf], by simp⟩ ?hR
        case hR =>
          intro s' es ep t hm T H
          obtain ⟨h', g', d', tk', os'⟩ := s'
          have eg : g' = s.gens := hm.gens
          have ed : d' = s.drawn := hm.drawn
          have eo : os' = s.os := hm.os
          subst eg ed eo
          show wpAny _ _ _ _ _ _
          refine wpAny_pure ?_
          show wpAny _ _ (ret Value.none) _ _ _
          refine wpAny_pure ⟨rfl, h', tk', es, ep, t, rfl, T, H, fun b o hb e => ?_⟩
          refine hm.heap b o ?_ (Heap.get?_push_of_some _ (Heap.get?_push_of_some _ e))
          rw [hsz]
          simp only [List.mem_cons, List.not_mem_nil, or_false, not_or]
          exact ⟨Nat.ne_of_lt hb, Nat.ne_of_lt (Nat.lt_succ_of_lt hb)⟩
      · cases r2 with
        | error e => exact hr2
        | ok fl2 =>
          cases fl2 with
          | ret r =>
            obtain ⟨rfl, h', tk, es, ep, t, rfl, T, H, hk'⟩ := hr2
            repeat (any_goals (first | assumption | wp_step))
            exact h _ _ es ep t T H hk'
          | _ => exact hr2.elim
    | _ => exact hr.elim
end
section
variable {prog : Program} {w : World} {A : Around} {E : Value → Shared → Prop} {s : Shared}
theorem entries_of {a : Addr} {es : Array (Int × Value)} {ep : Nat} {t : SetTable} {Q : Array (Int × Value) → Shared → Prop} (S : SetAt prog w s.heap a es ep t) (h : Q es s) : wpAny (model prog w) A (setEntries a) Q E s := by
  unfold setEntries
  exact wpAny_bind (wpAny_setState_of S.at_ rfl S.fits (wpAny_pure h))
end
section
variable {prog : Program} {w : World} {A : Around} {E : Value → Shared → Prop} {s : Shared}
theorem next_int {I S : Addr} {es : Array (Int × Value)} {ep : Nat} {t : SetTable} {sl i : Nat} {Q : Option Value → Shared → Prop} (hh : A.handled = none) (hI : s.heap.get? I = some (itObj (.int sl 0) i S es.size ep)) (T : SetAt prog w s.heap S es ep t) (r : Option (Value × Nat))
    (hN : ∀ (Q' : Option (Value × Nat) → Shared → Prop) (E' : Value → Shared → Prop), Q' r s → wpAny (model prog w) A.in1 (setNext S sl i ep) Q' E' s)
    (hs : ∀ x j, r = some (x, j) → ∀ h', Heap.SameBut I s.heap h' → h'.get? I = some (itObj (.int j 0) (i + 1) S es.size ep) → Q (some x) { s with heap := h' })
    (hn : r = none → ∀ h', Heap.ExtBut I s.heap h' → Q none { s with heap := h' }) : wpAny (model prog w) A (pyNext (.ref I)) Q E s := by
  have hT : s.TypeIs (.ref I) "set_iterator" := ⟨_, hI, rfl⟩
  unfold pyNext
  refine wpAny_bind (wpAny_attempt (wpAny_callSpecial?_slot (name := Str.ofString "__next__") hT sl_next (wpAny_call_entry sl_next hT en_next ?_ (ar_next _))))
  show wpAny _ _ (fieldsOf (.ref I) >>= _) _ _ s
  refine wpAny_bind (wpAny_fieldsOf hI rfl ?_)
  dsimp only
  refine wpAny_bind (entries_of T ?_)
  simp only [bne_self_eq_false, Bool.false_eq_true, if_false]
  simp only [Int.toNat_natCast]
  refine wpAny_bind (hN _ _ ?_)
  cases r with
  | none => exact stop_now hh hI rfl (by simp) (hn rfl)
  | some p =>
    obtain ⟨x, j⟩ := p
    dsimp only
    refine wpAny_bind (wpAny_setField_rec hI (by simp) fun h1 g1 b1 => ?_)
    refine wpAny_bind (wpAny_setField_rec (s := { s with heap := h1 }) g1 (by simp) fun h2 g2 b2 => ?_)
    refine wpAny_pure ⟨x, rfl, wpAny_pure (hs x j rfl h2 (b1.trans b2) ?_)⟩
    rw [g2]
    simp [rawInt]
theorem next_ref {I S Tp : Addr} {es : Array (Int × Value)} {ep : Nat} {t : SetTable} {ps : List Nat} {i : Nat} {Q : Option Value → Shared → Prop} (hh : A.handled = none) (hI : s.heap.get? I = some (itObj (.ref Tp) i S es.size ep)) (T : SetAt prog w s.heap S es ep t)
    (hTp : s.heap.get? Tp = some { cls := .type "tuple", data := .seq (ps.map fun (p : Nat) => rawInt p).toArray })
    (hs : ∀ p e, ps[i]? = some p → es[p]? = some e → ∀ h', Heap.SameBut I s.heap h' → h'.get? I = some (itObj (.ref Tp) (i + 1) S es.size ep) → Q (some e.2) { s with heap := h' })
    (hin : ∀ p ∈ ps, p < es.size) (hn : ps[i]? = none → ∀ h', Heap.ExtBut I s.heap h' → Q none { s with heap := h' }) : wpAny (model prog w) A (pyNext (.ref I)) Q E s := by
  have hT : s.TypeIs (.ref I) "set_iterator" := ⟨_, hI, rfl⟩
  unfold pyNext
  refine wpAny_bind (wpAny_attempt (wpAny_callSpecial?_slot (name := Str.ofString "__next__") hT sl_next (wpAny_call_entry sl_next hT en_next ?_ (ar_next _))))
  show wpAny _ _ (fieldsOf (.ref I) >>= _) _ _ s
  refine wpAny_bind (wpAny_fieldsOf hI rfl ?_)
  dsimp only
  refine wpAny_bind (entries_of T ?_)
  simp only [bne_self_eq_false, Bool.false_eq_true, if_false]
  refine wpAny_bind (wpAny_seqItems hTp rfl ?_)
  dsimp only
  simp only [Int.toNat_natCast, List.getElem?_toArray, List.getElem?_map]
  cases hp : ps[i]? with
  | none =>
    simp only [Option.map_none]
    refine wpAny_bind (wpAny_setField_rec hI (by simp) fun h1 g1 b1 => ?_)
    exact stop_now (s := { s with heap := h1 }) hh g1 rfl (by simp) fun h' x => hn hp h' (b1.extBut.trans x)
  | some p =>
    simp only [Option.map_some, rawInt, Int.toNat_natCast]
    have hlt := hin p (List.mem_of_getElem? hp)
    have he : es[p]? = some es[p] := by simp [hlt]
    unfold setNextDrawn
    refine wpAny_bind (wpAny_bind (wpAny_setState_of T.at_ rfl T.fits ?_))
    simp only [bne_self_eq_false, Bool.false_eq_true, if_false, he]
    refine wpAny_pure ?_
    refine wpAny_bind (wpAny_setField_rec hI (by simp) fun h1 g1 b1 => ?_)
    refine wpAny_pure ⟨_, rfl, wpAny_pure (hs p es[p] hp he h1 b1 ?_)⟩
    rw [g1]
    simp
theorem next_text {S : Addr} {es : Array (Int × Value)} {ep : Nat} {t : SetTable} (T : SetAt prog w s.heap S es ep t) (sl i : Nat) (hf : w.params.followText "set-order" = true) (Q : Option (Value × Nat) → Shared → Prop)
    (q : Q (((pickOrder (w.params.setOrder S ep) es)[i]?).map fun e => (e.2, sl)) s) : wpAny (model prog w) A (setNext S sl i ep) Q E s := by
  unfold setNext
  refine wpAny_bind (wpAny_setState_of T.at_ rfl T.fits ?_)
  dsimp only
  unfold setsByText
  refine wpAny_bind (wpAny_bind (wpAny_askSetting (wpAny_pure ?_)))
  rw [show (model prog w).w.params.followText "set-order" = true from hf]
  simp only [bne_self_eq_false, Bool.false_eq_true, if_false, if_true]
  unfold setWalk
  refine wpAny_bind (wpAny_bind (wpAny_setState_of T.at_ rfl T.fits ?_))
  dsimp only
  unfold setsByText
  refine wpAny_bind (wpAny_bind (wpAny_askSetting (wpAny_pure ?_)))
  rw [show (model prog w).w.params.followText "set-order" = true from hf]
  simp only [if_true]
  exact wpAny_bind (wpAny_askSetting (wpAny_pure (wpAny_pure q)))
theorem same_set {I S : Addr} {h h' : Heap} {es : Array (Int × Value)} {ep : Nat} {t : SetTable} (T : SetAt prog w h S es ep t) (hne : S ≠ I) (b : Heap.SameBut I h h') : SetAt prog w h' S es ep t := T.kept fun o e => by rw [b.2 S hne]; exact e
theorem walk_text {I S : Addr} {es : Array (Int × Value)} {ep : Nat} {t : SetTable} (hne : S ≠ I) (hf : w.params.followText "set-order" = true) (hh : A.handled = none) :
    Walks prog w A I [I, S] [I] es.size (AtV ((pickOrder (w.params.setOrder S ep) es).toList.map (·.2))) (fun i h => h.get? I = some (itObj (.int 0 0) i S es.size ep) ∧ SetAt prog w h S es ep t) := by
  have hp := pick_perm (w.params.setOrder S ep) es
  have hl : (pickOrder (w.params.setOrder S ep) es).size = es.size := by rw [← Array.length_toList, hp.length_eq, Array.length_toList]
  refine ⟨fun b hb => by simp at hb; simp [hb], fun i h h' st k => ⟨k I (by simp) _ st.1, st.2.kept (k S (by simp))⟩, fun i s Q E hi st q => ?_, fun s Q E st q => ?_, fun i s Q E st q => self_it st.1 q⟩
  · have hi' : i < (pickOrder (w.params.setOrder S ep) es).size := by omega
    refine next_int (sl := 0) hh st.1 st.2 _ (fun Q' E' q' => next_text st.2 0 i hf Q' q') (fun x j e h' b g => ?_) (fun e => ?_)
    · rw [Array.getElem?_eq_getElem hi'] at e
      simp only [Option.map_some, Option.some.injEq, Prod.mk.injEq] at e
      obtain ⟨rfl, rfl⟩ := e
      exact q _ h' s.toks (by show (List.map _ _)[i]? = _; rw [List.getElem?_map, Array.getElem?_toList, Array.getElem?_eq_getElem hi']; rfl) ⟨g, same_set st.2 hne b⟩ fun c o hc e => by rw [b.2 c (by simpa using hc)]; exact e
    · rw [Array.getElem?_eq_getElem hi'] at e
      cases e
  · refine next_int (sl := 0) hh st.1 st.2 _ (fun Q' E' q' => next_text st.2 0 _ hf Q' q') (fun x j e => ?_) (fun _ h' b => q h' s.toks fun c o hc e => b c o (by simpa using hc) e)
    rw [Array.getElem?_eq_none (by omega)] at e
    cases e
theorem next_rise {S : Addr} {es : Array (Int × Value)} {ep : Nat} {t : SetTable} (T : SetAt prog w s.heap S es ep t) (sl i : Nat) (hf : w.params.followText "set-order" = false) (hd : (!t.plain && decide (es.size > 1)) = false) (Q : Option (Value × Nat) → Shared → Prop)
    (q : Q (match es[SetTable.below t.place sl]?, t.place[SetTable.below t.place sl]? with | some (_, x), some j => some (x, j + 1) | _, _ => none) s) : wpAny (model prog w) A (setNext S sl i ep) Q E s := by
  unfold setNext
  refine wpAny_bind (wpAny_setState_of T.at_ rfl T.fits ?_)
  dsimp only
  unfold setsByText
  refine wpAny_bind (wpAny_bind (wpAny_askSetting (wpAny_pure ?_)))
  rw [show (model prog w).w.params.followText "set-order" = false from hf]
  simp only [Bool.false_eq_true, if_false]
  have hl : t.led = true := by rw [T.marks.led, hf]; rfl
  refine wpAny_ite_split (fun h => absurd (show (!t.plain && decide (es.size > 1)) = true from h) (by rw [hd]; simp)) fun _ => ?_
  refine wpAny_bind ?_
  show wpAny _ _ (ite ((!t.led && !es.isEmpty) = true) _ _) _ _ _
  rw [hl]
  simp only [Bool.not_true, Bool.false_and, Bool.false_eq_true, if_false]
  exact wpAny_pure (wpAny_pure q)
theorem walk_rise {I S : Addr} {es : Array (Int × Value)} {ep : Nat} {t : SetTable} (hne : S ≠ I) (hf : w.params.followText "set-order" = false) (hd : (!t.plain && decide (es.size > 1)) = false) (hr : Rise t.place) (hfit : t.fits es.size = true) (hh : A.handled = none) :
    Walks prog w A I [I, S] [I] es.size (AtV (es.toList.map (·.2))) (fun i h => ∃ sl : Nat, h.get? I = some (itObj (.int sl 0) i S es.size ep) ∧ SetAt prog w h S es ep t ∧ (i ≤ es.size → SetTable.below t.place sl = i)) := by
  have hps : t.place.size = es.size := by
    simp only [SetTable.fits, Bool.and_eq_true, beq_iff_eq] at hfit
    exact hfit.1
  refine ⟨fun b hb => by simp at hb; simp [hb], fun i h h' st k => ?_, fun i s Q E hi st q => ?_, fun s Q E st q => ?_, fun i s Q E st q => ?_⟩
  · obtain ⟨sl, a, T, b⟩ := st
    exact ⟨sl, k I (by simp) _ a, T.kept (k S (by simp)), b⟩
  · obtain ⟨sl, a, T, b⟩ := st
    have hb := b (by omega)
    refine next_int hh a T (some (es[i].2, t.place[i]'(by omega) + 1)) (fun Q' E' q' => next_rise T _ _ hf hd Q' ?_) (fun x j ej h' bb g => ?_) (fun z => nomatch z)
    · rw [hb, Array.getElem?_eq_getElem hi, Array.getElem?_eq_getElem (by omega)]
      exact q'
    · cases ej
      exact q _ h' s.toks (by show (List.map _ _)[i]? = _; rw [List.getElem?_map, Array.getElem?_toList, Array.getElem?_eq_getElem hi]; rfl) ⟨_, g, same_set T hne bb, fun _ => below_next hr i (by omega)⟩ fun c o hc e => by rw [bb.2 c (by simpa using hc)]; exact e
  · obtain ⟨sl, a, T, b⟩ := st
    have hb := b (Nat.le_refl _)
    refine next_int hh a T none (fun Q' E' q' => next_rise T _ _ hf hd Q' ?_) (fun x j e => nomatch e) (fun _ h' b => q h' s.toks fun c o hc e => b c o (by simpa using hc) e)
    rw [hb, Array.getElem?_eq_none (Nat.le_refl _)]
    exact q'
  · obtain ⟨sl, a, T, b⟩ := st
    exact self_it a q
theorem walk_drawn {I S Tp : Addr} {es : Array (Int × Value)} {ep : Nat} {t : SetTable} {ps : List Nat} (hne : S ≠ I) (hne2 : Tp ≠ I) (hp : ps.Perm (List.range es.size)) (hh : A.handled = none) :
    Walks prog w A I [I, Tp, S] [I] es.size (AtV (ps.map fun p => (es.getD p (0, .none)).2)) (fun i h => h.get? I = some (itObj (.ref Tp) i S es.size ep) ∧ SetAt prog w h S es ep t ∧ h.get? Tp = some { cls := .type "tuple", data := .seq (ps.map fun (p : Nat) => rawInt p).toArray }) := by
  have hin : ∀ p ∈ ps, p < es.size := fun p h => List.mem_range.mp (hp.mem_iff.mp h)
  have hl : ps.length = es.size := by rw [hp.length_eq, List.length_range]
  refine ⟨fun b hb => by simp at hb; simp [hb], fun i h h' st k => ⟨k I (by simp) _ st.1, st.2.1.kept (k S (by simp)), k Tp (by simp) _ st.2.2⟩, fun i s Q E hi st q => ?_, fun s Q E st q => ?_, fun i s Q E st q => self_it st.1 q⟩
  · have hi' : i < ps.length := by omega
    refine next_ref hh st.1 st.2.1 st.2.2 (fun p e h1 h2 h' b g => ?_) hin (fun z => by rw [List.getElem?_eq_getElem hi'] at z; cases z)
    refine q _ h' s.toks ?_ ⟨g, same_set st.2.1 hne b, by rw [b.2 Tp hne2]; exact st.2.2⟩ fun c o hc e => by rw [b.2 c (by simpa using hc)]; exact e
    show (List.map _ _)[i]? = _
    rw [List.getElem?_map, h1]
    simp [h2]
  · refine next_ref hh st.1 st.2.1 st.2.2 (fun p e h1 => ?_) hin (fun _ h' b => q h' s.toks fun c o hc e => b c o (by simpa using hc) e)
    rw [List.getElem?_eq_none (by omega)] at h1
    cases h1
end
section
variable {prog : Program} {w : World} {A : Around} {E : Value → Shared → Prop} {s : Shared}
structure Laid (prog : Program) (w : World) (h : Heap) (a : Addr) (es : Array (Int × Value)) (I : Addr) (h' : Heap) : Prop where
  ex : ∃ (fp : List Addr) (vals : List Value) (St : Nat → Heap → Prop), vals.Perm (es.toList.map (·.2)) ∧ (∀ A : Around, A.handled = none → Walks prog w A I fp [I] es.size (AtV vals) St) ∧ St 0 h' ∧ ∀ b ∈ fp, b = a ∨ h.objs.size ≤ b
  old : ∀ b o, h.get? b = some o → h'.get? b = some o
  new : h.objs.size ≤ I
  type : ∃ o, h'.get? I = some o ∧ o.cls = .type "set_iterator"
theorem iter_set {a : Addr} {es : Array (Int × Value)} {ep : Nat} {t : SetTable} {Q : Value → Shared → Prop} (T : SetAt prog w s.heap a es ep t)
    (q : ∀ (I : Addr) (h' : Heap) (d : Drawn), Laid prog w s.heap a es I h' → Q (.ref I) { s with heap := h', drawn := d }) : wpAny (model prog w) A (pyIter (.ref a)) Q E s := by
  have hT : s.TypeIs (.ref a) "set" := ⟨_, T.at_, rfl⟩
  have hlt : a < s.heap.objs.size := Heap.lt_size T.at_
  refine wpAny_pyIter_slot hT PySem.F.slot_set_iter (wpAny_call_entry PySem.F.slot_set_iter hT en_siter ?_ (PySem.F.args_set_iter_1 _))
  show wpAny _ _ (Builtin.Frozenset.sizeOf a >>= _) _ _ s
  unfold Builtin.Frozenset.sizeOf
  refine wpAny_bind (wpAny_bind (entries_of T (wpAny_pure ?_)))
  unfold setDrawn
  refine wpAny_bind (wpAny_bind (wpAny_setState_of T.at_ rfl T.fits ?_))
  dsimp only
  unfold setsByText
  refine wpAny_bind (wpAny_bind (wpAny_askSetting (wpAny_pure ?_)))
  refine wpAny_pure ?_
  have here : ∀ (first : Value) (s1 : Shared) (Q1 : Fin → Shared → Prop) (T1 : SetAt prog w s1.heap a es ep t), (∀ o, o = itObj first 0 a es.size ep → Q1 (.done (.ret (.ref s1.heap.objs.size))) { s1 with heap := s1.heap.push o }) → wpAny (model prog w) A.in1 (do
      let e ← setEpoch a
      let v ← newFields "set_iterator" [first, rawInt 0, Value.ref a, rawInt es.size, rawInt e]
      ret v) Q1 E s1 := by
    intro first s1 Q1 T1 q1
    refine wpAny_bind (wpAny_setEpoch_of T1.at_ rfl T1.fits ?_)
    refine wpAny_bind (wpAny_newObj_type (wpAny_pure (q1 _ rfl)) (by size_fits))
  refine wpAny_ite_split (fun hc => ?_) fun hc => ?_
  · refine wpAny_bind (any_order es.size _ _ _ (by simp) fun ps d hp => ?_)
    have hps : ps.length ≤ sizeLine := by rw [hp.length_eq, List.length_range]; exact fits_of_scanBound T.small
    refine wpAny_bind (wpAny_newTuple ?_ (by rw [List.length_map]; exact hps))
    have T1 : SetAt prog w (s.heap.push { cls := .type "tuple", data := .seq (ps.map fun (p : Nat) => rawInt p).toArray }) a es ep t := T.kept fun o e => Heap.get?_push_of_some _ e
    refine here _ _ _ T1 fun o ho => ?_
    subst ho
    refine ⟨_, rfl, "set_iterator", _, ⟨_, Heap.get?_push_size _ rfl, rfl⟩, sl_next.lookup, ?_⟩
    have hsz : (s.heap.push { cls := .type "tuple", data := .seq (ps.map fun (p : Nat) => rawInt p).toArray }).objs.size = s.heap.objs.size + 1 := Heap.size_push ..
    refine q _ _ d ⟨⟨[_, s.heap.objs.size, a], _, _, range_map hp, fun A hh => walk_drawn (t := t) (by rw [hsz]; exact Nat.ne_of_lt (Nat.lt_succ_of_lt hlt)) (by rw [hsz]; exact Nat.ne_of_lt (Nat.lt_succ_self _)) hp hh,
      ⟨Heap.get?_push_size _ rfl, T1.kept fun o e => Heap.get?_push_of_some _ e, Heap.get?_push_of_some _ (Heap.get?_push_size _ rfl)⟩, fun b hb => ?_⟩, fun b o e => Heap.get?_push_of_some _ (Heap.get?_push_of_some _ e), by rw [hsz]; exact Nat.le_succ _, ⟨_, Heap.get?_push_size _ rfl, rfl⟩⟩
    simp only [List.mem_cons, List.not_mem_nil, or_false] at hb
    rcases hb with rfl | rfl | rfl
    · right; rw [hsz]; exact Nat.le_succ _
    · right; exact Nat.le_refl _
    · left; rfl
  · refine wpAny_bind (wpAny_pure ?_)
    refine here _ _ _ T fun o ho => ?_
    subst ho
    refine ⟨_, rfl, "set_iterator", _, ⟨_, Heap.get?_push_size _ rfl, rfl⟩, sl_next.lookup, ?_⟩
    have fpx : ∀ b ∈ [s.heap.objs.size, a], b = a ∨ s.heap.objs.size ≤ b := fun b hb => by
      simp only [List.mem_cons, List.not_mem_nil, or_false] at hb
      rcases hb with rfl | rfl
      · right; exact Nat.le_refl _
      · left; rfl
    have hne : a ≠ s.heap.objs.size := Nat.ne_of_lt hlt
    have T1 : SetAt prog w (s.heap.push (itObj (rawInt 0) 0 a es.size ep)) a es ep t := T.kept fun o e => Heap.get?_push_of_some _ e
    cases hf : w.params.followText "set-order" with
    | true =>
      exact q _ _ s.drawn ⟨⟨_, _, _, (pick_perm (w.params.setOrder a ep) es).map _, fun A hh => walk_text (t := t) hne hf hh, ⟨Heap.get?_push_size _ rfl, T1⟩, fpx⟩, fun b o e => Heap.get?_push_of_some _ e, Nat.le_refl _, ⟨_, Heap.get?_push_size _ rfl, rfl⟩⟩
    | false =>
      have hc2 : ¬ ((!t.plain && decide (es.size > 1)) = true) := fun z => hc (by
        show (!(w.params.followText "set-order") && (!t.plain && decide (es.size > 1))) = true
        rw [hf, z]; rfl)
      have hd : (!t.plain && decide (es.size > 1)) = false := by
        cases z : (!t.plain && decide (es.size > 1))
        · rfl
        · exact absurd z hc2
      exact q _ _ s.drawn ⟨⟨_, _, _, .refl _, fun A hh => walk_rise (t := t) hne hf hd T.marks.rise T.fits hh, ⟨0, Heap.get?_push_size _ rfl, T1, fun _ => below_zero T.marks.rise⟩, fpx⟩, fun b o e => Heap.get?_push_of_some _ e, Nat.le_refl _, ⟨_, Heap.get?_push_size _ rfl, rfl⟩⟩
theorem extend_set {R : Result → Shared → Prop} {a : Addr} {es : Array (Int × Value)} {ep : Nat} {t : SetTable} (T : SetAt prog w s.heap a es ep t) (hh : A.handled = none) (S : Addr) (hSa : S ≠ a) (res : Value) (c0 : Nat) (hS : s.heap.get? S = some { cls := .type "list", data := .seq #[] c0 })
    (hR : ∀ h' d tk (acc : Array Value) c', (∀ b o, b ≠ S → s.heap.get? b = some o → h'.get? b = some o) → h'.get? S = some { cls := .type "list", dict := none, data := .seq acc c', slots := #[] } → acc.toList.Perm (es.toList.map (·.2)) → R (.ok (.ret res)) { s with heap := h', drawn := d, toks := tk }) :
    wpAny (model prog w) A.in1 (Builtin.List.listExtendWith (.ref S) (.ref a) res) (fun fin s' => match fin with | .done f => R (.ok f) s' | .again c' => c'.quiet = true ∧ codeAny (model prog w) A c' R s') (fun e s' => R (.error e) s') s := by
  have hT : s.TypeIs (.ref a) "set" := ⟨_, T.at_, rfl⟩
  have hSl : S < s.heap.objs.size := Heap.lt_size hS
  unfold Builtin.List.listExtendWith
  refine wpAny_bind (wpAny_typeOf (T := "set") hT ?_)
  have h1 : Builtin.List.listSameRef (.ref S) (.ref a) = false := by simp [Builtin.List.listSameRef, hSa]
  have h2 : (Value.type "set" == Value.type "list") = false := by decide
  have h3 : (Value.type "set" == Value.type "tuple") = false := by decide
  simp only [h1, h2, h3, Bool.or_false, Bool.false_eq_true, if_false]
  refine wpAny_bind (iter_set T fun I h0 d L => ?_)
  obtain ⟨fp, vals, St, hv, W, st, hfp⟩ := L.ex
  have hSf : S ∉ fp := fun z => by
    rcases hfp S z with e | e
    · exact hSa e
    · exact Nat.lt_irrefl _ (Nat.lt_of_lt_of_le hSl e)
  have hSI : S ≠ I := fun z => Nat.lt_irrefl _ (Nat.lt_of_lt_of_le hSl (z ▸ L.new))
  have go : ∀ (h : Heap) (c1 tk : Nat), St 0 h → (∀ b o, b ≠ S → s.heap.get? b = some o → h.get? b = some o) → h.get? S = some { cls := .type "list", data := .seq #[] c1 } →
      codeAny (model prog w) A (.builtin "list.extend.loop" ⟨[.ref S, .ref I, res], []⟩) R { s with heap := h, drawn := d, toks := tk } := by
    intro h c1 tk hst hk hS1
    refine codeAny_extend_loopS (W A.in1 hh).toS (fits_of_scanBound T.small) S hSf res es.size 0 _ #[] c1 rfl (Nat.zero_le _) hst hS1 (ItemsOf.nil _) fun s' acc' c' hm hS' hacc => ?_
    rw [Moved.eq_with hm]
    refine hR s'.heap d s'.toks acc' c' (fun b o hb e => hm.heap b o (fun hmem => ?_) (hk b o hb e)) hS' ?_
    · rcases List.mem_cons.mp hmem with e' | hmem
      · exact hb e'
      · exact absurd (Heap.lt_size e) (by rw [List.mem_singleton.mp hmem]; exact Nat.not_lt.mpr L.new)
    · have e : acc'.toList = vals := by
        apply List.ext_getElem?
        intro j
        by_cases hj : j < acc'.size
        · have := hacc.2 j acc'[j] (by simp [hj])
          rw [this]
          simp [hj]
        · have hvl : vals.length = es.size := by rw [hv.length_eq]; simp
          have := hacc.1
          rw [List.getElem?_eq_none (by simp; omega), List.getElem?_eq_none (by omega)]
      rw [e]
      exact hv
  have hS0 := L.old _ _ hS
  refine wpAny_bind (wpAny_holding (hint_set (s := { s with heap := h0, drawn := d }) ⟨_, L.old _ _ T.at_, rfl⟩ ?_))
  refine wpAny_ite_split (fun _ => ?_) (fun _ => wpAny_pure ⟨plainId_quiet PySem.F.plain_extend_loop _, go _ c0 _ st (fun b o _ e => L.old b o e) hS0⟩)
  refine wpAny_bind (wpAny_rule (wpAny_bind ?_))
  show wpAny _ _ (updateSeq S (·.push .none) >>= fun _ => updateSeq S (·.pop)) _ _ _
  refine wpAny_bind (wpAny_updateSeq hS0 rfl ?_)
  have hS2 := Heap.get?_update_self (Obj.mapSeq (·.push Value.none)) hS0 rfl
  refine wpAny_updateSeq (hz := by seq_fits) hS2 rfl ?_
  have hS3 := Heap.get?_update_self (Obj.mapSeq (·.pop)) hS2 rfl
  refine wpAny_pure ⟨plainId_quiet PySem.F.plain_extend_loop _, go _ _ _ ?_ (fun b o hb e => ?_) hS3⟩
  · refine (W A.in1 hh).frame 0 _ _ st fun b hb o e => ?_
    have hbS : b ≠ S := fun h => hSf (h ▸ hb)
    exact (Heap.get?_update_other _ _ (Ne.symm hbS)).trans ((Heap.get?_update_other _ _ (Ne.symm hbS)).trans e)
  · exact (Heap.get?_update_other _ _ (Ne.symm hb)).trans ((Heap.get?_update_other _ _ (Ne.symm hb)).trans (L.old _ _ e))
end
end SI
end L2
set_option Elab.async false
set_option linter.all false
set_option maxRecDepth 100000
set_option maxHeartbeats 1600000
namespace L2
open PySem PySem.Spec PyProof.Rows
def oSortSetI : SpD := fun ds Q => match ds with
  | [.lst es] => match intsOf es with
    | some ss => ss.length < 4000 ∧ (∀ l : List Int, l.Nodup → (∀ w ∈ l, w ∈ ss) → l.length < 64) ∧ ∀ l : List Int, l.Nodup → (∀ w, w ∈ l ↔ w ∈ ss) → l.Pairwise (· ≤ ·) → Q (.ow (l.map D.int))
    | none => False
  | _ => False
namespace SI
section
variable {prog : Program} {w : World} {A : Around} {E : Value → Shared → Prop} {s : Shared}
theorem collect_set {R : List Value → Shared → Prop} {a : Addr} {es : Array (Int × Value)} {ep : Nat} {t : SetTable} (T : SetAt prog w s.heap a es ep t) (hh : A.handled = none)
    (h : ∀ (h' : Heap) (d : Drawn) (tk : Nat) (vs : List Value), s.heap.objs.size < h'.objs.size → (∀ b o, s.heap.get? b = some o → h'.get? b = some o) → vs.Perm (es.toList.map (·.2)) → R vs { s with heap := h', drawn := d, toks := tk }) : wpAny (model prog w) A (collect (.ref a)) R E s := by
  have hlt : a < s.heap.objs.size := Heap.lt_size T.at_
  unfold collect
  refine wpAny_bind (wpAny_runValue (codeAny_builtin entry_proto_collect' ?_))
  rw [Around.under_plainId PySem.F.plain_proto_collect _]
  show wpAny _ A.in1 (newList [] >>= fun l => again (.builtin "list.__iadd__" ⟨[l, .ref a], []⟩)) _ _ s
  refine wpAny_bind (wpAny_newObj_type (wpAny_pure ⟨plainId_quiet PySem.F.plain_list_iadd _, codeAny_builtin entry_list_iadd' ?_⟩))
  rw [Around.under_plainId PySem.F.plain_list_iadd _]
  have hS1 : (s.heap.push { cls := .type "list", data := .seq ([] : List Value).toArray }).get? s.heap.objs.size = some { cls := .type "list", data := .seq #[] } := Heap.get?_push_size _ rfl
  show wpAny _ A.in1 (Builtin.List.listExtendWith (.ref s.heap.objs.size) (.ref a) (.ref s.heap.objs.size)) _ _ _
  have key := extend_set (A := A) (s := { s with heap := s.heap.push { cls := .type "list", data := .seq ([] : List Value).toArray } })
    (R := fun (q : Result) (s' : Shared) => ∃ (h' : Heap) (d : Drawn) (tk : Nat) (acc : Array Value) (c' : Nat), q = .ok (.ret (.ref s.heap.objs.size)) ∧ s' = { s with heap := h', drawn := d, toks := tk } ∧
      (∀ b o, s.heap.get? b = some o → h'.get? b = some o) ∧ h'.get? s.heap.objs.size = some { cls := .type "list", dict := none, data := .seq acc c', slots := #[] } ∧ acc.toList.Perm (es.toList.map (·.2)))
    (T.kept fun o e => Heap.get?_push_of_some _ e) hh s.heap.objs.size (Nat.ne_of_gt hlt) (.ref s.heap.objs.size) 0 hS1
    (fun h' d tk acc c' hk hS' hacc => ⟨h', d, tk, acc, c', rfl, rfl, fun b o e => hk b o (Nat.ne_of_lt (Heap.lt_size e)) (Heap.get?_push_of_some _ e), hS', hacc⟩)
  refine wpAny_mono key (fun fin s' x => ?_) fun e s' x => ?_
  · cases fin with
    | done f =>
      obtain ⟨h', d, tk, acc, c', e, rfl, hk, hS', hacc⟩ := x
      cases e
      show wpAny _ A (load s.heap.objs.size >>= _) _ _ _
      exact wpAny_bind (wpAny_load hS' (wpAny_pure (h h' d tk acc.toList (Heap.lt_size hS') hk hacc)))
    | again c1 =>
      refine ⟨x.1, codeAny_mono x.2 fun q s2 y => ?_⟩
      obtain ⟨h', d, tk, acc, c', rfl, rfl, hk, hS', hacc⟩ := y
      show wpAny _ A (load s.heap.objs.size >>= _) _ _ _
      exact wpAny_bind (wpAny_load hS' (wpAny_pure (h h' d tk acc.toList (Heap.lt_size hS') hk hacc)))
  · obtain ⟨_, _, _, _, _, e', _⟩ := x
    cases e'
theorem ints_perm : ∀ {vs : List Value}, (∀ v ∈ vs, ∃ x t, v = .int x t) → IntsAre vs (vs.map intOf)
  | [], _ => .nil
  | v :: r, h => by
    obtain ⟨x, t, rfl⟩ := h v (by simp)
    exact .cons x t (ints_perm fun u hu => h u (by simp [hu]))
theorem sorted_set {a : Addr} {es : Array (Int × Value)} {ep : Nat} {t : SetTable} {Q : Value → Shared → Prop} (T : SetAt prog w s.heap a es ep t) (hh : A.handled = none) (h64 : es.size < 64)
    (h : ∀ (p : Addr) (h' : Heap) (d : Drawn) (tk : Nat) (out : Array Value) (e : Nat) (ns : List Int), s.heap.objs.size ≤ p → (∀ b o, s.heap.get? b = some o → h'.get? b = some o) → h'.get? p = some (seqObj "list" out e) → IntsAre out.toList ns → ns.Perm (keysOf es) → ns.Pairwise (· ≤ ·) → Q (.ref p) { s with heap := h', drawn := d, toks := tk }) :
    wpAny (model prog w) A (call (.builtin "sorted") [.ref a]) Q E s := by
  refine Calls.call_function_entry kind_sorted plain_sorted entry_sorted (args_sorted1 _) ?_
  unfold Builtin.«sorted»
  refine wpAny_bind (m := checkCount "sorted" 1 1 _) (wpAny_pure (wpAny_bind (collect_set (A := A.in1) T hh fun h' d tk vs hlt hk hp => ?_)))
  have hvl : vs.length = es.size := by rw [hp.length_eq]; simp
  have hvs : ∀ v ∈ vs, ∃ x t, v = .int x t := fun v hv => by
    obtain ⟨e, he, rfl⟩ := List.mem_map.mp (hp.mem_iff.mp hv)
    obtain ⟨⟨k, hk, _⟩, _⟩ := T.el e he
    obtain ⟨t, ht⟩ := Value.isInt_shape hk
    exact ⟨k, t, ht⟩
  have hI := ints_perm hvs
  refine wpAny_bind (wpAny_newList ?_ (by rw [hvl]; exact fits_of_scanBound T.small))
  have hoL : (h'.push (seqObj "list" vs.toArray 0)).get? h'.objs.size = some (seqObj "list" vs.toArray 0) := Heap.get?_push_size _ rfl
  refine wpAny_bind (wpAny_holding (wpAny_call_entry slot_list_sort ⟨_, hoL, rfl⟩ entry_list_sort (list_sort_tree (s := { s with heap := h'.push (seqObj "list" vs.toArray 0), drawn := d, toks := tk }) hoL hI (by omega) fun out ns' b1 b2 b3 => ⟨_, rfl, ?_⟩) (args_list_sort _)))
  obtain ⟨en, hen⟩ := sortedHeap_at (out := out) hoL
  have hle : s.heap.objs.size ≤ h'.objs.size := Nat.le_of_lt hlt
  refine wpAny_pure ⟨_, rfl, h _ _ d tk _ en ns' hle (fun b o e => ?_) hen b1 (b2.trans ?_) b3⟩
  · have e1 := hk b o e
    have hb : b < h'.objs.size := Heap.lt_size e1
    rw [sortedHeap_old (Nat.ne_of_lt hb) (by rw [size_push']; exact Nat.lt_succ_of_lt hb)]
    exact Heap.get?_push_of_some _ e1
  · have := hp.map intOf
    rw [List.map_map] at this
    exact this
end
section
variable {X : Cx} {pos : Pos} {e : Expr} {te : TD} {ts : TDa} {t : TA}
def tSortSetI (K : PySem.W.Frag) (t : TA) : TE := fun σ H Q => t σ H fun vs H1 => ∃ (p : Addr) (ss : List Int), vs = [.ref p] ∧ SqL K H1 p (ss.map V.int) ∧ ss.length < 4000 ∧ (∀ l : List Int, l.Nodup → (∀ x ∈ l, x ∈ ss) → l.length < 64) ∧
  ∀ l : List Int, l.Nodup → (∀ x, x ∈ l ↔ x ∈ ss) → l.Pairwise (· ≤ ·) → ∀ q, H1 q = none → Q (.ref q) (upd H1 q (.lst (l.map V.int)))
theorem pe_sortSetI {p1 p2 pos2 : Pos} (hc : X.calm = true) (hm1 : X.mg "sorted" = none) (hm2 : X.mg "set" = none) (ha : PA X [e] t) (hg1 : Gl X "sorted" := by rfl) (hg2 : Gl X "set" := by rfl)
    (he : starEach [e] X.env = (false, eval e X.env) :: starEach [] X.env := by rfl) (he2 : starEach [.Call (.Name "set" p2) [e] [] pos2] X.env = (false, eval (.Call (.Name "set" p2) [e] [] pos2) X.env) :: starEach [] X.env := by rfl) :
    PE X (.Call (.Name "sorted" p1) [.Call (.Name "set" p2) [e] [] pos2] [] pos) (tSortSetI X.K t) := by
  intro pins s σ H Q I h
  refine wpAny_Call_Name_kw (ld_blt I hg1 hm1 boot_sorted ?_ (by decide) (by decide))
  refine PyProof.Rows.callWith_builtin1 ?_ he2 rfl
  rw [he2]
  show wpAny _ _ (spliced ((false, eval (.Call (.Name "set" p2) [e] [] pos2) X.env) :: backTo pos (starEach [] X.env))) _ _ s
  refine Calls.spliced_cons ?_
  refine wpAny_Call_Name_kw (ld_blt I hg2 hm2 boot_set' ?_ (by decide) (by decide))
  refine PyProof.Rows.callWith_type1 (thn (ha pos2 pins s σ H _ I h) fun us s1 ⟨vs, H1, I1, r1, q1⟩ => ?_) he rfl
  obtain ⟨p, ss, rfl, hq, hn, h64, q⟩ := q1
  obtain ⟨u, rfl, ru⟩ := vals1 r1
  cases ru
  obtain ⟨its, rv, pl, hz⟩ := I1.list hq
  have hS := intsAre_of rv
  refine set_ints (I1.ok.hd hc) pl.isList hS (by rw [show scanBound = 4096 from rfl]; omega) fun h1 tk1 es ep tb T Hd hk1 => ?_
  have I2 : Inv X pins σ H1 { s1 with heap := h1, toks := tk1 } := I1.kept fun b o e => hk1 b o (Heap.lt_size e) e
  refine Calls.spliced_nil ?_
  have hsz : es.size < 64 := by
    have := h64 (keysOf es) Hd.nd fun x hx => (Hd.mem x).mp hx
    simpa [keysOf] using this
  refine sorted_set (s := { s1 with heap := h1, toks := tk1 }) T (I1.ok.hd hc) hsz fun pp h2 d tk2 out en ss2 hp hk2 hat hss hpm hso => ?_
  have hnd : ss2.Nodup := hpm.nodup_iff.mpr Hd.nd
  have hl2 : ss2.length < 64 := by rw [hpm.length_eq]; simpa [keysOf] using hsz
  have hf : H1 pp = none := I2.hok.fresh hp
  refine ⟨.ref pp, upd H1 pp (.lst (ss2.map V.int)), ?_, rfl, q ss2 hnd (fun x => by rw [hpm.mem_iff]; exact Hd.mem x) hso pp hf⟩
  have I3 := Inv.laid (t' := tk2) (Inv.draw I2 d) (h' := h2) (a := pp) (o := .lst (ss2.map V.int)) hk2 hp ?_
  · exact I3
  · refine ⟨by rw [List.length_map]; have := line_big; omega, out.toList, en, vals_ints hss, ?_⟩
    rw [Array.toArray_toList]
    exact hat
theorem pd_sortSetI {p1 p2 pos2 : Pos} (hc : X.calm = true) (hm1 : X.mg "sorted" = none) (hm2 : X.mg "set" = none) (ha : PDa X [e] ts) (hg1 : Gl X "sorted" := by rfl) (hg2 : Gl X "set" := by rfl)
    (he : starEach [e] X.env = (false, eval e X.env) :: starEach [] X.env := by rfl) (he2 : starEach [.Call (.Name "set" p2) [e] [] pos2] X.env = (false, eval (.Call (.Name "set" p2) [e] [] pos2) X.env) :: starEach [] X.env := by rfl) :
    PD X (.Call (.Name "sorted" p1) [.Call (.Name "set" p2) [e] [] pos2] [] pos) (dCB oSortSetI ts) := by
  obtain ⟨t, pp, q⟩ := ha
  refine ⟨_, pe_sortSetI hc hm1 hm2 pp hg1 hg2 he he2, fun ρ σ G0 H0 G H Q P E h k => q ρ σ G0 H0 G H _ _ E h fun vs H' ds G' x rs hq => ?_⟩
  unfold oSortSetI at hq
  split at hq
  · split at hq
    · rename_i es ss hs
      obtain ⟨v, rfl, rv⟩ := reps1 rs
      simp only [Rep] at rv
      obtain ⟨a, xs, rfl, h1, h2⟩ := rv
      rw [intsOf_get hs] at h2
      rw [reps_int h2] at h1
      refine ⟨a, ss, rfl, (x.s.rdl h1).sq, hq.1, hq.2.1, fun l nd hm so => ?_⟩
      exact own_fin x.s (ints_reps l) (hq.2.2 l nd hm so) fun v H2 r G2 x2 rr qq => k v H2 r G2 (x.trans x2) (rr.older x.h) qq
    · exact hq.elim
  · exact hq.elim
end
end SI
end L2
set_option Elab.async false
set_option linter.all false
set_option maxRecDepth 100000
set_option maxHeartbeats 2000000
namespace Wc
open PySem L2
def mkS (l : List Nat) : Str := ⟨l.toArray⟩
theorem mkS_cps (l : List Nat) : (mkS l).cps.toList = l := by simp [mkS]
theorem mkS_len (l : List Nat) : (mkS l).length = l.length := by simp [mkS, Str.length]
theorem mkS_add (a b : List Nat) : mkS a ++ mkS b = mkS (a ++ b) := by
  show (⟨(mkS a).cps ++ (mkS b).cps⟩ : Str) = _
  simp [mkS]
theorem mkS_inj {a b : List Nat} : mkS a = mkS b ↔ a = b := by
  constructor
  · intro h
    have : (mkS a).cps.toList = (mkS b).cps.toList := by rw [h]
    simpa [mkS] using this
  · rintro rfl; rfl
theorem mk1 (c : Nat) : (⟨#[c]⟩ : Str) = mkS [c] := rfl
theorem atI_map {α β : Type} (f : α → β) (l : List α) (i : Int) : atI (l.map f) i = (atI l i).map f := by
  unfold atI
  rw [List.length_map]
  cases ixN l.length i with
  | none => rfl
  | some j => simp
theorem ex_map {α β : Type} {f : α → β} {o : Option α} {p : β → Prop} : (∃ d, o.map f = some d ∧ p d) ↔ ∃ x, o = some x ∧ p (f x) := by
  cases o with
  | none => simp
  | some x => simp
theorem ex_atI {α β : Type} {f : α → β} {l : List α} {i : Int} {p : β → Prop} : (∃ d, atI (l.map f) i = some d ∧ p d) ↔ ∃ x, atI l i = some x ∧ p (f x) := by rw [atI_map]; exact ex_map
theorem atI_get {α : Type} {l : List α} {i : Int} (h0 : 0 ≤ i) (h1 : i < l.length) : ∃ h : i.toNat < l.length, atI l i = some (l[i.toNat]'h) := by
  refine ⟨by omega, ?_⟩
  unfold atI ixN
  rw [if_pos h0, if_pos h1]
  simp only [Option.bind_some]
  exact List.getElem?_eq_getElem _
theorem at_some {α : Type} {l : List α} {i : Int} (h0 : 0 ≤ i) (h1 : i < l.length) : ∃ z, atI l i = some z ∧ z ∈ l := by
  obtain ⟨h, e⟩ := atI_get h0 h1
  exact ⟨_, e, List.getElem_mem h⟩
theorem at_mod {α : Type} {l : List α} {n : Nat} (i : Int) (hl : n ≤ l.length) (h : 0 < n) : ∃ z, atI l (i % (n : Int)) = some z ∧ z ∈ l :=
  at_some (Int.emod_nonneg _ (by omega)) (by have := Int.emod_lt_of_pos i (show (0 : Int) < n by omega); omega)
theorem sIx_pos {n d : Nat} {j : Int} (h : 0 ≤ j) : HT.sIx n d (some j) = min j.toNat n := by show (if j < 0 then _ else _) = _; rw [if_neg (by omega)]
theorem cutL_to {α : Type} (l : List α) {j : Int} (h : 0 ≤ j) : cutL l none (some j) = l.take j.toNat := by
  unfold cutL
  rw [sIx_pos h]
  show ((l.drop 0).take (min j.toNat l.length - 0)) = _
  rw [List.drop_zero, Nat.sub_zero, Nat.min_comm]
  by_cases hl : l.length ≤ j.toNat
  · rw [Nat.min_eq_left hl, List.take_of_length_le hl, List.take_of_length_le (Nat.le_refl _)]
  · rw [Nat.min_eq_right (by omega)]
theorem cutL_from {α : Type} (l : List α) {j : Int} (h : 0 ≤ j) : cutL l (some j) none = l.drop j.toNat := by
  unfold cutL
  rw [sIx_pos h]
  show ((l.drop (min j.toNat l.length)).take (l.length - _)) = _
  by_cases hl : l.length ≤ j.toNat
  · rw [Nat.min_eq_right hl, List.drop_of_length_le hl, List.drop_of_length_le (Nat.le_refl _)]; simp
  · rw [Nat.min_eq_left (by omega), List.take_of_length_le (by simp)]
theorem cutL_mid {α : Type} (l : List α) {i j : Int} (hi : 0 ≤ i) (h : 0 ≤ j) : cutL l (some i) (some j) = (l.drop i.toNat).take (j.toNat - i.toNat) := by
  unfold cutL
  rw [sIx_pos h, sIx_pos hi]
  by_cases hl : l.length ≤ i.toNat
  · rw [Nat.min_eq_right hl, List.drop_of_length_le hl, List.drop_of_length_le (Nat.le_refl _)]; simp
  · rw [Nat.min_eq_left (a := i.toNat) (by omega)]
    by_cases hj : l.length ≤ j.toNat
    · rw [Nat.min_eq_right hj, List.take_of_length_le (by simp), List.take_of_length_le (by simp; omega)]
    · rw [Nat.min_eq_left (by omega)]
theorem cutS_to (l : List Nat) {j : Int} (h : 0 ≤ j) : cutS (mkS l) none (some j) = mkS (l.take j.toNat) := by unfold cutS; rw [mkS_cps, cutL_to _ h]; rfl
theorem cutS_from (l : List Nat) {j : Int} (h : 0 ≤ j) : cutS (mkS l) (some j) none = mkS (l.drop j.toNat) := by unfold cutS; rw [mkS_cps, cutL_from _ h]; rfl
theorem cutS_mid (l : List Nat) {i j : Int} (hi : 0 ≤ i) (h : 0 ≤ j) : cutS (mkS l) (some i) (some j) = mkS ((l.drop i.toNat).take (j.toNat - i.toNat)) := by unfold cutS; rw [mkS_cps, cutL_mid _ hi h]; rfl
theorem cutL_map {α β : Type} (f : α → β) (l : List α) (lo hi : Option Int) : cutL (l.map f) lo hi = (cutL l lo hi).map f := by unfold cutL; rw [List.length_map, List.map_take, List.map_drop]
theorem okE_int (n : Nat) (i : Int) : okE n (.int i) = True := by cases n <;> exact eq_true trivial
theorem okE_str (n : Nat) (i : Str) : okE n (.str i) = True := by cases n <;> exact eq_true trivial
theorem okE_bl (n : Nat) (i : Bool) : okE n (.bl i) = True := by cases n <;> exact eq_true trivial
theorem okE_non (n : Nat) : okE n .non = True := by cases n <;> exact eq_true trivial
theorem beq_dec {α : Type} [BEq α] [LawfulBEq α] [DecidableEq α] (a b : α) : (a == b) = decide (a = b) := by rw [Bool.eq_iff_iff]; simp
theorem eqD_str (a b : Str) : eqD (.str a) (.str b) = decide (a = b) := by simp only [eqD, beq_dec]
theorem eqD_int (a b : Int) : eqD (.int a) (.int b) = decide (a = b) := by simp only [eqD, beq_dec]
theorem line_eq : sizeLine = 16777216 := by decide
@[irreducible] def hold (u : TX) (D : DE) : Ev → Prop := u D
theorem xSeq_h (t u : TX) (D : DE) (ρ : Ev) : xSeq t u D ρ = t { nx := hold u D, rt := D.rt, bk := D.bk, ct := D.ct } ρ := by unfold hold; rfl
local macro_rules | `(tactic| walk_at "all") => `(tactic| simp only [xSeq, xIf, bNot, bAnd, bOr, dTst, dChain, dC, val_fz, val_ow, sl_fz, sl_ow, dCB, aCons, aNil, dVar, List.map_cons, List.map_nil, List.cons_append, List.nil_append, List.set, gt, oLen, oI0, oI, dOp, oAdd, xRet, xNil, xSet, xSetF, dLst, dTup, innP, innS, yName, yNil, yCons, yTup, yLst, oInB, oEq, oNe, oIx, dSl, oNo, oSome, dCall, dAnd, dOr, dNot, dIsi, dIf, dIxO, dLenO, dNeg, dM, oCount, xApp, xRetO, xRetN, xDrop, xAsg, xFrz, frz, dFld, oIsB, isNon, bYes, zSeq, itemsD, zRng1, zEnum, oSum, oInt, oList, cpow24, cpow30, p24, p30, CDiv, CMul, Int.reduceLT, Int.reduceLE, Int.reduceAdd, Int.reduceSub, Int.reduceMul, Int.reduceNeg, Int.reducePow, Int.reduceToNat, decide_true, decide_false, true_and, and_true, and_self, or_true, true_or, okE_int, okE_str, okE_bl, okE_non, ex_atI, Bool.false_eq_true, if_false, if_true, Bool.not_true, Bool.not_false, List.length_cons, List.length_nil, Nat.reduceAdd, decide_eq_true_eq, eqD_int, eqD_str, cutL_map, intsOf_map, strsOf_map, dLend, bLend])
local macro_rules | `(tactic| walk_at "px") => `(tactic| simp only [xSeq_h, xIf, bNot, bAnd, bOr, dTst, dChain, dC, val_fz, val_ow, sl_fz, sl_ow, dCB, aCons, aNil, dVar, List.map_cons, List.map_nil, List.cons_append, List.nil_append, List.set, gt, oLen, oI0, oI, dOp, oAdd, xRet, xNil, xSet, xSetF, dLst, dTup, innP, innS, yName, yNil, yCons, yTup, yLst, oInB, oEq, oNe, oIx, dSl, oNo, oSome, dCall, dAnd, dOr, dNot, dIsi, dIf, dIxO, dLenO, dNeg, dM, oCount, xApp, xRetO, xRetN, xDrop, xAsg, xFrz, frz, dFld, oIsB, isNon, bYes, zSeq, itemsD, zRng1, zEnum, oSum, oInt, oList, cpow24, cpow30, p24, p30, CDiv, CMul, Int.reduceLT, Int.reduceLE, Int.reduceAdd, Int.reduceSub, Int.reduceMul, Int.reduceNeg, Int.reducePow, Int.reduceToNat, decide_true, decide_false, true_and, and_true, and_self, or_true, true_or, okE_int, okE_str, okE_bl, okE_non, ex_atI, Bool.false_eq_true, if_false, if_true, Bool.not_true, Bool.not_false, List.length_cons, List.length_nil, Nat.reduceAdd, decide_eq_true_eq, eqD_int, eqD_str, cutL_map, intsOf_map, strsOf_map, dLend, bLend])
local macro_rules | `(tactic| walk_at "go") => `(tactic| (simp only [hold]; walk_at "px"))
def mixF (c k : Int) : Int := (c % 1000000000000000000000000000000 * (k * k + 48271) + 7919 * k * k * k + 11) % 2147483647 / 7
theorem mix_nn (c k : Int) : 0 ≤ mixF c k := Int.ediv_nonneg (Int.emod_nonneg _ (by decide)) (by decide)
def sp__law_mix : SpD := fun ds Q => ∃ c k : Int, ds = [.int c, .int k] ∧ 0 ≤ k ∧ k ≤ 1000000 ∧ Q (.fz (.int (mixF c k)))
def T__law_mix : TX := (xRet (dOp (oI CDiv fun i j => .int (i / j)) (dOp (oI (fun _ j => 0 < j) fun i j => .int (i % j)) (dOp oAdd (dOp oAdd (dOp (oI CMul fun i j => .int (i * j)) (dOp (oI (fun _ j => 0 < j) fun i j => .int (i % j)) (dVar 0) (dOp (oI CPow fun i j => .int (i ^ j.toNat)) (dC (.int 10)) (dC (.int 30)))) (dOp oAdd (dOp (oI CMul fun i j => .int (i * j)) (dVar 1) (dVar 1)) (dC (.int 48271)))) (dOp (oI CMul fun i j => .int (i * j)) (dOp (oI CMul fun i j => .int (i * j)) (dOp (oI CMul fun i j => .int (i * j)) (dC (.int 7919)) (dVar 1)) (dVar 1)) (dVar 1))) (dC (.int 11))) (dC (.int 2147483647))) (dC (.int 7))))
theorem spec__law_mix (ds : List D) (Qr : R → Prop) (hl : ds.length = 2) (h : sp__law_mix ds Qr) : T__law_mix { nx := fun _ => Qr (.fz .non), rt := Qr } (startP ["_law_cell", "_law_k"] ds) := by
  obtain ⟨c, k, rfl, h0, h1, q⟩ := h
  show T__law_mix _ [.fz (.int c), .fz (.int k)]
  unfold T__law_mix
  walk_at "all"
  have hk : k * k ≤ 1000000 * 1000000 := Int.mul_le_mul h1 h1 h0 (by decide)
  have hk0 : 0 ≤ k * k := Int.mul_nonneg h0 h0
  refine ⟨.inl ⟨by omega, by omega⟩, .inr ⟨by omega, by omega⟩, .inr ⟨by omega, by omega⟩, .inr ⟨by omega, by omega⟩, ?_⟩
  exact q
end Wc
set_option Elab.async false
set_option linter.all false
set_option maxRecDepth 100000
set_option maxHeartbeats 2000000
namespace Wc
open PySem L2 PyProof.Rows
local macro_rules | `(tactic| walk_at "all") => `(tactic| simp only [xSeq, xIf, bNot, bAnd, bOr, dTst, dChain, dC, val_fz, val_ow, sl_fz, sl_ow, dCB, aCons, aNil, dVar, List.map_cons, List.map_nil, List.cons_append, List.nil_append, List.set, gt, oLen, oI0, oI, dOp, oAdd, xRet, xNil, xSet, xSetF, dLst, dTup, innP, innS, yName, yNil, yCons, yTup, yLst, oInB, oEq, oNe, oIx, dSl, oNo, oSome, dCall, dAnd, dOr, dNot, dIsi, dIf, dIxO, dLenO, dNeg, dM, oCount, xApp, xRetO, xRetN, xDrop, xAsg, xFrz, frz, dFld, oIsB, isNon, bYes, zSeq, itemsD, zRng1, zEnum, oSum, oInt, oList, cpow24, cpow30, p24, p30, CDiv, CMul, Int.reduceLT, Int.reduceLE, Int.reduceAdd, Int.reduceSub, Int.reduceMul, Int.reduceNeg, Int.reducePow, Int.reduceToNat, decide_true, decide_false, true_and, and_true, and_self, or_true, true_or, okE_int, okE_str, okE_bl, okE_non, ex_atI, Bool.false_eq_true, if_false, if_true, Bool.not_true, Bool.not_false, List.length_cons, List.length_nil, Nat.reduceAdd, decide_eq_true_eq, eqD_int, eqD_str, cutL_map, intsOf_map, strsOf_map, dLend, bLend])
local macro_rules | `(tactic| walk_at "px") => `(tactic| simp only [xSeq_h, xIf, bNot, bAnd, bOr, dTst, dChain, dC, val_fz, val_ow, sl_fz, sl_ow, dCB, aCons, aNil, dVar, List.map_cons, List.map_nil, List.cons_append, List.nil_append, List.set, gt, oLen, oI0, oI, dOp, oAdd, xRet, xNil, xSet, xSetF, dLst, dTup, innP, innS, yName, yNil, yCons, yTup, yLst, oInB, oEq, oNe, oIx, dSl, oNo, oSome, dCall, dAnd, dOr, dNot, dIsi, dIf, dIxO, dLenO, dNeg, dM, oCount, xApp, xRetO, xRetN, xDrop, xAsg, xFrz, frz, dFld, oIsB, isNon, bYes, zSeq, itemsD, zRng1, zEnum, oSum, oInt, oList, cpow24, cpow30, p24, p30, CDiv, CMul, Int.reduceLT, Int.reduceLE, Int.reduceAdd, Int.reduceSub, Int.reduceMul, Int.reduceNeg, Int.reducePow, Int.reduceToNat, decide_true, decide_false, true_and, and_true, and_self, or_true, true_or, okE_int, okE_str, okE_bl, okE_non, ex_atI, Bool.false_eq_true, if_false, if_true, Bool.not_true, Bool.not_false, List.length_cons, List.length_nil, Nat.reduceAdd, decide_eq_true_eq, eqD_int, eqD_str, cutL_map, intsOf_map, strsOf_map, dLend, bLend])
local macro_rules | `(tactic| walk_at "go") => `(tactic| (simp only [hold]; walk_at "px"))
def dO : Option Str → D
  | none => .non
  | some s => .str s
def dP (l : List (Option Str)) : D := .lst (l.map dO)
def dS (l : List Str) : D := .lst (l.map .str)
def dI (l : List Int) : D := .lst (l.map .int)
def dWp (p : Str × Int) : D := .tup [.str p.1, .int p.2]
def dBp (p : Int × Str) : D := .tup [.int p.1, .str p.2]
def dKp (p : Int × Int × Int) : D := .tup [.int p.1, .int p.2.1, .int p.2.2]
def dW (l : List (Str × Int)) : D := .lst (l.map dWp)
def dB (l : List (Int × Str)) : D := .lst (l.map dBp)
def dK (l : List (Int × Int × Int)) : D := .lst (l.map dKp)
structure Chan where
  top : List (Option Str)
  bottom : List (Option Str)
  left : List Str
  right : List Str
  wide : List (Str × Int)
  bends : List (Int × Str)
  keeps : List (Int × Int × Int)
def Chan.obj (c : Chan) : D := .obj "Channel" [("top", dP c.top), ("bottom", dP c.bottom), ("left", dS c.left), ("right", dS c.right), ("wide", dW c.wide), ("bends", dB c.bends), ("keeps", dK c.keeps)]
theorem okE_dO (n : Nat) (o : Option Str) : okE n (dO o) = True := by
  cases o with
  | none => exact okE_non n
  | some s => exact okE_str n s
theorem eqD_dO (a b : Option Str) : eqD (dO a) (dO b) = decide (a = b) := by
  cases a <;> cases b <;> simp only [dO, eqD, beq_dec, Option.some.injEq, reduceCtorEq, decide_true, decide_false]
theorem eqD_dO_str (a : Option Str) (b : Str) : eqD (dO a) (.str b) = decide (a = some b) := eqD_dO a (some b)
theorem eqD_str_dO (a : Str) (b : Option Str) : eqD (.str a) (dO b) = decide (some a = b) := eqD_dO (some a) b
theorem xfor_enum {α : Type} {wi : TId} {g : TGd} {tb : TX} {D : DE} {ρ : Ev} (L : List α) (φ : α → L2.D) (hw : ∀ Q' : List L2.D → Prop, Q' (enumD (L.map φ)) → wi ρ Q') (Iv : Nat → Ev → Prop) (h0 : Iv 0 ρ)
    (turn : ∀ (i : Nat) x ρ', L[i]? = some x → Iv i ρ' → g (.tup [.int i, φ x]) ρ' fun ρ2 => tb { D with nx := Iv (i + 1), ct := Iv (i + 1), bk := D.nx } ρ2) (fin : ∀ ρ', Iv L.length ρ' → D.nx ρ') : xFor wi g tb D ρ := by
  refine xfor_inv (enumD (L.map φ)) hw Iv h0 (fun i d ρ' hd iv => ?_) (fun ρ' iv => fin ρ' (by simpa [enumD] using iv))
  unfold enumD at hd
  rw [List.getElem?_mapIdx, List.getElem?_map] at hd
  cases hx : L[i]? with
  | none => rw [hx] at hd; cases hd
  | some x => rw [hx] at hd; cases hd; exact turn i x ρ' hx iv
def xForB (g : TGd) (tb : TX) (D : DE) (ρ : Ev) (ds : List L2.D) : Prop := ∃ Iv : Nat → Ev → Prop, Iv 0 ρ ∧
  (∀ i d ρ', ds[i]? = some d → Iv i ρ' → g d ρ' fun ρ2 => tb { D with nx := Iv (i + 1), ct := Iv (i + 1), bk := D.nx } ρ2) ∧ ∀ ρ', Iv ds.length ρ' → D.nx ρ'
theorem xforB_list {α : Type} {g : TGd} {tb : TX} {D : DE} {ρ : Ev} (L : List α) (φ : α → L2.D) (Iv : Nat → Ev → Prop) (h0 : Iv 0 ρ)
    (turn : ∀ i x ρ', L[i]? = some x → Iv i ρ' → g (φ x) ρ' fun ρ2 => tb { D with nx := Iv (i + 1), ct := Iv (i + 1), bk := D.nx } ρ2) (fin : ∀ ρ', Iv L.length ρ' → D.nx ρ') : xForB g tb D ρ (L.map φ) := by
  refine ⟨Iv, h0, fun i d ρ' hd iv => ?_, fun ρ' iv => fin ρ' (by simpa using iv)⟩
  rw [List.getElem?_map] at hd
  cases hx : L[i]? with
  | none => rw [hx] at hd; cases hd
  | some x => rw [hx] at hd; cases hd; exact turn i x ρ' hx iv
theorem okE_lst {n : Nat} {α : Type} (f : α → D) (l : List α) (h : ∀ x ∈ l, okE n (f x)) : okE (n + 1) (.lst (l.map f)) := by
  intro d hd
  rw [List.mem_map] at hd
  obtain ⟨x, hx, rfl⟩ := hd
  exact h x hx
theorem isi_tt (l : List D) : isTy (tyD (.tup l)) "tuple" = true := by show isTy "tuple" "tuple" = true; decide
theorem isi_tl (l : List D) : isTy (tyD (.tup l)) "list" = false := by show isTy "tuple" "list" = false; decide
theorem isi_ll (l : List D) : isTy (tyD (.lst l)) "list" = true := by show isTy "list" "list" = true; decide
theorem isi_lt (l : List D) : isTy (tyD (.lst l)) "tuple" = false := by show isTy "list" "tuple" = false; decide
theorem isi_ib (z : Int) : isTy (tyD (.int z)) "bool" = false := by show isTy "int" "bool" = false; decide
theorem isi_ii (z : Int) : isTy (tyD (.int z)) "int" = true := by show isTy "int" "int" = true; decide
theorem isi_ss (z : Str) : isTy (tyD (.str z)) "str" = true := by show isTy "str" "str" = true; decide
theorem isi_sl (z : Str) : isTy (tyD (.str z)) "list" = false := by show isTy "str" "list" = false; decide
theorem sl_ov (o : OV) : (R.ov o).sl = .ov o := rfl
theorem val_ov (o : OV) : (R.ov o).val = o.val := rfl
end Wc
set_option Elab.async false
set_option linter.all false
set_option maxRecDepth 100000
set_option maxHeartbeats 2000000
namespace Wc
open PySem L2
local macro_rules | `(tactic| walk_at "all") => `(tactic| simp only [xSeq, xIf, bNot, bAnd, bOr, dTst, dChain, dC, val_fz, val_ow, sl_fz, sl_ow, dCB, aCons, aNil, dVar, List.map_cons, List.map_nil, List.cons_append, List.nil_append, List.set, gt, oLen, oI0, oI, dOp, oAdd, xRet, xNil, xSet, xSetF, dLst, dTup, innP, innS, yName, yNil, yCons, yTup, yLst, oInB, oEq, oNe, oIx, dSl, oNo, oSome, dCall, dAnd, dOr, dNot, dIsi, dIf, dIxO, dLenO, dNeg, dM, oCount, xApp, xRetO, xRetN, xDrop, xAsg, xFrz, frz, dFld, oIsB, isNon, bYes, zSeq, itemsD, zRng1, zEnum, oSum, oInt, oList, cpow24, cpow30, p24, p30, CDiv, CMul, Int.reduceLT, Int.reduceLE, Int.reduceAdd, Int.reduceSub, Int.reduceMul, Int.reduceNeg, Int.reducePow, Int.reduceToNat, decide_true, decide_false, true_and, and_true, and_self, or_true, true_or, okE_int, okE_str, okE_bl, okE_non, ex_atI, Bool.false_eq_true, if_false, if_true, Bool.not_true, Bool.not_false, List.length_cons, List.length_nil, Nat.reduceAdd, decide_eq_true_eq, eqD_int, eqD_str, cutL_map, intsOf_map, strsOf_map, dLend, bLend])
local macro_rules | `(tactic| walk_at "px") => `(tactic| simp only [xSeq_h, xIf, bNot, bAnd, bOr, dTst, dChain, dC, val_fz, val_ow, sl_fz, sl_ow, dCB, aCons, aNil, dVar, List.map_cons, List.map_nil, List.cons_append, List.nil_append, List.set, gt, oLen, oI0, oI, dOp, oAdd, xRet, xNil, xSet, xSetF, dLst, dTup, innP, innS, yName, yNil, yCons, yTup, yLst, oInB, oEq, oNe, oIx, dSl, oNo, oSome, dCall, dAnd, dOr, dNot, dIsi, dIf, dIxO, dLenO, dNeg, dM, oCount, xApp, xRetO, xRetN, xDrop, xAsg, xFrz, frz, dFld, oIsB, isNon, bYes, zSeq, itemsD, zRng1, zEnum, oSum, oInt, oList, cpow24, cpow30, p24, p30, CDiv, CMul, Int.reduceLT, Int.reduceLE, Int.reduceAdd, Int.reduceSub, Int.reduceMul, Int.reduceNeg, Int.reducePow, Int.reduceToNat, decide_true, decide_false, true_and, and_true, and_self, or_true, true_or, okE_int, okE_str, okE_bl, okE_non, ex_atI, Bool.false_eq_true, if_false, if_true, Bool.not_true, Bool.not_false, List.length_cons, List.length_nil, Nat.reduceAdd, decide_eq_true_eq, eqD_int, eqD_str, cutL_map, intsOf_map, strsOf_map, dLend, bLend])
local macro_rules | `(tactic| walk_at "go") => `(tactic| (simp only [hold]; walk_at "px"))
def stemL : Nat → Int → List Nat
  | 0, _ => []
  | n + 1, c => (97 + (c % 26).toNat) :: stemL n (c / 26)
theorem stemL_len (n : Nat) (c : Int) : (stemL n c).length = n := by
  induction n generalizing c with
  | zero => rfl
  | succ n ih => simp [stemL, ih]
theorem stemL_ok (n : Nat) (c : Int) : ∀ x ∈ stemL n c, 97 ≤ x ∧ x ≤ 122 := by
  induction n generalizing c with
  | zero => intro x hx; cases hx
  | succ n ih =>
    intro x hx
    rcases List.mem_cons.mp hx with rfl | h
    · have h0 := Int.emod_nonneg c (show (26 : Int) ≠ 0 by decide)
      have h1 := Int.emod_lt_of_pos c (show (0 : Int) < 26 by decide)
      omega
    · exact ih _ x h
def abc : Str := "abcdefghijklmnopqrstuvwxyz"
theorem abc_at : ∀ k : Fin 26, atI abc.cps.toList (k.val : Int) = some (97 + k.val) := by decide +kernel
theorem abc_mod (c : Int) : atI abc.cps.toList (c % 26) = some (97 + (c % 26).toNat) := by
  have h0 := Int.emod_nonneg c (show (26 : Int) ≠ 0 by decide)
  have h1 := Int.emod_lt_of_pos c (show (0 : Int) < 26 by decide)
  have := abc_at ⟨(c % 26).toNat, by omega⟩
  simp only at this
  rwa [Int.toNat_of_nonneg h0] at this
def sp__law_stem : SpD := fun ds Q => ∃ (c : Int) (n : Nat), ds = [.int c, .int n] ∧ n ≤ 1000 ∧ Q (.fz (.str (mkS (stemL n c))))
def T__law_stem : TX := (xSeq (xSetF 2 (dC (.str "abcdefghijklmnopqrstuvwxyz")))
  (xSeq (xSetF 3 (dC (.str "")))
  (xSeq (xFor (zRng1 (aCons (dVar 1) aNil)) (yName 4) (xSeq (xSetF 3 (dOp oAdd (dVar 3) (dOp oIx (dVar 2) (dOp (oI (fun _ j => 0 < j) fun i j => .int (i % j)) (dVar 0) (dC (.int 26))))))
  (xSetF 0 (dOp (oI CDiv fun i j => .int (i / j)) (dVar 0) (dC (.int 26))))))
  (xRet (dVar 3)))))
theorem spec__law_stem (ds : List D) (Qr : R → Prop) (hl : ds.length = 2) (h : sp__law_stem ds Qr) : T__law_stem { nx := fun _ => Qr (.fz .non), rt := Qr } (startP ["_law_cell", "_law_size", "_law_signs", "_law_stem_here", "_law_k"] ds) := by
  obtain ⟨c, n, rfl, hn, q⟩ := h
  show T__law_stem _ [.fz (.int c), .fz (.int n), .un, .un, .un]
  unfold T__law_stem
  walk_at "all"
  refine xfor_range n (fun Q' h => ?_) (fun i ρ => ∃ (c' : Int) (acc : List Nat) (k : Sl), ρ = [.fz (.int c'), .fz (.int n), .fz (.str abc), .fz (.str (mkS acc)), k] ∧ acc.length = i ∧ acc ++ stemL (n - i) c' = stemL n c) ⟨_, [], _, rfl, rfl, rfl⟩ ?_ ?_
  · walk_at "all"
    exact ⟨by omega, by omega, by simpa using h⟩
  · rintro i ρ hi ⟨c', acc, k, rfl, hac, he⟩
    walk_at "all"
    refine ⟨by decide, _, abc_mod c', ?_, _, acc ++ [97 + (c' % 26).toNat], _, by rw [mk1, mkS_add], by simp [hac], ?_⟩
    · rw [mkS_len, mk1, mkS_len, line_eq]; simp; omega
    · rw [← he, show n - i = (n - (i + 1)) + 1 by omega, stemL]; simp
  · rintro ρ ⟨c', acc, k, rfl, hac, he⟩
    walk_at "all"
    rw [Nat.sub_self] at he
    simp only [stemL, List.append_nil] at he
    rw [he]; exact q
end Wc
set_option Elab.async false
set_option linter.all false
set_option maxRecDepth 100000
set_option maxHeartbeats 2000000
namespace Wc
open PySem L2
local macro_rules | `(tactic| walk_at "all") => `(tactic| simp only [xSeq, xIf, bNot, bAnd, bOr, dTst, dChain, dC, val_fz, val_ow, sl_fz, sl_ow, dCB, aCons, aNil, dVar, List.map_cons, List.map_nil, List.cons_append, List.nil_append, List.set, gt, oLen, oI0, oI, dOp, oAdd, xRet, xNil, xSet, xSetF, dLst, dTup, innP, innS, yName, yNil, yCons, yTup, yLst, oInB, oEq, oNe, oIx, dSl, oNo, oSome, dCall, dAnd, dOr, dNot, dIsi, dIf, dIxO, dLenO, dNeg, dM, oCount, xApp, xRetO, xRetN, xDrop, xAsg, xFrz, frz, dFld, oIsB, isNon, bYes, zSeq, itemsD, zRng1, zEnum, oSum, oInt, oList, cpow24, cpow30, p24, p30, CDiv, CMul, Int.reduceLT, Int.reduceLE, Int.reduceAdd, Int.reduceSub, Int.reduceMul, Int.reduceNeg, Int.reducePow, Int.reduceToNat, decide_true, decide_false, true_and, and_true, and_self, or_true, true_or, okE_int, okE_str, okE_bl, okE_non, ex_atI, Bool.false_eq_true, if_false, if_true, Bool.not_true, Bool.not_false, List.length_cons, List.length_nil, Nat.reduceAdd, decide_eq_true_eq, eqD_int, eqD_str, cutL_map, intsOf_map, strsOf_map, dLend, bLend])
local macro_rules | `(tactic| walk_at "px") => `(tactic| simp only [xSeq_h, xIf, bNot, bAnd, bOr, dTst, dChain, dC, val_fz, val_ow, sl_fz, sl_ow, dCB, aCons, aNil, dVar, List.map_cons, List.map_nil, List.cons_append, List.nil_append, List.set, gt, oLen, oI0, oI, dOp, oAdd, xRet, xNil, xSet, xSetF, dLst, dTup, innP, innS, yName, yNil, yCons, yTup, yLst, oInB, oEq, oNe, oIx, dSl, oNo, oSome, dCall, dAnd, dOr, dNot, dIsi, dIf, dIxO, dLenO, dNeg, dM, oCount, xApp, xRetO, xRetN, xDrop, xAsg, xFrz, frz, dFld, oIsB, isNon, bYes, zSeq, itemsD, zRng1, zEnum, oSum, oInt, oList, cpow24, cpow30, p24, p30, CDiv, CMul, Int.reduceLT, Int.reduceLE, Int.reduceAdd, Int.reduceSub, Int.reduceMul, Int.reduceNeg, Int.reducePow, Int.reduceToNat, decide_true, decide_false, true_and, and_true, and_self, or_true, true_or, okE_int, okE_str, okE_bl, okE_non, ex_atI, Bool.false_eq_true, if_false, if_true, Bool.not_true, Bool.not_false, List.length_cons, List.length_nil, Nat.reduceAdd, decide_eq_true_eq, eqD_int, eqD_str, cutL_map, intsOf_map, strsOf_map, dLend, bLend])
local macro_rules | `(tactic| walk_at "go") => `(tactic| (simp only [hold]; walk_at "px"))
def wordsL (c : Int) : List (List Nat) :=
  if c / 64 % 3 = 0 then [104, 103, 102, 101, 100, 99, 98, 97].map fun s => (stemL 6 (c / 512)).take (c / 8 % (c % 6 + 1)).toNat ++ [s] ++ ((stemL 6 (c / 512)).drop (c / 8 % (c % 6 + 1)).toNat).take ((c % 6).toNat - (c / 8 % (c % 6 + 1)).toNat)
  else if c / 64 % 3 = 1 then (List.range 8).map fun k => (stemL 6 (c / 512)).take (c % 6 % 4).toNat ++ [if k / 4 = 0 then 109 else 116] ++ [if k / 2 % 2 = 0 then 110 else 117] ++ [if k % 2 = 0 then 111 else 118]
  else (List.range 6).map (fun k => (stemL 6 (c / 512)).take (k + 1)) ++ [([if (stemL 6 (c / 512)).headD 0 = 97 then 98 else 97] ++ (stemL 6 (c / 512)).drop 1).take 1, ([if (stemL 6 (c / 512)).headD 0 = 97 then 98 else 97] ++ (stemL 6 (c / 512)).drop 1).take 3]
def seedW (i : Int) : Int := (i % 1000000000000000000000000 + 5) * 7046029254386353131 % 1000000000000000000000007
def wordsF (i : Int) : List Str := (wordsL (seedW i)).map mkS
structure Words (ws : List Str) : Prop where
  len : ws.length = 8
  sz : ∀ w ∈ ws, 1 ≤ w.length ∧ w.length ≤ 6
  abc : ∀ w ∈ ws, ∀ x ∈ w.cps.toList, 97 ≤ x ∧ x ≤ 122
  nd : ws.Nodup
theorem stem6 (x : Int) : ∃ a b c d e f : Nat, stemL 6 x = [a, b, c, d, e, f] ∧ (97 ≤ a ∧ a ≤ 122) ∧ (97 ≤ b ∧ b ≤ 122) ∧ (97 ≤ c ∧ c ≤ 122) ∧ (97 ≤ d ∧ d ≤ 122) ∧ (97 ≤ e ∧ e ≤ 122) ∧ (97 ≤ f ∧ f ≤ 122) := by
  have h := stemL_ok 6 x
  simp only [stemL, List.mem_cons, List.not_mem_nil, or_false, forall_eq_or_imp, forall_eq] at h
  exact ⟨_, _, _, _, _, _, by simp only [stemL], h.1, h.2.1, h.2.2.1, h.2.2.2.1, h.2.2.2.2.1, h.2.2.2.2.2⟩
theorem nodup_mk {l : List (List Nat)} (h : l.Nodup) : (l.map mkS).Nodup := by
  unfold List.Nodup at *
  rw [List.pairwise_map]
  exact h.imp fun hab e => hab (mkS_inj.mp e)
theorem wordsL_ok (c : Int) : (wordsL c).length = 8 ∧ (∀ w ∈ wordsL c, (1 ≤ w.length ∧ w.length ≤ 6) ∧ ∀ x ∈ w, 97 ≤ x ∧ x ≤ 122) ∧ (wordsL c).Nodup := by
  have hst := stemL_ok 6 (c / 512)
  have hln := stemL_len 6 (c / 512)
  have s0 : 0 ≤ c % 6 := Int.emod_nonneg _ (by decide)
  have s1 : c % 6 < 6 := Int.emod_lt_of_pos _ (by decide)
  unfold wordsL
  by_cases h0 : c / 64 % 3 = 0
  · rw [if_pos h0]
    have t0 : 0 ≤ c / 8 % (c % 6 + 1) := Int.emod_nonneg _ (by omega)
    have t1 : c / 8 % (c % 6 + 1) < c % 6 + 1 := Int.emod_lt_of_pos _ (by omega)
    generalize c / 8 % (c % 6 + 1) = at' at *
    generalize stemL 6 (c / 512) = st at *
    refine ⟨rfl, fun w hw => ?_, ?_⟩
    · rw [List.mem_map] at hw
      obtain ⟨s, hs, rfl⟩ := hw
      have hs' : 97 ≤ s ∧ s ≤ 122 := by
        simp only [List.mem_cons, List.not_mem_nil, or_false] at hs
        omega
      refine ⟨?_, fun x hx => ?_⟩
      · simp only [List.length_append, List.length_take, List.length_drop, List.length_cons, List.length_nil, hln]
        omega
      · simp only [List.mem_append, List.mem_singleton] at hx
        rcases hx with (hx | rfl) | hx
        · exact hst x (List.mem_of_mem_take hx)
        · exact hs'
        · exact hst x (List.mem_of_mem_drop (List.mem_of_mem_take hx))
    · simp [List.append_assoc]
  · rw [if_neg h0]
    by_cases h1 : c / 64 % 3 = 1
    · rw [if_pos h1]
      have u0 : 0 ≤ c % 6 % 4 := Int.emod_nonneg _ (by decide)
      have u1 : c % 6 % 4 < 4 := Int.emod_lt_of_pos _ (by decide)
      generalize c % 6 % 4 = m at *
      generalize stemL 6 (c / 512) = st at *
      refine ⟨by simp, fun w hw => ?_, ?_⟩
      · rw [List.mem_map] at hw
        obtain ⟨s, hs, rfl⟩ := hw
        refine ⟨?_, fun x hx => ?_⟩
        · simp only [List.length_append, List.length_take, List.length_drop, List.length_cons, List.length_nil, hln]
          omega
        · simp only [List.mem_append, List.mem_singleton] at hx
          rcases hx with ((hx | rfl) | rfl) | rfl
          · exact hst x (List.mem_of_mem_take hx)
          · split <;> omega
          · split <;> omega
          · split <;> omega
      · simp [List.range, List.range.loop, List.append_assoc]
    · rw [if_neg h1]
      obtain ⟨a, b, c', d, e, f, hs, ha, hb, hc, hd, he, hf⟩ := stem6 (c / 512)
      rw [hs]
      have ho : 97 ≤ (if a = 97 then 98 else 97) ∧ (if a = 97 then 98 else 97) ≤ 122 ∧ (if a = 97 then 98 else 97) ≠ a := by split <;> omega
      generalize (if a = 97 then 98 else 97) = o at ho
      refine ⟨by simp, ?_, ?_⟩
      · intro w hw
        simp [List.range, List.range.loop] at hw
        rcases hw with rfl | rfl | rfl | rfl | rfl | rfl | rfl | rfl <;> (refine ⟨by simp, fun x hx => ?_⟩) <;> simp at hx <;> (try split at hx) <;> omega
      · have : ¬ a = o := fun z => ho.2.2 z.symm
        simp [List.range, List.range.loop]
        split <;> omega
theorem wordsF_ok (i : Int) : Words (wordsF i) := by
  obtain ⟨h1, h2, h3⟩ := wordsL_ok (seedW i)
  refine ⟨by simp [wordsF, h1], fun w hw => ?_, fun w hw => ?_, nodup_mk h3⟩
  · unfold wordsF at hw
    rw [List.mem_map] at hw
    obtain ⟨l, hl, rfl⟩ := hw
    rw [mkS_len]; exact (h2 l hl).1
  · unfold wordsF at hw
    rw [List.mem_map] at hw
    obtain ⟨l, hl, rfl⟩ := hw
    rw [mkS_cps]; exact (h2 l hl).2
def sp__law_named : SpD := fun ds Q => ∃ i : Int, ds = [.int i] ∧ Q (.ow ((wordsF i).map .str))
def T__law_named : TX := (xSeq (xSetF 0 (dOp (oI (fun _ j => 0 < j) fun i j => .int (i % j)) (dOp (oI CMul fun i j => .int (i * j)) (dOp oAdd (dOp (oI (fun _ j => 0 < j) fun i j => .int (i % j)) (dVar 0) (dOp (oI CPow fun i j => .int (i ^ j.toNat)) (dC (.int 10)) (dC (.int 24)))) (dC (.int 5))) (dC (.int 7046029254386353131))) (dOp oAdd (dOp (oI CPow fun i j => .int (i ^ j.toNat)) (dC (.int 10)) (dC (.int 24))) (dC (.int 7)))))
  (xSeq (xSetF 1 (dOp (oI (fun _ j => 0 < j) fun i j => .int (i % j)) (dVar 0) (dC (.int 6))))
  (xSeq (xSetF 2 (dCall 2 sp__law_stem (aCons (dOp (oI CDiv fun i j => .int (i / j)) (dVar 0) (dC (.int 512))) (aCons (dC (.int 6)) aNil))))
  (xSeq (xSetF 3 (dOp (oI (fun _ j => 0 < j) fun i j => .int (i % j)) (dOp (oI CDiv fun i j => .int (i / j)) (dVar 0) (dC (.int 8))) (dOp oAdd (dVar 1) (dC (.int 1)))))
  (xSeq (xIf (dTst (dOp oEq (dOp (oI (fun _ j => 0 < j) fun i j => .int (i % j)) (dOp (oI CDiv fun i j => .int (i / j)) (dVar 0) (dC (.int 64))) (dC (.int 3))) (dC (.int 0)))) (xRet (dComp (zSeq (dC (.str "hgfedcba"))) [none, some 2, some 3, some 1] (yName 0) bYes (dOp oAdd (dOp oAdd (dSl (dVar 1) oNo (oSome (dVar 2))) (dVar 0)) (dSl (dVar 1) (oSome (dVar 2)) (oSome (dVar 3)))))) xNil)
  (xSeq (xIf (dTst (dOp oEq (dOp (oI (fun _ j => 0 < j) fun i j => .int (i % j)) (dOp (oI CDiv fun i j => .int (i / j)) (dVar 0) (dC (.int 64))) (dC (.int 3))) (dC (.int 1)))) (xRet (dComp (zRng1 (aCons (dC (.int 8)) aNil)) [none, some 2, some 1] (yName 0) bYes (dOp oAdd (dOp oAdd (dOp oAdd (dSl (dVar 1) oNo (oSome (dOp (oI (fun _ j => 0 < j) fun i j => .int (i % j)) (dVar 2) (dC (.int 4))))) (dOp oIx (dC (.str "mt")) (dOp (oI CDiv fun i j => .int (i / j)) (dVar 0) (dC (.int 4))))) (dOp oIx (dC (.str "nu")) (dOp (oI (fun _ j => 0 < j) fun i j => .int (i % j)) (dOp (oI CDiv fun i j => .int (i / j)) (dVar 0) (dC (.int 2))) (dC (.int 2))))) (dOp oIx (dC (.str "ov")) (dOp (oI (fun _ j => 0 < j) fun i j => .int (i % j)) (dVar 0) (dC (.int 2))))))) xNil)
  (xSeq (xSetF 4 (dOp oAdd (dOp oIx (dC (.str "ab")) (dCB oInt (aCons (dOp oEq (dOp oIx (dVar 2) (dC (.int 0))) (dC (.str "a"))) aNil))) (dSl (dVar 2) (oSome (dC (.int 1))) oNo)))
  (xRet (dOp oAdd (dComp (zRng1 (aCons (dC (.int 6)) aNil)) [none, some 2] (yName 0) bYes (dSl (dVar 1) oNo (oSome (dOp oAdd (dVar 0) (dC (.int 1)))))) (dLst (aCons (dSl (dVar 4) oNo (oSome (dC (.int 1)))) (aCons (dSl (dVar 4) oNo (oSome (dC (.int 3)))) aNil))))))))))))
theorem signs8 : (Str.ofString "hgfedcba").cps.toList = [104, 103, 102, 101, 100, 99, 98, 97] := by decide +kernel
theorem mt_at (k : Nat) (h : k < 8) : atI (Str.ofString "mt").cps.toList ((k : Int) / 4) = some (if k / 4 = 0 then 109 else 116) := by
  have : ∀ k : Fin 8, atI (Str.ofString "mt").cps.toList ((k.val : Int) / 4) = some (if k.val / 4 = 0 then 109 else 116) := by decide +kernel
  exact this ⟨k, h⟩
theorem nu_at (k : Nat) (h : k < 8) : atI (Str.ofString "nu").cps.toList ((k : Int) / 2 % 2) = some (if k / 2 % 2 = 0 then 110 else 117) := by
  have : ∀ k : Fin 8, atI (Str.ofString "nu").cps.toList ((k.val : Int) / 2 % 2) = some (if k.val / 2 % 2 = 0 then 110 else 117) := by decide +kernel
  exact this ⟨k, h⟩
theorem ov_at (k : Nat) (h : k < 8) : atI (Str.ofString "ov").cps.toList ((k : Int) % 2) = some (if k % 2 = 0 then 111 else 118) := by
  have : ∀ k : Fin 8, atI (Str.ofString "ov").cps.toList ((k.val : Int) % 2) = some (if k.val % 2 = 0 then 111 else 118) := by decide +kernel
  exact this ⟨k, h⟩
theorem spec__law_named (ds : List D) (Qr : R → Prop) (hl : ds.length = 1) (h : sp__law_named ds Qr) : T__law_named { nx := fun _ => Qr (.fz .non), rt := Qr } (startP ["_law_cell", "_law_size", "_law_stem_here", "_law_at", "_law_other"] ds) := by
  obtain ⟨i, rfl, q⟩ := h
  show T__law_named _ [.fz (.int i), .un, .un, .un, .un]
  unfold T__law_named
  walk_at "all"
  unfold wordsF wordsL seedW at q
  generalize (i % 1000000000000000000000000 + 5) * 7046029254386353131 % 1000000000000000000000007 = c at q ⊢
  have s0 : 0 ≤ c % 6 := Int.emod_nonneg _ (by decide)
  have s1 : c % 6 < 6 := Int.emod_lt_of_pos _ (by decide)
  refine ⟨c / 512, 6, rfl, by decide, by omega, ?_⟩
  have t0 : 0 ≤ c / 8 % (c % 6 + 1) := Int.emod_nonneg _ (by omega)
  have t1 : c / 8 % (c % 6 + 1) < c % 6 + 1 := Int.emod_lt_of_pos _ (by omega)
  have hln := stemL_len 6 (c / 512)
  have big := line_eq
  by_cases h0 : c / 64 % 3 = 0
  · rw [if_pos h0] at q
    rw [if_pos h0]
    refine comp_map [104, 103, 102, 101, 100, 99, 98, 97] (fun c => .str ⟨#[c]⟩) (fun s => .str (mkS ((stemL 6 (c / 512)).take (c / 8 % (c % 6 + 1)).toNat ++ [s] ++ ((stemL 6 (c / 512)).drop (c / 8 % (c % 6 + 1)).toNat).take ((c % 6).toNat - (c / 8 % (c % 6 + 1)).toNat)))) (fun Q' h => ?_) (by decide) (fun s hs K1 k => ?_) ?_
    · walk_at "all"
      rw [signs8]; exact h
    · walk_at "all"
      rw [cutS_to _ t0, cutS_mid _ t0 s0, mk1, mkS_add, mkS_add]
      refine ⟨by rw [mkS_len]; omega, ?_, by rw [mkS_len]; omega, ?_, k⟩
      · simp only [mkS_len, List.length_take, List.length_cons, List.length_nil]; omega
      · simp only [mkS_len, List.length_append, List.length_take, List.length_drop, List.length_cons, List.length_nil]; omega
    · exact q
  · rw [if_neg h0] at q
    rw [if_neg h0]
    by_cases h1 : c / 64 % 3 = 1
    · rw [if_pos h1] at q
      rw [if_pos h1]
      have u0 : 0 ≤ c % 6 % 4 := Int.emod_nonneg _ (by decide)
      refine comp_map (List.range 8) (fun (i : Nat) => .int (0 + i)) (fun k => .str (mkS ((stemL 6 (c / 512)).take (c % 6 % 4).toNat ++ [if k / 4 = 0 then 109 else 116] ++ [if k / 2 % 2 = 0 then 110 else 117] ++ [if k % 2 = 0 then 111 else 118]))) (fun Q' h => ?_) (by decide) (fun s hs K1 k => ?_) ?_
      · walk_at "all"
        exact h
      · have hs8 : s < 8 := by simpa using hs
        rw [Int.zero_add]
        walk_at "all"
        rw [cutS_to _ u0]
        refine ⟨by rw [mkS_len]; omega, by decide, _, mt_at s hs8, ?_, by decide, _, nu_at s hs8, ?_, by decide, _, ov_at s hs8, ?_, ?_⟩
        · simp only [mkS_len, mk1, List.length_take, List.length_cons, List.length_nil]; omega
        · simp only [mkS_len, mk1, mkS_add, List.length_append, List.length_take, List.length_cons, List.length_nil]; omega
        · simp only [mkS_len, mk1, mkS_add, List.length_append, List.length_take, List.length_cons, List.length_nil]; omega
        · simp only [mk1, mkS_add]; exact k
      · rw [List.map_map] at q
        exact q
    · rw [if_neg h1] at q
      rw [if_neg h1]
      obtain ⟨a, b, c', d, e, f, hs, ha, hb, hc, hd, he, hf⟩ := stem6 (c / 512)
      rw [hs] at q ⊢
      have hat : atI (mkS [a, b, c', d, e, f]).cps.toList 0 = some a := by rw [mkS_cps]; rfl
      refine ⟨by rw [mkS_len]; simp; omega, a, hat, ?_⟩
      have ho : atI (Str.ofString "ab").cps.toList (if (⟨#[a]⟩ : Str) = Str.ofString "a" then 1 else 0) = some (if a = 97 then 98 else 97) := by
        by_cases h97 : a = 97
        · subst h97; decide +kernel
        · have : ¬ ((⟨#[a]⟩ : Str) = Str.ofString "a") := by
            intro z
            have z2 : (⟨#[a]⟩ : Str).cps.toList = (Str.ofString "a").cps.toList := by rw [z]
            have z3 : (Str.ofString "a").cps.toList = [97] := by decide +kernel
            rw [z3] at z2
            simp at z2
            exact h97 z2
          rw [if_neg this, if_neg h97]
          decide +kernel
      refine ⟨by decide, _, ho, ?_⟩
      walk_at "all"
      rw [cutS_from _ (by decide), mk1, mkS_add]
      refine ⟨by rw [mkS_len]; simp; omega, by simp only [mkS_len]; simp; omega, ?_⟩
      refine comp_map (List.range 6) (fun (i : Nat) => .int (0 + i)) (fun k => .str (mkS ([a, b, c', d, e, f].take (k + 1)))) (fun Q' h => ?_) (by decide) (fun s hs K1 k => ?_) ?_
      · walk_at "all"
        exact h
      · walk_at "all"
        rw [cutS_to _ (by omega), show (0 + (s : Int) + 1).toNat = s + 1 by omega]
        exact ⟨by rw [mkS_len]; simp; omega, k⟩
      · walk_at "all"
        rw [cutS_to _ (by decide), cutS_to _ (by decide)]
        refine ⟨by rw [mkS_len]; simp; omega, by rw [mkS_len]; simp; omega, by decide, by simp; omega, ?_⟩
        simp only [List.map_append, List.map_map, List.map_cons, List.map_nil] at q
        exact q
end Wc
set_option Elab.async false
set_option linter.all false
set_option maxRecDepth 100000
set_option maxHeartbeats 2000000
namespace Wc
open PySem L2 PyProof.Rows
local macro_rules | `(tactic| walk_at "all") => `(tactic| simp only [xSeq, xIf, bNot, bAnd, bOr, dTst, dChain, dC, val_fz, val_ow, sl_fz, sl_ow, dCB, aCons, aNil, dVar, List.map_cons, List.map_nil, List.cons_append, List.nil_append, List.set, gt, oLen, oI0, oI, dOp, oAdd, xRet, xNil, xSet, xSetF, dLst, dTup, innP, innS, yName, yNil, yCons, yTup, yLst, oInB, oEq, oNe, oIx, dSl, oNo, oSome, dCall, dAnd, dOr, dNot, dIsi, dIf, dIxO, dLenO, dNeg, dM, oCount, xApp, xRetO, xRetN, xDrop, xAsg, xFrz, frz, dFld, oIsB, isNon, bYes, zSeq, itemsD, zRng1, zEnum, oSum, oInt, oList, cpow24, cpow30, p24, p30, CDiv, CMul, Int.reduceLT, Int.reduceLE, Int.reduceAdd, Int.reduceSub, Int.reduceMul, Int.reduceNeg, Int.reducePow, Int.reduceToNat, decide_true, decide_false, true_and, and_true, and_self, or_true, true_or, okE_int, okE_str, okE_bl, okE_non, ex_atI, Bool.false_eq_true, if_false, if_true, Bool.not_true, Bool.not_false, List.length_cons, List.length_nil, Nat.reduceAdd, decide_eq_true_eq, eqD_int, eqD_str, cutL_map, intsOf_map, strsOf_map, dLend, bLend, eqD_dO_str, eqD_str_dO, eqD_dO, okE_dO])
local macro_rules | `(tactic| walk_at "px") => `(tactic| simp only [xSeq_h, xIf, bNot, bAnd, bOr, dTst, dChain, dC, val_fz, val_ow, sl_fz, sl_ow, dCB, aCons, aNil, dVar, List.map_cons, List.map_nil, List.cons_append, List.nil_append, List.set, gt, oLen, oI0, oI, dOp, oAdd, xRet, xNil, xSet, xSetF, dLst, dTup, innP, innS, yName, yNil, yCons, yTup, yLst, oInB, oEq, oNe, oIx, dSl, oNo, oSome, dCall, dAnd, dOr, dNot, dIsi, dIf, dIxO, dLenO, dNeg, dM, oCount, xApp, xRetO, xRetN, xDrop, xAsg, xFrz, frz, dFld, oIsB, isNon, bYes, zSeq, itemsD, zRng1, zEnum, oSum, oInt, oList, cpow24, cpow30, p24, p30, CDiv, CMul, Int.reduceLT, Int.reduceLE, Int.reduceAdd, Int.reduceSub, Int.reduceMul, Int.reduceNeg, Int.reducePow, Int.reduceToNat, decide_true, decide_false, true_and, and_true, and_self, or_true, true_or, okE_int, okE_str, okE_bl, okE_non, ex_atI, Bool.false_eq_true, if_false, if_true, Bool.not_true, Bool.not_false, List.length_cons, List.length_nil, Nat.reduceAdd, decide_eq_true_eq, eqD_int, eqD_str, cutL_map, intsOf_map, strsOf_map, dLend, bLend, eqD_dO_str, eqD_str_dO, eqD_dO, okE_dO])
local macro_rules | `(tactic| walk_at "go") => `(tactic| (simp only [hold]; walk_at "px"))
structure Pc where
  n : Option Str
  l : Int
  r : Int
  k : Int
  deriving DecidableEq
def dPc (p : Pc) : D := .tup [dO p.n, .int p.l, .int p.r, .int p.k]
def dPs (ps : List Pc) : D := .lst (ps.map dPc)
def dJ : Option Int → D
  | none => .non
  | some i => .int i
theorem okE_dPc (n : Nat) (p : Pc) : okE (n + 1) (dPc p) := by
  intro d hd
  simp only [List.mem_cons, List.not_mem_nil, or_false] at hd
  rcases hd with rfl | rfl | rfl | rfl
  · rw [okE_dO]; trivial
  all_goals (rw [okE_int]; trivial)
theorem okE_dPs (n : Nat) (ps : List Pc) : okE (n + 2) (dPs ps) := okE_lst dPc ps fun p _ => okE_dPc n p
end Wc
set_option Elab.async false
set_option linter.all false
set_option maxRecDepth 100000
set_option maxHeartbeats 2000000
namespace Wc
open PySem L2 PyProof.Rows
local macro_rules | `(tactic| walk_at "all") => `(tactic| simp only [xSeq, xIf, bNot, bAnd, bOr, dTst, dChain, dC, val_fz, val_ow, sl_fz, sl_ow, dCB, aCons, aNil, dVar, List.map_cons, List.map_nil, List.cons_append, List.nil_append, List.set, gt, oLen, oI0, oI, dOp, oAdd, xRet, xNil, xSet, xSetF, dLst, dTup, innP, innS, yName, yNil, yCons, yTup, yLst, oInB, oEq, oNe, oIx, dSl, oNo, oSome, dCall, dAnd, dOr, dNot, dIsi, dIf, dIxO, dLenO, dNeg, dM, oCount, xApp, xRetO, xRetN, xDrop, xAsg, xFrz, frz, dFld, oIsB, isNon, bYes, zSeq, itemsD, zRng1, zEnum, oSum, oInt, oList, cpow24, cpow30, p24, p30, CDiv, CMul, Int.reduceLT, Int.reduceLE, Int.reduceAdd, Int.reduceSub, Int.reduceMul, Int.reduceNeg, Int.reducePow, Int.reduceToNat, decide_true, decide_false, true_and, and_true, and_self, or_true, true_or, okE_int, okE_str, okE_bl, okE_non, ex_atI, Bool.false_eq_true, if_false, if_true, Bool.not_true, Bool.not_false, List.length_cons, List.length_nil, Nat.reduceAdd, decide_eq_true_eq, eqD_int, eqD_str, cutL_map, intsOf_map, strsOf_map, dLend, bLend, sl_ov, val_ov, gt])
local macro_rules | `(tactic| walk_at "px") => `(tactic| simp only [xSeq_h, xIf, bNot, bAnd, bOr, dTst, dChain, dC, val_fz, val_ow, sl_fz, sl_ow, dCB, aCons, aNil, dVar, List.map_cons, List.map_nil, List.cons_append, List.nil_append, List.set, gt, oLen, oI0, oI, dOp, oAdd, xRet, xNil, xSet, xSetF, dLst, dTup, innP, innS, yName, yNil, yCons, yTup, yLst, oInB, oEq, oNe, oIx, dSl, oNo, oSome, dCall, dAnd, dOr, dNot, dIsi, dIf, dIxO, dLenO, dNeg, dM, oCount, xApp, xRetO, xRetN, xDrop, xAsg, xFrz, frz, dFld, oIsB, isNon, bYes, zSeq, itemsD, zRng1, zEnum, oSum, oInt, oList, cpow24, cpow30, p24, p30, CDiv, CMul, Int.reduceLT, Int.reduceLE, Int.reduceAdd, Int.reduceSub, Int.reduceMul, Int.reduceNeg, Int.reducePow, Int.reduceToNat, decide_true, decide_false, true_and, and_true, and_self, or_true, true_or, okE_int, okE_str, okE_bl, okE_non, ex_atI, Bool.false_eq_true, if_false, if_true, Bool.not_true, Bool.not_false, List.length_cons, List.length_nil, Nat.reduceAdd, decide_eq_true_eq, eqD_int, eqD_str, cutL_map, intsOf_map, strsOf_map, dLend, bLend, sl_ov, val_ov, gt])
local macro_rules | `(tactic| walk_at "go") => `(tactic| (simp only [hold]; walk_at "px"))
def ovr (c : Int) (p : Pc) : Bool := decide (p.l ≤ c) && decide (c ≤ p.r)
def sp_pieces_in : SpD := fun ds Q => ∃ (ps : List Pc) (c : Int), ds = [dPs ps, .int c] ∧ ps.length ≤ 1000 ∧ Q (.ow ((ps.filter (ovr c)).map dPc))
def T_pieces_in : TX := (xRet (dComp (zSeq (dVar 0)) [none, some 1] (yName 0) (dTst (dChain (oI0 fun i j => .bl (decide (i ≤ j))) (oI0 fun i j => .bl (decide (i ≤ j))) (dOp oIx (dVar 0) (dC (.int 1))) (dVar 1) (dOp oIx (dVar 0) (dC (.int 2))))) (dVar 0)))
theorem spec_pieces_in (ds : List D) (Qr : R → Prop) (hl : ds.length = 2) (h : sp_pieces_in ds Qr) : T_pieces_in { nx := fun _ => Qr (.fz .non), rt := Qr } (startP ["pieces", "column"] ds) := by
  obtain ⟨ps, c, rfl, hn, Q⟩ := h
  show T_pieces_in _ [.fz (dPs ps), .fz (.int c)]
  unfold T_pieces_in
  have big := line_eq
  walk_at "px"
  refine comp_filter ps dPc dPc (ovr c) (fun Q' h => ?_) (by rw [big]; omega) (fun p hp K1 K0 h1 h0 => ?_) Q
  · walk_at "px"
    exact h
  · rw [show dPc p = .tup [dO p.n, .int p.l, .int p.r, .int p.k] from rfl] at h1 ⊢
    walk_at "px"
    refine ⟨.int p.l, rfl, ?_⟩
    show if p.l ≤ c then _ else _
    unfold ovr at h1 h0
    by_cases c1 : p.l ≤ c
    · rw [if_pos c1]
      refine ⟨.int p.r, rfl, ?_⟩
      show if c ≤ p.r then _ else _
      by_cases c2 : c ≤ p.r
      · rw [if_pos c2]; exact h1 (by simp [c1, c2])
      · rw [if_neg c2]; exact h0 (by simp [c2])
    · rw [if_neg c1]; exact h0 (by simp [c1])
end Wc
set_option Elab.async false
set_option linter.all false
set_option maxRecDepth 100000
set_option maxHeartbeats 2000000
namespace Wc
open PySem L2 PyProof.Rows
local macro_rules | `(tactic| walk_at "all") => `(tactic| simp only [xSeq, xIf, bNot, bAnd, bOr, dTst, dChain, dC, val_fz, val_ow, sl_fz, sl_ow, dCB, aCons, aNil, dVar, List.map_cons, List.map_nil, List.cons_append, List.nil_append, List.set, gt, oLen, oI0, oI, dOp, oAdd, xRet, xNil, xSet, xSetF, dLst, dTup, innP, innS, yName, yNil, yCons, yTup, yLst, oInB, oEq, oNe, oIx, dSl, oNo, oSome, dCall, dAnd, dOr, dNot, dIsi, dIf, dIxO, dLenO, dNeg, dM, oCount, xApp, xRetO, xRetN, xDrop, xAsg, xFrz, frz, dFld, oIsB, isNon, bYes, zSeq, itemsD, zRng1, zEnum, oSum, oInt, oList, cpow24, cpow30, p24, p30, CDiv, CMul, Int.reduceLT, Int.reduceLE, Int.reduceAdd, Int.reduceSub, Int.reduceMul, Int.reduceNeg, Int.reducePow, Int.reduceToNat, decide_true, decide_false, true_and, and_true, and_self, or_true, true_or, okE_int, okE_str, okE_bl, okE_non, ex_atI, Bool.false_eq_true, if_false, if_true, Bool.not_true, Bool.not_false, List.length_cons, List.length_nil, Nat.reduceAdd, decide_eq_true_eq, eqD_int, eqD_str, cutL_map, intsOf_map, strsOf_map, dLend, bLend, sl_ov, val_ov, gt, dNewD])
local macro_rules | `(tactic| walk_at "px") => `(tactic| simp only [xSeq_h, xIf, bNot, bAnd, bOr, dTst, dChain, dC, val_fz, val_ow, sl_fz, sl_ow, dCB, aCons, aNil, dVar, List.map_cons, List.map_nil, List.cons_append, List.nil_append, List.set, gt, oLen, oI0, oI, dOp, oAdd, xRet, xNil, xSet, xSetF, dLst, dTup, innP, innS, yName, yNil, yCons, yTup, yLst, oInB, oEq, oNe, oIx, dSl, oNo, oSome, dCall, dAnd, dOr, dNot, dIsi, dIf, dIxO, dLenO, dNeg, dM, oCount, xApp, xRetO, xRetN, xDrop, xAsg, xFrz, frz, dFld, oIsB, isNon, bYes, zSeq, itemsD, zRng1, zEnum, oSum, oInt, oList, cpow24, cpow30, p24, p30, CDiv, CMul, Int.reduceLT, Int.reduceLE, Int.reduceAdd, Int.reduceSub, Int.reduceMul, Int.reduceNeg, Int.reducePow, Int.reduceToNat, decide_true, decide_false, true_and, and_true, and_self, or_true, true_or, okE_int, okE_str, okE_bl, okE_non, ex_atI, Bool.false_eq_true, if_false, if_true, Bool.not_true, Bool.not_false, List.length_cons, List.length_nil, Nat.reduceAdd, decide_eq_true_eq, eqD_int, eqD_str, cutL_map, intsOf_map, strsOf_map, dLend, bLend, sl_ov, val_ov, gt, dNewD])
local macro_rules | `(tactic| walk_at "go") => `(tactic| (simp only [hold]; walk_at "px"))
abbrev Nt := List (Key × D)
def dNt (W : Str → Int) (L : List Str) : Nt := L.map fun x => (.inr x, .int (W x))
def addN (L : List Str) (x : Str) : List Str := if x ∈ L then L else L ++ [x]
theorem putM_dNt (W : Str → Int) (L : List Str) (x : Str) : putM (dNt W L) (.inr x) (.int (W x)) = dNt W (addN L x) := by
  unfold putM addN dNt
  have e : ((L.map fun y => ((Sum.inr y : Key), D.int (W y))).any fun kv => decide (kv.1 = Sum.inr x)) = decide (x ∈ L) := by
    rw [List.any_map, Bool.eq_iff_iff, List.any_eq_true, decide_eq_true_eq]
    constructor
    · rintro ⟨y, hy, e⟩
      simp only [Function.comp_apply, decide_eq_true_eq] at e
      injection e with e
      exact e ▸ hy
    · intro h
      exact ⟨x, h, by simp⟩
  rw [e]
  by_cases h : x ∈ L
  · rw [if_pos (by simpa using h), if_pos h, List.map_map]
    refine List.map_congr_left fun y hy => ?_
    simp only [Function.comp_apply]
    split
    · rename_i e2
      injection e2 with e2
      rw [e2]
    · rfl
  · rw [if_neg (by simpa using h), if_neg h, List.map_append]; rfl
theorem valsI_dNt (W : Str → Int) : ∀ L : List Str, valsI (dNt W L) = some (L.map W)
  | [] => rfl
  | x :: L => by
    show (valsI (dNt W L)).map (W x :: ·) = _
    rw [valsI_dNt W L]; rfl
def nmS (c : Int) (L : List Str) (p : Pc) : List Str := if ovr c p = true then match p.n with
    | none => L
    | some x => addN L x
  else L
def nms (c : Int) (ps : List Pc) : List Str := ps.foldl (nmS c) []
def kpS (c : Int) (ps : List Pc) : Int := ((ps.filter fun p => ovr c p && p.n.isNone).map Pc.k).sum
def loadF (W : Str → Int) (ps : List Pc) (c : Int) : Int := kpS c ps + ((nms c ps).map W).sum
theorem nms_ok (c : Int) (ps : List Pc) : (nms c ps).Nodup ∧ ∀ x, x ∈ nms c ps ↔ ∃ p ∈ ps, ovr c p = true ∧ p.n = some x := by
  have : ∀ (r : List Pc) (L : List Str) (q : List Pc), L.Nodup ∧ (∀ x, x ∈ L ↔ ∃ p ∈ q, ovr c p = true ∧ p.n = some x) → (r.foldl (nmS c) L).Nodup ∧ ∀ x, x ∈ r.foldl (nmS c) L ↔ ∃ p ∈ q ++ r, ovr c p = true ∧ p.n = some x := by
    intro r
    induction r with
    | nil => intro L q h; simpa using h
    | cons p r ih =>
      intro L q h
      rw [List.foldl_cons]
      have h2 := ih (nmS c L p) (q ++ [p]) ?_
      · simpa using h2
      · unfold nmS
        by_cases ho : ovr c p = true
        · rw [if_pos ho]
          cases hn : p.n with
          | none =>
            refine ⟨h.1, fun x => ?_⟩
            rw [h.2 x]
            constructor
            · rintro ⟨y, hy, e⟩; exact ⟨y, by simp [hy], e⟩
            · rintro ⟨y, hy, e1, e2⟩
              rcases List.mem_append.mp hy with hy | hy
              · exact ⟨y, hy, e1, e2⟩
              · simp at hy; subst hy; rw [hn] at e2; cases e2
          | some z =>
            show (addN L z).Nodup ∧ ∀ x, x ∈ addN L z ↔ ∃ p', p' ∈ q ++ [p] ∧ ovr c p' = true ∧ p'.n = some x
            unfold addN
            by_cases hz : z ∈ L
            · rw [if_pos hz]
              refine ⟨h.1, fun x => ?_⟩
              rw [h.2 x]
              constructor
              · rintro ⟨y, hy, e⟩; exact ⟨y, by simp [hy], e⟩
              · rintro ⟨y, hy, e1, e2⟩
                rcases List.mem_append.mp hy with hy | hy
                · exact ⟨y, hy, e1, e2⟩
                · simp at hy; subst hy
                  rw [hn] at e2; cases e2
                  exact (h.2 _).mp hz
            · rw [if_neg hz]
              refine ⟨?_, fun x => ?_⟩
              · rw [List.nodup_append]
                exact ⟨h.1, by simp, fun a ha b hb => by simp at hb; subst hb; exact fun z' => hz (z' ▸ ha)⟩
              · rw [List.mem_append, h.2 x]
                constructor
                · rintro (⟨y, hy, e⟩ | hx)
                  · exact ⟨y, by simp [hy], e⟩
                  · simp at hx; subst hx
                    exact ⟨p, by simp, ho, hn⟩
                · rintro ⟨y, hy, e1, e2⟩
                  rcases List.mem_append.mp hy with hy | hy
                  · exact .inl ⟨y, hy, e1, e2⟩
                  · simp at hy; subst hy
                    rw [hn] at e2; cases e2
                    exact .inr (by simp)
        · rw [if_neg ho]
          refine ⟨h.1, fun x => ?_⟩
          rw [h.2 x]
          constructor
          · rintro ⟨y, hy, e⟩; exact ⟨y, by simp [hy], e⟩
          · rintro ⟨y, hy, e1, e2⟩
            rcases List.mem_append.mp hy with hy | hy
            · exact ⟨y, hy, e1, e2⟩
            · simp at hy; subst hy; exact absurd e1 ho
  have h := this ps [] [] ⟨List.nodup_nil, fun x => by simp⟩
  simpa [nms] using h
theorem perm_sumI {a b : List Int} (h : a.Perm b) : a.sum = b.sum := by
  induction h with
  | nil => rfl
  | cons x _ ih => simp [ih]
  | swap x y l => simp; omega
  | trans _ _ h1 h2 => rw [h1, h2]
theorem sub_sumG {α : Type} [DecidableEq α] (f : α → Int) : ∀ (L M : List α), L.Nodup → (∀ x ∈ L, x ∈ M) → (∀ x ∈ M, 0 ≤ f x) → (L.map f).sum ≤ (M.map f).sum
  | [], M, _, _, h => by
    show 0 ≤ _
    induction M with
    | nil => simp
    | cons a r ih =>
      have := h a (by simp)
      have := ih (fun x hx => by cases hx) fun x hx => h x (by simp [hx])
      simp; omega
  | x :: L, M, nd, sub, h => by
    have p := List.perm_cons_erase (sub x List.mem_cons_self)
    rw [perm_sumI (p.map f)]
    have nd' := List.nodup_cons.mp nd
    have := sub_sumG f L (M.erase x) nd'.2 (fun y hy => (List.mem_erase_of_ne (fun z : y = x => nd'.1 (z ▸ hy))).mpr (sub y (List.mem_cons_of_mem _ hy))) fun y hy => h y (List.mem_of_mem_erase hy)
    simp only [List.map_cons, List.sum_cons]
    omega
theorem kp_mono (P Q : Pc → Bool) : ∀ ps : List Pc, (∀ p ∈ ps, 0 ≤ p.k) → (∀ p ∈ ps, P p = true → Q p = true) → ((ps.filter P).map Pc.k).sum ≤ ((ps.filter Q).map Pc.k).sum
  | [], _, _ => by simp
  | p :: ps, h0, h => by
    have ih := kp_mono P Q ps (fun x hx => h0 x (by simp [hx])) (fun x hx => h x (by simp [hx]))
    have hp := h0 p (by simp)
    have hq := h p (by simp)
    rw [List.filter_cons, List.filter_cons]
    by_cases c1 : P p = true
    · rw [if_pos c1, if_pos (hq c1)]; simp; omega
    · rw [if_neg c1]
      by_cases c2 : Q p = true
      · rw [if_pos c2]; simp; omega
      · rw [if_neg c2]; exact ih
theorem load_mono (W : Str → Int) (ps : List Pc) (hk : ∀ p ∈ ps, 0 ≤ p.k) (hw : ∀ p ∈ ps, ∀ x, p.n = some x → p.k = W x) {c d : Int} (h : ∀ p ∈ ps, ovr d p = true → ovr c p = true) : loadF W ps d ≤ loadF W ps c := by
  unfold loadF kpS
  have h1 := kp_mono (fun p => ovr d p && p.n.isNone) (fun p => ovr c p && p.n.isNone) ps hk fun p hp e => by
    simp only [Bool.and_eq_true] at e ⊢
    exact ⟨h p hp e.1, e.2⟩
  have h2 := sub_sumG W (nms d ps) (nms c ps) (nms_ok d ps).1 (fun x hx => by
    obtain ⟨p, hp, e1, e2⟩ := ((nms_ok d ps).2 x).mp hx
    exact ((nms_ok c ps).2 x).mpr ⟨p, hp, h p hp e1, e2⟩) fun x hx => by
    obtain ⟨p, hp, e1, e2⟩ := ((nms_ok c ps).2 x).mp hx
    rw [← hw p hp x e2]
    exact hk p hp
  omega
theorem load_none (W : Str → Int) (ps : List Pc) {c : Int} (h : ∀ p ∈ ps, ovr c p = false) : loadF W ps c = 0 := by
  unfold loadF kpS
  have e1 : (ps.filter fun p => ovr c p && p.n.isNone) = [] := by
    rw [List.filter_eq_nil_iff]
    intro p hp z
    simp [h p hp] at z
  have e2 : nms c ps = [] := by
    cases hn : nms c ps with
    | nil => rfl
    | cons x L =>
      obtain ⟨p, hp, e, _⟩ := ((nms_ok c ps).2 x).mp (by rw [hn]; simp)
      rw [h p hp] at e; cases e
  rw [e1, e2]; rfl
def bst (W : Str → Int) (ps : List Pc) (b : Int × Option Int) (c : Int) : Int × Option Int := if b.1 < loadF W ps c then (loadF W ps c, some c) else b
def begs (ps : List Pc) (c : Int) : Bool := decide (c ∈ ps.map Pc.l)
theorem skip (W : Str → Int) (ps : List Pc) (hk : ∀ p ∈ ps, 0 ≤ p.k) (hw : ∀ p ∈ ps, ∀ x, p.n = some x → p.k = W x) (hl : ∀ p ∈ ps, -1 ≤ p.l) : ∀ n : Nat,
    ((List.range n).map fun (i : Nat) => (i : Int) - 1).foldl (bst W ps) (0, none) = (((List.range n).map fun (i : Nat) => (i : Int) - 1).filter (begs ps)).foldl (bst W ps) (0, none) ∧
    (∀ i : Nat, i < n → loadF W ps ((i : Int) - 1) ≤ (((List.range n).map fun (i : Nat) => (i : Int) - 1).foldl (bst W ps) (0, none)).1) ∧ 0 ≤ (((List.range n).map fun (i : Nat) => (i : Int) - 1).foldl (bst W ps) (0, none)).1
  | 0 => ⟨rfl, fun i hi => by omega, Int.le_refl _⟩
  | n + 1 => by
    obtain ⟨h1, h2, h3⟩ := skip W ps hk hw hl n
    rw [List.range_succ, List.map_append, List.filter_append, List.foldl_append, List.foldl_append, ← h1]
    generalize ((List.range n).map fun (i : Nat) => (i : Int) - 1).foldl (bst W ps) (0, none) = b at h2 h3 ⊢
    have hb : b.1 ≤ (bst W ps b ((n : Int) - 1)).1 ∧ loadF W ps ((n : Int) - 1) ≤ (bst W ps b ((n : Int) - 1)).1 := by
      unfold bst
      split
      · constructor
        · show b.1 ≤ loadF W ps _; omega
        · exact Int.le_refl _
      · constructor
        · exact Int.le_refl _
        · omega
    refine ⟨?_, fun i hi => ?_, ?_⟩
    · by_cases c : begs ps ((n : Int) - 1) = true
      · simp [c]
      · have e : ([n].map fun (i : Nat) => (i : Int) - 1).filter (begs ps) = [] := by simp [c]
        rw [e]
        show bst W ps b ((n : Int) - 1) = b
        unfold bst
        rw [if_neg]
        have nob : ∀ p ∈ ps, p.l ≠ (n : Int) - 1 := fun p hp z => c (by unfold begs; exact decide_eq_true (z ▸ List.mem_map_of_mem hp))
        cases n with
        | zero =>
          rw [load_none W ps fun p hp => ?_]
          · omega
          · have := hl p hp
            have := nob p hp
            unfold ovr
            rw [decide_eq_false (by omega)]; rfl
        | succ n =>
          have h4 := h2 n (by omega)
          have h5 := load_mono W ps hk hw (c := (n : Int) - 1) (d := ((n + 1 : Nat) : Int) - 1) fun p hp e => by
            have := nob p hp
            unfold ovr at e ⊢
            simp only [Bool.and_eq_true, decide_eq_true_eq] at e ⊢
            omega
          omega
    · show _ ≤ (bst W ps b ((n : Int) - 1)).1
      by_cases e : i = n
      · subst e; exact hb.2
      · have := h2 i (by omega)
        omega
    · show 0 ≤ (bst W ps b ((n : Int) - 1)).1
      omega
theorem lt_uniq : ∀ {a b : List Int}, a.Pairwise (· < ·) → b.Pairwise (· < ·) → (∀ x, x ∈ a ↔ x ∈ b) → a = b
  | [], [], _, _, _ => rfl
  | [], y :: b, _, _, h => by have := (h y).mpr (by simp); cases this
  | x :: a, [], _, _, h => by have := (h x).mp (by simp); cases this
  | x :: a, y :: b, ha, hb, h => by
    have h1 := List.pairwise_cons.mp ha
    have h2 := List.pairwise_cons.mp hb
    have e : x = y := by
      rcases List.mem_cons.mp ((h x).mp (by simp)) with e | hx
      · exact e
      · rcases List.mem_cons.mp ((h y).mpr (by simp)) with e | hy
        · exact e.symm
        · have := h1.1 y hy
          have := h2.1 x hx
          omega
    subst e
    rw [lt_uniq h1.2 h2.2 fun z => ?_]
    constructor
    · intro hz
      rcases List.mem_cons.mp ((h z).mp (by simp [hz])) with e | h'
      · have := h1.1 z hz; omega
      · exact h'
    · intro hz
      rcases List.mem_cons.mp ((h z).mpr (by simp [hz])) with e | h'
      · have := h2.1 z hz; omega
      · exact h'
theorem best_eq (W : Str → Int) (ps : List Pc) (hk : ∀ p ∈ ps, 0 ≤ p.k) (hw : ∀ p ∈ ps, ∀ x, p.n = some x → p.k = W x) (hl : ∀ p ∈ ps, -1 ≤ p.l ∧ p.l ≤ 40) {L : List Int} (nd : L.Nodup) (hm : ∀ x, x ∈ L ↔ x ∈ ps.map Pc.l) (hs : L.Pairwise (· ≤ ·)) :
    L.foldl (bst W ps) (0, none) = ((List.range 42).map fun (i : Nat) => (i : Int) - 1).foldl (bst W ps) (0, none) := by
  rw [(skip W ps hk hw (fun p hp => (hl p hp).1) 42).1]
  congr 1
  refine lt_uniq ((hs.and nd).imp fun {a b} h => by have := h.1; have := h.2; omega) ?_ fun x => ?_
  · refine List.Pairwise.filter _ ?_
    rw [List.pairwise_map]
    exact List.pairwise_lt_range.imp fun h => by omega
  · rw [hm, List.mem_filter, List.mem_map]
    constructor
    · rintro ⟨p, hp, rfl⟩
      have := hl p hp
      exact ⟨List.mem_map.mpr ⟨(p.l + 1).toNat, List.mem_range.mpr (by omega), by omega⟩, by unfold begs; exact decide_eq_true (List.mem_map_of_mem hp)⟩
    · rintro ⟨_, h⟩
      exact List.mem_map.mp (of_decide_eq_true h)
end Wc
set_option Elab.async false
set_option linter.all false
set_option maxRecDepth 100000
set_option maxHeartbeats 2000000
namespace Wc
open PySem L2 PyProof.Rows
local macro_rules | `(tactic| walk_at "all") => `(tactic| simp only [xSeq, xIf, bNot, bAnd, bOr, dTst, dChain, dC, val_fz, val_ow, sl_fz, sl_ow, dCB, aCons, aNil, dVar, List.map_cons, List.map_nil, List.cons_append, List.nil_append, List.set, gt, oLen, oI0, oI, dOp, oAdd, xRet, xNil, xSet, xSetF, dLst, dTup, innP, innS, yName, yNil, yCons, yTup, yLst, oInB, oEq, oNe, oIx, dSl, oNo, oSome, dCall, dAnd, dOr, dNot, dIsi, dIf, dIxO, dLenO, dNeg, dM, oCount, xApp, xRetO, xRetN, xDrop, xAsg, xFrz, frz, dFld, oIsB, isNon, bYes, zSeq, itemsD, zRng1, zEnum, oSum, oInt, oList, cpow24, cpow30, p24, p30, CDiv, CMul, Int.reduceLT, Int.reduceLE, Int.reduceAdd, Int.reduceSub, Int.reduceMul, Int.reduceNeg, Int.reducePow, Int.reduceToNat, decide_true, decide_false, true_and, and_true, and_self, or_true, true_or, okE_int, okE_str, okE_bl, okE_non, ex_atI, Bool.false_eq_true, if_false, if_true, Bool.not_true, Bool.not_false, List.length_cons, List.length_nil, Nat.reduceAdd, decide_eq_true_eq, eqD_int, eqD_str, cutL_map, intsOf_map, strsOf_map, dLend, bLend, sl_ov, val_ov, gt, dNewD])
local macro_rules | `(tactic| walk_at "px") => `(tactic| simp only [xSeq_h, xIf, bNot, bAnd, bOr, dTst, dChain, dC, val_fz, val_ow, sl_fz, sl_ow, dCB, aCons, aNil, dVar, List.map_cons, List.map_nil, List.cons_append, List.nil_append, List.set, gt, oLen, oI0, oI, dOp, oAdd, xRet, xNil, xSet, xSetF, dLst, dTup, innP, innS, yName, yNil, yCons, yTup, yLst, oInB, oEq, oNe, oIx, dSl, oNo, oSome, dCall, dAnd, dOr, dNot, dIsi, dIf, dIxO, dLenO, dNeg, dM, oCount, xApp, xRetO, xRetN, xDrop, xAsg, xFrz, frz, dFld, oIsB, isNon, bYes, zSeq, itemsD, zRng1, zEnum, oSum, oInt, oList, cpow24, cpow30, p24, p30, CDiv, CMul, Int.reduceLT, Int.reduceLE, Int.reduceAdd, Int.reduceSub, Int.reduceMul, Int.reduceNeg, Int.reducePow, Int.reduceToNat, decide_true, decide_false, true_and, and_true, and_self, or_true, true_or, okE_int, okE_str, okE_bl, okE_non, ex_atI, Bool.false_eq_true, if_false, if_true, Bool.not_true, Bool.not_false, List.length_cons, List.length_nil, Nat.reduceAdd, decide_eq_true_eq, eqD_int, eqD_str, cutL_map, intsOf_map, strsOf_map, dLend, bLend, sl_ov, val_ov, gt, dNewD])
local macro_rules | `(tactic| walk_at "go") => `(tactic| (simp only [hold]; walk_at "px"))
structure LdOK (W : Str → Int) (ps : List Pc) : Prop where
  len : ps.length ≤ 1000
  k0 : ∀ p ∈ ps, 0 ≤ p.k
  wd : ∀ p ∈ ps, ∀ x, p.n = some x → p.k = W x
  lr : ∀ p ∈ ps, -1 ≤ p.l ∧ p.l ≤ 40
def sp_load_at : SpD := fun ds Q => ∃ (W : Str → Int) (ps : List Pc) (c : Int), ds = [dPs ps, .int c] ∧ LdOK W ps ∧ Q (.fz (.int (loadF W ps c)))
def T_load_at : TX := (xSeq (xSetF 2 (dCall 2 sp_pieces_in (aCons (dVar 0) (aCons (dVar 1) aNil))))
  (xSeq (xSetF 3 (dComp (zSeq (dVar 2)) [none] (yName 0) (dTst (dOp (oIsB false) (dOp oIx (dVar 0) (dC (.int 0))) (dC .non))) (dOp oIx (dVar 0) (dC (.int 3)))))
  (xSeq (xSetF 4 (dCB oDictA (aCons (dComp (zSeq (dVar 2)) [none] (yName 0) (dTst (dOp (oIsB true) (dOp oIx (dVar 0) (dC (.int 0))) (dC .non))) (dTup (aCons (dOp oIx (dVar 0) (dC (.int 0))) (aCons (dOp oIx (dVar 0) (dC (.int 3))) aNil)))) aNil)))
  (xRet (dOp oAdd (dCB oSum (aCons (dVar 3) aNil)) (dSumV (dVar 4)))))))
def nmO (p : Pc) : Str := p.n.getD ⟨#[]⟩
theorem nms_held (W : Str → Int) (c : Int) : ∀ (ps : List Pc) (L : List Str), (∀ p ∈ ps, ∀ x, p.n = some x → p.k = W x) → (((ps.filter (ovr c)).filter fun p => !p.n.isNone).map fun p => ((Sum.inr (nmO p) : Key), D.int p.k)).foldl (fun acc p => putM acc p.1 p.2) (dNt W L) = dNt W (ps.foldl (nmS c) L)
  | [], L, _ => rfl
  | p :: ps, L, h => by
    have ih := fun L => nms_held W c ps L fun q hq => h q (by simp [hq])
    rw [List.foldl_cons, List.filter_cons]
    unfold nmS
    by_cases ho : ovr c p = true
    · rw [if_pos ho, if_pos ho]
      cases hn : p.n with
      | none => rw [List.filter_cons, if_neg (by simp [hn])]; exact ih L
      | some x =>
        rw [List.filter_cons, if_pos (by simp [hn]), List.map_cons, List.foldl_cons]
        have e : nmO p = x := by unfold nmO; rw [hn]; rfl
        show List.foldl _ (putM (dNt W L) (.inr (nmO p)) (.int p.k)) _ = _
        rw [e, h p (by simp) x hn, putM_dNt]
        exact ih _
    · rw [if_neg ho, if_neg ho]; exact ih L
theorem pairs_nm : ∀ ps : List Pc, (∀ p ∈ ps, p.n ≠ none) → pairsOf (ps.map fun p => D.tup [dO p.n, .int p.k]) = some (ps.map fun p => ((Sum.inr (nmO p) : Key), D.int p.k))
  | [], _ => rfl
  | p :: ps, h => by
    have ih := pairs_nm ps fun q hq => h q (by simp [hq])
    cases hn : p.n with
    | none => exact absurd hn (h p (by simp))
    | some x =>
      rw [List.map_cons, hn]
      show (match keyD (.str x) with | some key => (pairsOf (ps.map fun (y : Pc) => D.tup [dO y.n, .int y.k])).map ((key, D.int p.k) :: ·) | none => none) = _
      rw [ih]
      have e : nmO p = x := by unfold nmO; rw [hn]; rfl
      rw [List.map_cons, e]; rfl
theorem spec_load_at (ds : List D) (Qr : R → Prop) (hl : ds.length = 2) (h : sp_load_at ds Qr) : T_load_at { nx := fun _ => Qr (.fz .non), rt := Qr } (startP ["pieces", "column", "held", "keeps", "nets"] ds) := by
  obtain ⟨W, ps, c, rfl, ok, Q⟩ := h
  show T_load_at _ [.fz (dPs ps), .fz (.int c), .un, .un, .un]
  unfold T_load_at
  have big := line_eq
  have hn := ok.len
  walk_at "px"
  refine ⟨ps, c, rfl, hn, ?_⟩
  have hh : (ps.filter (ovr c)).length ≤ 1000 := Nat.le_trans (List.length_filter_le _ _) hn
  walk_at "go"
  refine comp_filter (ps.filter (ovr c)) dPc (fun p => .int p.k) (fun p => p.n.isNone) (fun Q' h => ?_) (by rw [big]; omega) (fun p hp K1 K0 h1 h0 => ?_) ?_
  · walk_at "px"
    exact h
  · rw [show dPc p = .tup [dO p.n, .int p.l, .int p.r, .int p.k] from rfl]
    walk_at "px"
    refine ⟨dO p.n, rfl, ?_⟩
    cases hpn : p.n with
    | none =>
      rw [hpn] at h1
      show if true = true then _ else _
      rw [if_pos rfl]
      exact ⟨.int p.k, rfl, h1 rfl⟩
    | some x =>
      rw [hpn] at h0
      show if false = true then _ else _
      rw [if_neg Bool.false_ne_true]
      exact h0 rfl
  · walk_at "go"
    refine comp_filter (ps.filter (ovr c)) dPc (fun p => .tup [dO p.n, .int p.k]) (fun p => !p.n.isNone) (fun Q' h => ?_) (by rw [big]; omega) (fun p hp K1 K0 h1 h0 => ?_) ?_
    · walk_at "px"
      exact h
    · rw [show dPc p = .tup [dO p.n, .int p.l, .int p.r, .int p.k] from rfl]
      walk_at "px"
      refine ⟨dO p.n, rfl, ?_⟩
      cases hpn : p.n with
      | none =>
        rw [hpn] at h0
        show if false = true then _ else _
        rw [if_neg Bool.false_ne_true]
        exact h0 rfl
      | some x =>
        rw [hpn] at h1
        show if true = true then _ else _
        rw [if_pos rfl]
        exact ⟨dO (some x), rfl, .int p.k, rfl, by omega, h1 rfl⟩
    · have hp := pairs_nm ((ps.filter (ovr c)).filter fun p => !p.n.isNone) fun p hp z => by
        have := (List.mem_filter.mp hp).2
        rw [z] at this; cases this
      simp only [val_ow, oDictA, hp]
      have hd : putAllM (((ps.filter (ovr c)).filter fun p => !p.n.isNone).map fun p => ((Sum.inr (nmO p) : Key), D.int p.k)) = dNt W (nms c ps) := nms_held W c ps [] ok.wd
      rw [hd]
      have hks : (((ps.filter (ovr c)).filter fun p => p.n.isNone).map fun p => D.int p.k) = ((ps.filter fun p => ovr c p && p.n.isNone).map Pc.k).map D.int := by
        rw [List.filter_filter, List.map_map]
        congr 1
        refine List.filter_congr fun p _ => ?_
        rw [Bool.and_comm]
      rw [hks]
      walk_at "go"
      refine ⟨_, valsI_dNt W _, ?_⟩
      exact Q
theorem xforS_B {te : TD} {g : TGd} {tb : TX} {De : DE} {ρ : Ev} (h : te ρ fun r => itemsD r.val fun ds => xForB g tb De ρ ds) : xFor (zSeq te) g tb De ρ := h
def sp_load_of : SpD := fun ds Q => ∃ (W : Str → Int) (ps : List Pc), ds = [dPs ps] ∧ LdOK W ps ∧ ∀ b, b = ((List.range 42).map fun (i : Nat) => (i : Int) - 1).foldl (bst W ps) (0, none) → Q (.fz (.tup [.int b.1, dJ b.2]))
def T_load_of : TX := (xSeq (xSetF 1 (dC (.int 0)))
  (xSeq (xSetF 2 (dC .non))
  (xSeq (xFor (zSeq (dCB oSortSetI (aCons (dComp (zSeq (dVar 0)) [none] (yName 0) bYes (dOp oIx (dVar 0) (dC (.int 1)))) aNil))) (yName 3) (xSeq (xSetF 4 (dCall 2 sp_load_at (aCons (dVar 0) (aCons (dVar 3) aNil))))
  (xIf (dTst (dOp (oI0 fun i j => .bl (decide (j < i))) (dVar 4) (dVar 1))) (xSeq (xSetF 1 (dVar 4))
  (xSetF 2 (dVar 3))) xNil)))
  (xRet (dTup (aCons (dVar 1) (aCons (dVar 2) aNil)))))))
theorem spec_load_of (ds : List D) (Qr : R → Prop) (hl : ds.length = 1) (h : sp_load_of ds Qr) : T_load_of { nx := fun _ => Qr (.fz .non), rt := Qr } (startP ["pieces", "weight", "column", "begun", "load"] ds) := by
  obtain ⟨W, ps, rfl, ok, Q⟩ := h
  show T_load_of _ [.fz (dPs ps), .un, .un, .un, .un]
  unfold T_load_of
  have big := line_eq
  have hn := ok.len
  walk_at "px"
  walk_at "go"
  walk_at "go"
  refine xforS_B ?_
  walk_at "px"
  refine comp_map ps dPc (fun p => .int p.l) (fun Q' h => ?_) (by rw [big]; omega) (fun p hp K1 k => ?_) ?_
  · walk_at "px"
    exact h
  · rw [show dPc p = .tup [dO p.n, .int p.l, .int p.r, .int p.k] from rfl]
    walk_at "px"
    exact ⟨_, rfl, k⟩
  · have e : (ps.map fun p => D.int p.l) = (ps.map Pc.l).map D.int := by rw [List.map_map]; rfl
    rw [e]
    simp only [val_ow, oSortSetI, intsOf_map]
    refine ⟨by rw [List.length_map]; omega, fun l nd hm => ?_, fun l nd hm hs => ?_⟩
    · have h1 : ∀ x ∈ l, x ∈ (List.range 42).map fun (i : Nat) => (i : Int) - 1 := fun x hx => by
        obtain ⟨p, hp, rfl⟩ := List.mem_map.mp (hm x hx)
        have := ok.lr p hp
        exact List.mem_map.mpr ⟨(p.l + 1).toNat, List.mem_range.mpr (by omega), by omega⟩
      have h2 := sub_sumG (fun _ => 1) l _ nd h1 fun _ _ => by omega
      have h3 : ∀ L : List Int, (L.map fun _ => (1 : Int)).sum = (L.length : Int) := by
        intro L
        induction L with
        | nil => rfl
        | cons a r ih => rw [List.map_cons, List.sum_cons, ih, List.length_cons]; omega
      rw [h3, h3, List.length_map, List.length_range] at h2
      omega
    · have hb := best_eq W ps ok.k0 ok.wd ok.lr nd hm hs
      show xForB _ _ _ _ (l.map D.int)
      refine xforB_list l D.int (fun i ρ => ∃ (b : Int × Option Int) (a c : Sl), ρ = [.fz (dPs ps), .fz (.int b.1), .fz (dJ b.2), a, c] ∧ b = (l.take i).foldl (bst W ps) (0, none)) ⟨(0, none), .un, .un, rfl, rfl⟩ ?_ ?_
      · rintro i x ρ hx ⟨b, a, c, rfl, hbi⟩
        have e1 : l.take (i + 1) = l.take i ++ [x] := by rw [List.take_add_one, hx]; rfl
        have e2 : (l.take (i + 1)).foldl (bst W ps) (0, none) = bst W ps b x := by rw [e1, List.foldl_append, ← hbi]; rfl
        walk_at "px"
        refine ⟨W, ps, x, rfl, ok, ?_⟩
        walk_at "go"
        by_cases hlt : b.1 < loadF W ps x
        · rw [if_pos hlt]
          walk_at "go"
          refine ⟨(loadF W ps x, some x), _, _, rfl, ?_⟩
          rw [e2]; unfold bst; rw [if_pos hlt]
        · rw [if_neg hlt]
          refine ⟨b, _, _, rfl, ?_⟩
          rw [e2]; unfold bst; rw [if_neg hlt]
      · rintro ρ ⟨b, a, c, rfl, hbi⟩
        rw [List.take_length, hb] at hbi
        walk_at "go"
        refine ⟨by omega, ?_⟩
        exact Q b hbi
def sp__law_fullest : SpD := fun ds Q => ∃ (W : Str → Int) (ps : List Pc), ds = [dPs ps] ∧ LdOK W ps ∧ ∀ b, b = ((List.range 42).map fun (i : Nat) => (i : Int) - 1).foldl (bst W ps) (0, none) → Q (.fz (.tup [.int b.1, dJ b.2]))
local macro_rules | `(tactic| walk_at "all") => `(tactic| simp only [xSeq, xIf, bNot, bAnd, bOr, dTst, dChain, dC, val_fz, val_ow, sl_fz, sl_ow, dCB, aCons, aNil, dVar, List.map_cons, List.map_nil, List.cons_append, List.nil_append, List.set, gt, oLen, oI0, oI, dOp, oAdd, xRet, xNil, xSet, xSetF, dLst, dTup, innP, innS, yName, yNil, yCons, yTup, yLst, oInB, oEq, oNe, oIx, dSl, oNo, oSome, dCall, dAnd, dOr, dNot, dIsi, dIf, dIxO, dLenO, dNeg, dM, oCount, xApp, xRetO, xRetN, xDrop, xAsg, xFrz, frz, dFld, oIsB, isNon, bYes, zSeq, itemsD, zRng1, zEnum, oSum, oInt, oList, cpow24, cpow30, p24, p30, CDiv, CMul, Int.reduceLT, Int.reduceLE, Int.reduceAdd, Int.reduceSub, Int.reduceMul, Int.reduceNeg, Int.reducePow, Int.reduceToNat, decide_true, decide_false, true_and, and_true, and_self, or_true, true_or, okE_int, okE_str, okE_bl, okE_non, ex_atI, Bool.false_eq_true, if_false, if_true, Bool.not_true, Bool.not_false, List.length_cons, List.length_nil, Nat.reduceAdd, decide_eq_true_eq, eqD_int, eqD_str, cutL_map, intsOf_map, strsOf_map, dLend, bLend, sl_ov, val_ov, gt, dNewD, zRng2])
local macro_rules | `(tactic| walk_at "px") => `(tactic| simp only [xSeq_h, xIf, bNot, bAnd, bOr, dTst, dChain, dC, val_fz, val_ow, sl_fz, sl_ow, dCB, aCons, aNil, dVar, List.map_cons, List.map_nil, List.cons_append, List.nil_append, List.set, gt, oLen, oI0, oI, dOp, oAdd, xRet, xNil, xSet, xSetF, dLst, dTup, innP, innS, yName, yNil, yCons, yTup, yLst, oInB, oEq, oNe, oIx, dSl, oNo, oSome, dCall, dAnd, dOr, dNot, dIsi, dIf, dIxO, dLenO, dNeg, dM, oCount, xApp, xRetO, xRetN, xDrop, xAsg, xFrz, frz, dFld, oIsB, isNon, bYes, zSeq, itemsD, zRng1, zEnum, oSum, oInt, oList, cpow24, cpow30, p24, p30, CDiv, CMul, Int.reduceLT, Int.reduceLE, Int.reduceAdd, Int.reduceSub, Int.reduceMul, Int.reduceNeg, Int.reducePow, Int.reduceToNat, decide_true, decide_false, true_and, and_true, and_self, or_true, true_or, okE_int, okE_str, okE_bl, okE_non, ex_atI, Bool.false_eq_true, if_false, if_true, Bool.not_true, Bool.not_false, List.length_cons, List.length_nil, Nat.reduceAdd, decide_eq_true_eq, eqD_int, eqD_str, cutL_map, intsOf_map, strsOf_map, dLend, bLend, sl_ov, val_ov, gt, dNewD, zRng2])
local macro_rules | `(tactic| walk_at "go") => `(tactic| (simp only [hold]; walk_at "px"))
def T__law_fullest : TX := (xSeq (xSetF 1 (dTup (aCons (dC (.int 0)) (aCons (dC .non) aNil))))
  (xSeq (xFor (zRng2 (aCons (dNeg (dC (.int 1))) (aCons (dC (.int 41)) aNil))) (yName 2) (xSeq (xSet 3 dNewD)
  (xSeq (xSetF 4 (dC (.int 0)))
  (xSeq (xFor (zSeq (dVar 0)) (yName 5) (xIf (dTst (dChain (oI0 fun i j => .bl (decide (i ≤ j))) (oI0 fun i j => .bl (decide (i ≤ j))) (dOp oIx (dVar 5) (dC (.int 1))) (dVar 2) (dOp oIx (dVar 5) (dC (.int 2))))) (xIf (dTst (dOp (oIsB false) (dOp oIx (dVar 5) (dC (.int 0))) (dC .non))) (xSetF 4 (dOp oAdd (dVar 4) (dOp oIx (dVar 5) (dC (.int 3))))) (xPut 3 (dOp oIx (dVar 5) (dC (.int 0))) (dOp oIx (dVar 5) (dC (.int 3))))) xNil))
  (xFrz 3 (xSeq (xSetF 4 (dOp oAdd (dVar 4) (dSumV (dVar 3))))
  (xIf (dTst (dOp (oI0 fun i j => .bl (decide (j < i))) (dVar 4) (dOp oIx (dVar 1) (dC (.int 0))))) (xSetF 1 (dTup (aCons (dVar 4) (aCons (dVar 2) aNil)))) xNil)))))))
  (xRet (dVar 1))))
theorem spec__law_fullest (ds : List D) (Qr : R → Prop) (hl : ds.length = 1) (h : sp__law_fullest ds Qr) : T__law_fullest { nx := fun _ => Qr (.fz .non), rt := Qr } (startP ["_law_pieces", "_law_best", "_law_column", "_law_nets", "_law_load", "_law_piece"] ds) := by
  obtain ⟨W, ps, rfl, ok, Q⟩ := h
  show T__law_fullest _ [.fz (dPs ps), .un, .un, .un, .un, .un]
  unfold T__law_fullest
  have big := line_eq
  have hn := ok.len
  walk_at "px"
  refine ⟨by omega, ?_⟩
  walk_at "go"
  refine xfor_list (List.range 42) (fun (i : Nat) => .int ((i : Int) - 1)) (fun Q' h => ?_) (fun i ρ => ∃ (b : Int × Option Int) (a c d e : Sl), ρ = [.fz (dPs ps), .fz (.tup [.int b.1, dJ b.2]), a, c, d, e] ∧ b = ((List.range i).map fun (i : Nat) => (i : Int) - 1).foldl (bst W ps) (0, none)) ⟨(0, none), .un, .un, .un, .un, rfl, rfl⟩ ?_ ?_
  · unfold zRng2
    walk_at "px"
    have e : ((List.range 42).map fun (n : Nat) => D.int (-1 + (n : Int))) = (List.range 42).map fun (i : Nat) => D.int ((i : Int) - 1) := List.map_congr_left fun i _ => by rw [show -1 + (i : Int) = (i : Int) - 1 by omega]
    rw [e]
    exact h
  · rintro i n ρ hi ⟨b, a, c, d, e, rfl, hb⟩
    have hin : n = i := by
      obtain ⟨h1, h2⟩ := List.getElem?_eq_some_iff.mp hi
      simpa using h2.symm
    subst hin
    walk_at "px"
    have e2 : ((List.range (n + 1)).map fun (i : Nat) => (i : Int) - 1).foldl (bst W ps) (0, none) = bst W ps b ((n : Int) - 1) := by rw [List.range_succ, List.map_append, List.foldl_append, ← hb]; rfl
    rw [e2]
    generalize hcc : (n : Int) - 1 = cc
    clear hb e2
    walk_at "go"
    walk_at "go"
    refine xfor_list ps dPc (fun Q' h => ?_) (fun i ρ => ∃ (e : Sl), ρ = [.fz (dPs ps), .fz (.tup [.int b.1, dJ b.2]), .fz (.int cc), .ov (.dc (dNt W (nms cc (ps.take i)))), .fz (.int (kpS cc (ps.take i))), e]) ⟨e, rfl⟩ ?_ ?_
    · walk_at "px"
      exact h
    · rintro i p ρ hp ⟨e, rfl⟩
      have hpm : p ∈ ps := List.mem_of_getElem? hp
      have hil : i < ps.length := (List.getElem?_eq_some_iff.mp hp).1
      have e1 : ps.take (i + 1) = ps.take i ++ [p] := by rw [List.take_add_one, hp]; rfl
      have e3 : nms cc (ps.take (i + 1)) = nmS cc (nms cc (ps.take i)) p := by unfold nms; rw [e1, List.foldl_append]; rfl
      have e4 : kpS cc (ps.take (i + 1)) = kpS cc (ps.take i) + if (ovr cc p && p.n.isNone) = true then p.k else 0 := by
        unfold kpS
        rw [e1, List.filter_append, List.map_append, List.sum_append]
        by_cases h : (ovr cc p && p.n.isNone) = true
        · rw [if_pos h]; simp [h]
        · rw [if_neg h]; simp [h]
      have hdl : (dNt W (nms cc (ps.take i))).length ≤ 1000 := by
        have h1 := sub_sumG (fun _ => 1) (nms cc (ps.take i)) ((ps.take i).map nmO) (nms_ok cc (ps.take i)).1 (fun x hx => by
          obtain ⟨q, hq, _, h3⟩ := ((nms_ok cc (ps.take i)).2 x).mp hx
          exact List.mem_map.mpr ⟨q, hq, by unfold nmO; rw [h3]; rfl⟩) fun _ _ => by omega
        have h3 : ∀ L : List Str, (L.map fun _ => (1 : Int)).sum = (L.length : Int) := by
          intro L
          induction L with
          | nil => rfl
          | cons a r ih => rw [List.map_cons, List.sum_cons, ih, List.length_cons]; omega
        rw [h3, h3, List.length_map, List.length_take] at h1
        unfold dNt
        rw [List.length_map]
        omega
      rw [e3, e4]
      unfold nmS
      generalize nms cc (ps.take i) = L at hdl
      generalize kpS cc (ps.take i) = kp
      rw [show dPc p = .tup [dO p.n, .int p.l, .int p.r, .int p.k] from rfl]
      walk_at "px"
      refine ⟨.int p.l, rfl, ?_⟩
      show if p.l ≤ cc then _ else _
      by_cases c1 : p.l ≤ cc
      · rw [if_pos c1]
        refine ⟨.int p.r, rfl, ?_⟩
        show if cc ≤ p.r then _ else _
        by_cases c2 : cc ≤ p.r
        · have ho : ovr cc p = true := by unfold ovr; simp [c1, c2]
          rw [if_pos c2]
          refine ⟨dO p.n, rfl, ?_⟩
          cases hpn : p.n with
          | none =>
            show if true = true then _ else _
            rw [if_pos rfl]
            refine ⟨.int p.k, rfl, ?_⟩
            refine ⟨.fz (.tup [dO none, .int p.l, .int p.r, .int p.k]), ?_⟩
            rw [ho]; rfl
          | some x =>
            show if false = true then _ else _
            rw [if_neg Bool.false_ne_true]
            unfold xPut
            simp only [gt]
            walk_at "px"
            refine ⟨.int p.k, rfl, ?_⟩
            refine ⟨dO (some x), rfl, .inr x, rfl, by rw [big]; omega, ?_⟩
            refine ⟨.fz (.tup [dO (some x), .int p.l, .int p.r, .int p.k]), ?_⟩
            rw [ho, ok.wd p hpm x hpn, putM_dNt]
            simp
        · have ho : ovr cc p = false := by unfold ovr; simp [c2]
          rw [if_neg c2]
          refine ⟨.fz (.tup [dO p.n, .int p.l, .int p.r, .int p.k]), ?_⟩
          rw [ho]; simp
      · have ho : ovr cc p = false := by unfold ovr; simp [c1]
        rw [if_neg c1]
        refine ⟨.fz (.tup [dO p.n, .int p.l, .int p.r, .int p.k]), ?_⟩
        rw [ho]; simp
    · rintro ρ ⟨e, rfl⟩
      rw [List.take_length]
      walk_at "go"
      unfold dSumV
      walk_at "px"
      refine ⟨_, valsI_dNt W _, ?_⟩
      show hold _ _ [_, _, _, _, .fz (.int (loadF W ps cc)), _]
      walk_at "go"
      refine ⟨.int b.1, rfl, ?_⟩
      show if b.1 < loadF W ps cc then _ else _
      by_cases hlt : b.1 < loadF W ps cc
      · rw [if_pos hlt]
        refine ⟨by omega, (loadF W ps cc, some cc), _, _, _, _, rfl, ?_⟩
        unfold bst; rw [if_pos hlt]
      · rw [if_neg hlt]
        refine ⟨b, _, _, _, _, rfl, ?_⟩
        unfold bst; rw [if_neg hlt]
  · rintro ρ ⟨b, a, c, d, e, rfl, hb⟩
    rw [List.length_range] at hb
    walk_at "go"
    exact Q b hb
end Wc
set_option Elab.async false
set_option linter.all false
set_option maxRecDepth 100000
set_option maxHeartbeats 2000000
namespace Wc
open PySem L2 PyProof.Rows
local macro_rules | `(tactic| walk_at "all") => `(tactic| simp only [xSeq, xIf, bNot, bAnd, bOr, dTst, dChain, dC, val_fz, val_ow, sl_fz, sl_ow, dCB, aCons, aNil, dVar, List.map_cons, List.map_nil, List.cons_append, List.nil_append, List.set, gt, oLen, oI0, oI, dOp, oAdd, xRet, xNil, xSet, xSetF, dLst, dTup, innP, innS, yName, yNil, yCons, yTup, yLst, oInB, oEq, oNe, oIx, dSl, oNo, oSome, dCall, dAnd, dOr, dNot, dIsi, dIf, dIxO, dLenO, dNeg, dM, oCount, xApp, xRetO, xRetN, xDrop, xAsg, xFrz, frz, dFld, oIsB, isNon, bYes, zSeq, itemsD, zRng1, zEnum, oSum, oInt, oList, cpow24, cpow30, p24, p30, CDiv, CMul, Int.reduceLT, Int.reduceLE, Int.reduceAdd, Int.reduceSub, Int.reduceMul, Int.reduceNeg, Int.reducePow, Int.reduceToNat, decide_true, decide_false, true_and, and_true, and_self, or_true, true_or, okE_int, okE_str, okE_bl, okE_non, ex_atI, Bool.false_eq_true, if_false, if_true, Bool.not_true, Bool.not_false, List.length_cons, List.length_nil, Nat.reduceAdd, decide_eq_true_eq, eqD_int, eqD_str, cutL_map, intsOf_map, strsOf_map, dLend, bLend, oMin])
local macro_rules | `(tactic| walk_at "px") => `(tactic| simp only [xSeq_h, xIf, bNot, bAnd, bOr, dTst, dChain, dC, val_fz, val_ow, sl_fz, sl_ow, dCB, aCons, aNil, dVar, List.map_cons, List.map_nil, List.cons_append, List.nil_append, List.set, gt, oLen, oI0, oI, dOp, oAdd, xRet, xNil, xSet, xSetF, dLst, dTup, innP, innS, yName, yNil, yCons, yTup, yLst, oInB, oEq, oNe, oIx, dSl, oNo, oSome, dCall, dAnd, dOr, dNot, dIsi, dIf, dIxO, dLenO, dNeg, dM, oCount, xApp, xRetO, xRetN, xDrop, xAsg, xFrz, frz, dFld, oIsB, isNon, bYes, zSeq, itemsD, zRng1, zEnum, oSum, oInt, oList, cpow24, cpow30, p24, p30, CDiv, CMul, Int.reduceLT, Int.reduceLE, Int.reduceAdd, Int.reduceSub, Int.reduceMul, Int.reduceNeg, Int.reducePow, Int.reduceToNat, decide_true, decide_false, true_and, and_true, and_self, or_true, true_or, okE_int, okE_str, okE_bl, okE_non, ex_atI, Bool.false_eq_true, if_false, if_true, Bool.not_true, Bool.not_false, List.length_cons, List.length_nil, Nat.reduceAdd, decide_eq_true_eq, eqD_int, eqD_str, cutL_map, intsOf_map, strsOf_map, dLend, bLend, oMin])
local macro_rules | `(tactic| walk_at "go") => `(tactic| (simp only [hold]; walk_at "px"))
structure PcOK (ws : List Str) (p : Pc) : Prop where
  nm : p.n = none ∨ ∃ w ∈ ws, p.n = some w
  l0 : -1 ≤ p.l
  lr : p.l ≤ p.r
  r1 : p.r ≤ 40
  k0 : 1 ≤ p.k
  k1 : p.k ≤ 3
def widF (s : Int) (pl : Bool) (i : Nat) : Int := if pl = true then 1 else 1 + mixF s ((i : Int) + 7) % 3
structure PcOW (ws : List Str) (s : Int) (pl : Bool) (p : Pc) : Prop extends PcOK ws p where
  wd : ∀ w, p.n = some w → ∃ i : Nat, ws[i]? = some w ∧ p.k = widF s pl i
def sp__law_some : SpD := fun ds Q => ∃ (ws : List Str) (s : Int) (cells : List Int) (pl : Bool), ds = [dS ws, .int s, dI cells, .bl pl] ∧ ws.length = 8 ∧ cells.length ≤ 5000 ∧ ∀ ps : List Pc, ps.length = cells.length → (∀ p ∈ ps, PcOW ws s pl p) → Q (.ow (ps.map dPc))
def T__law_some : TX := (xSeq (xSet 4 (dLst aNil))
  (xSeq (xFor (zEnum (aCons (dVar 2) aNil)) (yTup 2 (yCons (yName 5) (yCons (yName 6) yNil))) (xSeq (xSetF 7 (dCall 2 sp__law_mix (aCons (dVar 6) (aCons (dVar 5) aNil))))
  (xSeq (xSetF 8 (dOp (oI (fun _ j => 0 < j) fun i j => .int (i % j)) (dVar 7) (dC (.int 9))))
  (xSeq (xSetF 9 (dOp (oI (fun _ j => 0 < j) fun i j => .int (i % j)) (dOp (oI CDiv fun i j => .int (i / j)) (dVar 7) (dC (.int 9))) (dOp oIx (dLst (aCons (dC (.int 12)) (aCons (dC (.int 41)) aNil))) (dOp (oI (fun _ j => 0 < j) fun i j => .int (i % j)) (dOp (oI CDiv fun i j => .int (i / j)) (dVar 7) (dC (.int 500))) (dC (.int 2))))))
  (xSeq (xSetF 10 (dCB oMin (aCons (dC (.int 40)) (aCons (dOp oAdd (dVar 9) (dOp (oI (fun _ j => 0 < j) fun i j => .int (i % j)) (dCall 2 sp__law_mix (aCons (dVar 6) (aCons (dOp oAdd (dVar 5) (dC (.int 80))) aNil))) (dOp oIx (dLst (aCons (dC (.int 2)) (aCons (dC (.int 6)) (aCons (dC (.int 41)) aNil)))) (dOp (oI (fun _ j => 0 < j) fun i j => .int (i % j)) (dOp (oI CDiv fun i j => .int (i / j)) (dVar 7) (dC (.int 1000))) (dC (.int 3)))))) aNil))))
  (xSeq (xSetF 11 (dC (.int 1)))
  (xSeq (xIf (bNot (dTst (dVar 3))) (xSetF 11 (dOp oAdd (dC (.int 1)) (dOp (oI (fun _ j => 0 < j) fun i j => .int (i % j)) (dCall 2 sp__law_mix (aCons (dOp oAdd (dVar 1) (dOp (oI CMul fun i j => .int (i * j)) (dOp (oI CDiv fun i j => .int (i / j)) (dVar 8) (dC (.int 8))) (dVar 5))) (aCons (dOp oAdd (dVar 8) (dC (.int 7))) aNil))) (dC (.int 3))))) xNil)
  (xIf (dTst (dOp oEq (dVar 8) (dC (.int 8)))) (xApp 4 (dTup (aCons (dC .non) (aCons (dVar 9) (aCons (dVar 10) (aCons (dVar 11) aNil)))))) (xApp 4 (dTup (aCons (dOp oIx (dVar 0) (dVar 8)) (aCons (dOp (oI0 fun i j => .int (i - j)) (dVar 9) (dOp (oI (fun _ j => 0 < j) fun i j => .int (i % j)) (dOp (oI CDiv fun i j => .int (i / j)) (dVar 7) (dC (.int 3000))) (dC (.int 2)))) (aCons (dVar 10) (aCons (dVar 11) aNil))))))))))))))
  (xRetO 4)))
theorem app_dPc (ps : List Pc) (n : Option Str) (l r k : Int) : ps.map dPc ++ [.tup [dO n, .int l, .int r, .int k]] = (ps ++ [Pc.mk n l r k]).map dPc := by rw [List.map_append]; rfl
theorem spec__law_some (ds : List D) (Qr : R → Prop) (hl : ds.length = 4) (h : sp__law_some ds Qr) : T__law_some { nx := fun _ => Qr (.fz .non), rt := Qr } (startP ["_law_words", "_law_seed", "_law_cells", "_law_plain", "_law_pieces", "_law_k", "_law_cell", "_law_one", "_law_net", "_law_first", "_law_last", "_law_wide"] ds) := by
  obtain ⟨ws, s, cells, pl, rfl, hw, hc, q⟩ := h
  show T__law_some _ [.fz (dS ws), .fz (.int s), .fz (dI cells), .fz (.bl pl), .un, .un, .un, .un, .un, .un, .un, .un]
  unfold T__law_some dI dS
  have big := line_eq
  walk_at "px"
  refine ⟨Nat.zero_le _, ?_⟩
  walk_at "go"
  refine xfor_enum cells D.int (fun Q' h => ?_) (fun i ρ => ∃ (ps : List Pc) (a b c d e f g : Sl), ρ = [.fz (.lst (ws.map .str)), .fz (.int s), .fz (.lst (cells.map .int)), .fz (.bl pl), .ow (ps.map dPc), a, b, c, d, e, f, g] ∧ ps.length = i ∧ ∀ p ∈ ps, PcOW ws s pl p) ⟨[], _, _, _, _, _, _, _, rfl, rfl, fun p hp => (by cases hp)⟩ ?_ ?_
  · walk_at "px"
    exact h
  · rintro i cell ρ hi ⟨ps, a, b, c, d, e, f, g, rfl, hl, ok⟩
    have hil : i < cells.length := (List.getElem?_eq_some_iff.mp hi).1
    walk_at "px"
    refine ⟨cell, (i : Int), rfl, by omega, by omega, ?_⟩
    have o0 := mix_nn cell (i : Int)
    generalize mixF cell (i : Int) = one at o0
    walk_at "go"
    have n0 := Int.emod_nonneg one (show (9 : Int) ≠ 0 by decide)
    have n1 := Int.emod_lt_of_pos one (show (0 : Int) < 9 by decide)
    generalize hnet : one % 9 = net at n0 n1
    walk_at "go"
    obtain ⟨z, hz, hzm⟩ := at_mod (n := 2) (l := ([12, 41] : List Int)) (one / 500) (by simp) (by decide)
    have hz2 : atI ([12, 41] : List Int) (one / 500 % 2) = some z := hz
    have hz3 : atI (([12, 41] : List Int).map D.int) (one / 500 % 2) = some (.int z) := by rw [atI_map, hz2]; rfl
    refine ⟨by omega, .int z, hz3, ?_⟩
    have hz1 : z = 12 ∨ z = 41 := by simpa using hzm
    simp only []
    refine ⟨by omega, ?_⟩
    have f0 := Int.emod_nonneg (one / 9) (show z ≠ 0 by omega)
    have f1 := Int.emod_lt_of_pos (one / 9) (show (0 : Int) < z by omega)
    generalize one / 9 % z = first at f0 f1
    walk_at "go"
    obtain ⟨y, hy, hym⟩ := at_mod (n := 3) (l := ([2, 6, 41] : List Int)) (one / 1000) (by simp) (by decide)
    have hy2 : atI ([2, 6, 41] : List Int) (one / 1000 % 3) = some y := hy
    have hy3 : atI (([2, 6, 41] : List Int).map D.int) (one / 1000 % 3) = some (.int y) := by rw [atI_map, hy2]; rfl
    have hy1 : y = 2 ∨ y = 6 ∨ y = 41 := by simpa using hym
    refine ⟨cell, (i : Int) + 80, rfl, by omega, by omega, by omega, .int y, hy3, ?_⟩
    simp only [val_fz]
    refine ⟨by omega, ?_⟩
    have m0 := Int.emod_nonneg (mixF cell ((i : Int) + 80)) (show y ≠ 0 by omega)
    generalize mixF cell ((i : Int) + 80) % y = m at m0
    have la0 : first ≤ (if first + m < 40 then first + m else 40) := by split <;> omega
    have la1 : (if first + m < 40 then first + m else 40) ≤ 40 := by split <;> omega
    generalize (if first + m < 40 then first + m else 40) = last at la0 la1
    have key : ∀ (wide : Int), 1 ≤ wide → wide ≤ 3 → (net ≠ 8 → wide = widF s pl net.toNat) → hold (xIf (dTst (dOp oEq (dVar 8) (dC (D.int 8))))
                      (xApp 4 (dTup (aCons (dC D.non) (aCons (dVar 9) (aCons (dVar 10) (aCons (dVar 11) aNil))))))
                      (xApp 4
                        (dTup
                          (aCons (dOp oIx (dVar 0) (dVar 8))
                            (aCons
                              (dOp (oI0 fun i j => D.int (i - j)) (dVar 9)
                                (dOp (oI (fun x j => 0 < j) fun i j => D.int (i % j))
                                  (dOp (oI CDiv fun i j => D.int (i / j)) (dVar 7) (dC (D.int 3000))) (dC (D.int 2))))
                              (aCons (dVar 10) (aCons (dVar 11) aNil))))))) {
                  nx := fun ρ =>
                    ∃ (ps : List Pc) (a b c d e f g : Sl),
                      ρ =
                          [Sl.fz (D.lst (List.map D.str ws)), Sl.fz (D.int s), Sl.fz (D.lst (List.map D.int cells)),
                            Sl.fz (D.bl pl), Sl.ow (List.map dPc ps), a, b, c, d, e, f, g] ∧
                        ps.length = i + 1 ∧ ∀ (p : Pc), p ∈ ps → PcOW ws s pl p,
                  rt := Qr, bk := xRetO 4 { nx := fun x => Qr (R.fz D.non), rt := Qr },
                  ct := fun ρ =>
                    ∃ (ps : List Pc) (a b c d e f g : Sl),
                      ρ =
                          [Sl.fz (D.lst (List.map D.str ws)), Sl.fz (D.int s), Sl.fz (D.lst (List.map D.int cells)),
                            Sl.fz (D.bl pl), Sl.ow (List.map dPc ps), a, b, c, d, e, f, g] ∧
                        ps.length = i + 1 ∧ ∀ (p : Pc), p ∈ ps → PcOW ws s pl p }
                [Sl.fz (D.lst (List.map D.str ws)), Sl.fz (D.int s), Sl.fz (D.lst (List.map D.int cells)),
                  Sl.fz (D.bl pl), Sl.ow (List.map dPc ps), Sl.fz (D.int ↑i), Sl.fz (D.int cell), Sl.fz (D.int one),
                  Sl.fz (D.int net), Sl.fz (D.int first), Sl.fz (D.int last), Sl.fz (.int wide)] := by
      intro wide w0 w1 wn
      have more : ∀ p, PcOW ws s pl p → ∃ (ps2 : List Pc) (a b c d e f g : Sl), [Sl.fz (D.lst (List.map D.str ws)), Sl.fz (D.int s), Sl.fz (D.lst (List.map D.int cells)),
                  Sl.fz (D.bl pl), Sl.ow (List.map dPc (ps ++ [p])), Sl.fz (D.int ↑i), Sl.fz (D.int cell), Sl.fz (D.int one),
                  Sl.fz (D.int net), Sl.fz (D.int first), Sl.fz (D.int last), Sl.fz (.int wide)] = [Sl.fz (D.lst (List.map D.str ws)), Sl.fz (D.int s), Sl.fz (D.lst (List.map D.int cells)),
                            Sl.fz (D.bl pl), Sl.ow (List.map dPc ps2), a, b, c, d, e, f, g] ∧
                        ps2.length = i + 1 ∧ ∀ (p : Pc), p ∈ ps2 → PcOW ws s pl p := fun p hp => by
        refine ⟨ps ++ [p], _, _, _, _, _, _, _, rfl, by rw [List.length_append, hl]; rfl, fun x hx => ?_⟩
        rcases List.mem_append.mp hx with hx | hx
        · exact ok x hx
        · simp at hx; subst hx; exact hp
      walk_at "go"
      by_cases h8 : net = 8
      · rw [if_pos h8]
        refine ⟨by omega, by rw [List.length_map]; omega, ?_⟩
        rw [show [D.tup [D.non, D.int first, D.int last, D.int wide]] = [D.tup [dO none, D.int first, D.int last, D.int wide]] from rfl, app_dPc]
        exact more _ ⟨⟨.inl rfl, by show -1 ≤ first; omega, la0, la1, w0, w1⟩, fun w hw => by cases hw⟩
      · rw [if_neg h8]
        obtain ⟨hj, hw2⟩ := atI_get (l := ws) (i := net) n0 (by omega)
        refine ⟨_, hw2, by omega, by rw [List.length_map]; omega, ?_⟩
        rw [show ∀ (x : Str) (l : Int), [D.tup [D.str x, D.int l, D.int last, D.int wide]] = [D.tup [dO (some x), D.int l, D.int last, D.int wide]] from fun _ _ => rfl, app_dPc]
        exact more _ ⟨⟨.inr ⟨_, List.getElem_mem hj, rfl⟩, by show -1 ≤ first - one / 3000 % 2; omega, by show first - one / 3000 % 2 ≤ last; omega, la1, w0, w1⟩, fun w hw => ⟨net.toNat, by rw [List.getElem?_eq_getElem hj]; exact hw, wn h8⟩⟩
    walk_at "go"
    walk_at "go"
    cases pl with
    | true =>
      simp only [Bool.not_true, Bool.false_eq_true, if_false]
      exact key 1 (by decide) (by decide) fun _ => rfl
    | false =>
      simp only [Bool.not_false, if_true]
      refine ⟨.inl (by omega), _, _, rfl, by omega, by omega, ?_⟩
      simp only [val_fz]
      refine ⟨by decide, ?_⟩
      have t0 := Int.emod_nonneg (mixF (s + net / 8 * (i : Int)) (net + 7)) (show (3 : Int) ≠ 0 by decide)
      have t1 := Int.emod_lt_of_pos (mixF (s + net / 8 * (i : Int)) (net + 7)) (show (0 : Int) < 3 by decide)
      exact key _ (by omega) (by omega) fun h8 => by
        have e : net / 8 = 0 := by omega
        have e2 : ((net.toNat : Nat) : Int) = net := by omega
        rw [e, Int.zero_mul, Int.add_zero]
        show _ = 1 + mixF s (((net.toNat : Nat) : Int) + 7) % 3
        rw [e2]
  · rintro ρ ⟨ps, a, b, c, d, e, f, g, rfl, hl, ok⟩
    walk_at "go"
    exact q ps hl ok
end Wc
set_option Elab.async false
set_option linter.all false
set_option maxRecDepth 100000
set_option maxHeartbeats 2000000
namespace Wc
open PySem L2 PyProof.Rows
local macro_rules | `(tactic| walk_at "all") => `(tactic| simp only [xSeq, xIf, bNot, bAnd, bOr, dTst, dChain, dC, val_fz, val_ow, sl_fz, sl_ow, dCB, aCons, aNil, dVar, List.map_cons, List.map_nil, List.cons_append, List.nil_append, List.set, gt, oLen, oI0, oI, dOp, oAdd, xRet, xNil, xSet, xSetF, dLst, dTup, innP, innS, yName, yNil, yCons, yTup, yLst, oInB, oEq, oNe, oIx, dSl, oNo, oSome, dCall, dAnd, dOr, dNot, dIsi, dIf, dIxO, dLenO, dNeg, dM, oCount, xApp, xRetO, xRetN, xDrop, xAsg, xFrz, frz, dFld, oIsB, isNon, bYes, zSeq, itemsD, zRng1, zEnum, oSum, oInt, oList, cpow24, cpow30, p24, p30, CDiv, CMul, Int.reduceLT, Int.reduceLE, Int.reduceAdd, Int.reduceSub, Int.reduceMul, Int.reduceNeg, Int.reducePow, Int.reduceToNat, decide_true, decide_false, true_and, and_true, and_self, or_true, true_or, okE_int, okE_str, okE_bl, okE_non, ex_atI, Bool.false_eq_true, if_false, if_true, Bool.not_true, Bool.not_false, List.length_cons, List.length_nil, Nat.reduceAdd, decide_eq_true_eq, eqD_int, eqD_str, cutL_map, intsOf_map, strsOf_map, dLend, bLend, eqD_dO_str, eqD_str_dO, eqD_dO, okE_dO, zZipB, dIsi2])
local macro_rules | `(tactic| walk_at "px") => `(tactic| simp only [xSeq_h, xIf, bNot, bAnd, bOr, dTst, dChain, dC, val_fz, val_ow, sl_fz, sl_ow, dCB, aCons, aNil, dVar, List.map_cons, List.map_nil, List.cons_append, List.nil_append, List.set, gt, oLen, oI0, oI, dOp, oAdd, xRet, xNil, xSet, xSetF, dLst, dTup, innP, innS, yName, yNil, yCons, yTup, yLst, oInB, oEq, oNe, oIx, dSl, oNo, oSome, dCall, dAnd, dOr, dNot, dIsi, dIf, dIxO, dLenO, dNeg, dM, oCount, xApp, xRetO, xRetN, xDrop, xAsg, xFrz, frz, dFld, oIsB, isNon, bYes, zSeq, itemsD, zRng1, zEnum, oSum, oInt, oList, cpow24, cpow30, p24, p30, CDiv, CMul, Int.reduceLT, Int.reduceLE, Int.reduceAdd, Int.reduceSub, Int.reduceMul, Int.reduceNeg, Int.reducePow, Int.reduceToNat, decide_true, decide_false, true_and, and_true, and_self, or_true, true_or, okE_int, okE_str, okE_bl, okE_non, ex_atI, Bool.false_eq_true, if_false, if_true, Bool.not_true, Bool.not_false, List.length_cons, List.length_nil, Nat.reduceAdd, decide_eq_true_eq, eqD_int, eqD_str, cutL_map, intsOf_map, strsOf_map, dLend, bLend, eqD_dO_str, eqD_str_dO, eqD_dO, okE_dO, zZipB, dIsi2])
local macro_rules | `(tactic| walk_at "go") => `(tactic| (simp only [hold]; walk_at "px"))
def plainN : Nat → D → Prop
  | 0, _ => False
  | n + 1, .lst ds => ds.length ≤ 100000 ∧ ∀ d ∈ ds, plainN n d
  | n + 1, .tup ds => ds.length ≤ 100000 ∧ ∀ d ∈ ds, plainN n d
  | _ + 1, .int _ => True
  | _ + 1, .str _ => True
  | _ + 1, .non => True
  | _ + 1, _ => False
def spN__law_alike : Nat → SpD
  | 0 => fun _ _ => False
  | n + 1 => fun ds Q => ∃ d, ds = [d, d] ∧ plainN (n + 1) d ∧ Q (.fz (.bl true))
def sp__law_alike : SpD := spN__law_alike 6
def T__law_alike (sp__law_alike : SpD) : TX := (xSeq (xIf (dTst (dIsi2 "list" "tuple" (dVar 1))) (xSeq (xIf (bOr (bNot (dTst (dIsi2 "list" "tuple" (dVar 0)))) (dTst (dOp oNe (dIsi "list" (dVar 0)) (dIsi "list" (dVar 1))))) (xRet (dC (.bl false))) xNil)
  (xRet (dAnd (dOp oEq (dCB oLen (aCons (dVar 0) aNil)) (dCB oLen (aCons (dVar 1) aNil))) (dCB oAll (aCons (dComp (zZipB (aCons (dVar 0) (aCons (dVar 1) aNil))) [none, none] (yTup 2 (yCons (yName 0) (yCons (yName 1) yNil))) bYes (dCall 2 sp__law_alike (aCons (dVar 0) (aCons (dVar 1) aNil)))) aNil))))) xNil)
  (xSeq (xIf (dTst (dIsi "str" (dVar 1))) (xRet (dAnd (dIsi "str" (dVar 0)) (dOp oEq (dVar 0) (dVar 1)))) xNil)
  (xSeq (xIf (dTst (dOp (oIsB false) (dVar 1) (dC .non))) (xRet (dOp (oIsB false) (dVar 0) (dC .non))) xNil)
  (xRet (dAnd (dIsi "int" (dVar 0)) (dAnd (dNot (dIsi "bool" (dVar 0))) (dOp oEq (dVar 0) (dVar 1))))))))
theorem isi_ns : isTy (tyD .non) "str" = false := by show isTy "NoneType" "str" = false; decide
theorem isi_nl : isTy (tyD .non) "list" = false := by show isTy "NoneType" "list" = false; decide
theorem isi_nt : isTy (tyD .non) "tuple" = false := by show isTy "NoneType" "tuple" = false; decide
theorem isi_is (i : Int) : isTy (tyD (.int i)) "str" = false := by show isTy "int" "str" = false; decide
theorem isi_il (i : Int) : isTy (tyD (.int i)) "list" = false := by show isTy "int" "list" = false; decide
theorem isi_it (i : Int) : isTy (tyD (.int i)) "tuple" = false := by show isTy "int" "tuple" = false; decide
theorem isi_st (x : Str) : isTy (tyD (.str x)) "tuple" = false := by show isTy "str" "tuple" = false; decide
theorem zipD_self (ds : List D) : zipD ds ds = ds.map fun d => .tup [d, d] := by
  unfold zipD
  induction ds with
  | nil => rfl
  | cons a r ih => rw [List.zipWith_cons_cons, ih]; rfl
theorem alike_all {n : Nat} (ds : List D) (h : ∀ d ∈ ds, plainN n d) (Q : R → Prop) (hl : ds.length ≤ 100000) (ρ : Ev) (f g : D) (hf : f = .lst ds ∨ f = .tup ds) (hρ : ρ = [.fz f, .fz f]) (hn : n = 0 → ds = []) (q : Q (.fz (.bl true))) :
    dCB oAll (aCons (dComp (zZipB (aCons (dVar 0) (aCons (dVar 1) aNil))) [none, none] (yTup 2 (yCons (yName 0) (yCons (yName 1) yNil))) bYes (dCall 2 (spN__law_alike n) (aCons (dVar 0) (aCons (dVar 1) aNil)))) aNil) ρ Q := by
  subst hρ
  have big := line_eq
  have key : ∀ (x : D), x = .lst ds ∨ x = .tup ds → dCB oAll (aCons (dComp (zZipB (aCons (dVar 0) (aCons (dVar 1) aNil))) [none, none] (yTup 2 (yCons (yName 0) (yCons (yName 1) yNil))) bYes (dCall 2 (spN__law_alike n) (aCons (dVar 0) (aCons (dVar 1) aNil)))) aNil) [.fz x, .fz x] Q := fun x hx => by
    simp only [dCB, aCons, aNil]
    refine comp_map ds (fun d => .tup [d, d]) (fun _ => .bl true) (fun Q' h' => ?_) (by omega) (fun d hd K1 k => ?_) ?_
    · rcases hx with rfl | rfl <;> (walk_at "px"; rw [zipD_self]; exact h')
    · walk_at "px"
      cases n with
      | zero => rw [hn rfl] at hd; cases hd
      | succ n => exact ⟨d, rfl, h d hd, k⟩
    · rw [show (ds.map fun _ => D.bl true) = (ds.map fun _ => true).map D.bl by rw [List.map_map]; rfl]
      simp only [val_ow, oAll, blsOf_map]
      rw [show (ds.map fun _ => true).all id = true by simp]
      exact q
  exact key f hf
theorem spec__law_alike (j : Nat) {a b : Str} (ds : List D) (Qr : R → Prop) (hl : ds.length = 2) (h : spN__law_alike (j + 1) ds Qr) : T__law_alike (spN__law_alike j) { nx := fun _ => Qr (.fz .non), rt := Qr } (startP [a, b] ds) := by
  obtain ⟨d, rfl, hp, q⟩ := h
  show T__law_alike _ _ [.fz d, .fz d]
  unfold T__law_alike
  have none0 : ∀ ds : List D, (∀ d ∈ ds, plainN j d) → j = 0 → ds = [] := fun ds h hj => by
    subst hj
    cases ds with
    | nil => rfl
    | cons a r => exact absurd (h a (by simp)) (by simp [plainN])
  cases d with
  | lst es =>
    obtain ⟨hlen, hall⟩ := (show es.length ≤ 100000 ∧ ∀ d ∈ es, plainN j d from hp)
    walk_at "px"
    simp only [isi_ll, isi_lt, noObj, Bool.true_or, true_and, if_true, Bool.not_true, Bool.false_eq_true, if_false, eqD, decide_true, BEq.rfl]
    walk_at "go"
    exact alike_all es hall _ hlen _ _ (.lst es) (.inl rfl) rfl (none0 es hall) q
  | tup es =>
    obtain ⟨hlen, hall⟩ := (show es.length ≤ 100000 ∧ ∀ d ∈ es, plainN j d from hp)
    walk_at "px"
    simp only [isi_tl, isi_tt, noObj, Bool.or_true, true_and, if_true, Bool.not_true, Bool.false_eq_true, if_false, eqD, decide_true, BEq.rfl]
    walk_at "go"
    exact alike_all es hall _ hlen _ _ (.tup es) (.inr rfl) rfl (none0 es hall) q
  | int i =>
    walk_at "px"
    simp only [isi_il, isi_it, noObj, Bool.or_false, true_and, Bool.false_eq_true, if_false]
    walk_at "go"
    simp only [isi_is, noObj, Bool.or_false, true_and, Bool.false_eq_true, if_false]
    walk_at "go"
    walk_at "go"
    simp only [isi_ii, isi_ib, noObj, true_and, if_true, Bool.not_false, eqD_int, decide_true]
    exact q
  | str x =>
    walk_at "px"
    simp only [isi_sl, isi_st, noObj, Bool.or_false, true_and, Bool.false_eq_true, if_false]
    walk_at "go"
    simp only [isi_ss, noObj, true_and, if_true]
    exact q
  | non =>
    walk_at "px"
    simp only [isi_nl, isi_nt, noObj, Bool.or_false, true_and, Bool.false_eq_true, if_false]
    walk_at "go"
    simp only [isi_ns, noObj, true_and, Bool.false_eq_true, if_false]
    walk_at "go"
    exact q
  | bl b => exact hp.elim
  | obj c fs => exact hp.elim
  | dic kvs => exact hp.elim
  | dit kvs => exact hp.elim
end Wc
set_option Elab.async false
set_option linter.all false
set_option maxRecDepth 100000
set_option maxHeartbeats 2000000
namespace Wc
open PySem L2 PyProof.Rows
local macro_rules | `(tactic| walk_at "all") => `(tactic| simp only [xSeq, xIf, bNot, bAnd, bOr, dTst, dChain, dC, val_fz, val_ow, sl_fz, sl_ow, dCB, aCons, aNil, dVar, List.map_cons, List.map_nil, List.cons_append, List.nil_append, List.set, gt, oLen, oI0, oI, dOp, oAdd, xRet, xNil, xSet, xSetF, dLst, dTup, innP, innS, yName, yNil, yCons, yTup, yLst, oInB, oEq, oNe, oIx, dSl, oNo, oSome, dCall, dAnd, dOr, dNot, dIsi, dIf, dIxO, dLenO, dNeg, dM, oCount, xApp, xRetO, xRetN, xDrop, xAsg, xFrz, frz, dFld, oIsB, isNon, bYes, zSeq, itemsD, zRng1, zEnum, oSum, oInt, oList, cpow24, cpow30, p24, p30, CDiv, CMul, Int.reduceLT, Int.reduceLE, Int.reduceAdd, Int.reduceSub, Int.reduceMul, Int.reduceNeg, Int.reducePow, Int.reduceToNat, decide_true, decide_false, true_and, and_true, and_self, or_true, true_or, okE_int, okE_str, okE_bl, okE_non, ex_atI, Bool.false_eq_true, if_false, if_true, Bool.not_true, Bool.not_false, List.length_cons, List.length_nil, Nat.reduceAdd, decide_eq_true_eq, eqD_int, eqD_str, cutL_map, intsOf_map, strsOf_map, dLend, bLend, sl_ov, val_ov])
local macro_rules | `(tactic| walk_at "px") => `(tactic| simp only [xSeq_h, xIf, bNot, bAnd, bOr, dTst, dChain, dC, val_fz, val_ow, sl_fz, sl_ow, dCB, aCons, aNil, dVar, List.map_cons, List.map_nil, List.cons_append, List.nil_append, List.set, gt, oLen, oI0, oI, dOp, oAdd, xRet, xNil, xSet, xSetF, dLst, dTup, innP, innS, yName, yNil, yCons, yTup, yLst, oInB, oEq, oNe, oIx, dSl, oNo, oSome, dCall, dAnd, dOr, dNot, dIsi, dIf, dIxO, dLenO, dNeg, dM, oCount, xApp, xRetO, xRetN, xDrop, xAsg, xFrz, frz, dFld, oIsB, isNon, bYes, zSeq, itemsD, zRng1, zEnum, oSum, oInt, oList, cpow24, cpow30, p24, p30, CDiv, CMul, Int.reduceLT, Int.reduceLE, Int.reduceAdd, Int.reduceSub, Int.reduceMul, Int.reduceNeg, Int.reducePow, Int.reduceToNat, decide_true, decide_false, true_and, and_true, and_self, or_true, true_or, okE_int, okE_str, okE_bl, okE_non, ex_atI, Bool.false_eq_true, if_false, if_true, Bool.not_true, Bool.not_false, List.length_cons, List.length_nil, Nat.reduceAdd, decide_eq_true_eq, eqD_int, eqD_str, cutL_map, intsOf_map, strsOf_map, dLend, bLend, sl_ov, val_ov])
local macro_rules | `(tactic| walk_at "go") => `(tactic| (simp only [hold]; walk_at "px"))
def widW (ws : List Str) (s : Int) (pl : Bool) (x : Str) : Int := widF s pl (ws.findIdx fun w => decide (w = x))
theorem widW_at {ws : List Str} (nd : ws.Nodup) {s : Int} {pl : Bool} {i : Nat} {x : Str} (h : ws[i]? = some x) : widW ws s pl x = widF s pl i := by
  obtain ⟨hi, e⟩ := List.getElem?_eq_some_iff.mp h
  unfold widW
  congr 1
  rw [List.findIdx_eq hi]
  refine ⟨by simp [e], fun j hj => ?_⟩
  simp only [decide_eq_false_iff_not]
  intro z
  have := (List.getElem_inj nd).mp (z.trans e.symm)
  omega
def T_law : TX := (xSeq (xSetF 1 (dOp (oI (fun _ j => 0 < j) fun i j => .int (i % j)) (dCB oSum (aCons (dSl (dVar 0) oNo (oSome (dC (.int 1)))) aNil)) (dOp (oI CPow fun i j => .int (i ^ j.toNat)) (dC (.int 10)) (dC (.int 30)))))
  (xSeq (xSetF 2 (dCall 4 sp__law_some (aCons (dCall 1 sp__law_named (aCons (dVar 1) aNil)) (aCons (dVar 1) (aCons (dSl (dVar 0) (oSome (dC (.int 1))) (oSome (dC (.int 61)))) (aCons (dOp oEq (dOp (oI (fun _ j => 0 < j) fun i j => .int (i % j)) (dVar 1) (dC (.int 3))) (dC (.int 0))) aNil))))))
  (xSeq (xSetF 3 (dCB oList (aCons (dVar 2) aNil)))
  (xSeq (xSetF 4 (dCall 1 sp_load_of (aCons (dVar 3) aNil)))
  (xRet (dAnd (dCall 2 sp__law_alike (aCons (dVar 4) (aCons (dCall 1 sp__law_fullest (aCons (dVar 2) aNil)) aNil))) (dOp oEq (dVar 3) (dVar 2))))))))
theorem spec_law (ds : List D) (Qr : R → Prop) (hl : ds.length = 1) (h : LawSp 63 ds Qr) : T_law { nx := fun _ => Qr (.fz .non), rt := Qr } (startP ["_law_script", "_law_first", "_law_pieces", "_law_handed", "_law_found"] ds) := by
  obtain ⟨ns, rfl, hn, q⟩ := h
  show T_law _ [.fz (dI ns), .un, .un, .un, .un]
  unfold T_law dI
  have big := line_eq
  walk_at "px"
  generalize (cutL ns none (some 1)).sum = sm
  generalize sm % 1000000000000000000000000000000 = first
  walk_at "go"
  have hcl : (cutL ns (some 1) (some 61)).length ≤ 60 := by rw [cutL_mid _ (by decide) (by decide)]; simp; omega
  generalize hcs : cutL ns (some 1) (some 61) = cells at hcl
  refine ⟨_, rfl, wordsF first, first, _, _, rfl, (wordsF_ok first).len, by omega, fun ps hpl hpo => ?_⟩
  generalize hpl2 : decide (first % 3 = 0) = pl at hpo
  have ok : LdOK (widW (wordsF first) first pl) ps := by
    refine ⟨by omega, fun p hp => ?_, fun p hp x hx => ?_, fun p hp => ?_⟩
    · have := (hpo p hp).k0; omega
    · obtain ⟨i, h1, h2⟩ := (hpo p hp).wd x hx
      rw [h2, widW_at (wordsF_ok first).nd h1]
    · have h1 := (hpo p hp).l0
      have h2 := (hpo p hp).lr
      have h3 := (hpo p hp).r1
      omega
  have okp : okE 9 (.lst (ps.map dPc)) := okE_dPs 7 ps
  walk_at "go"
  walk_at "go"
  refine ⟨_, ps, rfl, ok, fun b hb => ?_⟩
  walk_at "go"
  refine ⟨_, ps, rfl, ok, fun b2 hb2 => ?_⟩
  rw [← hb] at hb2
  subst hb2
  refine ⟨_, rfl, ?_, ?_⟩
  · show plainN 6 (.tup [.int b2.1, dJ b2.2])
    refine ⟨by simp, fun d hd => ?_⟩
    simp only [List.mem_cons, List.not_mem_nil, or_false] at hd
    rcases hd with rfl | rfl
    · trivial
    · cases b2.2 <;> trivial
  · walk_at "px"
    rw [eqD_refl 9 _ okp]
    exact ⟨okp, okp, q⟩
end Wc
set_option Elab.async false
set_option linter.all false
set_option maxRecDepth 100000
set_option maxHeartbeats 4000000
namespace Wc
open PySem PySem.Spec PyProof.Rows L2
def top (i : Nat) : Stmt := PySem.Challenge.pw_wirechannel_k35_loads.main.body.getD i (.Pass ⟨0, 0, 0, 0⟩)
structure Txt (K : PySem.W.Frag) (mg : Str → Option Value) : Prop where
  b_all : mg "all" = none
  b_bool : mg "bool" = none
  b_dict : mg "dict" = none
  b_enumerate : mg "enumerate" = none
  b_int : mg "int" = none
  b_isinstance : mg "isinstance" = none
  b_len : mg "len" = none
  b_list : mg "list" = none
  b_min : mg "min" = none
  b_range : mg "range" = none
  b_set : mg "set" = none
  b_sorted : mg "sorted" = none
  b_str : mg "str" = none
  b_sum : mg "sum" = none
  b_tuple : mg "tuple" = none
  b_zip : mg "zip" = none
section
variable {P : Program} {w : World} {K : PySem.W.Frag} {mg : Str → Option Value} {base : Heap}
abbrev s__law_mix : Stmt := top 8
theorem sc__law_mix : FnScope ["_law_cell", "_law_k"] ["_law_cell", "_law_k"] (defScope s__law_mix) := ⟨rfl, rfl, rfl, by decide +kernel, rfl, by decide +kernel, by decide +kernel⟩
theorem px__law_mix (T : Txt K mg)  {f : Addr} (cdv : Value) (A : Around) (outer : List Env) (s : Shared) (H : Hp) (E : XK) (hr : Room 0 (A.deeper (envOfC "_law_mix" (defScope s__law_mix) s.heap.objs.size f cdv))) :
    PXs (cxOf CX0 P w K mg base ["_law_cell", "_law_k"] "_law_mix" (defScope s__law_mix) f cdv A outer s H E).nox (defBody s__law_mix) T__law_mix := by
  have hu := hr.units
  exact (pxs_one (px_ret (pd_op o_fdiv (pd_op o_mod (pd_op o_add (pd_op o_add (pd_op o_mul (pd_op o_mod (pd_var 0) (pd_op o_pow pd_int pd_int)) (pd_op o_add (pd_op o_mul (pd_var 1) (pd_var 1)) pd_int)) (pd_op o_mul (pd_op o_mul (pd_op o_mul pd_int (pd_var 1)) (pd_var 1)) (pd_var 1))) pd_int) pd_int) pd_int)))
theorem known__law_mix (A : At K mg "_law_mix" s__law_mix) (T : Txt K mg)  : Known P w K mg base 1 "_law_mix" 2 sp__law_mix := by
  obtain ⟨f, fd, F, hm⟩ := A.ex
  exact ⟨f, fd, ["_law_cell", "_law_k"], fn_pure F sc__law_mix (px__law_mix T ) spec__law_mix, hm, F.kp, F.binds fun _ _ _ _ _ _ us hl => match us, hl with | [_, _], _ => rfl⟩
abbrev s__law_some : Stmt := top 10
theorem sc__law_some : FnScope ["_law_words", "_law_seed", "_law_cells", "_law_plain", "_law_pieces", "_law_k", "_law_cell", "_law_one", "_law_net", "_law_first", "_law_last", "_law_wide"] ["_law_words", "_law_seed", "_law_cells", "_law_plain"] (defScope s__law_some) := ⟨rfl, rfl, rfl, by decide +kernel, rfl, by decide +kernel, by decide +kernel⟩
theorem px__law_some (T : Txt K mg) (C__law_mix : Known P w K mg base 1 "_law_mix" 2 sp__law_mix) {f : Addr} (cdv : Value) (A : Around) (outer : List Env) (s : Shared) (H : Hp) (E : XK) (hr : Room 1 (A.deeper (envOfC "_law_some" (defScope s__law_some) s.heap.objs.size f cdv))) :
    PXs (cxOf CX0 P w K mg base ["_law_words", "_law_seed", "_law_cells", "_law_plain", "_law_pieces", "_law_k", "_law_cell", "_law_one", "_law_net", "_law_first", "_law_last", "_law_wide"] "_law_some" (defScope s__law_some) f cdv A outer s H E).nox (defBody s__law_some) T__law_some := by
  have hu := hr.units
  exact (pxs_cons (px_set 4 (pd_lst pda_nil) sc__law_some.nd)
      (pxs_cons (px_for PassesOwn.never rfl (pid_enum T.b_enumerate (pda_cons (pd_var 2) pda_nil)) (pg_tupD rfl (pgs_consD (pg_nameD 5 sc__law_some.nd) (pgs_consD (pg_nameD 6 sc__law_some.nd) pgs_nilD)))
        (pxs_cons (px_setF 7 (pd_callK C__law_mix hr (pda_cons (pd_var 6) (pda_cons (pd_var 5) pda_nil))) sc__law_some.nd)
      (pxs_cons (px_setF 8 (pd_op o_mod (pd_var 7) pd_int) sc__law_some.nd)
      (pxs_cons (px_setF 9 (pd_op o_mod (pd_op o_fdiv (pd_var 7) pd_int) (pd_ix (pd_lst (pda_cons pd_int (pda_cons pd_int pda_nil))) (pd_op o_mod (pd_op o_fdiv (pd_var 7) pd_int) pd_int))) sc__law_some.nd)
      (pxs_cons (px_setF 10 (pd_callB (c_min rfl) T.b_min boot_min (pda_cons pd_int (pda_cons (pd_op o_add (pd_var 9) (pd_op o_mod (pd_callK C__law_mix hr (pda_cons (pd_var 6) (pda_cons (pd_op o_add (pd_var 5) pd_int) pda_nil))) (pd_ix (pd_lst (pda_cons pd_int (pda_cons pd_int (pda_cons pd_int pda_nil)))) (pd_op o_mod (pd_op o_fdiv (pd_var 7) pd_int) pd_int)))) pda_nil))) sc__law_some.nd)
      (pxs_cons (px_setF 11 pd_int sc__law_some.nd)
      (pxs_cons (px_if (pb_not (pb_val (pd_var 3))) (pxs_one (px_setF 11 (pd_op o_add pd_int (pd_op o_mod (pd_callK C__law_mix hr (pda_cons (pd_op o_add (pd_var 1) (pd_op o_mul (pd_op o_fdiv (pd_var 8) pd_int) (pd_var 5))) (pda_cons (pd_op o_add (pd_var 8) pd_int) pda_nil))) pd_int)) sc__law_some.nd)) pxs_nil)
      (pxs_one (px_if (pb_cmp (o_eq hu) (pd_var 8) pd_int) (pxs_one (px_app 4 (pd_tup (pda_cons pd_non (pda_cons (pd_var 9) (pda_cons (pd_var 10) (pda_cons (pd_var 11) pda_nil))))))) (pxs_one (px_app 4 (pd_tup (pda_cons (pd_ix (pd_var 0) (pd_var 8)) (pda_cons (pd_op o_sub (pd_var 9) (pd_op o_mod (pd_op o_fdiv (pd_var 7) pd_int) pd_int)) (pda_cons (pd_var 10) (pda_cons (pd_var 11) pda_nil))))))))))))))))
      (pxs_one (px_retO 4))))
theorem known__law_some (A : At K mg "_law_some" s__law_some) (T : Txt K mg) (C__law_mix : Known P w K mg base 1 "_law_mix" 2 sp__law_mix) : Known P w K mg base 2 "_law_some" 4 sp__law_some := by
  obtain ⟨f, fd, F, hm⟩ := A.ex
  exact ⟨f, fd, ["_law_words", "_law_seed", "_law_cells", "_law_plain"], fn_pure F sc__law_some (px__law_some T C__law_mix) spec__law_some, hm, F.kp, F.binds fun _ _ _ _ _ _ us hl => match us, hl with | [_, _, _, _], _ => rfl⟩
abbrev s__law_stem : Stmt := top 6
theorem sc__law_stem : FnScope ["_law_cell", "_law_size", "_law_signs", "_law_stem_here", "_law_k"] ["_law_cell", "_law_size"] (defScope s__law_stem) := ⟨rfl, rfl, rfl, by decide +kernel, rfl, by decide +kernel, by decide +kernel⟩
theorem px__law_stem (T : Txt K mg)  {f : Addr} (cdv : Value) (A : Around) (outer : List Env) (s : Shared) (H : Hp) (E : XK) (hr : Room 0 (A.deeper (envOfC "_law_stem" (defScope s__law_stem) s.heap.objs.size f cdv))) :
    PXs (cxOf CX0 P w K mg base ["_law_cell", "_law_size", "_law_signs", "_law_stem_here", "_law_k"] "_law_stem" (defScope s__law_stem) f cdv A outer s H E).nox (defBody s__law_stem) T__law_stem := by
  have hu := hr.units
  exact (pxs_cons (px_setF 2 pd_str sc__law_stem.nd)
      (pxs_cons (px_setF 3 pd_str sc__law_stem.nd)
      (pxs_cons (px_for PassesOwn.never rfl (pid_range1 T.b_range (pda_cons (pd_var 1) pda_nil)) (pg_nameD 4 sc__law_stem.nd)
        (pxs_cons (px_setF 3 (pd_op o_add (pd_var 3) (pd_ix (pd_var 2) (pd_op o_mod (pd_var 0) pd_int))) sc__law_stem.nd)
      (pxs_one (px_setF 0 (pd_op o_fdiv (pd_var 0) pd_int) sc__law_stem.nd))))
      (pxs_one (px_ret (pd_var 3))))))
theorem known__law_stem (A : At K mg "_law_stem" s__law_stem) (T : Txt K mg)  : Known P w K mg base 1 "_law_stem" 2 sp__law_stem := by
  obtain ⟨f, fd, F, hm⟩ := A.ex
  exact ⟨f, fd, ["_law_cell", "_law_size"], fn_pure F sc__law_stem (px__law_stem T ) spec__law_stem, hm, F.kp, F.binds fun _ _ _ _ _ _ us hl => match us, hl with | [_, _], _ => rfl⟩
abbrev s__law_named : Stmt := top 7
theorem sc__law_named : FnScope ["_law_cell", "_law_size", "_law_stem_here", "_law_at", "_law_other"] ["_law_cell"] (defScope s__law_named) := ⟨rfl, rfl, rfl, by decide +kernel, rfl, by decide +kernel, by decide +kernel⟩
theorem nd__law_named_0 : (["_law_sign", "_law_stem_here", "_law_at", "_law_size"] : List Str).Nodup := by decide +kernel
theorem nd__law_named_1 : (["_law_k", "_law_stem_here", "_law_size"] : List Str).Nodup := by decide +kernel
theorem nd__law_named_2 : (["_law_k", "_law_stem_here"] : List Str).Nodup := by decide +kernel
theorem px__law_named (T : Txt K mg) (C__law_stem : Known P w K mg base 1 "_law_stem" 2 sp__law_stem) {f : Addr} (cdv : Value) (A : Around) (outer : List Env) (s : Shared) (H : Hp) (E : XK) (hr : Room 1 (A.deeper (envOfC "_law_named" (defScope s__law_named) s.heap.objs.size f cdv))) :
    PXs (cxOf CX0 P w K mg base ["_law_cell", "_law_size", "_law_stem_here", "_law_at", "_law_other"] "_law_named" (defScope s__law_named) f cdv A outer s H E).nox (defBody s__law_named) T__law_named := by
  have hu := hr.units
  exact (pxs_cons (px_setF 0 (pd_op o_mod (pd_op o_mul (pd_op o_add (pd_op o_mod (pd_var 0) (pd_op o_pow pd_int pd_int)) pd_int) pd_int) (pd_op o_add (pd_op o_pow pd_int pd_int) pd_int)) sc__law_named.nd)
      (pxs_cons (px_setF 1 (pd_op o_mod (pd_var 0) pd_int) sc__law_named.nd)
      (pxs_cons (px_setF 2 (pd_callK C__law_stem hr (pda_cons (pd_op o_fdiv (pd_var 0) pd_int) (pda_cons pd_int pda_nil))) sc__law_named.nd)
      (pxs_cons (px_setF 3 (pd_op o_mod (pd_op o_fdiv (pd_var 0) pd_int) (pd_op o_add (pd_var 1) pd_int)) sc__law_named.nd)
      (pxs_cons (px_if (pb_cmp (o_eq hu) (pd_op o_mod (pd_op o_fdiv (pd_var 0) pd_int) pd_int) pd_int) (pxs_one (px_ret (pd_comp rfl (.of (N' := ["_law_sign", "_law_stem_here", "_law_at", "_law_size"]) (m := [none, some 2, some 3, some 1]) (by kernel_rfl)) keep_name (pid_seq pd_str) (fun s3 H3 ex => (pg_nameD 0 nd__law_named_0)) (fun s3 H3 ex => ptd_nil) (fun s3 H3 ex => (pd_op o_add (pd_op o_add (pd_slice (pd_var 1) pod_none (pod_some (pd_var 2))) (pd_var 0)) (pd_slice (pd_var 1) (pod_some (pd_var 2)) (pod_some (pd_var 3)))))))) pxs_nil)
      (pxs_cons (px_if (pb_cmp (o_eq hu) (pd_op o_mod (pd_op o_fdiv (pd_var 0) pd_int) pd_int) pd_int) (pxs_one (px_ret (pd_comp rfl (.of (N' := ["_law_k", "_law_stem_here", "_law_size"]) (m := [none, some 2, some 1]) (by kernel_rfl)) keep_name (pid_range1 T.b_range (pda_cons pd_int pda_nil)) (fun s3 H3 ex => (pg_nameD 0 nd__law_named_1)) (fun s3 H3 ex => ptd_nil) (fun s3 H3 ex => (pd_op o_add (pd_op o_add (pd_op o_add (pd_slice (pd_var 1) pod_none (pod_some (pd_op o_mod (pd_var 2) pd_int))) (pd_ix pd_str (pd_op o_fdiv (pd_var 0) pd_int))) (pd_ix pd_str (pd_op o_mod (pd_op o_fdiv (pd_var 0) pd_int) pd_int))) (pd_ix pd_str (pd_op o_mod (pd_var 0) pd_int))))))) pxs_nil)
      (pxs_cons (px_setF 4 (pd_op o_add (pd_ix pd_str (pd_callTy c_int T.b_int boot_int (pda_cons (pd_cmp (o_eq hu) (pd_ix (pd_var 2) pd_int) pd_str) pda_nil))) (pd_slice (pd_var 2) (pod_some pd_int) pod_none)) sc__law_named.nd)
      (pxs_one (px_ret (pd_op o_add (pd_comp rfl (.of (N' := ["_law_k", "_law_stem_here"]) (m := [none, some 2]) (by kernel_rfl)) keep_name (pid_range1 T.b_range (pda_cons pd_int pda_nil)) (fun s3 H3 ex => (pg_nameD 0 nd__law_named_2)) (fun s3 H3 ex => ptd_nil) (fun s3 H3 ex => (pd_slice (pd_var 1) pod_none (pod_some (pd_op o_add (pd_var 0) pd_int))))) (pd_lst (pda_cons (pd_slice (pd_var 4) pod_none (pod_some pd_int)) (pda_cons (pd_slice (pd_var 4) pod_none (pod_some pd_int)) pda_nil)))))))))))))
theorem known__law_named (A : At K mg "_law_named" s__law_named) (T : Txt K mg) (C__law_stem : Known P w K mg base 1 "_law_stem" 2 sp__law_stem) : Known P w K mg base 2 "_law_named" 1 sp__law_named := by
  obtain ⟨f, fd, F, hm⟩ := A.ex
  exact ⟨f, fd, ["_law_cell"], fn_pure F sc__law_named (px__law_named T C__law_stem) spec__law_named, hm, F.kp, F.binds fun _ _ _ _ _ _ us hl => match us, hl with | [_], _ => rfl⟩
abbrev s_pieces_in : Stmt := top 1
theorem sc_pieces_in : FnScope ["pieces", "column"] ["pieces", "column"] (defScope s_pieces_in) := ⟨rfl, rfl, rfl, by decide +kernel, rfl, by decide +kernel, by decide +kernel⟩
theorem nd_pieces_in_0 : (["piece", "column"] : List Str).Nodup := by decide +kernel
theorem px_pieces_in (T : Txt K mg)  {f : Addr} (cdv : Value) (A : Around) (outer : List Env) (s : Shared) (H : Hp) (E : XK) (hr : Room 0 (A.deeper (envOfC "pieces_in" (defScope s_pieces_in) s.heap.objs.size f cdv))) :
    PXs (cxOf CX0 P w K mg base ["pieces", "column"] "pieces_in" (defScope s_pieces_in) f cdv A outer s H E).nox (defBody s_pieces_in) T_pieces_in := by
  have hu := hr.units
  exact (pxs_one (px_ret (pd_comp rfl (.of (N' := ["piece", "column"]) (m := [none, some 1]) (by kernel_rfl)) keep_name (pid_seq (pd_var 0)) (fun s3 H3 ex => (pg_nameD 0 nd_pieces_in_0)) (fun s3 H3 ex => (ptd_one (pb_chain op_le op_le (pd_ix (pd_var 0) pd_int) (pd_var 1) (pd_ix (pd_var 0) pd_int)))) (fun s3 H3 ex => (pd_var 0)))))
theorem known_pieces_in (A : At K mg "pieces_in" s_pieces_in) (T : Txt K mg)  : Known P w K mg base 1 "pieces_in" 2 sp_pieces_in := by
  obtain ⟨f, fd, F, hm⟩ := A.ex
  exact ⟨f, fd, ["pieces", "column"], fn_pure F sc_pieces_in (px_pieces_in T ) spec_pieces_in, hm, F.kp, F.binds fun _ _ _ _ _ _ us hl => match us, hl with | [_, _], _ => rfl⟩
abbrev s_load_at : Stmt := top 4
theorem sc_load_at : FnScope ["pieces", "column", "held", "keeps", "nets"] ["pieces", "column"] (defScope s_load_at) := ⟨rfl, rfl, rfl, by decide +kernel, rfl, by decide +kernel, by decide +kernel⟩
theorem nd_load_at_0 : (["piece"] : List Str).Nodup := by decide +kernel
theorem nd_load_at_1 : (["piece"] : List Str).Nodup := by decide +kernel
theorem px_load_at (T : Txt K mg) (C_pieces_in : Known P w K mg base 1 "pieces_in" 2 sp_pieces_in) {f : Addr} (cdv : Value) (A : Around) (outer : List Env) (s : Shared) (H : Hp) (E : XK) (hr : Room 1 (A.deeper (envOfC "load_at" (defScope s_load_at) s.heap.objs.size f cdv))) :
    PXs (cxOf CX0 P w K mg base ["pieces", "column", "held", "keeps", "nets"] "load_at" (defScope s_load_at) f cdv A outer s H E).nox (defBody s_load_at) T_load_at := by
  have hu := hr.units
  exact (pxs_cons (px_setF 2 (pd_callK C_pieces_in hr (pda_cons (pd_var 0) (pda_cons (pd_var 1) pda_nil))) sc_load_at.nd)
      (pxs_cons (px_setCF 3 rfl (.of (N' := ["piece"]) (m := [none]) (by kernel_rfl)) keep_name (pid_seq (pd_var 2)) (fun s3 H3 ex => (pg_nameD 0 nd_load_at_0)) (fun s3 H3 ex => (ptd_one (pb_cmp o_is (pd_ix (pd_var 0) pd_int) pd_non))) (fun s3 H3 ex => (pd_ix (pd_var 0) pd_int)) sc_load_at.nd)
      (pxs_cons (px_setF 4 (pd_callTy (c_dictA rfl) T.b_dict (by decide +kernel) (pda_cons (pd_comp rfl (.of (N' := ["piece"]) (m := [none]) (by kernel_rfl)) keep_name (pid_seq (pd_var 2)) (fun s3 H3 ex => (pg_nameD 0 nd_load_at_1)) (fun s3 H3 ex => (ptd_one (pb_cmp o_isnot (pd_ix (pd_var 0) pd_int) pd_non))) (fun s3 H3 ex => (pd_tup (pda_cons (pd_ix (pd_var 0) pd_int) (pda_cons (pd_ix (pd_var 0) pd_int) pda_nil))))) pda_nil)) sc_load_at.nd)
      (pxs_one (px_ret (pd_op o_add (pd_callB (c_sum rfl) T.b_sum boot_sum (pda_cons (pd_var 3) pda_nil)) (pd_sumV rfl T.b_sum (pd_var 4))))))))
theorem known_load_at (A : At K mg "load_at" s_load_at) (T : Txt K mg) (C_pieces_in : Known P w K mg base 1 "pieces_in" 2 sp_pieces_in) : Known P w K mg base 2 "load_at" 2 sp_load_at := by
  obtain ⟨f, fd, F, hm⟩ := A.ex
  exact ⟨f, fd, ["pieces", "column"], fn_pure F sc_load_at (px_load_at T C_pieces_in) spec_load_at, hm, F.kp, F.binds fun _ _ _ _ _ _ us hl => match us, hl with | [_, _], _ => rfl⟩
abbrev s_load_of : Stmt := top 3
theorem sc_load_of : FnScope ["pieces", "weight", "column", "begun", "load"] ["pieces"] (defScope s_load_of) := ⟨rfl, rfl, rfl, by decide +kernel, rfl, by decide +kernel, by decide +kernel⟩
theorem nd_load_of_0 : (["piece"] : List Str).Nodup := by decide +kernel
theorem px_load_of (T : Txt K mg) (C_load_at : Known P w K mg base 2 "load_at" 2 sp_load_at) {f : Addr} (cdv : Value) (A : Around) (outer : List Env) (s : Shared) (H : Hp) (E : XK) (hr : Room 2 (A.deeper (envOfC "load_of" (defScope s_load_of) s.heap.objs.size f cdv))) :
    PXs (cxOf CX0 P w K mg base ["pieces", "weight", "column", "begun", "load"] "load_of" (defScope s_load_of) f cdv A outer s H E).nox (defBody s_load_of) T_load_of := by
  have hu := hr.units
  exact (pxs_cons (px_setF 1 pd_int sc_load_of.nd)
      (pxs_cons (px_setF 2 pd_non sc_load_of.nd)
      (pxs_cons (px_for PassesOwn.never rfl (pid_seq (SI.pd_sortSetI rfl T.b_sorted T.b_set (pda_cons (pd_comp rfl (.of (N' := ["piece"]) (m := [none]) (by kernel_rfl)) keep_name (pid_seq (pd_var 0)) (fun s3 H3 ex => (pg_nameD 0 nd_load_of_0)) (fun s3 H3 ex => ptd_nil) (fun s3 H3 ex => (pd_ix (pd_var 0) pd_int))) pda_nil))) (pg_nameD 3 sc_load_of.nd)
        (pxs_cons (px_setF 4 (pd_callK C_load_at hr (pda_cons (pd_var 0) (pda_cons (pd_var 3) pda_nil))) sc_load_of.nd)
      (pxs_one (px_if (pb_cmp o_gt (pd_var 4) (pd_var 1)) (pxs_cons (px_setF 1 (pd_var 4) sc_load_of.nd)
      (pxs_one (px_setF 2 (pd_var 3) sc_load_of.nd))) pxs_nil))))
      (pxs_one (px_ret (pd_tup (pda_cons (pd_var 1) (pda_cons (pd_var 2) pda_nil))))))))
theorem known_load_of (A : At K mg "load_of" s_load_of) (T : Txt K mg) (C_load_at : Known P w K mg base 2 "load_at" 2 sp_load_at) : Known P w K mg base 3 "load_of" 1 sp_load_of := by
  obtain ⟨f, fd, F, hm⟩ := A.ex
  exact ⟨f, fd, ["pieces"], fn_pure F sc_load_of (px_load_of T C_load_at) spec_load_of, hm, F.kp, F.binds fun _ _ _ _ _ _ us hl => match us, hl with | [_], _ => rfl⟩
abbrev s__law_alike : Stmt := top 9
theorem sc__law_alike : FnScope ["_law_found", "_law_due"] ["_law_found", "_law_due"] (defScope s__law_alike) := ⟨rfl, rfl, rfl, by decide +kernel, rfl, by decide +kernel, by decide +kernel⟩
theorem nd__law_alike_0 : (["_law_one", "_law_other"] : List Str).Nodup := by decide +kernel
theorem px__law_alike (T : Txt K mg)  {sp__law_alike : SpD} {k kk : Nat} (hk0 : 0 ≤ k) (hkk : kk ≤ k) (C__law_alike : Known P w K mg base kk "_law_alike" 2 sp__law_alike) {f : Addr} (cdv : Value) (A : Around) (outer : List Env) (s : Shared) (H : Hp) (E : XK) (hr : Room k (A.deeper (envOfC "_law_alike" (defScope s__law_alike) s.heap.objs.size f cdv))) :
    PXs (cxOf CX0 P w K mg base ["_law_found", "_law_due"] "_law_alike" (defScope s__law_alike) f cdv A outer s H E).nox (defBody s__law_alike) (T__law_alike sp__law_alike) := by
  have hu := hr.units
  exact (pxs_cons (px_if (pb_val (pd_isi2 (pd_var 1) T.b_isinstance T.b_list T.b_tuple boot_list boot_tuple)) (pxs_cons (px_if (pw_or' (pb_not (pb_val (pd_isi2 (pd_var 0) T.b_isinstance T.b_list T.b_tuple boot_list boot_tuple))) (pw_or1' (pb_cmp (o_ne hu) (pd_isi (pd_var 0) T.b_isinstance T.b_list boot_list) (pd_isi (pd_var 1) T.b_isinstance T.b_list boot_list)))).pb (pxs_one (px_ret pd_bl)) pxs_nil)
      (pxs_one (px_ret (pd_and (pd_cmp (o_eq hu) (pd_callB c_len T.b_len boot_len (pda_cons (pd_var 0) pda_nil)) (pd_callB c_len T.b_len boot_len (pda_cons (pd_var 1) pda_nil))) (pd_one (pd_callB (c_all rfl) T.b_all boot_all (pda_cons (pd_comp rfl (.of (N' := ["_law_one", "_law_other"]) (m := [none, none]) (by kernel_rfl)) keep_pair (pid_zipB T.b_zip (pda_cons (pd_var 0) (pda_cons (pd_var 1) pda_nil))) (fun s3 H3 ex => (pg_tupD rfl (pgs_consD (pg_nameD 0 nd__law_alike_0) (pgs_consD (pg_nameD 1 nd__law_alike_0) pgs_nilD)))) (fun s3 H3 ex => ptd_nil) (fun s3 H3 ex => (pd_callK (hk := hkk) C__law_alike hr (pda_cons (pd_var 0) (pda_cons (pd_var 1) pda_nil))))) pda_nil))))))) pxs_nil)
      (pxs_cons (px_if (pb_val (pd_isi (pd_var 1) T.b_isinstance T.b_str boot_str)) (pxs_one (px_ret (pd_and (pd_isi (pd_var 0) T.b_isinstance T.b_str boot_str) (pd_one (pd_cmp (o_eq hu) (pd_var 0) (pd_var 1)))))) pxs_nil)
      (pxs_cons (px_if (pb_cmp o_is (pd_var 1) pd_non) (pxs_one (px_ret (pd_cmp o_is (pd_var 0) pd_non))) pxs_nil)
      (pxs_one (px_ret (pd_and (pd_isi (pd_var 0) T.b_isinstance T.b_int boot_int) (pd_and (pd_not (pd_isi (pd_var 0) T.b_isinstance T.b_bool boot_bool)) (pd_one (pd_cmp (o_eq hu) (pd_var 0) (pd_var 1))))))))))
theorem known__law_alike (A : At K mg "_law_alike" s__law_alike) (T : Txt K mg)  : Known P w K mg base 7 "_law_alike" 2 sp__law_alike := by
  obtain ⟨f, fd, F, hm⟩ := A.ex
  have k0 : Known P w K mg base 1 "_law_alike" 2 (spN__law_alike 0) := ⟨⟨f, fd, ["_law_found", "_law_due"], fn_pure (k := 0) (T := fun _ _ => False) F sc__law_alike (fun _ _ _ _ _ _ _ => pxs_false) (fun _ _ _ h => h), hm, F.kp, F.binds fun _ _ _ _ _ _ us hl => match us, hl with | [_, _], _ => rfl⟩⟩
  have k1 : Known P w K mg base 2 "_law_alike" 2 (spN__law_alike 1) := ⟨⟨f, fd, ["_law_found", "_law_due"], fn_pure (k := 1) F sc__law_alike (px__law_alike T  (by decide) (Nat.le_refl _) k0) (spec__law_alike 0), hm, F.kp, F.binds fun _ _ _ _ _ _ us hl => match us, hl with | [_, _], _ => rfl⟩⟩
  have k2 : Known P w K mg base 3 "_law_alike" 2 (spN__law_alike 2) := ⟨⟨f, fd, ["_law_found", "_law_due"], fn_pure (k := 2) F sc__law_alike (px__law_alike T  (by decide) (Nat.le_refl _) k1) (spec__law_alike 1), hm, F.kp, F.binds fun _ _ _ _ _ _ us hl => match us, hl with | [_, _], _ => rfl⟩⟩
  have k3 : Known P w K mg base 4 "_law_alike" 2 (spN__law_alike 3) := ⟨⟨f, fd, ["_law_found", "_law_due"], fn_pure (k := 3) F sc__law_alike (px__law_alike T  (by decide) (Nat.le_refl _) k2) (spec__law_alike 2), hm, F.kp, F.binds fun _ _ _ _ _ _ us hl => match us, hl with | [_, _], _ => rfl⟩⟩
  have k4 : Known P w K mg base 5 "_law_alike" 2 (spN__law_alike 4) := ⟨⟨f, fd, ["_law_found", "_law_due"], fn_pure (k := 4) F sc__law_alike (px__law_alike T  (by decide) (Nat.le_refl _) k3) (spec__law_alike 3), hm, F.kp, F.binds fun _ _ _ _ _ _ us hl => match us, hl with | [_, _], _ => rfl⟩⟩
  have k5 : Known P w K mg base 6 "_law_alike" 2 (spN__law_alike 5) := ⟨⟨f, fd, ["_law_found", "_law_due"], fn_pure (k := 5) F sc__law_alike (px__law_alike T  (by decide) (Nat.le_refl _) k4) (spec__law_alike 4), hm, F.kp, F.binds fun _ _ _ _ _ _ us hl => match us, hl with | [_, _], _ => rfl⟩⟩
  have k6 : Known P w K mg base 7 "_law_alike" 2 (spN__law_alike 6) := ⟨⟨f, fd, ["_law_found", "_law_due"], fn_pure (k := 6) F sc__law_alike (px__law_alike T  (by decide) (Nat.le_refl _) k5) (spec__law_alike 5), hm, F.kp, F.binds fun _ _ _ _ _ _ us hl => match us, hl with | [_, _], _ => rfl⟩⟩
  exact k6
abbrev s__law_fullest : Stmt := top 11
theorem sc__law_fullest : FnScope ["_law_pieces", "_law_best", "_law_column", "_law_nets", "_law_load", "_law_piece"] ["_law_pieces"] (defScope s__law_fullest) := ⟨rfl, rfl, rfl, by decide +kernel, rfl, by decide +kernel, by decide +kernel⟩
theorem px__law_fullest (T : Txt K mg)  {f : Addr} (cdv : Value) (A : Around) (outer : List Env) (s : Shared) (H : Hp) (E : XK) (hr : Room 0 (A.deeper (envOfC "_law_fullest" (defScope s__law_fullest) s.heap.objs.size f cdv))) :
    PXs (cxOf CX0 P w K mg base ["_law_pieces", "_law_best", "_law_column", "_law_nets", "_law_load", "_law_piece"] "_law_fullest" (defScope s__law_fullest) f cdv A outer s H E).nox (defBody s__law_fullest) T__law_fullest := by
  have hu := hr.units
  exact (pxs_cons (px_setF 1 (pd_tup (pda_cons pd_int (pda_cons pd_non pda_nil))) sc__law_fullest.nd)
      (pxs_cons (px_for PassesOwn.never rfl (pid_range2 T.b_range (pda_cons (pd_neg pd_int) (pda_cons pd_int pda_nil))) (pg_nameD 2 sc__law_fullest.nd)
        (pxs_cons (px_set 3 pd_dnew sc__law_fullest.nd)
      (pxs_cons (px_setF 4 pd_int sc__law_fullest.nd)
      (pxs_cons (px_for PassesOwn.never rfl (pid_seq (pd_var 0)) (pg_nameD 5 sc__law_fullest.nd)
        (pxs_one (px_if (pb_chain op_le op_le (pd_ix (pd_var 5) pd_int) (pd_var 2) (pd_ix (pd_var 5) pd_int)) (pxs_one (px_if (pb_cmp o_is (pd_ix (pd_var 5) pd_int) pd_non) (pxs_one (px_setF 4 (pd_op o_add (pd_var 4) (pd_ix (pd_var 5) pd_int)) sc__law_fullest.nd)) (pxs_one (px_put hu 3 (pd_ix (pd_var 5) pd_int) (pd_ix (pd_var 5) pd_int))))) pxs_nil)))
      (pxs_frz 3 (pxs_cons (px_setF 4 (pd_op o_add (pd_var 4) (pd_sumV rfl T.b_sum (pd_var 3))) sc__law_fullest.nd)
      (pxs_one (px_if (pb_cmp o_gt (pd_var 4) (pd_ix (pd_var 1) pd_int)) (pxs_one (px_setF 1 (pd_tup (pda_cons (pd_var 4) (pda_cons (pd_var 2) pda_nil))) sc__law_fullest.nd)) pxs_nil))))))))
      (pxs_one (px_ret (pd_var 1)))))
theorem known__law_fullest (A : At K mg "_law_fullest" s__law_fullest) (T : Txt K mg)  : Known P w K mg base 1 "_law_fullest" 1 sp__law_fullest := by
  obtain ⟨f, fd, F, hm⟩ := A.ex
  exact ⟨f, fd, ["_law_pieces"], fn_pure F sc__law_fullest (px__law_fullest T ) spec__law_fullest, hm, F.kp, F.binds fun _ _ _ _ _ _ us hl => match us, hl with | [_], _ => rfl⟩
abbrev s_law : Stmt := top 12
theorem sc_law : FnScope ["_law_script", "_law_first", "_law_pieces", "_law_handed", "_law_found"] ["_law_script"] (defScope s_law) := ⟨rfl, rfl, rfl, by decide +kernel, rfl, by decide +kernel, by decide +kernel⟩
theorem px_law (T : Txt K mg) (C__law_some : Known P w K mg base 2 "_law_some" 4 sp__law_some) (C__law_named : Known P w K mg base 2 "_law_named" 1 sp__law_named) (C_load_of : Known P w K mg base 3 "load_of" 1 sp_load_of) (C__law_alike : Known P w K mg base 7 "_law_alike" 2 sp__law_alike) (C__law_fullest : Known P w K mg base 1 "_law_fullest" 1 sp__law_fullest) {f : Addr} (cdv : Value) (A : Around) (outer : List Env) (s : Shared) (H : Hp) (E : XK) (hr : Room 7 (A.deeper (envOfC "law" (defScope s_law) s.heap.objs.size f cdv))) :
    PXs (cxOf CX0 P w K mg base ["_law_script", "_law_first", "_law_pieces", "_law_handed", "_law_found"] "law" (defScope s_law) f cdv A outer s H E).nox (defBody s_law) T_law := by
  have hu := hr.units
  exact (pxs_cons (px_setF 1 (pd_op o_mod (pd_callB (c_sum rfl) T.b_sum boot_sum (pda_cons (pd_slice (pd_var 0) pod_none (pod_some pd_int)) pda_nil)) (pd_op o_pow pd_int pd_int)) sc_law.nd)
      (pxs_cons (px_setF 2 (pd_callK C__law_some hr (pda_cons (pd_callK C__law_named hr (pda_cons (pd_var 1) pda_nil)) (pda_cons (pd_var 1) (pda_cons (pd_slice (pd_var 0) (pod_some pd_int) (pod_some pd_int)) (pda_cons (pd_cmp (o_eq hu) (pd_op o_mod (pd_var 1) pd_int) pd_int) pda_nil))))) sc_law.nd)
      (pxs_cons (px_setF 3 (pd_callTy c_list T.b_list boot_list (pda_cons (pd_var 2) pda_nil)) sc_law.nd)
      (pxs_cons (px_setF 4 (pd_callK C_load_of hr (pda_cons (pd_var 3) pda_nil)) sc_law.nd)
      (pxs_one (px_ret (pd_and (pd_callK C__law_alike hr (pda_cons (pd_var 4) (pda_cons (pd_callK C__law_fullest hr (pda_cons (pd_var 2) pda_nil)) pda_nil))) (pd_one (pd_cmp (o_eq hu) (pd_var 3) (pd_var 2))))))))))
theorem law_ok {fa : Addr} (T : Txt K mg)  (A__law_mix : At K mg "_law_mix" s__law_mix) (A__law_some : At K mg "_law_some" s__law_some) (A__law_stem : At K mg "_law_stem" s__law_stem) (A__law_named : At K mg "_law_named" s__law_named) (A_pieces_in : At K mg "pieces_in" s_pieces_in) (A_load_at : At K mg "load_at" s_load_at) (A_load_of : At K mg "load_of" s_load_of) (A__law_alike : At K mg "_law_alike" s__law_alike) (A__law_fullest : At K mg "_law_fullest" s__law_fullest) (A_law : At K mg "law" s_law) (hmg : mg "law" = some (.ref fa)) : ∃ fd : FuncData, (∀ (s : Shared) (u : Value), BindsTo s fd ⟨[u], []⟩ [("_law_script", u)]) ∧ ∀ base : Heap, FnOk P w K mg base CX0 8 fa fd ["_law_script"] (PSp K 1 (LawSp 63)) := by
  refine law_mk (T := fun _ => T_law) A_law hmg sc_law (fun _ _ _ _ _ _ us hl => match us, hl with | [_], _ => rfl) (fun base f cdv A outer s H E hr => ?_) (fun _ => spec_law)
  have C__law_mix : Known P w K mg base 1 "_law_mix" 2 sp__law_mix := known__law_mix A__law_mix T 
  have C__law_some : Known P w K mg base 2 "_law_some" 4 sp__law_some := known__law_some A__law_some T C__law_mix
  have C__law_stem : Known P w K mg base 1 "_law_stem" 2 sp__law_stem := known__law_stem A__law_stem T 
  have C__law_named : Known P w K mg base 2 "_law_named" 1 sp__law_named := known__law_named A__law_named T C__law_stem
  have C_pieces_in : Known P w K mg base 1 "pieces_in" 2 sp_pieces_in := known_pieces_in A_pieces_in T 
  have C_load_at : Known P w K mg base 2 "load_at" 2 sp_load_at := known_load_at A_load_at T C_pieces_in
  have C_load_of : Known P w K mg base 3 "load_of" 1 sp_load_of := known_load_of A_load_of T C_load_at
  have C__law_alike : Known P w K mg base 7 "_law_alike" 2 sp__law_alike := known__law_alike A__law_alike T 
  have C__law_fullest : Known P w K mg base 1 "_law_fullest" 1 sp__law_fullest := known__law_fullest A__law_fullest T 
  exact px_law T C__law_some C__law_named C_load_of C__law_alike C__law_fullest cdv A outer s H E hr
end
end Wc
open PySem PySem.W PyProof.Rows
set_option maxRecDepth 100000 in
set_option maxHeartbeats 0 in
theorem PySem.Challenge.cw_wirechannel_k35_loads_holds : PySem.Challenge.rw_wirechannel_k35_loads.Holds := by
  w_on; o_law; k_head; (case hw => w_witness2)
  k_fill
  refine L2.walk_pure (l := PySem.Challenge.rw_wirechannel_k35_loads) (n := 63) (k := 8) (x := "_law_script") rfl (by decide) rfl ⟨rfl, by decide, by decide⟩ (fun w h Y => PySem.W.kIn_of Y) ?F
  case F =>
    intro w mg fa h KX G hmg
    have A__law_mix : L2.At (L2.KOf KX) mg "_law_mix" Wc.s__law_mix := by
      dsimp only [L2.KOf]
      refine' L2.at_mk KX G ?a ?l ?c ?k
      (case a => k_is); (case l => k_is); (case c => k_is); (case k => k_is)
    have A__law_some : L2.At (L2.KOf KX) mg "_law_some" Wc.s__law_some := by
      dsimp only [L2.KOf]
      refine' L2.at_mk KX G ?a ?l ?c ?k
      (case a => k_is); (case l => k_is); (case c => k_is); (case k => k_is)
    have A__law_stem : L2.At (L2.KOf KX) mg "_law_stem" Wc.s__law_stem := by
      dsimp only [L2.KOf]
      refine' L2.at_mk KX G ?a ?l ?c ?k
      (case a => k_is); (case l => k_is); (case c => k_is); (case k => k_is)
    have A__law_named : L2.At (L2.KOf KX) mg "_law_named" Wc.s__law_named := by
      dsimp only [L2.KOf]
      refine' L2.at_mk KX G ?a ?l ?c ?k
      (case a => k_is); (case l => k_is); (case c => k_is); (case k => k_is)
    have A_pieces_in : L2.At (L2.KOf KX) mg "pieces_in" Wc.s_pieces_in := by
      dsimp only [L2.KOf]
      refine' L2.at_mk KX G ?a ?l ?c ?k
      (case a => k_is); (case l => k_is); (case c => k_is); (case k => k_is)
    have A_load_at : L2.At (L2.KOf KX) mg "load_at" Wc.s_load_at := by
      dsimp only [L2.KOf]
      refine' L2.at_mk KX G ?a ?l ?c ?k
      (case a => k_is); (case l => k_is); (case c => k_is); (case k => k_is)
    have A_load_of : L2.At (L2.KOf KX) mg "load_of" Wc.s_load_of := by
      dsimp only [L2.KOf]
      refine' L2.at_mk KX G ?a ?l ?c ?k
      (case a => k_is); (case l => k_is); (case c => k_is); (case k => k_is)
    have A__law_alike : L2.At (L2.KOf KX) mg "_law_alike" Wc.s__law_alike := by
      dsimp only [L2.KOf]
      refine' L2.at_mk KX G ?a ?l ?c ?k
      (case a => k_is); (case l => k_is); (case c => k_is); (case k => k_is)
    have A__law_fullest : L2.At (L2.KOf KX) mg "_law_fullest" Wc.s__law_fullest := by
      dsimp only [L2.KOf]
      refine' L2.at_mk KX G ?a ?l ?c ?k
      (case a => k_is); (case l => k_is); (case c => k_is); (case k => k_is)
    have A_law : L2.At (L2.KOf KX) mg "law" Wc.s_law := by
      dsimp only [L2.KOf]
      refine' L2.at_mk KX G ?a ?l ?c ?k
      (case a => k_is); (case l => k_is); (case c => k_is); (case k => k_is)
    have T : Wc.Txt (L2.KOf KX) mg := by
      dsimp only [L2.KOf]
      refine' ⟨PySem.W.mg_none_of KX G ?b_all, PySem.W.mg_none_of KX G ?b_bool, PySem.W.mg_none_of KX G ?b_dict, PySem.W.mg_none_of KX G ?b_enumerate, PySem.W.mg_none_of KX G ?b_int, PySem.W.mg_none_of KX G ?b_isinstance, PySem.W.mg_none_of KX G ?b_len, PySem.W.mg_none_of KX G ?b_list, PySem.W.mg_none_of KX G ?b_min, PySem.W.mg_none_of KX G ?b_range, PySem.W.mg_none_of KX G ?b_set, PySem.W.mg_none_of KX G ?b_sorted, PySem.W.mg_none_of KX G ?b_str, PySem.W.mg_none_of KX G ?b_sum, PySem.W.mg_none_of KX G ?b_tuple, PySem.W.mg_none_of KX G ?b_zip⟩
      (case b_all => k_is)
      (case b_bool => k_is)
      (case b_dict => k_is)
      (case b_enumerate => k_is)
      (case b_int => k_is)
      (case b_isinstance => k_is)
      (case b_len => k_is)
      (case b_list => k_is)
      (case b_min => k_is)
      (case b_range => k_is)
      (case b_set => k_is)
      (case b_sorted => k_is)
      (case b_str => k_is)
      (case b_sum => k_is)
      (case b_tuple => k_is)
      (case b_zip => k_is)
    exact Wc.law_ok T A__law_mix A__law_some A__law_stem A__law_named A_pieces_in A_load_at A_load_of A__law_alike A__law_fullest A_law hmg
#print axioms PySem.Challenge.cw_wirechannel_k35_loads_holds
