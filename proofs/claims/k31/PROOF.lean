import PyProof.Rows.All
import Wide.All
import OpenK.AllK
import Wide.FinOn
import Lean
import PyProof.EqAt
import PyProof.EqKinds
import PyProof.TupleCall
import PyProof.NeKinds
import PyProof.SliceStr2
import PyProof.ConsumeWalk
import KE.KDictSum
import PyProof.DictWalks
import PyProof.AttrMissSeq
import KE.KDictOf
import PyProof.WalksS
import PyProof.Walks
import PyProof.DictList
import PyProof.MeetsDict
import PyProof.FactsAll.dict_3
import PyProof.MinMaxWalk
import PyProof.WalkInts
import PyProof.Rows.CallKwBuiltin
import PyProof.MaxThree
import PyProof.Rows.SortRunsK
import PyProof.Rows.SortShellK
import KE.KSortTup
import PyProof.DictRoadsH
import PyProof.DictIter
import KE.KDictList
import PySem.Challenge.RW_wirechannel_k31_strips_walked
set_option Elab.async false
set_option linter.all false
set_option maxRecDepth 100000
namespace L2
open PySem PySem.Spec PyProof.Rows
abbrev Key := Sum Int Str
def keyIs : Key → Value → Bool
  | .inl k, v => Value.isInt k v
  | .inr x, v => Value.isStrOf x v
def keyH (w : World) : Key → Int
  | .inl k => hashInt k
  | .inr x => hashStr w x
theorem keyIs_shape : ∀ {k : Key} {v : Value}, keyIs k v = true → (∃ i t, k = Sum.inl i ∧ v = Value.int i t) ∨ (∃ x t, k = Sum.inr x ∧ v = Value.str x t)
  | .inl i, v, h => by
    obtain ⟨t, e⟩ := Value.isInt_shape (k := i) (v := v) h
    exact .inl ⟨i, t, rfl, e⟩
  | .inr x, v, h => by
    obtain ⟨t, e⟩ := Value.isStrOf_shape (x := x) (v := v) h
    exact .inr ⟨x, t, rfl, e⟩
theorem keyIs_int (i : Int) (t : Tok) : keyIs (.inl i) (.int i t) = true := by simp [keyIs, Value.isInt]
theorem keyIs_str (x : Str) (t : Tok) : keyIs (.inr x) (.str x t) = true := by simp [keyIs, Value.isStrOf]
theorem key_ll (a b : Int) : decide ((Sum.inl a : Key) = Sum.inl b) = (a == b) := by
  by_cases e : a = b
  · subst e; simp
  · have h : ¬ (Sum.inl a : Key) = Sum.inl b := fun q => e (Sum.inl.inj q)
    rw [decide_eq_false h]
    exact (beq_eq_false_iff_ne.mpr e).symm
theorem key_rr (a b : Str) : decide ((Sum.inr a : Key) = Sum.inr b) = decide (a = b) := by
  by_cases e : a = b
  · subst e; simp
  · have h : ¬ (Sum.inr a : Key) = Sum.inr b := fun q => e (Sum.inr.inj q)
    rw [decide_eq_false h, decide_eq_false e]
theorem key_lr (a : Int) (b : Str) : decide ((Sum.inl a : Key) = Sum.inr b) = false := decide_eq_false (fun q => nomatch q)
theorem key_rl (a : Str) (b : Int) : decide ((Sum.inr a : Key) = Sum.inl b) = false := decide_eq_false (fun q => nomatch q)
def mixKind (prog : Program) (w : World) : PySem.KeyKind prog w Key where
  is := keyIs
  hash := keyH w
  inj := fun v a b ha hb => by
    rcases keyIs_shape ha with ⟨i, t, rfl, rfl⟩ | ⟨x, t, rfl, rfl⟩
    · rcases keyIs_shape hb with ⟨j, u, rfl, e⟩ | ⟨y, u, rfl, e⟩
      · injection e with e1 _; rw [e1]
      · exact nomatch e
    · rcases keyIs_shape hb with ⟨j, u, rfl, e⟩ | ⟨y, u, rfl, e⟩
      · exact nomatch e
      · injection e with e1 _; rw [e1]
  byValue := fun k v h => by
    rcases keyIs_shape h with ⟨i, t, rfl, rfl⟩ | ⟨x, t, rfl, rfl⟩ <;> rfl
  pyHash := fun hv h => by
    rcases keyIs_shape hv with ⟨i, t, rfl, rfl⟩ | ⟨x, t, rfl, rfl⟩
    · exact wpAny_pyHash_int h
    · exact wpAny_pyHash_str h
  eqBool := fun hu hv h => by
    rcases keyIs_shape hu with ⟨i, t, rfl, rfl⟩ | ⟨x, t, rfl, rfl⟩
    · rcases keyIs_shape hv with ⟨j, u, rfl, rfl⟩ | ⟨y, u, rfl, rfl⟩
      · rw [key_ll] at h; exact wpAny_eqBool_int h
      · rw [key_lr] at h; exact SeqAt.EqAt.int_str i t y u _ _ _ _ h
    · rcases keyIs_shape hv with ⟨j, u, rfl, rfl⟩ | ⟨y, u, rfl, rfl⟩
      · rw [key_rl] at h; exact SeqAt.EqAt.str_int x t j u _ _ _ _ h
      · rw [key_rr] at h; exact wpAny_eqBool_str h
  «strs» := fun k x t v h => by
    rcases keyIs_shape h with ⟨i, u, rfl, e⟩ | ⟨y, u, rfl, e⟩
    · exact nomatch e
    · injection e with e1 _
      subst e1
      cases v <;> rfl
theorem mixKind_int (prog : Program) (w : World) (i : Int) (t : Tok) : (mixKind prog w).is (.inl i) (.int i t) = true := keyIs_int i t
theorem mixKind_str (prog : Program) (w : World) (x : Str) (t : Tok) : (mixKind prog w).is (.inr x) (.str x t) = true := keyIs_str x t
end L2
namespace L2
open PySem PySem.Spec PyProof.Rows
inductive V where
  | non | bl (b : Bool) | int (i : Int) | str (x : Str) | byt (b : Array UInt8) | flt (b : UInt64) | ref (a : Addr) | ty (n : String)
  deriving DecidableEq
def RelV : V → Value → Prop
  | .non, u => u = Value.none
  | .bl b, u => u = Value.bool b
  | .int i, u => ∃ t, u = Value.int i t
  | .str x, u => ∃ t, u = Value.str x t
  | .byt b, u => ∃ t, u = Value.bytes b t
  | .flt b, u => ∃ t, u = Value.float b t
  | .ref a, u => u = Value.ref a
  | .ty n, u => u = Value.type n
abbrev Vals : List V → List Value → Prop := Paired RelV
theorem Vals.length {xs : List V} {us : List Value} (r : Vals xs us) : xs.length = us.length := Paired.length r
theorem Vals.get : ∀ {xs : List V} {us : List Value} {i : Nat} {x : V}, Vals xs us → xs[i]? = some x → ∃ u, us[i]? = some u ∧ RelV x u
  | _, _, _, _, .nil, e => by simp at e
  | _, _, 0, _, .cons r _, e => by simp at e; subst e; exact ⟨_, rfl, r⟩
  | _, _, i + 1, x, .cons _ t, e => by
    obtain ⟨u, h1, h2⟩ := Vals.get (i := i) (x := x) t (by simpa using e)
    exact ⟨u, by simpa using h1, h2⟩
theorem Vals.set {x : V} {u : Value} (r : RelV x u) : ∀ {xs : List V} {us : List Value} (i : Nat), Vals xs us → Vals (xs.set i x) (us.set i u)
  | _, _, _, .nil => .nil
  | _, _, 0, .cons _ t => .cons r t
  | _, _, i + 1, .cons q t => .cons q (Vals.set r i t)
theorem Vals.append : ∀ {xs ys : List V} {us ws : List Value}, Vals xs us → Vals ys ws → Vals (xs ++ ys) (us ++ ws)
  | _, _, _, _, .nil, s => s
  | _, _, _, _, .cons r t, s => .cons r (Vals.append t s)
theorem Vals.take : ∀ {xs : List V} {us : List Value} (n : Nat), Vals xs us → Vals (xs.take n) (us.take n)
  | _, _, 0, _ => .nil
  | _, _, _ + 1, .nil => .nil
  | _, _, n + 1, .cons r t => .cons r (Vals.take n t)
theorem Vals.drop : ∀ {xs : List V} {us : List Value} (n : Nat), Vals xs us → Vals (xs.drop n) (us.drop n)
  | _, _, 0, r => r
  | _, _, _ + 1, .nil => .nil
  | _, _, n + 1, .cons _ t => Vals.drop n t
def RelO : Option V → Option Value → Prop
  | some v, some u => RelV v u
  | none, none => True
  | _, _ => False
def KV {κ : Type} : List (κ × V) → List (κ × Value) → Prop := Paired fun (p : κ × V) (q : κ × Value) => p.1 = q.1 ∧ RelV p.2 q.2
def kV : Key → V
  | .inl i => .int i
  | .inr x => .str x
inductive HO where
  /-- a list -/
  | lst (xs : List V)
  /-- a tuple (never changes) -/
  | tup (xs : List V)
  /-- a dict whose keys are ints and texts; one whose keys are tuples of ints and texts (the empty one is both) -/
  | dK (kvs : List (Key × V)) (ep : Nat) | dT (kvs : List (List Key × V)) (bs : List Addr)
  /-- a set of ints: its members, its size -/
  | set (S : Int → Bool) (n : Nat)
  /-- an instance of the class at C, its dict at dx, its attributes -/
  | ins (C dx : Addr) (fs : List (Str × V))
  /-- the dict of the instance at x -/
  | own (x : Addr)
  /-- the dict of an exception -/
  | xd (fs : List (Str × V))
  /-- a bound method, f of x -/
  | met (f x : Addr)
  /-- a range object lo, lo + 1, .. below hi -/
  | rng (lo hi : Int)
  /-- a thing that is known to the object (the script; a dict while a loop walks it): read, never written while it is so -/
  | frz (o : Obj) (u : HO)
  /-- a code object's table -/
  | tbl (ps : Array Value)
  /-- any other thing, by what is true of its one object (a def of one's own: SetO a S n := HO.ext fun h => ..) -/
  | ext (φ : Heap → Prop)
abbrev Hp := Addr → Option HO
def upd (H : Hp) (a : Addr) (o : HO) : Hp := fun b => if b = a then some o else H b
theorem upd_same {H : Hp} {a : Addr} {o : HO} : upd H a o a = some o := by unfold upd; rw [if_pos rfl]
theorem upd_ne {H : Hp} {a b : Addr} {o : HO} (h : b ≠ a) : upd H a o b = H b := by unfold upd; rw [if_neg h]
theorem ne_of {H : Hp} {a b : Addr} {o u : HO} (h : H a = some o) (h' : H b = some u) (d : o ≠ u) : a ≠ b := by
  intro e; subst e; rw [h] at h'; exact d (Option.some.inj h')
theorem ne_of_none {H : Hp} {a b : Addr} {o : HO} (h : H a = some o) (h' : H b = none) : a ≠ b := by
  intro e; subst e; rw [h] at h'; cases h'
section
variable (P : Program) (w : World)
def ObjOk (H : Hp) (h : Heap) (a : Addr) : HO → Prop
  | .lst xs => xs.length ≤ sizeLine ∧ ∃ (its : List Value) (n : Nat), Vals xs its ∧ h.get? a = some { cls := .type "list", data := .seq its.toArray n }
  | .tup xs => xs.length ≤ sizeLine ∧ ∃ its : List Value, Vals xs its ∧ IsTup h a its.toArray
  | .dK kvs ep => kvs.length ≤ sizeLine ∧ (a == sysModules) = false ∧ ∃ vs, KV kvs vs ∧ h.DictAt (mixKind P w) a vs ep
  | .dT kvs bs => kvs.length ≤ sizeLine ∧ (a == sysModules) = false ∧ ∃ xs : List (List Key × Addr × Value), xs.map (fun x => x.2.1) = bs ∧
      Paired (fun (p : List Key × V) (q : List Key × Addr × Value) => p.1 = q.1 ∧ H q.2.1 = some (.tup (p.1.map kV)) ∧ RelV p.2 q.2.2) kvs xs ∧
      ∃ o es ep, h.get? a = some o ∧ o.ExactDict ∧ o.data = .dict es ep ∧ es.toList = xs.map (entryOfKey (tupleKind (mixKind P w))) ∧ (xs.map (·.1)).Nodup
  | .set S n => h.SetOf (intKind P w) a S n
  | .ins C dx fs => H dx = some (.own a) ∧ fs.length ≤ 1000 ∧ dx ≠ a ∧ h.get? a = some (PySem.W.instObj C dx) ∧
      ∃ mA, h.Ns1 dx mA ∧ (∀ f, RelO (fs.lookup f) (mA f)) ∧ PySem.Within mA (fs.map (·.1))
  | .own _ => ∃ o, h.get? a = some o
  | .xd fs => ∃ mA, h.Ns1 a mA ∧ ∀ f, RelO (fs.lookup f) (mA f)
  | .rng lo hi => ∃ t u v, h.get? a = some { cls := .type "range", data := .fields #[.int lo t, .int hi u, .int 1 v] }
  | .frz o u => h.get? a = some o ∧ ObjOk H h a u
  | .tbl ps => h.get? a = some { cls := .none, data := .fields ps }
  | .met f x => h.get? a = some (PySem.W.methodObj (.ref f) (.ref x))
  | .ext φ => φ h ∧ (∃ o, h.get? a = some o) ∧ ∀ h1 h2 : Heap, φ h1 → (∀ o, h1.get? a = some o → h2.get? a = some o) → φ h2
def HOk (H : Hp) (h : Heap) : Prop := ∀ a o, H a = some o → ObjOk P w H h a o
end
section
variable {P : Program} {w : World} {H H' : Hp} {h h' : Heap} {a : Addr} {o : HO}
theorem ObjOk.lt (x : ObjOk P w H h a o) : a < h.objs.size := by
  cases o with
  | lst xs => obtain ⟨_, _, _, _, e⟩ := x; exact Heap.lt_size e
  | tup xs => obtain ⟨_, _, _, p⟩ := x; exact p.lt
  | dK kvs ep => obtain ⟨_, _, _, _, o, _, e, _⟩ := x; exact Heap.lt_size e
  | dT kvs bs => obtain ⟨_, _, _, _, _, o, _, _, e, _⟩ := x; exact Heap.lt_size e
  | set S n => obtain ⟨o, _, _, _, e, _⟩ := x; exact Heap.lt_size e
  | ins C dx fs => obtain ⟨_, _, _, e, _⟩ := x; exact Heap.lt_size e
  | own y => obtain ⟨_, e⟩ := x; exact Heap.lt_size e
  | xd fs => obtain ⟨_, ⟨_, _, _, e, _⟩, _⟩ := x; exact Heap.lt_size e
  | rng lo hi => obtain ⟨_, _, _, e⟩ := x; exact Heap.lt_size e
  | frz ob u => obtain ⟨e, _⟩ := x; exact Heap.lt_size e
  | tbl ps => exact Heap.lt_size (show h.get? a = some _ from x)
  | met f y => exact Heap.lt_size (show h.get? a = some _ from x)
  | ext φ => obtain ⟨_, ⟨_, e⟩, _⟩ := x; exact Heap.lt_size e
theorem Paired.mapP {α β : Type} {F G : α → β → Prop} : ∀ {l₁ : List α} {l₂ : List β}, Paired F l₁ l₂ → (∀ a b, F a b → G a b) → Paired G l₁ l₂
  | _, _, .nil, _ => .nil
  | _, _, .cons r t, f => .cons (f _ _ r) (Paired.mapP t f)
theorem ObjOk.stay (x : ObjOk P w H h a o) (k : ∀ b u, (b = a ∨ H b = some (.own a)) → h.get? b = some u → h'.get? b = some u)
    (ho : ∀ b, H b = some (.own a) → H' b = some (.own a)) (ht : ∀ b xs, H b = some (.tup xs) → H' b = some (.tup xs)) : ObjOk P w H' h' a o := by
  induction o with
  | lst xs => obtain ⟨z, its, n, r, e⟩ := x; exact ⟨z, its, n, r, k _ _ (.inl rfl) e⟩
  | tup xs => obtain ⟨z, its, r, ob, e, c⟩ := x; exact ⟨z, its, r, ob, k _ _ (.inl rfl) e, c⟩
  | dK kvs ep => obtain ⟨z, y, vs, r, ob, es, e, c⟩ := x; exact ⟨z, y, vs, r, ob, es, k _ _ (.inl rfl) e, c⟩
  | dT kvs bs =>
    obtain ⟨z, y, xs, bq, r, ob, es, ep, e, c⟩ := x
    exact ⟨z, y, xs, bq, Paired.mapP r fun p q z => ⟨z.1, ht _ _ z.2.1, z.2.2⟩, ob, es, ep, k _ _ (.inl rfl) e, c⟩
  | set S n => obtain ⟨ob, es, ep, t, e, c⟩ := x; exact ⟨ob, es, ep, t, k _ _ (.inl rfl) e, c⟩
  | ins C dx fs =>
    obtain ⟨d, z, ne, e, mA, ⟨od, es, ep, e2, c⟩, r⟩ := x
    exact ⟨ho _ d, z, ne, k _ _ (.inl rfl) e, mA, ⟨od, es, ep, k _ _ (.inr d) e2, c⟩, r⟩
  | own y => obtain ⟨ob, e⟩ := x; exact ⟨ob, k _ _ (.inl rfl) e⟩
  | xd fs => obtain ⟨mA, ⟨od, es, ep, e, c⟩, r⟩ := x; exact ⟨mA, ⟨od, es, ep, k _ _ (.inl rfl) e, c⟩, r⟩
  | rng lo hi => obtain ⟨t, u, v, e⟩ := x; exact ⟨t, u, v, k _ _ (.inl rfl) e⟩
  | frz ob u ih => obtain ⟨e, q⟩ := x; exact ⟨k _ _ (.inl rfl) e, ih q⟩
  | tbl ps =>
    have e : h.get? a = some { cls := .none, data := .fields ps } := x
    show h'.get? a = some { cls := .none, data := .fields ps }
    exact k a _ (.inl rfl) e
  | met f y =>
    have e : h.get? a = some (PySem.W.methodObj (.ref f) (.ref y)) := x
    show h'.get? a = some (PySem.W.methodObj (.ref f) (.ref y))
    exact k a _ (.inl rfl) e
  | ext φ => obtain ⟨p, ⟨o, e⟩, st⟩ := x; exact ⟨st _ _ p fun o q => k _ _ (.inl rfl) q, ⟨o, k _ _ (.inl rfl) e⟩, st⟩
theorem HOk.lt (x : HOk P w H h) (e : H a = some o) : a < h.objs.size := (x a o e).lt
theorem HOk.fresh (x : HOk P w H h) (e : h.objs.size ≤ a) : H a = none := by
  cases q : H a with
  | none => rfl
  | some u => exact absurd (Nat.lt_of_lt_of_le (x.lt q) e) (Nat.lt_irrefl _)
theorem HOk.kept (x : HOk P w H h) (k : ∀ b u, h.get? b = some u → h'.get? b = some u) : HOk P w H h' := fun a o e =>
  (x a o e).stay (fun b u _ q => k b u q) (fun _ q => q) fun _ _ q => q
theorem HOk.laid (x : HOk P w H h) (k : ∀ b u, h.get? b = some u → h'.get? b = some u) (hp : h.objs.size ≤ a) (new : ObjOk P w (upd H a o) h' a o) : HOk P w (upd H a o) h' := fun b u e => by
  have hn := x.fresh hp
  by_cases hb : b = a
  · subst hb; rw [upd_same] at e; cases e; exact new
  · rw [upd_ne hb] at e
    exact (x b u e).stay (fun c v _ q => k c v q) (fun c q => by rw [upd_ne (ne_of_none q hn)]; exact q) fun c xs q => by rw [upd_ne (ne_of_none q hn)]; exact q
end
def Rd (H : Hp) (a : Addr) (u : HO) : Prop := H a = some u ∨ ∃ o, H a = some (.frz o u)
theorem Rd.of {H : Hp} {a : Addr} {u : HO} (h : H a = some u) : Rd H a u := .inl h
theorem Rd.ok {P : Program} {w : World} {H : Hp} {h : Heap} {a : Addr} {u : HO} (r : Rd H a u) (x : HOk P w H h) : ObjOk P w H h a u := by
  rcases r with r | ⟨o, r⟩
  · exact x a u r
  · obtain ⟨_, q⟩ := x a _ r
    exact q
def Mut : Option HO → Prop
  | some (.lst _) => True
  | some (.dK _ _) => True
  | some (.dT _ _) => True
  | some (.set _ _) => True
  | some (.ins _ _ _) => True
  | some (.ext _) => True
  | _ => False
section
variable {P : Program} {w : World} {H : Hp} {h h' : Heap} {x e : Addr} {o' : HO}
theorem HOk.write (ok : HOk P w H h) (mu : Mut (H x)) (he : e = x ∨ H e = some (.own x)) (k : ∀ b u, b ≠ e → h.get? b = some u → h'.get? b = some u) (heo : ∃ u, h'.get? e = some u)
    (new : ObjOk P w (upd H x o') h' x o') : HOk P w (upd H x o') h' := fun b u q => by
  have nown : ∀ c y, H c = some (.own y) → c ≠ x := fun c y r z => by subst z; rw [r] at mu; exact mu
  have ntup : ∀ c xs, H c = some (.tup xs) → c ≠ x := fun c xs r z => by subst z; rw [r] at mu; exact mu
  by_cases hb : b = x
  · subst hb; rw [upd_same] at q; cases q; exact new
  · rw [upd_ne hb] at q
    by_cases hbe : b = e
    · have q' : H b = some (.own x) := by
        rcases he with z | z
        · exact absurd (hbe.trans z) hb
        · rw [hbe]; exact z
      rw [q] at q'; cases q'
      obtain ⟨v, hv⟩ := heo
      exact ⟨v, by rw [hbe]; exact hv⟩
    · refine (ok b u q).stay (fun c v hc r => k c v ?_ r) (fun c r => by rw [upd_ne (nown c b r)]; exact r) fun c xs r => by rw [upd_ne (ntup c xs r)]; exact r
      rcases hc with rfl | hc
      · exact hbe
      · rintro rfl
        rcases he with z | z
        · exact nown c b hc z
        · rw [hc] at z; cases z; exact hb rfl
end
structure Un (fs ex : List Addr) (H H' : Hp) (h h' : Heap) : Prop where
  keep : ∀ b o, h.get? b = some o → H b = none → b ∉ fs → b ∉ ex → h'.get? b = some o
  slot : ∀ b o, h.get? b = some o → H b = none → b ∈ fs → b ∉ ex → ∃ sl, h'.get? b = some { o with slots := sl }
  free : ∀ b o, h.get? b = some o → H b = none → b ∉ ex → H' b = none
  there : ∀ b o, h.get? b = some o → b ∉ ex → ∃ o', h'.get? b = some o'
  tups : ∀ b xs, H b = some (.tup xs) → H' b = some (.tup xs)
  frzs : ∀ b o u, H b = some (.frz o u) → H' b = some (.frz o u)
  tbls : ∀ b ps, H b = some (.tbl ps) → ∃ more, H' b = some (.tbl (ps ++ more))
section
variable {fs fs' ex ex' : List Addr} {H H1 H2 : Hp} {h h1 h2 h' : Heap} {a x e : Addr} {o : HO}
theorem Un.any (u : Un fs ex H H1 h h1) {b : Addr} {ob : Obj} (q : h.get? b = some ob) (n : H b = none) (hx : b ∉ ex) : ∃ sl, h1.get? b = some { ob with slots := sl } := by
  by_cases hb : b ∈ fs
  · exact u.slot b ob q n hb hx
  · exact ⟨ob.slots, u.keep b ob q n hb hx⟩
theorem Un.trans (a : Un fs ex H H1 h h1) (b : Un fs ex H1 H2 h1 h2) : Un fs ex H H2 h h2 where
  keep := fun c ob q n hc hx => b.keep c ob (a.keep c ob q n hc hx) (a.free c ob q n hx) hc hx
  slot := fun c ob q n hc hx => by
    obtain ⟨sl, e1⟩ := a.slot c ob q n hc hx
    obtain ⟨sl', e2⟩ := b.slot c _ e1 (a.free c ob q n hx) hc hx
    exact ⟨sl', e2⟩
  free := fun c ob q n hx => by
    obtain ⟨o', e1⟩ := a.there c ob q hx
    exact b.free c o' e1 (a.free c ob q n hx) hx
  there := fun c ob q hx => by
    obtain ⟨o', e1⟩ := a.there c ob q hx
    exact b.there c o' e1 hx
  tups := fun c xs q => b.tups c xs (a.tups c xs q)
  frzs := fun c ob xs q => b.frzs c ob xs (a.frzs c ob xs q)
  tbls := fun c ps q => by
    obtain ⟨m1, e1⟩ := a.tbls c ps q
    obtain ⟨m2, e2⟩ := b.tbls c _ e1
    exact ⟨m1 ++ m2, by rw [e2, Array.append_assoc]⟩
theorem Un.kept (k : ∀ b u, h.get? b = some u → h'.get? b = some u) : Un fs ex H H h h' :=
  ⟨fun b ob q _ _ _ => k b ob q, fun b ob q _ _ _ => ⟨ob.slots, k b ob q⟩, fun _ _ _ n _ => n, fun b ob q _ => ⟨ob, k b ob q⟩, fun _ _ q => q, fun _ _ _ q => q, fun _ ps q => ⟨#[], by rw [q]; simp⟩⟩
theorem Un.refl : Un fs ex H H h h := Un.kept fun _ _ q => q
theorem Un.laid (k : ∀ b u, h.get? b = some u → h'.get? b = some u) (hp : h.objs.size ≤ a) (hn : H a = none) : Un fs ex H (upd H a o) h h' where
  keep := fun b u q _ _ _ => k b u q
  slot := fun b u q _ _ _ => ⟨u.slots, k b u q⟩
  free := fun b u q n _ => by rw [upd_ne (Nat.ne_of_lt (Nat.lt_of_lt_of_le (Heap.lt_size q) hp))]; exact n
  there := fun b u q _ => ⟨u, k b u q⟩
  tups := fun b xs q => by rw [upd_ne (ne_of_none q hn)]; exact q
  frzs := fun b u xs q => by rw [upd_ne (ne_of_none q hn)]; exact q
  tbls := fun b ps q => ⟨#[], by rw [upd_ne (ne_of_none q hn), q]; simp⟩
theorem Un.write (mu : Mut (H x)) (he : e = x ∨ H e = some (.own x)) (k : ∀ b u, b ≠ e → h.get? b = some u → h'.get? b = some u) (heo : ∃ u, h'.get? e = some u) : Un fs ex H (upd H x o) h h' := by
  have hx : ∀ b, H b = none → b ≠ x := fun b n z => by subst z; rw [n] at mu; exact mu
  have hb : ∀ b, H b = none → b ≠ e := fun b n z => by
    subst z
    rcases he with r | r
    · exact hx b n r
    · rw [n] at r; cases r
  have hm : ∀ b u, H b = some u → ¬ Mut (some u) → b ≠ x := fun b u q nm z => by subst z; rw [q] at mu; exact nm mu
  refine ⟨fun b u q n _ _ => k b u (hb b n) q, fun b u q n _ _ => ⟨u.slots, k b u (hb b n) q⟩, fun b u q n _ => by rw [upd_ne (hx b n)]; exact n, fun b u q _ => ?_,
    fun b xs q => by rw [upd_ne (hm b _ q fun z => z)]; exact q, fun b u xs q => by rw [upd_ne (hm b _ q fun z => z)]; exact q, fun b ps q => ⟨#[], by rw [upd_ne (hm b _ q fun z => z), q]; simp⟩⟩
  by_cases hbe : b = e
  · subst hbe; exact heo
  · exact ⟨u, k b u hbe q⟩
theorem Un.mono (u : Un fs ex H H1 h h1) (hs : ∀ b ∈ fs, b ∈ fs') (hx : ∀ b ∈ ex, b ∈ ex') : Un fs' ex' H H1 h h1 :=
  ⟨fun b ob q n hb he => u.keep b ob q n (fun z => hb (hs b z)) fun z => he (hx b z), fun _ _ q n _ he => u.any q n fun z => he (hx _ z), fun b ob q n he => u.free b ob q n fun z => he (hx b z), fun b ob q he => u.there b ob q fun z => he (hx b z), u.tups, u.frzs, u.tbls⟩
end
def trk (h : Heap) (H : Hp) : List Addr := (List.range h.objs.size).filter fun a => (H a).isSome
def hidT (h : Heap) (H : Hp) : Heap := PySem.W.hideAll h (trk h H)
theorem hidT_size (h : Heap) (H : Hp) : (hidT h H).objs.size = h.objs.size := PySem.W.hideAll_size _ _
theorem hidT_get {h : Heap} {H : Hp} {b : Addr} {o : Obj} (e : h.get? b = some o) (n : H b = none) : (hidT h H).get? b = some o :=
  PySem.W.hideAll_get _ e fun hm => by
    have q : (H b).isSome = true := (List.mem_filter.mp hm).2
    rw [n] at q; simp at q
theorem of_hidT {h : Heap} {H : Hp} {b : Addr} {o : Obj} (e : (hidT h H).get? b = some o) : h.get? b = some o ∧ H b = none := by
  have e' : h.get? b = some o := PySem.W.of_hideAll (trk h H) e
  refine ⟨e', ?_⟩
  cases q : H b with
  | none => rfl
  | some x =>
    have hm : b ∈ trk h H := List.mem_filter.mpr ⟨List.mem_range.mpr (Heap.lt_size e'), by simp [q]⟩
    have z : (hidT h H).get? b = none := PySem.W.hideAll_none (trk h H) hm
    rw [z] at e; cases e
def allNews (g h : Heap) (L : Addr) : List (Addr × Obj) := (List.range h.objs.size).filterMap fun a => if a = L ∨ (g.get? a).isSome = true then none else (h.get? a).map fun o => (a, o)
def rest (g h : Heap) (L d : Addr) : List (Addr × Obj) := (allNews g h L).filter fun p => decide (p.1 ≠ d)
end L2
namespace L2
open PySem PySem.Spec PyProof.Rows
structure Mod (K : PySem.W.Frag) (mg : Str → Option Value) (base : Heap) : Prop where
  kin : K.In base
  glob : base.Ns mainGlobals mg
  blt : ∃ mb, base.Ns builtinsNs mb ∧ ∀ x : Str, x ≠ "__name__" → mb x = bootBuiltins x
  nolimit : base.NoLimit
structure Cx where
  prog : Program
  w : World
  K : PySem.W.Frag
  mg : Str → Option Value
  base : Heap
  A : Around
  N : List Str
  s₀ : Shared
  H₀ : Hp
  env : Env
  outer : List Env
  stack : List Env
  ex : List Addr
  fn : Str → Bool
  calm : Bool
  pn : List (Addr × Obj)
  xe : Value → Shared → Prop
def frs (l : List Env) : List Addr := l.filterMap (·.frame)
abbrev Cx.fs (X : Cx) : List Addr := frs X.outer
def Vis (sc : Scope) (x : Str) : Prop := sc.names.lookup x = some .local ∨ sc.names.lookup x = some .cell ∨ sc.names.lookup x = some .free
def Loc (sc : Scope) (x : Str) : Prop := sc.names.lookup x = some .local ∨ sc.names.lookup x = some .cell
def Look (env : Env) (h : Heap) (m : Str → Option Value) (x : Str) (u : Value) : Prop :=
  (env.kindOf x = some .local ∧ m x = some u) ∨ ((env.kindOf x = some .cell ∨ env.kindOf x = some .free) ∧ ∃ c, env.cells.lookup x = some c ∧ h.IsCell c (some u))
structure Cx.Ok (X : Cx) : Prop where
  mod : Mod X.K X.mg X.base
  kind : X.env.scope.kind = .function
  glob : X.env.globals = mainGlobals
  blt : X.env.builtins = builtinsNs
  above : X.s₀.heap.objs.size ≤ X.env.locals
  inj : ∀ x y c, X.env.cells.lookup x = some c → X.env.cells.lookup y = some c → x = y
  has : ∀ x, (X.env.kindOf x = some .cell ∨ X.env.kindOf x = some .free) → ∃ c, X.env.cells.lookup x = some c
  cab : ∀ x c, X.fn x = true → X.env.cells.lookup x = some c → X.s₀.heap.objs.size ≤ c
  hd : X.calm = true → X.A.handled = none
  frames : X.A.frames = some X.stack
  stk : X.stack = X.outer ∨ (X.stack = X.env :: X.outer ∧ X.env.frame = some X.env.locals)
  exf : ∀ b ∈ X.ex, b ≠ X.env.locals ∧ ∀ x c, X.env.cells.lookup x = some c → c ≠ b
  bs : ∀ b o, X.base.get? b = some o → X.s₀.heap.get? b = some o ∧ X.H₀ b = none
  bsz : X.base.objs.size ≤ X.s₀.heap.objs.size
  noex : ∀ b o, X.base.get? b = some o → b ∉ X.ex
  exfs : ∀ b ∈ X.ex, b ∉ X.fs
  funs : X.s₀.heap.FunFrames X.base X.outer
  frf : ∀ b ∈ X.fs, X.H₀ b = none
structure Inv (X : Cx) (pins : List (Addr × Obj)) (σ : List (Option V)) (H : Hp) (s : Shared) : Prop where
  ok : X.Ok
  os : s.os = X.s₀.os
  bare : AllBare s.gens
  base : Un X.fs X.ex X.H₀ H X.s₀.heap s.heap
  loc : ∃ m, s.heap.Ns X.env.locals m ∧ ∀ (i : Nat) (x : Str) (v : V), X.N[i]? = some x → σ[i]? = some (some v) → Vis X.env.scope x → ∃ u, RelV v u ∧ Look X.env s.heap m x u
  cell : ∀ x c, X.env.cells.lookup x = some c → ∃ v, s.heap.IsCell c v
  free : H X.env.locals = none
  freeC : ∀ x c, X.env.cells.lookup x = some c → H c = none
  pin : ∀ p ∈ X.pn ++ pins, s.heap.get? p.1 = some p.2 ∧ H p.1 = none ∧ p.1 ≠ X.env.locals ∧ p.1 ∉ X.fs ∧ ∀ v, p.2.data ≠ .cell v
  hok : HOk X.prog X.w H s.heap
  len : σ.length = X.N.length
section
variable {X : Cx} {pins : List (Addr × Obj)} {σ : List (Option V)} {H H' : Hp} {s : Shared} {h' : Heap}
theorem Cx.Ok.nofr (ok : X.Ok) {b : Addr} {o : Obj} (e : X.base.get? b = some o) : b ∉ X.fs := fun hb => by
  have := (ok.funs.mem hb).1
  rw [e] at this; cases this
theorem Inv.bs (I : Inv X pins σ H s) : ∀ b o, X.base.get? b = some o → s.heap.get? b = some o ∧ H b = none := fun b o e =>
  ⟨I.base.keep b o (I.ok.bs b o e).1 (I.ok.bs b o e).2 (I.ok.nofr e) (I.ok.noex b o e), I.base.free b o (I.ok.bs b o e).1 (I.ok.bs b o e).2 (I.ok.noex b o e)⟩
theorem Inv.bk (I : Inv X pins σ H s) : ∀ b o, X.base.get? b = some o → s.heap.get? b = some o := fun b o e => (I.bs b o e).1
theorem Inv.mod (I : Inv X pins σ H s) : Mod X.K X.mg X.base := I.ok.mod
theorem Inv.kIn (I : Inv X pins σ H s) : X.K.In s.heap := I.ok.mod.kin.keeps I.bk
theorem Inv.nolimit (I : Inv X pins σ H s) : s.heap.NoLimit := I.ok.mod.nolimit.keeps I.bk
theorem Inv.fr (I : Inv X pins σ H s) : ∃ m, Fr X.base X.env.locals s.heap m :=
  let ⟨m, hn, _⟩ := I.loc
  ⟨m, hn, I.bk, Nat.le_trans I.ok.bsz I.ok.above⟩
theorem Inv.lt (I : Inv X pins σ H s) : X.env.locals < s.heap.objs.size := let ⟨_, hn, _⟩ := I.loc; hn.lt
theorem Inv.sz (I : Inv X pins σ H s) : X.s₀.heap.objs.size ≤ s.heap.objs.size := Nat.le_trans I.ok.above (Nat.le_of_lt I.lt)
theorem Inv.nofs (I : Inv X pins σ H s) {a : Addr} (h : s.heap.objs.size ≤ a) : a ∉ X.fs := fun hb => by
  obtain ⟨_, o, ho, _⟩ := I.ok.funs.mem hb
  exact absurd (Nat.lt_of_lt_of_le (Heap.lt_size ho) (Nat.le_trans I.sz h)) (Nat.lt_irrefl _)
theorem Inv.cne (I : Inv X pins σ H s) : ∀ x c, X.env.cells.lookup x = some c → c ≠ X.env.locals := fun x c e z => by
  obtain ⟨v, o, ho, hd⟩ := I.cell x c e
  obtain ⟨m, ⟨o', es, ep, ho', hd', _⟩, _⟩ := I.loc
  rw [z, ho'] at ho; cases ho; rw [hd'] at hd; cases hd
theorem Inv.funs (I : Inv X pins σ H s) : s.heap.FunFrames X.base X.outer := by
  have all : ∀ (l : List Env), (∀ b ∈ frs l, b ∈ X.fs) → X.s₀.heap.FunFrames X.base l → s.heap.FunFrames X.base l := by
    intro l
    induction l with
    | nil => intro _ _; trivial
    | cons env r ih =>
      intro hs hl
      obtain ⟨hk, ⟨L, o, hf, hn, ho, hd⟩, hr⟩ := hl
      have hL : L ∈ X.fs := hs L (by unfold frs; rw [List.filterMap_cons, hf]; exact List.mem_cons_self)
      obtain ⟨sl, e⟩ := I.base.slot L o ho (I.ok.frf L hL) hL fun z => I.ok.exfs L z hL
      exact ⟨hk, ⟨L, _, hf, hn, e, hd⟩, ih (fun b hb => hs b (by unfold frs; rw [List.filterMap_cons, hf]; exact List.mem_cons_of_mem _ hb)) hr⟩
  exact all X.outer (fun _ hb => hb) I.ok.funs
theorem Inv.stack (I : Inv X pins σ H s) : s.heap.FunFrames X.base X.stack := by
  rcases I.ok.stk with e | ⟨e, hf⟩
  · rw [e]; exact I.funs
  · rw [e]
    obtain ⟨m, hn, _⟩ := I.loc
    refine .cons (by rw [I.ok.kind]; decide) hf hn ?_ I.funs
    exact Heap.get?_none_of_le (Nat.le_trans I.ok.bsz I.ok.above)
theorem Inv.stkSub (I : Inv X pins σ H s) : ∀ b ∈ frs X.stack, b ∈ X.env.locals :: X.fs := fun b hb => by
  rcases I.ok.stk with e | ⟨e, hf⟩
  · rw [e] at hb; exact List.mem_cons_of_mem _ hb
  · rw [e] at hb
    unfold frs at hb
    rw [List.filterMap_cons, hf] at hb
    exact hb
theorem Inv.stkFree (I : Inv X pins σ H s) : ∀ b ∈ frs X.stack, H b = none := fun b hb => by
  rcases List.mem_cons.mp (I.stkSub b hb) with e | hb
  · rw [e]; exact I.free
  · obtain ⟨_, o, ho, _⟩ := I.ok.funs.mem hb
    exact I.base.free b o ho (I.ok.frf b hb) fun z => I.ok.exfs b z hb
theorem Inv.step {g' : Array GenState} {t' : Nat} {d' : Drawn} {ch : List Addr} (I : Inv X pins σ H s)
    (hch : ∀ b ∈ ch, (b ∈ X.ex ∨ X.s₀.heap.objs.size ≤ b) ∧ b ≠ X.env.locals ∧ (∀ x c, X.env.cells.lookup x = some c → c ≠ b) ∧ ∀ p ∈ X.pn ++ pins, p.1 ≠ b)
    (keep : ∀ b o, b ≠ X.env.locals → b ∉ X.fs → b ∉ ch → s.heap.get? b = some o → H b = none → h'.get? b = some o)
    (slot : ∀ b o, b ≠ X.env.locals → b ∈ X.fs → b ∉ ch → s.heap.get? b = some o → H b = none → ∃ sl, h'.get? b = some { o with slots := sl }) (free : ∀ b o, b ∉ ch → s.heap.get? b = some o → H b = none → H' b = none)
    (there : ∀ b o, b ∉ ch → s.heap.get? b = some o → ∃ o', h'.get? b = some o')
    (tups : ∀ b xs, H b = some (.tup xs) → H' b = some (.tup xs)) (frzs : ∀ b o u, H b = some (.frz o u) → H' b = some (.frz o u)) (tbls : ∀ b ps, H b = some (.tbl ps) → ∃ more, H' b = some (.tbl (ps ++ more)))
    (ns : ∀ m, s.heap.Ns X.env.locals m → h'.Ns X.env.locals m) (hok : HOk X.prog X.w H' h') (hg : AllBare g') :
    Inv X pins σ H' { s with heap := h', gens := g', drawn := d', toks := t' } := by
  have neL : ∀ b o, X.s₀.heap.get? b = some o → b ≠ X.env.locals := fun b o e => Nat.ne_of_lt (Nat.lt_of_lt_of_le (Heap.lt_size e) I.ok.above)
  have neC : ∀ b o, X.s₀.heap.get? b = some o → b ∉ X.ex → b ∉ ch := fun b o e hx hb => by
    rcases (hch b hb).1 with z | z
    · exact hx z
    · exact absurd (Nat.lt_of_lt_of_le (Heap.lt_size e) z) (Nat.lt_irrefl _)
  have cellK : ∀ x c, X.env.cells.lookup x = some c → ∀ v, s.heap.IsCell c v → h'.IsCell c v := fun x c e v ⟨o, ho, hd⟩ => by
    have nch : c ∉ ch := fun z => (hch c z).2.2.1 x c e rfl
    by_cases hc : c ∈ X.fs
    · obtain ⟨sl, q⟩ := slot c o (I.cne x c e) hc nch ho (I.freeC x c e)
      exact ⟨_, q, hd⟩
    · exact ⟨o, keep c o (I.cne x c e) hc nch ho (I.freeC x c e), hd⟩
  refine ⟨I.ok, I.os, hg, ⟨fun b o e n hb hx => ?_, fun b o e n hb hx => ?_, fun b o e n hx => ?_, fun b o e hx => ?_, fun b xs e => tups b xs (I.base.tups b xs e), fun b o xs e => frzs b o xs (I.base.frzs b o xs e), fun b ps e => ?_⟩, ?_, fun x c e => ?_, ?_, fun x c e => ?_, fun p hp => ?_, hok, I.len⟩
  · exact keep b o (neL b o e) hb (neC b o e hx) (I.base.keep b o e n hb hx) (I.base.free b o e n hx)
  · obtain ⟨sl, e1⟩ := I.base.slot b o e n hb hx
    obtain ⟨sl', e2⟩ := slot b _ (neL b o e) hb (neC b o e hx) e1 (I.base.free b o e n hx)
    exact ⟨sl', e2⟩
  · obtain ⟨o', e1⟩ := I.base.there b o e hx
    exact free b o' (neC b o e hx) e1 (I.base.free b o e n hx)
  · obtain ⟨o', e1⟩ := I.base.there b o e hx
    exact there b o' (neC b o e hx) e1
  · obtain ⟨m1, e1⟩ := I.base.tbls b ps e
    obtain ⟨m2, e2⟩ := tbls b _ e1
    exact ⟨m1 ++ m2, by rw [e2, Array.append_assoc]⟩
  · obtain ⟨m, hn, hl⟩ := I.loc
    refine ⟨m, ns m hn, fun i x v e1 e2 e3 => ?_⟩
    obtain ⟨u, r, l⟩ := hl i x v e1 e2 e3
    refine ⟨u, r, ?_⟩
    rcases l with l | ⟨k, c, e, z⟩
    · exact .inl l
    · exact .inr ⟨k, c, e, cellK x c e _ z⟩
  · obtain ⟨v, z⟩ := I.cell x c e
    exact ⟨v, cellK x c e v z⟩
  · obtain ⟨m, ⟨o, _, _, ho, _⟩, _⟩ := I.loc
    exact free _ o (fun z => (hch _ z).2.1 rfl) ho I.free
  · obtain ⟨v, o, ho, hd⟩ := I.cell x c e
    exact free c o (fun z => (hch c z).2.2.1 x c e rfl) ho (I.freeC x c e)
  · obtain ⟨e, n, ne, nf, d⟩ := I.pin p hp
    have nch : p.1 ∉ ch := fun z => (hch p.1 z).2.2.2 p hp rfl
    exact ⟨keep p.1 p.2 ne nf nch e n, free p.1 p.2 nch e n, ne, nf, d⟩
theorem Inv.un {t' : Nat} (I : Inv X pins σ H s) (u : Un X.fs [] H H' s.heap h') (hok : HOk X.prog X.w H' h') : Inv X pins σ H' { s with heap := h', toks := t' } := by
  obtain ⟨m, ⟨o, es, ep, ho, r⟩, _⟩ := id I.loc
  obtain ⟨sl, hL⟩ := u.any ho I.free (by simp)
  exact I.step (g' := s.gens) (d' := s.drawn) (ch := []) (fun _ z => nomatch z) (fun b o _ hb _ e n => u.keep b o e n hb (by simp)) (fun b o _ hb _ e n => u.slot b o e n hb (by simp)) (fun b o _ e n => u.free b o e n (by simp)) (fun b o _ e => u.there b o e (by simp)) u.tups u.frzs u.tbls (fun m' hm => by
    obtain ⟨o', es', ep', ho', r'⟩ := hm
    rw [ho] at ho'; cases ho'
    exact ⟨_, es', ep', hL, r'⟩) hok I.bare
theorem Inv.call {g' : Array GenState} {t' : Nat} {d' : Drawn} {ch : List Addr} (I : Inv X pins σ H s) (u : Un (frs X.stack) ch H H' s.heap h') (hok : HOk X.prog X.w H' h') (hg : AllBare g')
    (hch : ∀ b ∈ ch, (b ∈ X.ex ∨ X.s₀.heap.objs.size ≤ b) ∧ b ≠ X.env.locals ∧ (∀ x c, X.env.cells.lookup x = some c → c ≠ b) ∧ ∀ p ∈ X.pn ++ pins, p.1 ≠ b) :
    Inv X pins σ H' { s with heap := h', gens := g', drawn := d', toks := t' } := by
  obtain ⟨m, ⟨o, es, ep, ho, r⟩, _⟩ := id I.loc
  obtain ⟨sl, hL⟩ := u.any ho I.free fun z => (hch _ z).2.1 rfl
  exact I.step (ch := ch) hch (fun b o hL hb hc e n => u.keep b o e n (fun z => (List.mem_cons.mp (I.stkSub b z)).elim hL hb) hc) (fun b o _ _ hc e n => u.any e n hc) (fun b o hc e n => u.free b o e n hc) (fun b o hc e => u.there b o e hc) u.tups u.frzs u.tbls (fun m' hm => by
    obtain ⟨o', es', ep', ho', r'⟩ := hm
    rw [ho] at ho'; cases ho'
    exact ⟨_, es', ep', hL, r'⟩) hok hg
theorem Inv.turned {t' : Nat} {it : Addr} (I : Inv X pins σ H s) (k : ∀ b o, b ≠ it → s.heap.get? b = some o → h'.get? b = some o) (hn : H it = none) (hL : it ≠ X.env.locals)
    (h1 : it ∈ X.ex ∨ X.s₀.heap.objs.size ≤ it) (h2 : ∀ x c, X.env.cells.lookup x = some c → c ≠ it) (h3 : ∀ p ∈ X.pn ++ pins, p.1 ≠ it) : Inv X pins σ H { s with heap := h', toks := t' } := by
  have nit : ∀ b u, H b = some u → b ≠ it := fun b u e z => by rw [z, hn] at e; cases e
  refine I.step (g' := s.gens) (d' := s.drawn) (ch := [it]) (fun b hb => ?_) (fun b o _ _ hc e _ => k b o (fun z => hc (by simp [z])) e) (fun b o _ _ hc e _ => ⟨o.slots, k b o (fun z => hc (by simp [z])) e⟩) (fun _ _ _ _ n => n)
    (fun b o hc e => ⟨o, k b o (fun z => hc (by simp [z])) e⟩) (fun _ _ e => e) (fun _ _ _ e => e) (fun b ps e => ⟨#[], by rw [e]; simp⟩) (fun m hm => ?_) (fun b u e => ?_) I.bare
  · have e : b = it := by simpa using hb
    subst e
    exact ⟨h1, hL, h2, h3⟩
  · obtain ⟨o, es, ep, ho, r⟩ := hm
    exact ⟨o, es, ep, k _ o (Ne.symm hL) ho, r⟩
  · refine (I.hok b u e).stay (fun c v hc q => k c v ?_ q) (fun _ q => q) fun _ _ q => q
    rcases hc with z | z
    · rw [z]; exact nit b u e
    · exact nit c _ z
theorem Inv.tok (I : Inv X pins σ H s) (t : Nat) : Inv X pins σ H { s with toks := t } := I.un (h' := s.heap) (t' := t) Un.refl I.hok
theorem Inv.kept {t' : Nat} (I : Inv X pins σ H s) (k : ∀ b u, s.heap.get? b = some u → h'.get? b = some u) : Inv X pins σ H { s with heap := h', toks := t' } := I.un (Un.kept k) (I.hok.kept k)
theorem Inv.laid {a : Addr} {o : HO} {t' : Nat} (I : Inv X pins σ H s) (k : ∀ b u, s.heap.get? b = some u → h'.get? b = some u) (hp : s.heap.objs.size ≤ a) (new : ObjOk X.prog X.w (upd H a o) h' a o) :
    Inv X pins σ (upd H a o) { s with heap := h', toks := t' } := I.un (Un.laid k hp (I.hok.fresh hp)) (I.hok.laid k hp new)
theorem Inv.write {x e : Addr} {o : HO} {t' : Nat} (I : Inv X pins σ H s) (mu : Mut (H x)) (he : e = x ∨ H e = some (.own x)) (k : ∀ b u, b ≠ e → s.heap.get? b = some u → h'.get? b = some u) (heo : ∃ u, h'.get? e = some u)
    (new : ObjOk X.prog X.w (upd H x o) h' x o) : Inv X pins σ (upd H x o) { s with heap := h', toks := t' } := I.un (Un.write mu he k heo) (I.hok.write mu he k heo new)
theorem Inv.weak {σ' : List (Option V)} (I : Inv X pins σ H s) (hl : σ'.length = σ.length) (w : ∀ (i : Nat) v, σ'[i]? = some (some v) → σ[i]? = some (some v)) : Inv X pins σ' H s :=
  ⟨I.ok, I.os, I.bare, I.base, let ⟨m, hn, hl'⟩ := I.loc; ⟨m, hn, fun i x v e1 e2 e3 => hl' i x v e1 (w i v e2) e3⟩, I.cell, I.free, I.freeC, I.pin, I.hok, hl.trans I.len⟩
theorem Inv.pins_of {pins' : List (Addr × Obj)} (I : Inv X pins σ H s) (h : ∀ p ∈ pins', s.heap.get? p.1 = some p.2 ∧ H p.1 = none ∧ p.1 ≠ X.env.locals ∧ p.1 ∉ X.fs ∧ ∀ v, p.2.data ≠ .cell v) : Inv X pins' σ H s :=
  ⟨I.ok, I.os, I.bare, I.base, I.loc, I.cell, I.free, I.freeC, fun p hp => (List.mem_append.mp hp).elim (fun z => I.pin p (List.mem_append_left _ z)) (h p), I.hok, I.len⟩
theorem nodup_ix {N : List Str} (hN : N.Nodup) {i j : Nat} {x : Str} (a : N[i]? = some x) (b : N[j]? = some x) : i = j := by
  obtain ⟨h1, e1⟩ := List.getElem?_eq_some_iff.mp a
  obtain ⟨h2, e2⟩ := List.getElem?_eq_some_iff.mp b
  exact (List.getElem_inj hN).mp (e1.trans e2.symm)
theorem store_ok2 {M : Model} {A : Around} {E : Value → Shared → Prop} {i : Nat} {x : Str} {v : V} {u : Value} {Q : Unit → Shared → Prop} (I : Inv X pins σ H s) (hN : X.N.Nodup) (hi : X.N[i]? = some x) (hx : Loc X.env.scope x) (r : RelV v u)
    (h : ∀ s', Inv X pins (σ.set i (some v)) H s' → (∃ a, Heap.SameBut a s.heap s'.heap ∧ (a = X.env.locals ∨ X.env.cells.lookup x = some a)) → Q () s') (hf : X.fn x = true ∨ X.env.scope.names.lookup x = some .local := by first | exact .inl rfl | exact .inr rfl | assumption) : wpAny M A (storeName X.env x u) Q E s := by
  obtain ⟨m, hn, hl⟩ := id I.loc
  have hcls : (X.env.scope.kind == .class || (X.env.scope.kind == .module && X.env.locals != X.env.globals)) = false := by rw [I.ok.kind]; rfl
  have hiσ : i < σ.length := by rw [I.len]; exact (List.getElem?_eq_some_iff.mp hi).1
  have cne := I.cne
  have tracked : ∀ {a : Addr} {h' : Heap}, (∃ o, s.heap.get? a = some o ∧ H a = none) → Heap.SameBut a s.heap h' → HOk X.prog X.w H h' := fun {a h'} ha hs b ob e => by
    obtain ⟨_, _, hfree⟩ := ha
    refine (I.hok b ob e).stay (fun c w' hc q => (hs.2 c ?_).trans q) (fun _ q => q) fun _ _ q => q
    rintro rfl
    rcases hc with rfl | hc
    · rw [hfree] at e; cases e
    · rw [hfree] at hc; cases hc
  rcases hx with hk | hk
  · refine wpAny_storeName_local hk hn (fun h' hn' hs => ?_) hcls
    obtain ⟨oL, _, _, hoL, _⟩ := id hn
    refine h _ ⟨I.ok, I.os, I.bare, ⟨fun b o e n hb hx => ?_, fun b o e n hb hx => ?_, I.base.free, fun b o e hx => ?_, I.base.tups, I.base.frzs, I.base.tbls⟩, ⟨_, hn', fun j y v' e1 e2 e3 => ?_⟩, fun y c e => ?_, I.free, I.freeC, fun p hp => ?_, tracked ⟨oL, hoL, I.free⟩ hs, by simpa using I.len⟩ ⟨_, hs, .inl rfl⟩
    · exact (hs.2 b (Nat.ne_of_lt (Nat.lt_of_lt_of_le (Heap.lt_size e) I.ok.above))).trans (I.base.keep b o e n hb hx)
    · obtain ⟨sl, e1⟩ := I.base.slot b o e n hb hx
      exact ⟨sl, (hs.2 b (Nat.ne_of_lt (Nat.lt_of_lt_of_le (Heap.lt_size e) I.ok.above))).trans e1⟩
    · obtain ⟨o', e1⟩ := I.base.there b o e hx
      exact ⟨o', (hs.2 b (Nat.ne_of_lt (Nat.lt_of_lt_of_le (Heap.lt_size e) I.ok.above))).trans e1⟩
    · by_cases hj : j = i
      · subst hj
        rw [hi] at e1; cases e1
        rw [List.getElem?_set_self hiσ] at e2
        cases e2
        exact ⟨u, r, .inl ⟨hk, by simp⟩⟩
      · rw [List.getElem?_set_ne (Ne.symm hj)] at e2
        obtain ⟨u', r', q⟩ := hl j y v' e1 e2 e3
        refine ⟨u', r', ?_⟩
        rcases q with ⟨k, e⟩ | ⟨k, c, e, z⟩
        · refine .inl ⟨k, ?_⟩
          have : y ≠ x := fun e => hj (nodup_ix hN e1 (e ▸ hi))
          simp [this, e]
        · exact .inr ⟨k, c, e, z.sameBut hs (cne y c e)⟩
    · obtain ⟨w', z⟩ := I.cell y c e
      exact ⟨w', z.sameBut hs (cne y c e)⟩
    · obtain ⟨e, n, ne, nf, d⟩ := I.pin p hp
      exact ⟨(hs.2 p.1 ne).trans e, n, ne, nf, d⟩
  · have hfn : X.fn x = true := by
      rcases hf with z | z
      · exact z
      · rw [z] at hk; cases hk
    obtain ⟨c, hc⟩ := I.ok.has x (.inl hk)
    obtain ⟨w', z⟩ := I.cell x c hc
    refine wpAny_storeName_cell I.ok.kind hk hc z (fun h' hc' hs => ?_)
    obtain ⟨oc, hoc, hocd⟩ := id z
    refine h { s with heap := h' } ⟨I.ok, I.os, I.bare, ⟨fun b o e n hb hx => ?_, fun b o e n hb hx => ?_, I.base.free, fun b o e hx => ?_, I.base.tups, I.base.frzs, I.base.tbls⟩, ⟨m, hn.sameBut hs (Ne.symm (cne x c hc)), fun j y v' e1 e2 e3 => ?_⟩, fun y c' e => ?_, I.free, I.freeC, fun p hp => ?_, tracked ⟨oc, hoc, I.freeC x c hc⟩ hs, by simpa using I.len⟩ ⟨c, hs, .inr hc⟩
    · exact (hs.2 b (Nat.ne_of_lt (Nat.lt_of_lt_of_le (Heap.lt_size e) (I.ok.cab x c hfn hc)))).trans (I.base.keep b o e n hb hx)
    · obtain ⟨sl, e1⟩ := I.base.slot b o e n hb hx
      exact ⟨sl, (hs.2 b (Nat.ne_of_lt (Nat.lt_of_lt_of_le (Heap.lt_size e) (I.ok.cab x c hfn hc)))).trans e1⟩
    · obtain ⟨o', e1⟩ := I.base.there b o e hx
      exact ⟨o', (hs.2 b (Nat.ne_of_lt (Nat.lt_of_lt_of_le (Heap.lt_size e) (I.ok.cab x c hfn hc)))).trans e1⟩
    · by_cases hj : j = i
      · subst hj
        rw [hi] at e1; cases e1
        rw [List.getElem?_set_self hiσ] at e2
        cases e2
        exact ⟨u, r, .inr ⟨.inl hk, c, hc, hc'⟩⟩
      · rw [List.getElem?_set_ne (Ne.symm hj)] at e2
        obtain ⟨u', r', q⟩ := hl j y v' e1 e2 e3
        refine ⟨u', r', ?_⟩
        rcases q with q | ⟨k, c', e, z'⟩
        · exact .inl q
        · refine .inr ⟨k, c', e, z'.sameBut hs ?_⟩
          rintro rfl
          exact hj (nodup_ix hN e1 (I.ok.inj _ _ _ e hc ▸ hi))
    · by_cases hcc : c' = c
      · subst hcc; exact ⟨_, hc'⟩
      · obtain ⟨w2, z2⟩ := I.cell y c' e
        exact ⟨w2, z2.sameBut hs hcc⟩
    · obtain ⟨e, n, ne, nf, d⟩ := I.pin p hp
      refine ⟨(hs.2 p.1 ?_).trans e, n, ne, nf, d⟩
      intro q
      rw [q, hoc] at e
      have q' : oc = p.2 := Option.some.inj e
      exact d w' (by rw [← q']; exact hocd)
theorem store_ok {M : Model} {A : Around} {E : Value → Shared → Prop} {i : Nat} {x : Str} {v : V} {u : Value} {Q : Unit → Shared → Prop} (I : Inv X pins σ H s) (hN : X.N.Nodup) (hi : X.N[i]? = some x) (hx : Loc X.env.scope x) (r : RelV v u)
    (h : ∀ s', Inv X pins (σ.set i (some v)) H s' → Q () s') (hf : X.fn x = true ∨ X.env.scope.names.lookup x = some .local := by first | exact .inl rfl | exact .inr rfl | assumption) : wpAny M A (storeName X.env x u) Q E s :=
  store_ok2 I hN hi hx r (fun s' I' _ => h s' I') hf
theorem Inv.call' {s' : Shared} {ch : List Addr} (I : Inv X pins σ H s) (ho : s'.os = s.os) (u : Un (frs X.stack) ch H H' s.heap s'.heap) (hok : HOk X.prog X.w H' s'.heap) (hg : AllBare s'.gens)
    (hch : ∀ b ∈ ch, (b ∈ X.ex ∨ X.s₀.heap.objs.size ≤ b) ∧ b ≠ X.env.locals ∧ (∀ x c, X.env.cells.lookup x = some c → c ≠ b) ∧ ∀ p ∈ X.pn ++ pins, p.1 ≠ b) : Inv X pins σ H' s' := by
  obtain ⟨h', g', d', t', o'⟩ := s'
  have e : o' = s.os := ho
  subst e
  exact I.call (g' := g') (t' := t') (d' := d') u hok hg hch
end
abbrev XK := Value → Option Addr → Hp → Prop
abbrev St := List (Option V)
abbrev VK := V → Hp → Prop
abbrev TE := St → Hp → VK → Prop
abbrev TT := St → Hp → (Bool → Hp → Prop) → Prop
abbrev TA := St → Hp → (List V → Hp → Prop) → Prop
structure Ends where
  nx : St → Hp → Prop
  rt : VK
  bk : St → Hp → Prop := fun _ _ => False
  ct : St → Hp → Prop := fun _ _ => False
abbrev TS := Ends → St → Hp → Prop
def EP (X : Cx) (pins : List (Addr × Obj)) (σ : St) (Q : VK) (u : Value) (s' : Shared) : Prop := ∃ v H', Inv X pins σ H' s' ∧ RelV v u ∧ Q v H'
def TP (X : Cx) (pins : List (Addr × Obj)) (σ : St) (Q : Bool → Hp → Prop) (b : Bool) (s' : Shared) : Prop := ∃ H', Inv X pins σ H' s' ∧ Q b H'
def AP (X : Cx) (pins : List (Addr × Obj)) (σ : St) (Q : List V → Hp → Prop) (us : List Value) (s' : Shared) : Prop := ∃ vs H', Inv X pins σ H' s' ∧ Vals vs us ∧ Q vs H'
def SP (X : Cx) (pins : List (Addr × Obj)) (D : Ends) (f : Flow) (s' : Shared) : Prop :=
  match f with
  | .next => ∃ σ' H', Inv X pins σ' H' s' ∧ D.nx σ' H'
  | .brk => ∃ σ' H', Inv X pins σ' H' s' ∧ D.bk σ' H'
  | .cont => ∃ σ' H', Inv X pins σ' H' s' ∧ D.ct σ' H'
  | .ret u => ∃ v σ' H', Inv X pins σ' H' s' ∧ RelV v u ∧ D.rt v H'
def PE (X : Cx) (e : Expr) (t : TE) : Prop :=
  ∀ (pins : List (Addr × Obj)) (s : Shared) (σ : St) (H : Hp) (Q : VK), Inv X pins σ H s → t σ H Q → wpAny (model X.prog X.w) X.A (eval e X.env) (EP X pins σ Q) X.xe s
def PT (X : Cx) (e : Expr) (t : TT) : Prop :=
  ∀ (pins : List (Addr × Obj)) (s : Shared) (σ : St) (H : Hp) (Q : Bool → Hp → Prop), Inv X pins σ H s → t σ H Q → wpAny (model X.prog X.w) X.A (isTrue e X.env (eval e X.env)) (TP X pins σ Q) X.xe s
def PW (X : Cx) (e : Expr) (t : TT) : Prop :=
  ∀ (whole : Sem Value) (pins : List (Addr × Obj)) (s : Shared) (σ : St) (H : Hp) (Q : Bool → Hp → Prop), Inv X pins σ H s → t σ H Q → wpAny (model X.prog X.w) X.A (isTrue e X.env whole) (TP X pins σ Q) X.xe s
theorem PW.pt {X : Cx} {e : Expr} {t : TT} (h : PW X e t) : PT X e t := h _
def PA (X : Cx) (es : List Expr) (t : TA) : Prop :=
  ∀ (pos : Pos) (pins : List (Addr × Obj)) (s : Shared) (σ : St) (H : Hp) (Q : List V → Hp → Prop), Inv X pins σ H s → t σ H Q → wpAny (model X.prog X.w) X.A (spliced (backTo pos (starEach es X.env))) (AP X pins σ Q) X.xe s
def PS (X : Cx) (st : Stmt) (t : TS) : Prop :=
  ∀ (pins : List (Addr × Obj)) (s : Shared) (σ : St) (H : Hp) (D : Ends), Inv X pins σ H s → t D σ H → wpAny (model X.prog X.w) X.A (exec st X.env) (SP X pins D) X.xe s
def PSs (X : Cx) (st : List Stmt) (t : TS) : Prop :=
  ∀ (pins : List (Addr × Obj)) (s : Shared) (σ : St) (H : Hp) (D : Ends), Inv X pins σ H s → t D σ H → wpAny (model X.prog X.w) X.A (execs st X.env) (SP X pins D) X.xe s
theorem thn {α : Type} {t : Sem α} {Q Q' : α → Shared → Prop} {M : Model} {A : Around} {E : Value → Shared → Prop} {s : Shared} (h : wpAny M A t Q E s) (hQ : ∀ a s, Q a s → Q' a s) : wpAny M A t Q' E s := wpAny_mono h hQ fun _ _ x => x
end L2
namespace L2
open PySem PySem.Spec PyProof.Rows
section
variable {X : Cx}
def tVar (i : Nat) : TE := fun σ H Q => ∃ v, σ[i]? = some (some v) ∧ Q v H
def tC (v : V) : TE := fun _ H Q => Q v H
theorem pe_var {i : Nat} {x : Str} {pos : Pos} (hN : X.N[i]? = some x) (hv : Vis X.env.scope x) (hd : (x == ("__debug__" : Str)) = false := by decide) (hcd : (x == ("__classdict__" : Str)) = false := by decide) : PE X (.Name x pos) (tVar i) := by
  intro pins s σ H Q I h
  obtain ⟨v, e, h⟩ := h
  obtain ⟨m, hn, hl⟩ := I.loc
  obtain ⟨u, r, l⟩ := hl i x v hN e hv
  have fin : EP X pins σ Q u s := ⟨v, H, I, r, h⟩
  rcases l with ⟨hk, hm⟩ | ⟨hk, c, hc, hcell⟩
  · exact wpAny_Name (wpAny_loadName_local I.ok.kind hk hn hm fin) hd
  · rcases hk with hk | hk
    · exact wpAny_Name (wpAny_loadName_cell I.ok.kind hk hc hcell fin) hd
    · exact wpAny_Name (wpAny_loadName_free I.ok.kind hk hc hcell fin hcd) hd
theorem pe_int {i j pos} : PE X (.Constant (.int i) j pos) (tC (.int i)) := fun _ _ _ H _ I h => wpAny_Constant_int ⟨.int i, H, I.tok _, ⟨_, rfl⟩, h⟩
theorem pe_bl {b j pos} : PE X (.Constant (.bool b) j pos) (tC (.bl b)) := fun _ _ _ H _ I h => Constant_bool ⟨.bl b, H, I, rfl, h⟩
theorem pe_non {j pos} : PE X (.Constant .none j pos) (tC .non) := fun _ _ _ H _ I h => Constant_none ⟨.non, H, I, rfl, h⟩
theorem pe_str {x j pos} : PE X (.Constant (.str x) j pos) (tC (.str x)) := fun _ _ _ H _ I h => Calls.Constant_str ⟨.str x, H, I.tok _, ⟨_, rfl⟩, h⟩
def Gl (X : Cx) (x : Str) : Prop := X.env.kindOf x = some .globalImplicit
theorem ld_glob {E : Value → Shared → Prop} {pins : List (Addr × Obj)} {s : Shared} {σ : St} {H : Hp} {x : Str} {u : Value} {pos : Pos} {Q : Value → Shared → Prop} (I : Inv X pins σ H s) (hg : Gl X x) (hm : X.mg x = some u) (h : Q u s)
    (hd : (x == ("__debug__" : Str)) = false := by decide) : wpAny (model X.prog X.w) X.A (eval (.Name x pos) X.env) Q E s :=
  Calls.Name_function_global I.ok.kind hg (Calls.loadGlobal_global (by rw [I.ok.glob]; exact I.mod.glob.keeps I.bk) hm h) hd
theorem ld_blt {E : Value → Shared → Prop} {pins : List (Addr × Obj)} {s : Shared} {σ : St} {H : Hp} {x : Str} {u : Value} {pos : Pos} {Q : Value → Shared → Prop} (I : Inv X pins σ H s) (hg : Gl X x) (hm : X.mg x = none) (hv : bootBuiltins x = some u) (h : Q u s)
    (hn : x ≠ "__name__" := by decide) (hd : (x == ("__debug__" : Str)) = false := by decide) : wpAny (model X.prog X.w) X.A (eval (.Name x pos) X.env) Q E s := by
  obtain ⟨mb, h1, h2⟩ := I.mod.blt
  exact Calls.Name_function_global I.ok.kind hg (Calls.loadGlobal_builtin (by rw [I.ok.glob]; exact I.mod.glob.keeps I.bk) hm (by rw [I.ok.blt]; exact h1.keeps I.bk) ((h2 x hn).trans hv) h) hd
theorem pe_bltn {x : Str} {v : V} {u : Value} {pos : Pos} (hg : Gl X x) (hm : X.mg x = none) (hv : bootBuiltins x = some u) (r : RelV v u) (hn : x ≠ "__name__" := by decide) (hd : (x == ("__debug__" : Str)) = false := by decide) : PE X (.Name x pos) (tC v) :=
  fun _ _ _ H _ I h => ld_blt I hg hm hv ⟨v, H, I, r, h⟩ hn hd
variable {a b : Expr} {ta tb : TE} {pos : Pos}
def tB (t : TE) : TT := fun σ H Q => t σ H fun x H1 => ∃ c, x = .bl c ∧ Q c H1
theorem pt_val {e : Expr} {t : TE} (h : PE X e t) (he : ∀ whole, isTrue e X.env whole = (do let v ← whole; standAt e.pos; holding [v] (truthy v)) := by intro _; rfl) : PT X e (tB t) := by
  intro pins s σ H Q I hw
  refine isTrue_plain (thn (h pins s σ H _ I hw) fun v s1 ⟨x, H1, I1, r1, q1⟩ => ?_) (he _)
  obtain ⟨d, rfl, q⟩ := q1
  cases r1
  exact wpAny_truthy_bool ⟨H1, I1, q⟩
variable {tA tB' : TT} {rest : List Expr}
def tAnd (t u : TT) : TT := fun σ H Q => t σ H fun c H1 => if c = true then u σ H1 Q else Q false H1
def tOr (t u : TT) : TT := fun σ H Q => t σ H fun c H1 => if c = true then Q true H1 else u σ H1 Q
def tNot (t : TT) : TT := fun σ H Q => t σ H fun c H1 => Q (!c) H1
theorem pw_and1 (ha : PT X a tA) : PW X (.BoolOp .And [a] pos) tA := by
  intro wh pins s σ H Q I h
  refine isTrue_and (thn (ha pins s σ H Q I h) fun c s1 e => ?_)
  cases c with
  | true => exact isTrue_and_nil e
  | false => exact e
theorem pw_or1 (ha : PT X a tA) : PW X (.BoolOp .Or [a] pos) tA := by
  intro wh pins s σ H Q I h
  refine isTrue_or (thn (ha pins s σ H Q I h) fun c s1 e => ?_)
  cases c with
  | false => exact isTrue_or_nil e
  | true => exact e
theorem pw_and (ha : PT X a tA) (hb : PW X (.BoolOp .And (b :: rest) pos) tB') : PW X (.BoolOp .And (a :: b :: rest) pos) (tAnd tA tB') := by
  intro wh pins s σ H Q I h
  refine isTrue_and (thn (ha pins s σ H _ I h) fun c s1 ⟨H1, I1, q1⟩ => ?_)
  cases c with
  | true => exact hb wh pins s1 σ H1 Q I1 q1
  | false => exact ⟨H1, I1, q1⟩
theorem pw_or (ha : PT X a tA) (hb : PW X (.BoolOp .Or (b :: rest) pos) tB') : PW X (.BoolOp .Or (a :: b :: rest) pos) (tOr tA tB') := by
  intro wh pins s σ H Q I h
  refine isTrue_or (thn (ha pins s σ H _ I h) fun c s1 ⟨H1, I1, q1⟩ => ?_)
  cases c with
  | true => exact ⟨H1, I1, q1⟩
  | false => exact hb wh pins s1 σ H1 Q I1 q1
theorem pt_not (ha : PT X a tA) : PT X (.UnaryOp .Not a pos) (tNot tA) := by
  intro pins s σ H Q I h
  exact isTrue_not (ha pins s σ H (fun c H1 => Q (!c) H1) I h)
def tAndV (ta tb : TE) : TE := fun σ H Q => ta σ H fun x H1 => ∃ c, x = .bl c ∧ if c = true then tb σ H1 Q else Q (.bl false) H1
def tNotV (ta : TE) : TE := fun σ H Q => ta σ H fun x H1 => ∃ c, x = .bl c ∧ Q (.bl (!c)) H1
theorem pe_one {op} {t : TE} (h : PE X a t) : PE X (.BoolOp op [a] pos) t := fun pins s σ H Q I hw => BoolOp_one (h pins s σ H Q I hw)
theorem pe_and (ha : PE X a ta) (hb : PE X (.BoolOp .And (b :: rest) pos) tb) : PE X (.BoolOp .And (a :: b :: rest) pos) (tAndV ta tb) := by
  intro pins s σ H Q I h
  refine BoolOp_and (thn (ha pins s σ H _ I h) fun v s1 ⟨x, H1, I1, r1, q1⟩ => ?_)
  obtain ⟨c, rfl, q1⟩ := q1
  cases r1
  refine wpAny_truthy_bool ?_
  cases c with
  | true => exact hb pins s1 σ H1 Q I1 q1
  | false => exact ⟨.bl false, H1, I1, rfl, q1⟩
theorem pe_not (ha : PE X a ta) : PE X (.UnaryOp .Not a pos) (tNotV ta) := by
  intro pins s σ H Q I h
  refine UnaryOp_ (thn (ha pins s σ H _ I h) fun v s1 ⟨x, H1, I1, r1, q1⟩ => ?_)
  obtain ⟨c, rfl, q1⟩ := q1
  cases r1
  exact not_of (wpAny_truthy_bool ⟨.bl (!c), H1, I1, rfl, q1⟩)
end
end L2
namespace L2
open PySem PySem.Spec PyProof.Rows
def SqL (K : PySem.W.Frag) (H : Hp) (a : Addr) (xs : List V) : Prop :=
  Rd H a (.lst xs) ∨
    ∃ (o : Obj) (its : Array Value) (n : Nat), K.lookup a = some o ∧ o.cls = .type "list" ∧ o.dict = none ∧ o.data = .seq its n ∧ its.size ≤ sizeLine ∧ Vals xs its.toList
def SqT (K : PySem.W.Frag) (H : Hp) (a : Addr) (xs : List V) : Prop :=
  Rd H a (.tup xs) ∨
    ∃ (o : Obj) (its : Array Value) (n : Nat), K.lookup a = some o ∧ o.cls = .type "tuple" ∧ o.data = .seq its n ∧ its.size ≤ sizeLine ∧ Vals xs its.toList
def absV : Value → Option V
  | .none => some .non
  | .bool b => some (.bl b)
  | .int i _ => some (.int i)
  | .str x _ => some (.str x)
  | .bytes b _ => some (.byt b)
  | .float b _ => some (.flt b)
  | .ref a => some (.ref a)
  | .type n => some (.ty n)
  | _ => none
theorem RelV.abs {x : V} {u : Value} (r : RelV x u) : absV u = some x := by
  cases x with
  | non => cases r; rfl
  | bl _ => cases r; rfl
  | int _ => obtain ⟨t, rfl⟩ := r; rfl
  | str _ => obtain ⟨t, rfl⟩ := r; rfl
  | byt _ => obtain ⟨t, rfl⟩ := r; rfl
  | flt _ => obtain ⟨t, rfl⟩ := r; rfl
  | ref _ => cases r; rfl
  | ty _ => cases r; rfl
theorem RelV.inj {x y : V} {u : Value} (r : RelV x u) (q : RelV y u) : x = y := Option.some.inj (r.abs.symm.trans q.abs)
theorem Vals.inj : ∀ {xs ys : List V} {us : List Value}, Vals xs us → Vals ys us → xs = ys
  | _, _, _, .nil, .nil => rfl
  | _, _, _, .cons r t, .cons r' t' => by rw [r.inj r', Vals.inj t t']
section
variable {X : Cx} {pins : List (Addr × Obj)} {σ : St} {H : Hp} {s : Shared} {a : Addr} {xs ys : List V}
theorem SqL.of {K : PySem.W.Frag} (h : H a = some (.lst xs)) : SqL K H a xs := .inl (.inl h)
theorem SqT.of {K : PySem.W.Frag} (h : H a = some (.tup xs)) : SqT K H a xs := .inl (.inl h)
theorem Inv.list (I : Inv X pins σ H s) (h : SqL X.K H a xs) : ∃ its : List Value, Vals xs its ∧ PlainL s.heap a its.toArray ∧ xs.length ≤ sizeLine := by
  rcases h with h | ⟨o, its, n, hk, hc, hd, hs, hz, r⟩
  · obtain ⟨z, its, n, r, e⟩ := h.ok I.hok
    exact ⟨its, r, ⟨_, n, e, rfl, rfl, rfl⟩, z⟩
  · refine ⟨its.toList, r, ⟨o, n, I.kIn a o hk, hc, hd, by simpa using hs⟩, ?_⟩
    have e := r.length
    simp only [Array.length_toList] at e
    omega
theorem Inv.tuple (I : Inv X pins σ H s) (h : SqT X.K H a xs) : ∃ its : List Value, Vals xs its ∧ IsTup s.heap a its.toArray ∧ xs.length ≤ sizeLine := by
  rcases h with h | ⟨o, its, n, hk, hc, hs, hz, r⟩
  · obtain ⟨z, its, r, p⟩ := h.ok I.hok
    exact ⟨its, r, p, z⟩
  · refine ⟨its.toList, r, ⟨o, I.kIn a o hk, hc, n, by simpa using hs⟩, ?_⟩
    have e := r.length
    simp only [Array.length_toList] at e
    omega
theorem Inv.list_inj (I : Inv X pins σ H s) (h : SqL X.K H a xs) (h' : SqL X.K H a ys) : xs = ys := by
  obtain ⟨its, r, ⟨o, n, e, _, _, d⟩, _⟩ := I.list h
  obtain ⟨its', r', ⟨o', n', e', _, _, d'⟩, _⟩ := I.list h'
  rw [e] at e'; cases e'
  rw [d] at d'
  injection d' with d1 _
  have : its = its' := by simpa using congrArg Array.toList d1
  subst this
  exact r.inj r'
theorem Inv.tuple_inj (I : Inv X pins σ H s) (h : SqT X.K H a xs) (h' : SqT X.K H a ys) : xs = ys := by
  obtain ⟨its, r, ⟨o, e, _, n, d⟩, _⟩ := I.tuple h
  obtain ⟨its', r', ⟨o', e', _, n', d'⟩, _⟩ := I.tuple h'
  rw [e] at e'; cases e'
  rw [d] at d'
  injection d' with d1 _
  have : its = its' := by simpa using congrArg Array.toList d1
  subst this
  exact r.inj r'
end
abbrev Cx.wish (X : Cx) (E : Value → Shared → Prop) : Cx := { X with xe := E }
abbrev Cx.nox (X : Cx) : Cx := X.wish fun _ _ => False
theorem Cx.Ok.wish {X : Cx} (ok : X.Ok) (E : Value → Shared → Prop) : (X.wish E).Ok :=
  ⟨ok.mod, ok.kind, ok.glob, ok.blt, ok.above, ok.inj, ok.has, ok.cab, ok.hd, ok.frames, ok.stk, ok.exf, ok.bs, ok.bsz, ok.noex, ok.exfs, ok.funs, ok.frf⟩
theorem Cx.Ok.unwish {X : Cx} {E : Value → Shared → Prop} (ok : (X.wish E).Ok) : X.Ok :=
  ⟨ok.mod, ok.kind, ok.glob, ok.blt, ok.above, ok.inj, ok.has, ok.cab, ok.hd, ok.frames, ok.stk, ok.exf, ok.bs, ok.bsz, ok.noex, ok.exfs, ok.funs, ok.frf⟩
section
variable {X : Cx} {pins : List (Addr × Obj)} {σ : St} {H : Hp} {s : Shared} {E : Value → Shared → Prop}
theorem Inv.wish (I : Inv X pins σ H s) (E : Value → Shared → Prop) : Inv (X.wish E) pins σ H s := ⟨I.ok.wish E, I.os, I.bare, I.base, I.loc, I.cell, I.free, I.freeC, I.pin, I.hok, I.len⟩
theorem Inv.unwish (I : Inv (X.wish E) pins σ H s) : Inv X pins σ H s := ⟨I.ok.unwish, I.os, I.bare, I.base, I.loc, I.cell, I.free, I.freeC, I.pin, I.hok, I.len⟩
theorem SP.unwish {D : Ends} {f : Flow} {s' : Shared} (h : SP (X.wish E) pins D f s') : SP X pins D f s' := by
  cases f with
  | next => obtain ⟨σ', H', I, q⟩ := h; exact ⟨σ', H', I.unwish, q⟩
  | brk => obtain ⟨σ', H', I, q⟩ := h; exact ⟨σ', H', I.unwish, q⟩
  | cont => obtain ⟨σ', H', I, q⟩ := h; exact ⟨σ', H', I.unwish, q⟩
  | ret u => obtain ⟨v, σ', H', I, r, q⟩ := h; exact ⟨v, σ', H', I.unwish, r, q⟩
theorem PE.nox {e : Expr} {t : TE} (h : PE X.nox e t) : PE X e t := fun pins s σ H Q I hw =>
  wpAny_mono (h pins s σ H Q (I.wish _) hw) (fun _ _ ⟨v, H', I', r, q⟩ => ⟨v, H', I'.unwish, r, q⟩) fun _ _ z => False.elim z
theorem PT.nox {e : Expr} {t : TT} (h : PT X.nox e t) : PT X e t := fun pins s σ H Q I hw =>
  wpAny_mono (h pins s σ H Q (I.wish _) hw) (fun _ _ ⟨H', I', q⟩ => ⟨H', I'.unwish, q⟩) fun _ _ z => False.elim z
theorem PSs.nox {st : List Stmt} {t : TS} (h : PSs X.nox st t) : PSs X st t := fun pins s σ H D I hw =>
  wpAny_mono (h pins s σ H D (I.wish _) hw) (fun _ _ q => q.unwish) fun _ _ z => False.elim z
end
section
variable {X : Cx} {st : Stmt} {rest : List Stmt} {t u : TS} {e : Expr} {te : TE} {pos : Pos}
def tNext : TS := fun D σ H => D.nx σ H
def tSeq (t u : TS) : TS := fun D σ H => t { D with nx := u D } σ H
theorem pss_nil : PSs X [] tNext := fun _ _ σ H _ I h => wpAny_execs_nil ⟨σ, H, I, h⟩
theorem pss_cons (h1 : PS X st t) (h2 : PSs X rest u) : PSs X (st :: rest) (tSeq t u) := by
  intro pins s σ H D I h
  refine wpAny_execs_cons (thn (h1 pins s σ H { D with nx := u D } I h) fun f s1 q => ?_)
  cases f with
  | next =>
    obtain ⟨σ', H', I', q⟩ := q
    exact h2 pins s1 σ' H' D I' q
  | ret v => exact q
  | brk => exact q
  | cont => exact q
theorem pss_one (h1 : PS X st t) : PSs X [st] t := by
  intro pins s σ H D I h
  refine wpAny_execs_cons (thn (h1 pins s σ H D I h) fun f s1 q => ?_)
  cases f with
  | next => exact wpAny_execs_nil q
  | ret v => exact q
  | brk => exact q
  | cont => exact q
theorem Inv.quiet {pins : List (Addr × Obj)} {σ : St} {H : Hp} {s : Shared} (I : Inv X pins σ H s) : interactive X.env = false := by simp [interactive, I.ok.kind]
def tDrop (te : TE) : TS := fun D σ H => te σ H fun _ H1 => D.nx σ H1
theorem ps_expr (he : PE X e te) (hs : swapsWith e none pos.line X.env = pure false := by rfl) : PS X (.Expr e pos) (tDrop te) := by
  intro pins s σ H D I h
  exact wpAny_Expr_any (thn (he pins s σ H _ I h) fun v s1 ⟨x, H1, I1, r1, q1⟩ => ⟨σ, H1, I1, q1⟩) I.quiet hs
def tRet (te : TE) : TS := fun D σ H => te σ H D.rt
theorem ps_ret (he : PE X e te) : PS X (.Return (some e) pos) (tRet te) := by
  intro pins s σ H D I h
  exact wpAny_Return_some (thn (he pins s σ H _ I h) fun v s1 ⟨x, H1, I1, r1, q1⟩ => ⟨x, σ, H1, I1, r1, q1⟩)
def tIfS (c : TT) (t u : TS) : TS := fun D σ H => c σ H fun b H1 => if b = true then t D σ H1 else u D σ H1
theorem ps_if {c : Expr} {a b : List Stmt} {tc : TT} (hc : PT X c tc) (ha : PSs X a t) (hb : PSs X b u) : PS X (.If c a b pos) (tIfS tc t u) := by
  intro pins s σ H D I h
  refine wpAny_If (thn (hc pins s σ H _ I h) fun d s1 ⟨H1, I1, q1⟩ => ?_)
  cases d with
  | true => exact ha pins s1 σ H1 D I1 q1
  | false => exact hb pins s1 σ H1 D I1 q1
end
abbrev TG := V → St → Hp → (St → Hp → Prop) → Prop
abbrev TGs := List V → St → Hp → (St → Hp → Prop) → Prop
def PG (X : Cx) (target : Expr) (t : TG) : Prop :=
  ∀ (pins : List (Addr × Obj)) (s : Shared) (σ : St) (H : Hp) (v : V) (u : Value) (Q : St → Hp → Prop), Inv X pins σ H s → RelV v u → t v σ H Q →
    wpAny (model X.prog X.w) X.A (assign target X.env u) (fun _ s' => ∃ σ' H', Inv X pins σ' H' s' ∧ Q σ' H') X.xe s
def PGs (X : Cx) (ts : List Expr) (t : TGs) : Prop :=
  ∀ (pins : List (Addr × Obj)) (s : Shared) (σ : St) (H : Hp) (vs : List V) (us : List Value) (Q : St → Hp → Prop), Inv X pins σ H s → Vals vs us → t vs σ H Q →
    wpAny (model X.prog X.w) X.A (assignInOrder ((assignEach ts X.env).map (·.2)) us) (fun _ s' => ∃ σ' H', Inv X pins σ' H' s' ∧ Q σ' H') X.xe s
abbrev TSet := V → V → V → Hp → (Hp → Prop) → Prop
def PSet (X : Cx) (t : TSet) : Prop :=
  ∀ (pins : List (Addr × Obj)) (s : Shared) (σ : St) (H : Hp) (o i v : V) (ov iv u : Value) (Q : Hp → Prop), Inv X pins σ H s → RelV o ov → RelV i iv → RelV v u → t o i v H Q →
    wpAny (model X.prog X.w) X.A (setItem ov iv u) (fun _ s' => ∃ H', Inv X pins σ H' s' ∧ Q H') X.xe s
section
variable {X : Cx} {pos : Pos}
def gName (i : Nat) : TG := fun v σ H Q => Q (σ.set i (some v)) H
theorem pg_name {i : Nat} {x : Str} (hN : X.N.Nodup) (hi : X.N[i]? = some x) (hx : Loc X.env.scope x) (hf : X.fn x = true ∨ X.env.scope.names.lookup x = some .local := by first | exact .inl rfl | exact .inr rfl | assumption) : PG X (.Name x pos) (gName i) := by
  intro pins s σ H v u Q I r h
  exact wpAny_assign_Name (store_ok I hN hi hx r (fun s' I' => ⟨_, H, I', h⟩) hf)
def gNil : TGs := fun vs σ H Q => vs = [] ∧ Q σ H
def gCons (t : TG) (u : TGs) : TGs := fun vs σ H Q => ∃ v r, vs = v :: r ∧ t v σ H fun σ' H' => u r σ' H' Q
theorem pgs_nil : PGs X [] gNil := by
  intro pins s σ H vs us Q I r h
  obtain ⟨e, h⟩ := h
  subst e
  cases r
  exact assignInOrder_nil ⟨σ, H, I, h⟩
theorem pgs_cons {e : Expr} {es : List Expr} {t : TG} {u : TGs} (h1 : PG X e t) (h2 : PGs X es u)
    (hs : (assignEach (e :: es) X.env).map (·.2) = assign e X.env :: (assignEach es X.env).map (·.2) := by rfl) : PGs X (e :: es) (gCons t u) := by
  intro pins s σ H vs us Q I r h
  obtain ⟨v, vr, e1, h⟩ := h
  subst e1
  cases r with
  | cons r rr =>
    rw [hs]
    refine assignInOrder_cons (thn (h1 pins s σ H _ _ _ I r h) fun _ s1 ⟨σ1, H1, I1, q1⟩ => ?_)
    exact h2 pins s1 σ1 H1 _ _ Q I1 rr q1
def gTup (K : PySem.W.Frag) (n : Nat) (t : TGs) : TG := fun v σ H Q => ∃ a xs, v = .ref a ∧ SqT K H a xs ∧ xs.length = n ∧ t xs σ H Q
theorem pg_tup {es : List Expr} {k : Nat} {t : TGs} {n : Nat} (hc : X.calm = true) (h : PGs X es t)
    (hn : (assignEach es X.env).length = n := by rfl) (hst : (assignEach es X.env).findIdx? (·.1) = none := by rfl) : PG X (.Tuple es k pos) (gTup X.K n t) := by
  intro pins s σ H v u Q I r hw
  obtain ⟨a, xs, e1, hq, hl, hw⟩ := hw
  subst e1
  cases r
  obtain ⟨its, rv, ht, hz⟩ := I.tuple hq
  refine assign_Tuple_tuple (I.ok.hd hc) ht (by simp [hn, ← hl, rv.length]) hst fun h' hx => ?_
  have I1 : Inv X pins σ H { s with heap := h' } := I.kept (t' := s.toks) fun b o e => hx b o (Nat.ne_of_lt (Heap.lt_size e)) e
  exact h pins _ σ H xs _ Q I1 (by simpa using rv) hw
def gSub (to ti : TE) (t : TSet) : TG := fun v σ H Q => to σ H fun o H1 => ti σ H1 fun i H2 => t o i v H2 fun H3 => Q σ H3
theorem pg_sub {o i : Expr} {to ti : TE} {t : TSet} (ho : PE X o to) (hi : PE X i ti) (hs : PSet X t)
    (ha : ∀ v, assign (.Subscript o i pos) X.env v = (do
      let ov ← holding [v] (eval o X.env)
      let iv ← holding [v, ov] (eval i X.env)
      standAt pos
      holding [v, ov, iv] (setItem ov iv v)
      release [v, ov, iv] []) := by intro _; rfl) : PG X (.Subscript o i pos) (gSub to ti t) := by
  intro pins s σ H v u Q I r h
  rw [ha]
  refine wpAny_bind (wpAny_holding (thn (ho pins s σ H _ I h) fun ov s1 ⟨x, H1, I1, r1, q1⟩ => ?_))
  refine wpAny_bind (wpAny_holding (thn (hi pins s1 σ H1 _ I1 q1) fun iv s2 ⟨y, H2, I2, r2, q2⟩ => ?_))
  refine wpAny_bind (wpAny_standAt (wpAny_bind (wpAny_holding (thn (hs pins s2 σ H2 x y v ov iv u _ I2 r1 r2 r q2) fun _ s3 ⟨H3, I3, q3⟩ => ?_))))
  exact wpAny_release ⟨σ, H3, I3, q3⟩
def tAsg (te : TE) (g : TG) : TS := fun D σ H => te σ H fun x H1 => g x σ H1 D.nx
theorem ps_asg {tg e : Expr} {te : TE} {g : TG} (he : PE X e te) (hg : PG X tg g) (hs : swapsWithSole [tg] e pos.line X.env = pure false := by rfl) (hw : swappedStores [tg] e X.env = pure none := by rfl)
    (h1 : (assignEach [tg] X.env).map (·.2) = [assign tg X.env] := by rfl) : PS X (.Assign [tg] e pos) (tAsg te g) := by
  intro pins s σ H D I h
  refine wpAny_Assign_stores (thn (he pins s σ H _ I h) fun v s1 ⟨x, H1, I1, r1, q1⟩ => ?_) hs hw
  rw [h1]
  exact thn (hg pins s1 σ H1 x v _ I1 r1 q1) fun _ s2 q => q
theorem ps_set {i : Nat} {x : Str} {e : Expr} {te : TE} {pos' : Pos} (hN : X.N.Nodup) (hi : X.N[i]? = some x) (hx : Loc X.env.scope x) (he : PE X e te) (hs : swapsWith e (some (.Name x pos')) pos.line X.env = pure false := by rfl) (hf : X.fn x = true ∨ X.env.scope.names.lookup x = some .local := by first | exact .inl rfl | exact .inr rfl | assumption) :
    PS X (.Assign [.Name x pos'] e pos) (tAsg te (gName i)) := by
  intro pins s σ H D I h
  refine wpAny_Assign_Name (thn (he pins s σ H _ I h) fun v s1 ⟨y, H1, I1, r1, q1⟩ => ?_) hs
  exact store_ok I1 hN hi hx r1 (fun s2 I2 => ⟨_, H1, I2, q1⟩) hf
end
section
variable {X : Cx} {pos : Pos}
end
structure It where
  go : Nat → Hp → Prop
  yld : Nat → Hp → V → Hp → Prop
  stop : Nat → Hp → Prop
def FpOk (X : Cx) (pins : List (Addr × Obj)) (H : Hp) (b : Addr) : Prop :=
  H b = none ∧ b ≠ X.env.locals ∧ b ∉ X.fs ∧ (b ∈ X.ex ∨ X.s₀.heap.objs.size ≤ b) ∧ (∀ x c, X.env.cells.lookup x = some c → c ≠ b) ∧ ∀ p ∈ X.pn ++ pins, p.1 ≠ b
theorem Inv.fpOk {X : Cx} {pins : List (Addr × Obj)} {σ : St} {H H' : Hp} {s : Shared} {b : Addr} (I : Inv X pins σ H s) (hb : s.heap.objs.size ≤ b) (hn : H' b = none) : FpOk X pins H' b := by
  refine ⟨hn, Nat.ne_of_gt (Nat.lt_of_lt_of_le I.lt hb), I.nofs hb, .inr (Nat.le_trans I.sz hb), fun x c e z => ?_, fun p hp z => ?_⟩
  · obtain ⟨v, q⟩ := I.cell x c e
    exact absurd (Nat.lt_of_lt_of_le q.lt (by rw [z]; exact hb)) (Nat.lt_irrefl _)
  · exact absurd (Nat.lt_of_lt_of_le (Heap.lt_size (I.pin p hp).1) (by rw [z]; exact hb)) (Nat.lt_irrefl _)
structure Turn (P : Program) (w : World) (K : PySem.W.Frag) (tg : Expr) (J : It) (fp : List Addr) (it : Addr) (tn : Nat → Heap → Prop) : Prop where
  mem : it ∈ fp
  obj : ∀ i h, tn i h → ∀ b ∈ fp, ∃ o, h.get? b = some o ∧ ∀ v, o.data ≠ .cell v
  keep : ∀ i h h', tn i h → (∀ b ∈ fp, ∀ o, h.get? b = some o → h'.get? b = some o) → tn i h'
  item : ∀ (X : Cx), X.prog = P → X.w = w → X.K = K → X.calm = true → ∀ (i : Nat) (pins : List (Addr × Obj)) (s : Shared) (σ : St) (H : Hp) (E : Value → Shared → Prop), Inv X pins σ H s → (∀ b ∈ fp, FpOk X pins H b) → tn i s.heap → J.go i H →
    wpAny (model P w) X.A (pyNext (.ref it)) (fun r s1 => ∃ u, r = some u ∧
      wpAny (model P w) X.A (letOwnedTupleGo tg (.ref it) u) (fun _ s2 => ∃ x H', Inv X pins σ H' s2 ∧ RelV x u ∧ J.yld i H x H' ∧ tn (i + 1) s2.heap ∧ ∀ b ∈ fp, H' b = none) E s1) E s
  done : ∀ (X : Cx), X.prog = P → X.w = w → X.K = K → X.calm = true → ∀ (i : Nat) (pins : List (Addr × Obj)) (s : Shared) (σ : St) (H : Hp) (E : Value → Shared → Prop), Inv X pins σ H s → (∀ b ∈ fp, FpOk X pins H b) → tn i s.heap → J.stop i H →
    wpAny (model P w) X.A (pyNext (.ref it)) (fun r s1 => r = none ∧ Inv X pins σ H s1) E s
  self : ∀ (A : Around) (i : Nat) (s : Shared) (Q : Value → Shared → Prop) (E : Value → Shared → Prop), tn i s.heap → Q (.ref it) s → wpAny (model P w) A (pyIter (.ref it)) Q E s
abbrev TI := St → Hp → (It → Hp → Prop) → Prop
def PIE (X : Cx) (pins : List (Addr × Obj)) (σ : St) (tg : Expr) (R : It → Hp → Prop) (itv : Value) (s2 : Shared) : Prop :=
  ∃ (it : Addr) (fp : List Addr) (tn : Nat → Heap → Prop) (J : It) (H' : Hp), itv = .ref it ∧ Inv X pins σ H' s2 ∧ Turn X.prog X.w X.K tg J fp it tn ∧ tn 0 s2.heap ∧ (∀ b ∈ fp, FpOk X pins H' b) ∧ R J H'
def PI (X : Cx) (tg iter : Expr) (wi : TI) : Prop :=
  ∀ (pins : List (Addr × Obj)) (s : Shared) (σ : St) (H : Hp) (R : It → Hp → Prop), Inv X pins σ H s → wi σ H R →
    wpAny (model X.prog X.w) X.A (eval iter X.env) (fun v s1 => wpAny (model X.prog X.w) X.A (pyIter v) (PIE X pins σ tg R) X.xe s1) X.xe s
theorem go_of {M : Model} {A : Around} {E : Value → Shared → Prop} {s : Shared} {tg : Expr} {it : Addr} {u : Value} {o : Obj} {n : String} {vs : Array Value} {Q : Unit → Shared → Prop} (ho : s.heap.get? it = some o) (hc : o.cls = .type n) (hd : o.data = .fields vs)
    (hn : ["enumerate", "zip", "dict_itemiterator", "dict_reverseitemiterator", "odict_iterator", "itertools.zip_longest", "itertools.pairwise"].contains n = false) (hQ : Q () s) : wpAny M A (letOwnedTupleGo tg (.ref it) u) Q E s := by
  unfold letOwnedTupleGo
  cases tg <;> first
    | exact wpAny_pure hQ
    | (cases u <;> first
        | exact wpAny_pure hQ
        | (refine wpAny_bind (wpAny_load ho ?_)
           rw [hc, hd]
           show wpAny M A (if (["enumerate", "zip", "dict_itemiterator", "dict_reverseitemiterator", "odict_iterator", "itertools.zip_longest", "itertools.pairwise"].contains n && vs[0]? == some (rawInt _)) = true then _ else _) Q E s
           rw [if_neg (by intro h; rw [hn, Bool.false_and] at h; cases h)]
           exact wpAny_pure hQ))
def Itl (K : PySem.W.Frag) (a : Addr) : It :=
  ⟨fun i H => ∃ xs x, SqL K H a xs ∧ xs[i]? = some x, fun i H x H' => H' = H ∧ ∀ xs, SqL K H a xs → xs[i]? = some x, fun i H => ∃ xs, SqL K H a xs ∧ xs.length ≤ i⟩
def Itt (K : PySem.W.Frag) (a : Addr) : It :=
  ⟨fun i H => ∃ xs x, SqT K H a xs ∧ xs[i]? = some x, fun i H x H' => H' = H ∧ ∀ xs, SqT K H a xs → xs[i]? = some x, fun i H => ∃ xs, SqT K H a xs ∧ xs.length ≤ i⟩
def Itr (lo : Int) (n : Nat) : It := ⟨fun i _ => i < n, fun i H x H' => H' = H ∧ x = .int (lo + i), fun i _ => n ≤ i⟩
theorem turn_list {P : Program} {w : World} {K : PySem.W.Frag} {tg : Expr} (a it : Addr) : Turn P w K tg (Itl K a) [it] it (fun i h => h.IsListIter it a i) where
  mem := by simp
  obj := fun i h st b hb => by
    have e : b = it := by simpa using hb
    subst e
    obtain ⟨o, e, c, d⟩ := st
    exact ⟨o, e, fun v z => by rw [d] at z; cases z⟩
  keep := fun i h h' st k => st.at fun o e => k it (by simp) o e
  item := by
    intro X hP hw hK hc i pins s σ H E I hf st hg
    subst hP hw hK
    obtain ⟨xs, x, hq, hx⟩ := hg
    obtain ⟨its, rv, p, hz⟩ := I.list hq
    obtain ⟨u, hu, ru⟩ := rv.get hx
    obtain ⟨f0, f1, f2, f3, f4, f5⟩ := hf it (by simp)
    refine wpAny_pyNext_list_item st p.isList (x := u) (by simpa using hu) fun h' st' sb => ?_
    have I1 : Inv X pins σ H { s with heap := h' } := I.turned (t' := s.toks) (fun b o hb e => (sb.2 b hb).trans e) f0 f1 f3 f4 f5
    obtain ⟨o, e, c, d⟩ := id st'
    exact ⟨u, rfl, go_of (s := { s with heap := h' }) e c d (by decide) ⟨x, H, I1, ru, ⟨rfl, fun ys hy => by rw [I.list_inj hy hq]; exact hx⟩, st', fun b hb => (hf b hb).1⟩⟩
  done := by
    intro X hP hw hK hc i pins s σ H E I hf st hg
    subst hP hw hK
    obtain ⟨xs, hq, hx⟩ := hg
    obtain ⟨its, rv, p, hz⟩ := I.list hq
    obtain ⟨f0, f1, f2, f3, f4, f5⟩ := hf it (by simp)
    have hl := rv.length
    exact wpAny_pyNext_list_end (I.ok.hd hc) st p.isList (by simp; omega) fun h' eb => ⟨rfl, I.turned (t' := s.toks) (fun b o hb e => eb b o hb e) f0 f1 f3 f4 f5⟩
  self := fun _ _ _ _ _ st h => wpAny_pyIter_listiter st h
theorem turn_tuple {P : Program} {w : World} {K : PySem.W.Frag} {tg : Expr} (a it : Addr) : Turn P w K tg (Itt K a) [it] it (fun i h => h.IsTupleIter it a i) where
  mem := by simp
  obj := fun i h st b hb => by
    have e : b = it := by simpa using hb
    subst e
    obtain ⟨o, e, c, d⟩ := st
    exact ⟨o, e, fun v z => by rw [d] at z; cases z⟩
  keep := fun i h h' st k => st.at fun o e => k it (by simp) o e
  item := by
    intro X hP hw hK hc i pins s σ H E I hf st hg
    subst hP hw hK
    obtain ⟨xs, x, hq, hx⟩ := hg
    obtain ⟨its, rv, p, hz⟩ := I.tuple hq
    obtain ⟨u, hu, ru⟩ := rv.get hx
    obtain ⟨f0, f1, f2, f3, f4, f5⟩ := hf it (by simp)
    refine wpAny_pyNext_tuple_item st (show s.heap.IsTuple a its.toArray from p) (x := u) (by simpa using hu) fun h' st' sb => ?_
    have I1 : Inv X pins σ H { s with heap := h' } := I.turned (t' := s.toks) (fun b o hb e => (sb.2 b hb).trans e) f0 f1 f3 f4 f5
    obtain ⟨o, e, c, d⟩ := id st'
    exact ⟨u, rfl, go_of (s := { s with heap := h' }) e c d (by decide) ⟨x, H, I1, ru, ⟨rfl, fun ys hy => by rw [I.tuple_inj hy hq]; exact hx⟩, st', fun b hb => (hf b hb).1⟩⟩
  done := by
    intro X hP hw hK hc i pins s σ H E I hf st hg
    subst hP hw hK
    obtain ⟨xs, hq, hx⟩ := hg
    obtain ⟨its, rv, p, hz⟩ := I.tuple hq
    obtain ⟨f0, f1, f2, f3, f4, f5⟩ := hf it (by simp)
    have hl := rv.length
    exact wpAny_pyNext_tuple_end (I.ok.hd hc) st (show s.heap.IsTuple a its.toArray from p) (by simp; omega) fun h' eb => ⟨rfl, I.turned (t' := s.toks) (fun b o hb e => eb b o hb e) f0 f1 f3 f4 f5⟩
  self := fun _ _ _ _ _ st h => wpAny_pyIter_tupleiter st h
theorem turn_range {P : Program} {w : World} {K : PySem.W.Frag} {tg : Expr} (it : Addr) (lo : Int) (n : Nat) : Turn P w K tg (Itr lo n) [it] it (fun i h => IsRangeIter h it (lo + (i : Nat) * 1) ((n : Int) - (i : Nat)) 1) where
  mem := by simp
  obj := fun i h st b hb => by
    have e : b = it := by simpa using hb
    subst e
    exact ⟨_, st, fun v z => by
      have z' : Data.fields _ = Data.cell v := z
      cases z'⟩
  keep := fun i h h' st k => k it (by simp) _ st
  item := by
    intro X hP hw hK hc i pins s σ H E I hf st hg
    subst hP hw hK
    obtain ⟨f0, f1, f2, f3, f4, f5⟩ := hf it (by simp)
    have W := Walks.range (prog := X.prog) (w := X.w) (I.ok.hd hc) it lo 1 n
    refine W.item i s _ _ hg st fun v h' tk hv st' kk => ?_
    obtain ⟨t, rfl⟩ := hv
    have I1 : Inv X pins σ H { s with heap := h', toks := tk } := I.turned (fun b o hb e => kk b o (by simpa using hb) e) f0 f1 f3 f4 f5
    refine ⟨_, rfl, go_of (s := { s with heap := h', toks := tk }) (n := "range_iterator") st' rfl rfl (by decide) ⟨.int (lo + i), H, I1, ⟨t, ?_⟩, ⟨rfl, rfl⟩, st', fun b hb => (hf b hb).1⟩⟩
    rw [Int.mul_one]
  done := by
    intro X hP hw hK hc i pins s σ H E I hf st hg
    subst hP hw hK
    obtain ⟨f0, f1, f2, f3, f4, f5⟩ := hf it (by simp)
    exact wpAny_pyNext_range_end (I.ok.hd hc) st (by have : n ≤ i := hg; omega) fun h' eb => ⟨rfl, I.turned (t' := s.toks) (fun b o hb e => eb b o hb e) f0 f1 f3 f4 f5⟩
  self := fun _ _ _ _ _ st h => wpAny_pyIter_rangeiter st h
end L2
namespace L2
open PySem PySem.Spec PyProof.Rows
section
variable {X : Cx} {tg : Expr}
theorem range_it {pins : List (Addr × Obj)} {σ : St} {H : Hp} {s : Shared} {R : It → Hp → Prop} {E : Value → Shared → Prop} {lo hi : Int} {t u v : Tok} {tk : Nat} (I : Inv X pins σ H s) (h1 : -(2 ^ 62) ≤ lo) (h2 : lo < 2 ^ 62) (h3 : -(2 ^ 62) ≤ hi) (h4 : hi < 2 ^ 62)
    (q : R (Itr lo (hi - lo).toNat) H) : wpAny (model X.prog X.w) X.A (pyIter (.ref s.heap.objs.size)) (PIE X pins σ tg R) E { s with heap := s.heap.push { cls := .type "range", data := .fields #[.int lo t, .int hi u, .int 1 v] }, toks := tk } := by
  refine wpAny_pyIter_range (IsRange.new ..) (small_one h1 h2 h3 h4) ?_
  have I1 : Inv X pins σ H { s with heap := s.heap.push { cls := .type "range", data := .fields #[.int lo t, .int hi u, .int 1 v] }, toks := tk } := I.kept fun b o e => Heap.get?_push_of_some _ e
  refine ⟨(s.heap.push { cls := .type "range", data := .fields #[.int lo t, .int hi u, .int 1 v] }).objs.size, [(s.heap.push { cls := .type "range", data := .fields #[.int lo t, .int hi u, .int 1 v] }).objs.size], _, _, H, rfl,
    I1.kept (t' := tk) fun b o e => Heap.get?_push_of_some _ e, turn_range _ lo (hi - lo).toNat, ?_, fun b hb => ?_, q⟩
  · have e1 : lo + ((0 : Nat) : Int) * 1 = lo := by simp
    have e2 : (((hi - lo).toNat : Nat) : Int) - ((0 : Nat) : Int) = Builtin.Range.rangeSize lo hi 1 := by rw [rangeSize_one]; split <;> omega
    show IsRangeIter _ _ (lo + ((0 : Nat) : Int) * 1) ((((hi - lo).toNat : Nat) : Int) - ((0 : Nat) : Int)) 1
    rw [e1, e2]
    exact Heap.get?_push_size _ rfl
  · have e : b = (s.heap.push { cls := .type "range", data := .fields #[.int lo t, .int hi u, .int 1 v] }).objs.size := by simpa using hb
    subst e
    exact I1.fpOk (Nat.le_refl _) (I1.hok.fresh (Nat.le_refl _))
def iRng1 (ta : TA) : TI := fun σ H R => ta σ H fun vs H1 => ∃ j : Int, vs = [.int j] ∧ -(2 ^ 62) ≤ j ∧ j < 2 ^ 62 ∧ R (Itr 0 j.toNat) H1
theorem pi_range1 {a : Expr} {ta : TA} {p pos : Pos} (hg : Gl X "range") (hm : X.mg "range" = none) (ha : PA X [a] ta) (hs : starEach [a] X.env = [(false, eval a X.env)] := by rfl) : PI X tg (.Call (.Name "range" p) [a] [] pos) (iRng1 ta) := by
  intro pins s σ H R I h
  refine Call_ (ld_blt I hg hm boot_range (PyProof.Rows.callWith_type1 (thn (ha pos pins s σ H _ I h) fun us s1 ⟨vs, H1, I1, r1, q1⟩ => ?_) hs rfl))
  obtain ⟨j, e, q1, q2, q⟩ := q1
  subst e
  cases r1 with
  | cons r rr =>
    cases rr
    obtain ⟨t, rfl⟩ := r
    exact call_range_1 (range_it I1 (by omega) (by omega) q1 q2 (by simpa using q))
def tFor (wi : TI) (g : TG) (tb : TS) : TS := fun D σ H => wi σ H fun J H1 => ∃ W : Nat → Nat → St → Hp → Prop, (∃ m, W 0 m σ H1) ∧ ∀ i m σ H, W i m σ H →
  (J.stop i H ∧ D.nx σ H) ∨ (J.go i H ∧ ∃ N : St → Hp → Prop, (∀ σ' H', N σ' H' → ∃ m', m' < m ∧ W (i + 1) m' σ' H') ∧ ∀ x H', J.yld i H x H' → g x σ H' fun σ2 H2 => tb { D with nx := N, ct := N, bk := D.nx } σ2 H2)
def pinsAt (fp : List Addr) (h : Heap) : List (Addr × Obj) := fp.filterMap fun b => (h.get? b).map fun o => (b, o)
theorem mem_pinsAt {fp : List Addr} {h : Heap} {b : Addr} {o : Obj} (hb : b ∈ fp) (e : h.get? b = some o) : (b, o) ∈ pinsAt fp h := List.mem_filterMap.mpr ⟨b, hb, by rw [e]; rfl⟩
theorem of_pinsAt {fp : List Addr} {h : Heap} {p : Addr × Obj} (hp : p ∈ pinsAt fp h) : p.1 ∈ fp ∧ h.get? p.1 = some p.2 := by
  obtain ⟨b, hb, e⟩ := List.mem_filterMap.mp hp
  cases q : h.get? b with
  | none => rw [q] at e; cases e
  | some o =>
    rw [q] at e
    have e' : (b, o) = p := Option.some.inj e
    subst e'
    exact ⟨hb, q⟩
theorem Inv.pinned {pins : List (Addr × Obj)} {σ : St} {H : Hp} {s : Shared} {fp : List Addr} (I : Inv X pins σ H s) (hf : ∀ b ∈ fp, FpOk X pins H b) (ho : ∀ b ∈ fp, ∃ o, s.heap.get? b = some o ∧ ∀ v, o.data ≠ .cell v) : Inv X (pins ++ pinsAt fp s.heap) σ H s :=
  I.pins_of fun p hp => (List.mem_append.mp hp).elim (fun z => I.pin p (List.mem_append_right _ z)) fun z => by
    obtain ⟨hb, e⟩ := of_pinsAt z
    obtain ⟨f0, f1, f2, _⟩ := hf p.1 hb
    obtain ⟨o, e', d⟩ := ho p.1 hb
    rw [e] at e'; cases e'
    exact ⟨e, f0, f1, f2, d⟩
theorem Inv.unpinned {pins pl : List (Addr × Obj)} {σ : St} {H : Hp} {s : Shared} (I : Inv X (pins ++ pl) σ H s) : Inv X pins σ H s := I.pins_of fun p hp => I.pin p (List.mem_append_right _ (List.mem_append_left _ hp))
theorem ps_for {iter : Expr} {body : List Stmt} {wi : TI} {g : TG} {tb : TS} {pos : Pos} (hp : PassesOwn (model X.prog X.w) X.A X.env X.xe) (hc : X.calm = true) (hi : PI X tg iter wi) (hg : PG X tg g) (hb : PSs X body tb)
    (hs : ∀ x, foldedSetIterable iter X.env x = pure x := by intro _; rfl) : PS X (.For tg iter body [] pos) (tFor wi g tb) := by
  intro pins s σ H D I h
  refine wpAny_For (thn (hi pins s σ H _ I h) fun v s1 h1 => thn h1 fun itv s2 h2 => ?_) hs
  obtain ⟨it, fp, tn, J, H2, e, I2, T, st2, f2, W, ⟨m0, w0⟩, turn⟩ := h2
  subst e
  -- what stays true of the iterator's objects through the loop
  have stat : ∀ {H' : Hp}, (∀ b ∈ fp, H' b = none) → ∀ b ∈ fp, FpOk X pins H' b := fun hn b hb => ⟨hn b hb, (f2 b hb).2⟩
  refine codeAny_forLoop_any (fun n s' => ∃ i σ' H', Inv X pins σ' H' s' ∧ tn i s'.heap ∧ (∀ b ∈ fp, H' b = none) ∧ W i n σ' H') ?_ m0 ⟨0, σ, H2, I2, st2, fun b hb => (f2 b hb).1, w0⟩
  rintro n s3 ⟨i, σ3, H3, I3, st3, fr3, w3⟩
  rcases turn i n σ3 H3 w3 with ⟨stop, qn⟩ | ⟨go, N, hN, step⟩
  · refine wpAny_passesOwn hp (thn (T.done X rfl rfl rfl hc i pins s3 σ3 H3 X.xe I3 (stat fr3) st3 stop) fun r s4 ⟨hr, I4⟩ => ?_)
    subst hr
    exact wpAny_execs_nil ⟨σ3, H3, I4, qn⟩
  · refine wpAny_passesOwn hp (thn (T.item X rfl rfl rfl hc i pins s3 σ3 H3 X.xe I3 (stat fr3) st3 go) fun r s4 ⟨u, hr, h4⟩ => ?_)
    subst hr
    refine wpAny_passesOwn hp (thn h4 fun _ s5 ⟨x, H5, I5, r5, y5, st5, fr5⟩ => ?_)
    have I5' := I5.pinned (stat fr5) (T.obj _ _ st5)
    refine wpAny_passesOwn hp (thn (hg _ s5 σ3 H5 x u _ I5' r5 (step x H5 y5)) fun _ s6 ⟨σ6, H6, I6, q6⟩ => ?_)
    refine wpAny_passesOwn hp (thn (hb _ s6 σ6 H6 _ I6 q6) fun f s7 q7 => ?_)
    have again : ∀ {σ7 : St} {H7 : Hp}, Inv X (pins ++ pinsAt fp s5.heap) σ7 H7 s7 → N σ7 H7 → ∃ m, m < n ∧ ∃ i σ' H', Inv X pins σ' H' s7 ∧ tn i s7.heap ∧ (∀ b ∈ fp, H' b = none) ∧ W i m σ' H' := fun {σ7 H7} I7 n7 => by
      obtain ⟨m', hm, w7⟩ := hN σ7 H7 n7
      refine ⟨m', hm, i + 1, σ7, H7, I7.unpinned, T.keep _ _ _ st5 fun b hb o e => (I7.pin (b, o) (List.mem_append_right _ (List.mem_append_right _ (mem_pinsAt hb e)))).1, fun b hb => ?_, w7⟩
      obtain ⟨o, e, d⟩ := T.obj _ _ st5 b hb
      exact (I7.pin (b, o) (List.mem_append_right _ (List.mem_append_right _ (mem_pinsAt hb e)))).2.1
    cases f with
    | next => obtain ⟨σ7, H7, I7, n7⟩ := q7; exact again I7 n7
    | cont => obtain ⟨σ7, H7, I7, n7⟩ := q7; exact again I7 n7
    | brk => obtain ⟨σ7, H7, I7, q7⟩ := q7; exact ⟨σ7, H7, I7.unpinned, q7⟩
    | ret v => obtain ⟨x7, σ7, H7, I7, r7, q7⟩ := q7; exact ⟨x7, σ7, H7, I7.unpinned, r7, q7⟩
end
end L2
namespace L2
open PySem PySem.Spec PyProof.Rows
abbrev R2 := V → V → Hp → VK → Prop
def OpR (X : Cx) (f : Value → Value → Sem Value) (r : R2) : Prop :=
  ∀ (pins : List (Addr × Obj)) (s : Shared) (σ : St) (H : Hp) (x y : V) (v u : Value) (Q : VK), Inv X pins σ H s → RelV x v → RelV y u → r x y H Q →
    wpAny (model X.prog X.w) X.A (f v u) (EP X pins σ Q) X.xe s
def UnR (X : Cx) (f : Value → Sem Value) (r : V → Hp → VK → Prop) : Prop :=
  ∀ (pins : List (Addr × Obj)) (s : Shared) (σ : St) (H : Hp) (x : V) (v : Value) (Q : VK), Inv X pins σ H s → RelV x v → r x H Q →
    wpAny (model X.prog X.w) X.A (f v) (EP X pins σ Q) X.xe s
def CallR (X : Cx) (f : Value) (r : List V → Hp → VK → Prop) : Prop :=
  ∀ (pins : List (Addr × Obj)) (s : Shared) (σ : St) (H : Hp) (xs : List V) (us : List Value) (Q : VK), Inv X pins σ H s → Vals xs us → r xs H Q →
    wpAny (model X.prog X.w) X.A (call f us) (EP X pins σ Q) X.xe s
def tOp (r : R2) (ta tb : TE) : TE := fun σ H Q => ta σ H fun x H1 => tb σ H1 fun y H2 => r x y H2 Q
def tUn (r : V → Hp → VK → Prop) (ta : TE) : TE := fun σ H Q => ta σ H fun x H1 => r x H1 Q
def rI (C : Int → Int → Prop) (g : Int → Int → V) : R2 := fun x y H Q => ∃ i j, x = .int i ∧ y = .int j ∧ C i j ∧ Q (g i j) H
def rI0 (g : Int → Int → V) : R2 := fun x y H Q => ∃ i j, x = .int i ∧ y = .int j ∧ Q (g i j) H
def rU (g : Int → V) : V → Hp → VK → Prop := fun x H Q => ∃ i, x = .int i ∧ Q (g i) H
section
variable {X : Cx} {a b c : Expr} {ta tb tc : TE} {pos : Pos}
theorem binT (ha : PE X a ta) (hb : PE X b tb) {pins : List (Addr × Obj)} {s : Shared} {σ : St} {H : Hp} {R : V → V → Hp → Prop} (I : Inv X pins σ H s)
    (h : ta σ H fun x H1 => tb σ H1 fun y H2 => R x y H2) {Q : Value → Shared → Prop} {f : Value → Value → Sem Value}
    (hf : ∀ v u s2 x y H2, Inv X pins σ H2 s2 → RelV x v → RelV y u → R x y H2 → wpAny (model X.prog X.w) X.A (f v u) Q X.xe s2) :
    wpAny (model X.prog X.w) X.A (eval a X.env) (fun v s₁ => wpAny (model X.prog X.w) X.A (eval b X.env) (fun u s₂ => wpAny (model X.prog X.w) X.A (f v u) Q X.xe s₂) X.xe s₁) X.xe s := by
  refine thn (ha pins s σ H _ I h) fun v s1 ⟨x, H1, I1, r1, q1⟩ => ?_
  refine thn (hb pins s1 σ H1 _ I1 q1) fun u s2 ⟨y, H2, I2, r2, q2⟩ => ?_
  exact hf v u s2 x y H2 I2 r1 r2 q2
theorem pe_op {op : Operator} {r : R2} (ho : OpR X (binaryOp op) r) (ha : PE X a ta) (hb : PE X b tb) : PE X (.BinOp a op b pos) (tOp r ta tb) := by
  intro pins s σ H Q I h
  exact wpAny_BinOp (binT ha hb I h fun v u s2 x y H2 I2 rx ry q => ho pins s2 σ H2 x y v u Q I2 rx ry q)
theorem pe_un {op : UnaryOp} {r : V → Hp → VK → Prop} (ho : UnR X (unaryOp op) r) (ha : PE X a ta) : PE X (.UnaryOp op a pos) (tUn r ta) := by
  intro pins s σ H Q I h
  exact UnaryOp_ (thn (ha pins s σ H _ I h) fun v s1 ⟨x, H1, I1, r1, q1⟩ => ho pins s1 σ H1 x v Q I1 r1 q1)
theorem opI {f : Value → Value → Sem Value} {C : Int → Int → Prop} {g : Int → Int → Int}
    (rule : ∀ (i j : Int) (t u : Tok) (s : Shared) (Q : Value → Shared → Prop) (E : Value → Shared → Prop), C i j → Q (.int (g i j) s.toks) { s with toks := s.toks + 1 } → wpAny (model X.prog X.w) X.A (f (.int i t) (.int j u)) Q E s) :
    OpR X f (rI C fun i j => .int (g i j)) := by
  intro pins s σ H x y v u Q I rx ry h
  obtain ⟨i, j, rfl, rfl, hc, q⟩ := h
  obtain ⟨t, rfl⟩ := rx
  obtain ⟨t', rfl⟩ := ry
  exact rule i j t t' s _ _ hc ⟨.int (g i j), H, I.tok _, ⟨_, rfl⟩, q⟩
theorem opI0 {f : Value → Value → Sem Value} {g : Int → Int → Int}
    (rule : ∀ (i j : Int) (t u : Tok) (s : Shared) (Q : Value → Shared → Prop) (E : Value → Shared → Prop), Q (.int (g i j) s.toks) { s with toks := s.toks + 1 } → wpAny (model X.prog X.w) X.A (f (.int i t) (.int j u)) Q E s) :
    OpR X f (rI0 fun i j => .int (g i j)) := by
  intro pins s σ H x y v u Q I rx ry h
  obtain ⟨i, j, rfl, rfl, q⟩ := h
  obtain ⟨t, rfl⟩ := rx
  obtain ⟨t', rfl⟩ := ry
  exact rule i j t t' s _ _ ⟨.int (g i j), H, I.tok _, ⟨_, rfl⟩, q⟩
theorem opB0 {f : Value → Value → Sem Value} {g : Int → Int → Bool}
    (rule : ∀ (i j : Int) (t u : Tok) (s : Shared) (Q : Value → Shared → Prop) (E : Value → Shared → Prop), Q (.bool (g i j)) s → wpAny (model X.prog X.w) X.A (f (.int i t) (.int j u)) Q E s) :
    OpR X f (rI0 fun i j => .bl (g i j)) := by
  intro pins s σ H x y v u Q I rx ry h
  obtain ⟨i, j, rfl, rfl, q⟩ := h
  obtain ⟨t, rfl⟩ := rx
  obtain ⟨t', rfl⟩ := ry
  exact rule i j t t' s _ _ ⟨.bl (g i j), H, I, rfl, q⟩
def CDiv (i j : Int) : Prop := 0 < j ∧ j < 1073741824
def CPow (i j : Int) : Prop := 0 ≤ j ∧ j ≤ 1000000 ∧ i.natAbs < 2 ^ 64
def CMul (i j : Int) : Prop := (-(2 ^ 64) < i ∧ i < 2 ^ 64) ∨ (-(2 ^ 64) < j ∧ j < 2 ^ 64)
theorem CMul.ok {i j : Int} (h : CMul i j) : IntMulOk i j := by
  rcases h with ⟨h1, h2⟩ | ⟨h1, h2⟩
  · exact .of_left (intBits_le_64 h1 h2)
  · exact .of_right (intBits_le_64 h1 h2)
theorem op_add : OpR X (binaryOp .Add) (rI0 fun i j => .int (i + j)) := opI0 fun _ _ _ _ _ _ _ q => add_int q
theorem op_sub : OpR X (binaryOp .Sub) (rI0 fun i j => .int (i - j)) := opI0 fun _ _ _ _ _ _ _ q => sub_int q
theorem op_mul : OpR X (binaryOp .Mult) (rI CMul fun i j => .int (i * j)) := opI fun _ _ _ _ _ _ _ hc q => mul_int q hc.ok
theorem op_fdiv : OpR X (binaryOp .FloorDiv) (rI CDiv fun i j => .int (i / j)) := opI fun i j _ _ _ _ _ hc q => by
  have h1 : (0 : Int) < j := hc.1
  have h2 : j < 1073741824 := hc.2
  exact floordiv_int (by omega) (by rw [Int.fdiv_eq_ediv_of_nonneg i (by omega)]; exact q) (.inl (PyProof.noPylong_small (by omega)))
theorem op_mod : OpR X (binaryOp .Mod) (rI (fun _ j => 0 < j) fun i j => .int (i % j)) := opI fun i j _ _ _ _ _ hc q => by
  have h1 : (0 : Int) < j := hc
  exact mod_int' (by omega) (by rw [Int.fmod_eq_emod_of_nonneg i (by omega)]; exact q)
theorem op_pow : OpR X (binaryOp .Pow) (rI CPow fun i j => .int (i ^ j.toNat)) := opI fun _ _ _ _ _ _ _ hc q => pow_int_small hc.1 hc.2.1 hc.2.2 q
theorem unI {f : Value → Sem Value} {g : Int → Int}
    (rule : ∀ (i : Int) (t : Tok) (s : Shared) (Q : Value → Shared → Prop) (E : Value → Shared → Prop), Q (.int (g i) s.toks) { s with toks := s.toks + 1 } → wpAny (model X.prog X.w) X.A (f (.int i t)) Q E s) :
    UnR X f (rU fun i => .int (g i)) := by
  intro pins s σ H x v Q I rx h
  obtain ⟨i, rfl, q⟩ := h
  obtain ⟨t, rfl⟩ := rx
  exact rule i t s _ _ ⟨.int (g i), H, I.tok _, ⟨_, rfl⟩, q⟩
theorem un_neg : UnR X (unaryOp .USub) (rU fun i => .int (-i)) := unI fun _ _ _ _ _ q => neg_int q
end
section
variable {X : Cx} {a b c : Expr} {ta tb tc : TE} {pos : Pos}
theorem op_lt : OpR X (compareOp .Lt) (rI0 fun i j => .bl (decide (i < j))) := opB0 fun _ _ _ _ _ _ _ q => lt_int q
theorem op_gt : OpR X (compareOp .Gt) (rI0 fun i j => .bl (decide (j < i))) := opB0 fun _ _ _ _ _ _ _ q => gt_int q
theorem op_ge : OpR X (compareOp .GtE) (rI0 fun i j => .bl (decide (j ≤ i))) := opB0 fun _ _ _ _ _ _ _ q => ge_int q
theorem OpR.or {f : Value → Value → Sem Value} {r r' : R2} (h : OpR X f r) (h' : OpR X f r') : OpR X f (fun x y H Q => r x y H Q ∨ r' x y H Q) := by
  intro pins s σ H x y v u Q I rx ry q
  rcases q with q | q
  · exact h pins s σ H x y v u Q I rx ry q
  · exact h' pins s σ H x y v u Q I rx ry q
theorem nomark (b : Expr) {op : CmpOp} (h : op ≠ .In := by decide) (h2 : op ≠ .NotIn := by decide) : behindInMarks op b = false := by
  have e1 : (op == CmpOp.In) = false := by cases op <;> first | rfl | exact absurd rfl h
  have e2 : (op == CmpOp.NotIn) = false := by cases op <;> first | rfl | exact absurd rfl h2
  cases b <;> simp [behindInMarks, e1, e2]
theorem pe_cmpR {op : CmpOp} {r : R2} (ho : OpR X (compareOp op) r) (ha : PE X a ta) (hb : PE X b tb) (hm : behindInMarks op b = false) : PE X (.Compare a [op] [b] pos) (tOp r ta tb) := by
  intro pins s σ H Q I h
  exact wpAny_Compare1 (binT ha hb I h fun v u s2 x y H2 I2 rx ry q => ho pins s2 σ H2 x y v u Q I2 rx ry q) hm
def tTest (t : TE) : TT := fun σ H Q => t σ H fun x H' => ∃ k, x = .bl k ∧ Q k H'
theorem pt_cmpR {op : CmpOp} {r : R2} (ho : OpR X (compareOp op) r) (ha : PE X a ta) (hb : PE X b tb) (hm : behindInMarks op b = false) : PT X (.Compare a [op] [b] pos) (tTest (tOp r ta tb)) := by
  intro pins s σ H Q I h
  refine wpAny_isTrue_Compare1 (thn (ha pins s σ H _ I h) fun v s1 ⟨x, H1, I1, r1, q1⟩ => thn (hb pins s1 σ H1 _ I1 q1) fun u s2 ⟨y, H2, I2, r2, q2⟩ =>
    thn (ho pins s2 σ H2 x y v u _ I2 r1 r2 q2) fun c s3 ⟨z, H3, I3, r3, k, e, q3⟩ => ?_) hm
  subst e
  cases r3
  exact wpAny_truthy_bool ⟨H3, I3, q3⟩
theorem line63 : (sizeLine : Nat) < 2 ^ 63 := by rw [sizeLine_eq]; decide
theorem op_add_str : OpR X (binaryOp .Add) (fun x y H Q => ∃ i j, x = .str i ∧ y = .str j ∧ i.length + j.length ≤ sizeLine ∧ Q (.str (i ++ j)) H) := by
  intro pins s σ H x y v u Q I rx ry h
  obtain ⟨i, j, rfl, rfl, hz, q⟩ := h
  obtain ⟨t, rfl⟩ := rx
  obtain ⟨t', rfl⟩ := ry
  exact add_str (fun t' tk => ⟨.str (i ++ j), H, I.tok _, ⟨_, rfl⟩, q⟩) hz
theorem vals1 {x : V} {us : List Value} (r : Vals [x] us) : ∃ u, us = [u] ∧ RelV x u := by
  cases r with
  | cons r1 r2 => cases r2; exact ⟨_, rfl, r1⟩
theorem vals2 {x y : V} {us : List Value} (r : Vals [x, y] us) : ∃ u w', us = [u, w'] ∧ RelV x u ∧ RelV y w' := by
  cases r with
  | cons r1 r2 =>
    cases r2 with
    | cons r3 r4 => cases r4; exact ⟨_, _, rfl, r1, r3⟩
theorem call_min2 (hc : X.calm = true) : CallR X (.builtin "min") (fun xs H Q => ∃ i j, xs = [.int i, .int j] ∧ Q (.int (if j < i then j else i)) H) := by
  intro pins s σ H xs us Q I r h
  obtain ⟨i, j, rfl, q⟩ := h
  obtain ⟨u, w', rfl, ⟨t, rfl⟩, ⟨t', rfl⟩⟩ := vals2 r
  refine min_two_ints (I.ok.hd hc) fun h' tk k => ⟨_, H, I.kept k, ?_, q⟩
  by_cases hj : j < i
  · rw [if_pos hj, if_pos hj]; exact ⟨_, rfl⟩
  · rw [if_neg hj, if_neg hj]; exact ⟨_, rfl⟩
theorem call_int1 : CallR X (.type "int") (fun xs H Q => (∃ i, xs = [.int i] ∧ Q (.int i) H) ∨ ∃ k, xs = [.bl k] ∧ Q (.int (if k then 1 else 0)) H) := by
  intro pins s σ H xs us Q I r h
  rcases h with ⟨i, rfl, q⟩ | ⟨k, rfl, q⟩
  · obtain ⟨u, rfl, t, rfl⟩ := vals1 r
    exact call_int_int ⟨.int i, H, I, ⟨_, rfl⟩, q⟩
  · obtain ⟨u, rfl, r1⟩ := vals1 r
    cases r1
    exact call_int_bool ⟨.int (if k then 1 else 0), H, I.tok _, ⟨_, rfl⟩, q⟩
end
end L2
namespace L2
open PySem PySem.Spec PyProof.Rows
structure ObjM (h : Heap) (x dx C : Addr) (mA : Str → Option Value) : Prop where
  obj : h.get? x = some (PySem.W.instObj C dx)
  ns : h.Ns1 dx mA
  ne : dx ≠ x
theorem lookIn_ns {h : Heap} {dx : Addr} {mA : Str → Option Value} (n : h.Ns1 dx mA) : ∃ od, h.get? dx = some od ∧ ∀ name, PySem.W.lookIn name od = some (mA name) := by
  obtain ⟨o, es, ep, ho, hd, hk, _, hm⟩ := n
  refine ⟨o, ho, fun name => ?_⟩
  have e := hm name
  unfold nsFind findBy at e
  rw [← Array.find?_toList] at e
  unfold PySem.W.lookIn
  rw [hd]
  dsimp only
  split
  · rename_i y q
    rw [q] at e
    exact congrArg some e
  · rename_i q
    rw [q] at e
    have a : es.toList.any (·.refKey) = false := by
      rw [List.any_eq_false]
      intro y hy
      obtain ⟨z, t, hkey⟩ := hk y (Array.mem_toList_iff.mp hy)
      simp [DictEntry.refKey, hkey]
    have a' : ¬ es.toList.any (·.refKey) = true := by rw [a]; exact Bool.false_ne_true
    rw [if_neg a']
    exact congrArg some e
theorem ObjM.look {h : Heap} {x dx C : Addr} {mA : Str → Option Value} (I : ObjM h x dx C mA) : ∃ od, PySem.W.InstAt h x (PySem.W.instObj C dx) C (some od) ∧ ∀ name, PySem.W.lookIn name od = some (mA name) :=
  let ⟨od, ho, hl⟩ := lookIn_ns I.ns
  ⟨od, ⟨I.obj, rfl, rfl, ho⟩, hl⟩
section
variable {prog : Program} {w : World} {A : Around} {E : Value → Shared → Prop} {s : Shared} {K : PySem.W.Frag} {x dx C f : Addr} {mA : Str → Option Value} {name : Str} {v : Value}
end
def putF (f : Str) (v : V) : List (Str × V) → List (Str × V)
  | [] => [(f, v)]
  | (g, x) :: r => if g = f then (g, v) :: r else (g, x) :: putF f v r
theorem RelO.some_of {v : V} {o : Option Value} (r : RelO (some v) o) : ∃ u, o = some u ∧ RelV v u := by
  cases o with
  | none => exact (show False from r).elim
  | some u => exact ⟨u, rfl, r⟩
section
variable {P : Program} {w : World} {H H' : Hp} {h h' : Heap} {a C dx : Addr} {fs fs' : List (Str × V)}
end
structure Cls (K : PySem.W.Frag) (C : Addr) : Prop where
  pg : PySem.W.plainGet K C Str.empty = true
  hd : PySem.W.hasDictIn K C = true
  po : PySem.W.plainOver K C = true
  sa : PySem.W.findIn K (.ref C) "__setattr__" = some (some (.builtin "object.__setattr__"))
theorem Cls.get {K : PySem.W.Frag} {C : Addr} (c : Cls K C) (f : Str) : PySem.W.plainGet K C f = true := c.pg
def NoAttr (K : PySem.W.Frag) (C : Addr) (f : Str) : Prop := PySem.W.findIn K (.ref C) f = some none
section
variable {X : Cx} {pins : List (Addr × Obj)} {σ : St} {H : Hp} {s : Shared} {a C dx : Addr} {fs : List (Str × V)} {f : Str} {v : V} {A : Around} {E : Value → Shared → Prop}
end
section
variable {X : Cx} {o e value : Expr} {f : Str} {pos pos' tpos : Pos} {ta tv : TE}
end
section
variable {X : Cx} {pins : List (Addr × Obj)} {σ : St} {H : Hp} {s : Shared} {A : Around} {E : Value → Shared → Prop} {Q : Value → Shared → Prop} {c : Value} {b : Bool}
end
end L2
namespace L2
open PySem PySem.Spec PyProof.Rows
structure Room (k : Nat) (A : Around) : Prop where
  hd : A.handled = none
  dp : A.depth + 3 * k + 5 < recursionLimit
  un : A.units + 16 * k + 200 < cLine
theorem Room.mono {j k : Nat} {A : Around} (r : Room k A) (h : j ≤ k) : Room j A := ⟨r.hd, by have := r.dp; omega, by have := r.un; omega⟩
theorem Room.deeper {k : Nat} {A : Around} (r : Room (k + 1) A) (env : Env) : Room k (A.deeper env) :=
  ⟨r.hd, by have := r.dp; show A.depth + 1 + 3 * k + 5 < _; omega, by have := r.un; show A.units + 3 + 16 * k + 200 < _; omega⟩
theorem Room.in1 {k : Nat} {A : Around} (r : Room (k + 1) A) : Room k A.in1 :=
  ⟨r.hd, by have := r.dp; show A.depth + 3 * k + 5 < _; omega, by have := r.un; show A.units + 1 + 16 * k + 200 < _; omega⟩
theorem Room.depth {k : Nat} {A : Around} (r : Room k A) : A.depth < recursionLimit := by have := r.dp; omega
theorem Room.units {k : Nat} {A : Around} (r : Room k A) : A.units + 64 < cLine := by have := r.un; omega
def tNil : TA := fun _ H Q => Q [] H
def tCons (ta : TE) (tr : TA) : TA := fun σ H Q => ta σ H fun x H1 => tr σ H1 fun xs H2 => Q (x :: xs) H2
section
variable {X : Cx} {e : Expr} {es : List Expr} {te : TE} {t : TA} {pos : Pos}
theorem pa_nil : PA X [] tNil := fun _ _ _ _ H Q I h => Calls.spliced_nil ⟨[], H, I, .nil, h⟩
theorem pa_cons (ha : PE X e te) (hr : PA X es t) (hs : starEach (e :: es) X.env = (false, eval e X.env) :: starEach es X.env := by rfl) : PA X (e :: es) (tCons te t) := by
  intro pos pins s σ H Q I h
  rw [hs]
  show wpAny _ _ (spliced ((false, eval e X.env) :: backTo pos (starEach es X.env))) _ _ s
  refine Calls.spliced_cons (thn (ha pins s σ H _ I h) fun u s1 ⟨x, H1, I1, r1, q1⟩ => ?_)
  exact thn (hr pos pins s1 σ H1 _ I1 q1) fun us s2 ⟨xs, H2, I2, r2, q2⟩ => ⟨x :: xs, H2, I2, .cons r1 r2, q2⟩
def tTup (t : TA) : TE := fun σ H Q => t σ H fun xs H1 => xs.length ≤ sizeLine ∧ ∀ p, H1 p = none → Q (.ref p) (upd H1 p (.tup xs))
def tLst (t : TA) : TE := fun σ H Q => t σ H fun xs H1 => xs.length ≤ sizeLine ∧ ∀ p, H1 p = none → Q (.ref p) (upd H1 p (.lst xs))
theorem pe_tup {x1} (h : PA X es t) : PE X (.Tuple es x1 pos) (tTup t) := by
  intro pins s σ H Q I hq
  refine wpAny_Tuple_spliced (thn (h pos pins s σ H _ I hq) fun us s1 ⟨xs, H1, I1, r, z, q⟩ => ⟨by rw [← r.length]; exact z, ?_⟩)
  have hf : H1 s1.heap.objs.size = none := I1.hok.fresh (Nat.le_refl _)
  refine ⟨.ref s1.heap.objs.size, upd H1 s1.heap.objs.size (.tup xs), I1.laid (t' := s1.toks) (fun b u e => Heap.get?_push_of_some _ e) (Nat.le_refl _) ?_, rfl, q _ hf⟩
  exact ⟨z, us, r, ⟨_, Heap.get?_push_size _ rfl, rfl, _, rfl⟩⟩
theorem pe_lst (h : PA X es t) : PE X (.List es pos) (tLst t) := by
  intro pins s σ H Q I hq
  refine wpAny_List_spliced (thn (h pos pins s σ H _ I hq) fun us s1 ⟨xs, H1, I1, r, z, q⟩ => ⟨by rw [← r.length]; exact z, ?_⟩)
  have hf : H1 s1.heap.objs.size = none := I1.hok.fresh (Nat.le_refl _)
  refine ⟨.ref s1.heap.objs.size, upd H1 s1.heap.objs.size (.lst xs), I1.laid (t' := s1.toks) (fun b u e => Heap.get?_push_of_some _ e) (Nat.le_refl _) ?_, rfl, q _ hf⟩
  exact ⟨z, us, 0, r, Heap.get?_push_size _ rfl⟩
end
abbrev Sp := List V → Hp → VK → XK → Prop
abbrev CXT := List Env → Hp → Shared → XK → Value → Shared → Prop
structure Env0 (P : Program) (w : World) (K : PySem.W.Frag) (mg : Str → Option Value) (base : Heap) (A : Around) (outer : List Env) (s : Shared) (H : Hp) : Prop where
  frames : A.frames = some outer
  mod : Mod K mg base
  bs : ∀ b o, base.get? b = some o → s.heap.get? b = some o ∧ H b = none
  bsz : base.objs.size ≤ s.heap.objs.size
  funs : s.heap.FunFrames base outer
  frf : ∀ b ∈ frs outer, H b = none
  hok : HOk P w H s.heap
  bare : AllBare s.gens
def CE (outer : List Env) (P : Program) (w : World) (H : Hp) (s : Shared) (Q : VK) (u : Value) (s' : Shared) : Prop :=
  ∃ v H', s'.os = s.os ∧ AllBare s'.gens ∧ Un (frs outer) [] H H' s.heap s'.heap ∧ HOk P w H' s'.heap ∧ RelV v u ∧ Q v H'
def CR (CX : CXT) (outer : List Env) (P : Program) (w : World) (H : Hp) (s : Shared) (Q : VK) (E : XK) (r : Result) (s' : Shared) : Prop :=
  match r with
  | .ok (.ret u) => CE outer P w H s Q u s'
  | .ok _ => False
  | .error e => CX outer H s E e s'
structure FnOk (P : Program) (w : World) (K : PySem.W.Frag) (mg : Str → Option Value) (base : Heap) (CX : CXT) (k : Nat) (f : Addr) (fd : FuncData) (ps : List Str) (sp : Sp) : Prop where
  len : ∀ vs H Q E, sp vs H Q E → vs.length = ps.length
  run : ∀ (A : Around) (outer : List Env) (s : Shared) (H : Hp) (args : Args) (us : List Value) (vs : List V) (Q : VK) (E : XK), Room k A → Env0 P w K mg base A outer s H → BindsTo s fd args (ps.zip us) → Vals vs us → sp vs H Q E →
    codeAny (model P w) A (.call (.ref f) args) (CR CX outer P w H s Q E) s
theorem FnOk.mono {P : Program} {w : World} {K : PySem.W.Frag} {mg : Str → Option Value} {base : Heap} {CX : CXT} {j k : Nat} {f : Addr} {fd : FuncData} {ps : List Str} {sp : Sp} (F : FnOk P w K mg base CX j f fd ps sp) (h : j ≤ k) :
    FnOk P w K mg base CX k f fd ps sp := ⟨F.len, fun A outer s H args us vs Q E hr => F.run A outer s H args us vs Q E (hr.mono h)⟩
theorem FnOk.imp {P : Program} {w : World} {K : PySem.W.Frag} {mg : Str → Option Value} {base : Heap} {CX : CXT} {k : Nat} {f : Addr} {fd : FuncData} {ps : List Str} {sp sp' : Sp} (F : FnOk P w K mg base CX k f fd ps sp)
    (h : ∀ vs H Q E, sp' vs H Q E → sp vs H Q E) : FnOk P w K mg base CX k f fd ps sp' :=
  ⟨fun vs H Q E q => F.len vs H Q E (h _ _ _ _ q), fun A outer s H args us vs Q E hr he hb hv hs => F.run A outer s H args us vs Q E hr he hb hv (h _ _ _ _ hs)⟩
theorem Env0.in1 {P : Program} {w : World} {K : PySem.W.Frag} {mg : Str → Option Value} {base : Heap} {A : Around} {outer : List Env} {s : Shared} {H : Hp} (e : Env0 P w K mg base A outer s H) :
    Env0 P w K mg base A.in1 outer s H := ⟨e.frames, e.mod, e.bs, e.bsz, e.funs, e.frf, e.hok, e.bare⟩
section
variable {X : Cx} {pins : List (Addr × Obj)} {σ : St} {H : Hp} {s s' : Shared}
theorem Inv.env0 (I : Inv X pins σ H s) : Env0 X.prog X.w X.K X.mg X.base X.A X.stack s H :=
  ⟨I.ok.frames, I.ok.mod, I.bs, Nat.le_trans I.ok.bsz I.sz, I.stack, I.stkFree, I.hok, I.bare⟩
theorem Inv.after {Q : VK} {u : Value} (I : Inv X pins σ H s) (h : CE X.stack X.prog X.w H s Q u s') : EP X pins σ Q u s' := by
  obtain ⟨v, H', os, bare, un, hok, r, q⟩ := h
  obtain ⟨hh, g, d, t, os'⟩ := s'
  obtain rfl : os' = s.os := os
  exact ⟨v, H', I.call (h' := hh) (g' := g) (d' := d) (t' := t) (ch := []) un hok bare (fun b z => absurd z (by simp)), r, q⟩
end
def tCall (sp : Sp) (dvs : List V) (E : XK) (t : TA) : TE := fun σ H Q => t σ H fun vs H1 => sp (vs ++ dvs) H1 Q E
def Binds (K : PySem.W.Frag) (fd : FuncData) (ps : List Str) (ds : List Value) : Prop :=
  ∀ (s : Shared) (us : List Value), K.In s.heap → (us ++ ds).length = ps.length → BindsTo s fd ⟨us, []⟩ (ps.zip (us ++ ds))
theorem Binds.all {K : PySem.W.Frag} {fd : FuncData} {ps : List Str} (h : ∀ us : List Value, us.length = ps.length → bindArgs fd ⟨us, []⟩ = pure (ps.zip us)) : Binds K fd ps [] := fun s us _ hl => by
  rw [List.append_nil] at hl ⊢
  exact .of_eq (h us hl)
def Passes (CX : CXT) (X : Cx) (E : XK) : Prop := ∀ (pins : List (Addr × Obj)) (σ : St) (H : Hp) (s : Shared) (e : Value) (s' : Shared), Inv X pins σ H s → CX X.stack H s E e s' → X.xe e s'
section
variable {X : Cx} {CX : CXT} {k : Nat} {f C : Addr} {fd : FuncData} {ps : List Str} {sp : Sp} {dvs : List V} {ds : List Value} {E : XK} {x m : Str} {p pos apos : Pos} {e o : Expr} {es : List Expr} {ta : TE} {t : TA}
theorem run_fn {pins : List (Addr × Obj)} {σ : St} {H : Hp} {s : Shared} {Q : VK} {us : List Value} {vs : List V} (F : FnOk X.prog X.w X.K X.mg X.base CX k f fd ps sp) (hr : Room k X.A) (hb : Binds X.K fd ps ds) (hd : Vals dvs ds) (hx : Passes CX X E)
    (I : Inv X pins σ H s) (r : Vals vs us) (h : sp (vs ++ dvs) H Q E) : wpAny (model X.prog X.w) X.A (call (.ref f) us) (EP X pins σ Q) X.xe s := by
  have r2 : Vals (vs ++ dvs) (us ++ ds) := r.append hd
  have hl : (us ++ ds).length = ps.length := by rw [← r2.length]; exact F.len _ _ _ _ h
  refine wpAny_call (codeAny_mono (F.run X.A X.stack s H ⟨us, []⟩ (us ++ ds) (vs ++ dvs) Q E hr I.env0 (hb s us I.kIn hl) r2 h) fun r s' hq => ?_)
  cases r with
  | error e => exact hx pins σ H s e s' I hq
  | ok fl =>
    cases fl with
    | ret u => exact I.after hq
    | next => exact False.elim hq
    | brk => exact False.elim hq
    | cont => exact False.elim hq
theorem pe_call (F : FnOk X.prog X.w X.K X.mg X.base CX k f fd ps sp) (hr : Room k X.A) (hg : Gl X x) (hm : X.mg x = some (.ref f)) (hk : PySem.W.keepIn X.K (.ref f) = true) (hb : Binds X.K fd ps ds) (hd : Vals dvs ds) (hx : Passes CX X E)
    (ha : PA X (e :: es) t) (hdb : (x == ("__debug__" : Str)) = false := by decide) (he : starEach (e :: es) X.env = (false, eval e X.env) :: starEach es X.env := by rfl) (hpl : (backTo pos (starEach es X.env)).any (·.1) = false := by rfl) :
    PE X (.Call (.Name x p) (e :: es) [] pos) (tCall sp dvs E t) := by
  intro pins s σ H Q I h
  refine wpAny_Call_Name_kw (ld_glob I hg hm ?_ hdb)
  refine PySem.W.callWith_K (h₀ := X.base) I.ok.mod.kin hk (thn (ha pos pins s σ H _ I h) fun us s1 ⟨vs, H1, I1, r, q⟩ => ⟨I1.kIn, ?_⟩) he hpl
  exact run_fn F hr hb hd hx I1 r q
end
section
variable {X : Cx} {CX : CXT} {k : Nat} {f C : Addr} {fd : FuncData} {ps ks : List Str} {sp : Sp} {E : XK} {x m : Str} {p pos apos kpos : Pos} {e o : Expr} {es : List Expr} {kws : List Keyword} {te ta : TE} {t tk : TA} {nm : Option Str}
variable {g : List Value → List Value → List Value} {gV : List V → List V → List V}
end
structure FnScope (N P : List Str) (sc : Scope) : Prop where
  kind : sc.kind = .function
  co : sc.isCoroutine = false
  gen : sc.isGenerator = false
  nd : N.Nodup
  pre : N.take P.length = P
  par : ∀ x ∈ P, sc.names.lookup x = some .local ∨ sc.names.lookup x = some .cell
  nofree : ∀ y ∈ sc.names, y.2 ≠ .free
theorem bindL_out {kindOf : Str → Option NameKind} {x : Str} : ∀ {binds : List (Str × Value)} {m : Str → Option Value}, (∀ v, (x, v) ∉ binds) → bindL kindOf binds m x = m x
  | [], _, _ => rfl
  | (n, v) :: r, m, h => by
    unfold bindL
    rw [bindL_out fun w hw => h w (List.mem_cons_of_mem _ hw)]
    split
    · have : x ≠ n := by rintro rfl; exact h v List.mem_cons_self
      simp [this]
    · rfl
theorem bindC_out {kindOf : Str → Option NameKind} {x : Str} : ∀ {binds : List (Str × Value)} {m : Str → Option Value}, (∀ v, (x, v) ∉ binds) → bindC kindOf binds m x = m x
  | [], _, _ => rfl
  | (n, v) :: r, m, h => by
    unfold bindC
    rw [bindC_out fun w hw => h w (List.mem_cons_of_mem _ hw)]
    split
    · rfl
    · have : x ≠ n := by rintro rfl; exact h v List.mem_cons_self
      simp [this]
theorem bindL_get {kindOf : Str → Option NameKind} {x : Str} {v : Value} : ∀ {P : List Str} {vs : List Value} {i : Nat} {m : Str → Option Value}, P.Nodup → P[i]? = some x → vs[i]? = some v → kindOf x = some .local →
    bindL kindOf (P.zip vs) m x = some v
  | [], _, _, _, _, h, _, _ => by simp at h
  | _ :: _, [], _, _, _, _, h, _ => by simp at h
  | p :: P, w :: vs, 0, m, nd, h1, h2, hk => by
    simp at h1 h2; subst h1; subst h2
    show bindL kindOf ((p, w) :: P.zip vs) m p = _
    unfold bindL
    rw [bindL_out fun v hv => (List.nodup_cons.mp nd).1 (List.of_mem_zip hv).1, if_pos hk]
    simp
  | p :: P, w :: vs, i + 1, m, nd, h1, h2, hk => by
    show bindL kindOf ((p, w) :: P.zip vs) m x = _
    unfold bindL
    exact bindL_get (i := i) (List.nodup_cons.mp nd).2 (by simpa using h1) (by simpa using h2) hk
theorem bindC_get {kindOf : Str → Option NameKind} {x : Str} {v : Value} : ∀ {P : List Str} {vs : List Value} {i : Nat} {m : Str → Option Value}, P.Nodup → P[i]? = some x → vs[i]? = some v → kindOf x ≠ some .local →
    bindC kindOf (P.zip vs) m x = some v
  | [], _, _, _, _, h, _, _ => by simp at h
  | _ :: _, [], _, _, _, _, h, _ => by simp at h
  | p :: P, w :: vs, 0, m, nd, h1, h2, hk => by
    simp at h1 h2; subst h1; subst h2
    show bindC kindOf ((p, w) :: P.zip vs) m p = _
    unfold bindC
    rw [bindC_out fun v hv => (List.nodup_cons.mp nd).1 (List.of_mem_zip hv).1, if_neg hk]
    simp
  | p :: P, w :: vs, i + 1, m, nd, h1, h2, hk => by
    show bindC kindOf ((p, w) :: P.zip vs) m x = _
    unfold bindC
    exact bindC_get (i := i) (List.nodup_cons.mp nd).2 (by simpa using h1) (by simpa using h2) hk
def start (N : List Str) (vs : List V) : St := vs.map some ++ List.replicate (N.length - vs.length) none
def cxOf (CX : CXT) (P : Program) (w : World) (K : PySem.W.Frag) (mg : Str → Option Value) (base : Heap) (N : List Str) (qual : Str) (scope : Scope) (f : Addr) (cd : Value) (A : Around) (outer : List Env) (s : Shared) (H : Hp) (E : XK) : Cx where
  prog := P
  w := w
  K := K
  mg := mg
  base := base
  A := A.deeper (envOfC qual scope s.heap.objs.size f cd)
  N := N
  s₀ := s
  H₀ := H
  env := envOfC qual scope s.heap.objs.size f cd
  outer := outer
  stack := envOfC qual scope s.heap.objs.size f cd :: outer
  ex := []
  calm := true
  fn := fun _ => true
  pn := []
  xe := fun e s' => wpAny (model P w) (A.deeper (envOfC qual scope s.heap.objs.size f cd)) (leaving (envOfC qual scope s.heap.objs.size f cd) e) (fun _ s'' => CX outer H s E e s'') (fun e' s'' => CX outer H s E e' s'') s'
theorem cell_has {sc : Scope} {n : Nat} {x : Str} (h : sc.names.lookup x = some .cell) : ∃ c, (cellsFrom n sc.names []).lookup x = some c := by
  have q := PySem.W.cellsFrom_some sc.names n [] (.inl h)
  exact Option.isSome_iff_exists.mp q
theorem inv_start {CX : CXT} {P : Program} {w : World} {K : PySem.W.Frag} {mg : Str → Option Value} {base : Heap} {N ps : List Str} {qual : Str} {scope : Scope} {f : Addr} {cd : Value} {A : Around} {outer : List Env} {s s1 : Shared} {H : Hp} {E : XK} {us : List Value} {vs : List V}
    (S : FnScope N ps scope) (hd : A.handled = none) (e0 : Env0 P w K mg base A outer s H) (hl : vs.length = ps.length) (r : Vals vs us)
    (x : InCallC s s.heap.objs.size (bindL (envOfC qual scope s.heap.objs.size f cd).kindOf (ps.zip us) fun _ => none) (cellsFrom (s.heap.objs.size + 1) scope.names []) (bindC (envOfC qual scope s.heap.objs.size f cd).kindOf (ps.zip us) fun _ => none) s1) :
    Inv (cxOf CX P w K mg base N qual scope f cd A outer s H E) [] (start N vs) H s1 := by
  have hpl : ps.length ≤ N.length := by have := congrArg List.length S.pre; rw [List.length_take] at this; omega
  obtain ⟨h1, tk, rfl, hk⟩ := x.done
  have noA : ∀ b : Addr, b ∉ (cxOf CX P w K mg base N qual scope f cd A outer s H E).ex := fun b z => absurd (show b ∈ ([] : List Addr) from z) (by simp)
  refine ⟨⟨e0.mod, S.kind, rfl, rfl, Nat.le_refl _, fun y z c h1 h2 => ?_, fun y hy => ?_, fun y c _ h => ?_, fun _ => hd, Around.frames_deeper e0.frames, .inr ⟨rfl, rfl⟩, fun b z => absurd z (noA b), e0.bs, e0.bsz, fun b _ _ => noA b, fun b z => absurd z (noA b), e0.funs, e0.frf⟩,
    rfl, e0.bare, Un.kept hk, ⟨_, x.toInCall.ns, fun i y v h1 h2 h3 => ?_⟩, fun y c h => ⟨_, x.cell y c h⟩, e0.hok.fresh (Nat.le_refl _), fun y c h => ?_, fun p hp => absurd (show p ∈ ([] : List (Addr × Obj)) from hp) (by simp), e0.hok.kept hk, ?_⟩
  · exact name_of_addr x.apart (PySem.mem_of_lookup h1) (PySem.mem_of_lookup h2)
  · have hy : scope.names.lookup y = some .cell ∨ scope.names.lookup y = some .free := hy
    rcases hy with hy | hy
    · exact cell_has hy
    · exact absurd rfl (S.nofree _ (PySem.mem_of_lookup hy))
  · exact Nat.le_of_lt (x.above y c (PySem.mem_of_lookup h))
  · have hi : i < vs.length := by
      unfold start at h2
      by_cases hi : i < vs.length
      · exact hi
      · rw [List.getElem?_append_right (by simpa using hi)] at h2
        rw [List.getElem?_replicate] at h2
        split at h2 <;> cases h2
    have ha : vs[i]? = some v := by
      unfold start at h2
      rw [List.getElem?_append_left (by simpa using hi), List.getElem?_map] at h2
      cases e : vs[i]? with
      | none => rw [e] at h2; cases h2
      | some a => rw [e] at h2; cases h2; rfl
    obtain ⟨u, hu, rv⟩ := r.get ha
    have hp : ps[i]? = some y := by
      rw [← S.pre, List.getElem?_take_of_lt (by omega)]; exact h1
    have ndP : ps.Nodup := by rw [← S.pre]; exact S.nd.sublist (List.take_sublist _ _)
    refine ⟨u, rv, ?_⟩
    rcases S.par y (List.mem_of_getElem? hp) with k | k
    · exact .inl ⟨k, bindL_get ndP hp hu k⟩
    · obtain ⟨c, e⟩ := cell_has (n := s.heap.objs.size + 1) k
      refine .inr ⟨.inl k, c, e, ?_⟩
      have q := x.cell y c e
      rw [bindC_get ndP hp hu (by show scope.names.lookup y ≠ _; rw [k]; decide)] at q
      exact q
  · exact e0.hok.fresh (Nat.le_of_lt (x.above y c (PySem.mem_of_lookup h)))
  · unfold start
    show _ = N.length
    rw [List.length_append, List.length_map, List.length_replicate]
    omega
theorem fn_of {CX : CXT} {P : Program} {w : World} {K : PySem.W.Frag} {mg : Str → Option Value} {base : Heap} {k : Nat} {f : Addr} {name qual : Str} {params : Arguments} {body : List Stmt} {scope : Scope} {dV kV doc pm cdv ct oc : Value} {an od : Option Addr}
    {osl : Array (Option Value)} {N ps : List Str} {sp : Sp} (lk : K.lookup f = some ⟨oc, od, .func (PySem.W.fnOf name qual params body scope dV kV doc pm an cdv ct), osl⟩) (hcd : PySem.W.codeIn K cdv qual = true) (S : FnScope N ps scope)
    (len : ∀ vs H Q E, sp vs H Q E → vs.length = ps.length)
    (hbody : ∀ (A : Around) (outer : List Env) (s : Shared) (H : Hp) (vs : List V) (Q : VK) (E : XK), Room k (A.deeper (envOfC qual scope s.heap.objs.size f cdv)) → sp vs H Q E →
      ∃ t, PSs (cxOf CX P w K mg base N qual scope f cdv A outer s H E) body t ∧ t { nx := fun _ H' => Q .non H', rt := Q } (start N vs) H) :
    FnOk P w K mg base CX (k + 1) f (PySem.W.fnOf name qual params body scope dV kV doc pm an cdv ct) ps sp := by
  refine ⟨len, fun A outer s H args us vs Q E hr e0 hb r hsp => ?_⟩
  have hl := len _ _ _ _ hsp
  have KX : K.In s.heap := e0.mod.kin.keeps fun b o e => (e0.bs b o e).1
  have lim : s.heap.NoLimit := e0.mod.nolimit.keeps fun b o e => (e0.bs b o e).1
  have hkind : ∀ y ∈ ps.zip us, scope.names.lookup y.1 = some .local ∨ (scope.names.lookup y.1 = some .cell ∧ ((cellsFrom (s.heap.objs.size + 1) scope.names []).lookup y.1).isSome = true) := fun ⟨n, v⟩ hy => by
    rcases S.par n (List.of_mem_zip hy).1 with q | q
    · exact .inl q
    · exact .inr ⟨q, PySem.W.cellsFrom_some _ _ _ (.inl q)⟩
  refine codeAny_call_function hr.depth (KX _ _ lk) rfl S.co S.gen rfl (PySem.W.codeRec_of KX hcd) (hb _ _ _ _ ?_)
  refine wpAny_newFunctionEnv_cells S.kind hkind fun env he s1 x => ?_
  subst he
  refine ⟨lim.keeps x.toInCall.keep, codeAny_func ?_⟩
  obtain ⟨t, ht, hq⟩ := hbody A outer s H vs Q E (hr.deeper _) hsp
  have I : Inv (cxOf CX P w K mg base N qual scope f cdv A outer s H E) [] (start N vs) H s1 := inv_start S hr.hd e0 hl r x
  refine wpAny_mono (ht [] s1 (start N vs) H _ I hq) (fun fl s' hs => ?_) fun e s' hs => hs
  have fin : ∀ {σ' : St} {H' : Hp} {v : V} {u : Value}, Inv (cxOf CX P w K mg base N qual scope f cdv A outer s H E) [] σ' H' s' → RelV v u → Q v H' → CE outer P w H s Q u s' :=
    fun {σ' H' v u} J rv q => ⟨v, H', J.os, J.bare, J.base, J.hok, rv, q⟩
  cases fl with
  | ret u =>
    obtain ⟨v, σ', H', J, rv, q⟩ := hs
    exact fin J rv q
  | next =>
    obtain ⟨σ', H', J, q⟩ := hs
    exact fin (v := V.non) (u := Value.none) J rfl q
  | brk =>
    obtain ⟨_, _, _, q⟩ := hs
    exact False.elim q
  | cont =>
    obtain ⟨_, _, _, q⟩ := hs
    exact False.elim q
end L2
namespace L2
open PySem PySem.Spec PyProof.Rows
section
variable {X : Cx} {x : Str} {p pos : Pos} {e : Expr} {es : List Expr} {t : TA} {id T : String} {r : List V → Hp → VK → Prop}
def tCB (r : List V → Hp → VK → Prop) (t : TA) : TE := fun σ H Q => t σ H fun vs H1 => r vs H1 Q
theorem pe_callB (hc : CallR X (.builtin id) r) (hg : Gl X x) (hm : X.mg x = none) (hv : bootBuiltins x = some (.builtin id)) (ha : PA X (e :: es) t) (hn : x ≠ "__name__" := by decide) (hdb : (x == ("__debug__" : Str)) = false := by decide)
    (he : starEach (e :: es) X.env = (false, eval e X.env) :: starEach es X.env := by rfl) (hpl : (backTo pos (starEach es X.env)).any (·.1) = false := by rfl) : PE X (.Call (.Name x p) (e :: es) [] pos) (tCB r t) := by
  intro pins s σ H Q I h
  refine wpAny_Call_Name_kw (ld_blt I hg hm hv ?_ hn hdb)
  exact PyProof.Rows.callWith_builtin1 (thn (ha pos pins s σ H _ I h) fun us s1 ⟨vs, H1, I1, r1, q1⟩ => hc pins s1 σ H1 vs us Q I1 r1 q1) he hpl
theorem pe_callTy (hc : CallR X (.type T) r) (hg : Gl X x) (hm : X.mg x = none) (hv : bootBuiltins x = some (.type T)) (ha : PA X (e :: es) t) (hn : x ≠ "__name__" := by decide) (hdb : (x == ("__debug__" : Str)) = false := by decide)
    (he : starEach (e :: es) X.env = (false, eval e X.env) :: starEach es X.env := by rfl) (hpl : (backTo pos (starEach es X.env)).any (·.1) = false := by rfl) : PE X (.Call (.Name x p) (e :: es) [] pos) (tCB r t) := by
  intro pins s σ H Q I h
  refine wpAny_Call_Name_kw (ld_blt I hg hm hv ?_ hn hdb)
  exact PyProof.Rows.callWith_type1 (thn (ha pos pins s σ H _ I h) fun us s1 ⟨vs, H1, I1, r1, q1⟩ => hc pins s1 σ H1 vs us Q I1 r1 q1) he hpl
end
end L2
namespace HT
open PySem PyProof.Rows
def lexLt : List Int → List Int → Bool
  | [], [] => false
  | [], _ :: _ => true
  | _ :: _, [] => false
  | x :: xs, y :: ys => if x = y then lexLt xs ys else decide (x < y)
theorem lexLt_cons (x y : Int) (xs ys : List Int) : lexLt (x :: xs) (y :: ys) = if x = y then lexLt xs ys else decide (x < y) := rfl
theorem rcLt_int (A : Around) (s : Shared) (a : Int) (t : Tok) (c : Int) (u : Tok) (prog : Program) (w : World) (E : Value → Shared → Prop) (Q : Value → Shared → Prop) (h : Q (.bool (decide (a < c))) s) :
    wpAny (model prog w) A (richCompare .Lt (.int a t) (.int c u)) Q E s :=
  (PyProof.Rows.lt_int h : wpAny (model prog w) A (compareOp .Lt (.int a t) (.int c u)) Q E s)
section
open PySem.SeqAt
open PySem.AutoSeq1 (wpAny_loadPart')
open PySem.MeetsSeq PySem.MeetsSeq2 PySem.MeetsSeq3
end
section
variable {prog : Program} {w : World} {A : Around} {E : Value → Shared → Prop} {s : Shared}
def sIx (n d : Nat) : Option Int → Nat
  | none => d
  | some v => if v < 0 then (v + (n : Int)).toNat else min v.toNat n
theorem sIx_le (n d : Nat) (hd : d ≤ n) (o : Option Int) : sIx n d o ≤ n := by
  cases o with
  | none => exact hd
  | some v =>
    show (if v < 0 then (v + (n : Int)).toNat else min v.toNat n) ≤ n
    by_cases hv : v < 0
    · rw [if_pos hv]; omega
    · rw [if_neg hv]; exact Nat.min_le_right _ _
theorem clip_eq (v : Int) (n d : Nat) : (if v < 0 then max (v + (n : Int)) 0 else min v (n : Int)) = ((sIx n d (some v) : Nat) : Int) := by
  show (if v < 0 then max (v + (n : Int)) 0 else min v (n : Int)) = (((if v < 0 then (v + (n : Int)).toNat else min v.toNat n) : Nat) : Int)
  by_cases hv : v < 0
  · simp only [if_pos hv]; omega
  · simp only [if_neg hv]; omega
theorem adjust_gen (lo hi : Option Int) (n : Nat) : Builtin.Slice.sliceAdjust lo hi 1 (n : Int) = (((sIx n 0 lo : Nat) : Int), ((sIx n n hi : Nat) : Int)) := by
  have h1 : ¬ ((1 : Int) < 0) := by omega
  unfold Builtin.Slice.sliceAdjust
  simp only [h1, if_false]
  refine Prod.ext ?_ ?_
  · cases lo with
    | none => rfl
    | some v => exact clip_eq v n 0
  · cases hi with
    | none => rfl
    | some v => exact clip_eq v n n
theorem places_gen (i j : Nat) : Builtin.Slice.slicePlaces (i : Int) (j : Int) 1 = j - i := by
  unfold Builtin.Slice.slicePlaces
  have h1 : (1 : Int) > 0 := by omega
  simp only [h1, if_true, Int.ediv_one]
  split <;> omega
theorem slicePart_ {v : Value} {o : Option Int} {Q : Option Int → Shared → Prop} (p : IsPart v o) (h : Q o s) : wpAny (model prog w) A (Builtin.Slice.slicePartIndex v) Q E s := by
  cases p with
  | none => exact slicePart_none h
  | int i t => exact slicePart_int h
theorem sliceApplied_gen {sl : Addr} {vl vu : Value} {lo hi : Option Int} {n : Nat} {Q : Int × Int × Nat → Shared → Prop} (hs : s.heap.IsSliceOf sl vl vu .none) (pl : IsPart vl lo) (pu : IsPart vu hi)
    (h : Q (((sIx n 0 lo : Nat) : Int), 1, sIx n n hi - sIx n 0 lo) s) : wpAny (model prog w) A (Builtin.Slice.sliceApplied (.ref sl) (pure (n : Int))) Q E s := by
  obtain ⟨os, hos, hcs, hds⟩ := id hs
  unfold Builtin.Slice.sliceApplied Builtin.Slice.sliceFields
  refine wpAny_bind (wpAny_bind (wpAny_field hos hds (x := vl) rfl (wpAny_bind (wpAny_field hos hds (x := vu) rfl (wpAny_bind (wpAny_field hos hds (x := .none) rfl (wpAny_pure ?_)))))))
  refine wpAny_bind (slicePart_none ?_)
  show wpAny _ _ (if ((1 : Int) == 0) = true then _ else _) _ _ s
  rw [if_neg (by decide)]
  refine wpAny_bind (slicePart_ pl (wpAny_bind (slicePart_ pu (wpAny_bind (wpAny_pure ?_)))))
  show wpAny _ _ (match Builtin.Slice.sliceAdjust lo hi 1 (n : Int) with | (lo, hi) => pure (lo, (1 : Int), Builtin.Slice.slicePlaces lo hi 1)) _ _ s
  rw [adjust_gen lo hi n]
  show wpAny _ _ (pure (((sIx n 0 lo : Nat) : Int), (1 : Int), Builtin.Slice.slicePlaces ((sIx n 0 lo : Nat) : Int) ((sIx n n hi : Nat) : Int) 1)) _ _ s
  rw [places_gen]
  exact wpAny_pure h
theorem pick_gen (xs : Array Value) (i k : Nat) : ((List.range k).filterMap fun (m : Nat) => xs[((i : Int) + (m : Int) * 1).toNat]?).toArray = ((xs.toList.drop i).take k).toArray := by
  have e : (fun (m : Nat) => xs[((i : Int) + (m : Int) * 1).toNat]?) = fun m => xs[i + m]? := by
    funext m
    have : ((i : Int) + (m : Int) * 1).toNat = i + m := by omega
    rw [this]
  rw [e]
  have := pick_run xs i k
  rw [List.filterMap_map] at this
  have e2 : ((fun x => xs[x]?) ∘ fun x => i + x) = fun m => xs[i + m]? := rfl
  rw [e2] at this
  rw [this]
theorem getItem_tuple_cut {t sl : Addr} {items : Array Value} {vl vu : Value} {lo hi : Option Int} {Q : Value → Shared → Prop} (ht : IsTup s.heap t items) (hs : s.heap.IsSliceOf sl vl vu .none) (pl : IsPart vl lo) (pu : IsPart vu hi)
    (hw : ¬ (sIx items.size 0 lo = 0 ∧ sIx items.size items.size hi = items.size))
    (h : Q (.ref s.heap.objs.size) { s with heap := s.heap.push { cls := .type "tuple", data := .seq ((items.toList.drop (sIx items.size 0 lo)).take (sIx items.size items.size hi - sIx items.size 0 lo)).toArray } })
    (hsz : items.size ≤ sizeLine) : wpAny (model prog w) A (getItem (.ref t) (.ref sl)) Q E s := by
  have htake : sizeOk (.seq ((items.toList.drop (sIx items.size 0 lo)).take (sIx items.size items.size hi - sIx items.size 0 lo)).toArray) := by
    show ((items.toList.drop (sIx items.size 0 lo)).take (sIx items.size items.size hi - sIx items.size 0 lo)).toArray.size ≤ sizeLine
    rw [List.size_toArray, List.length_take, List.length_drop, Array.length_toList]
    omega
  have hj : sIx items.size items.size hi ≤ items.size := sIx_le _ _ (Nat.le_refl _) hi
  obtain ⟨os, hos, hcs, hds⟩ := id hs
  have hTs : s.TypeIs (.ref sl) "slice" := ⟨os, hos, hcs⟩
  unfold getItem
  try with_reducible refine wpAny_holding ?_
  first | refine wpAny_bind (wpAny_pure ?_) | skip
  refine wpAny_bind (wpAny_sequenceKey ht.typeIs (by decide) ?_)
  refine wpAny_bind (wpAny_callSpecial?_slot (name := Str.ofString "__getitem__") ht.typeIs PyProof.Rows.slot_tuple_getitem
    (wpAny_call_entry PyProof.Rows.slot_tuple_getitem ht.typeIs entry_tuple_getitem ?_ (args_tuple_getitem _ _)))
  show wpAny _ _ (Builtin.Tuple.tupleItemsOf (.ref t) >>= _) _ _ s
  refine wpAny_bind (tupleItemsOf_ ht ?_)
  refine wpAny_bind (wpAny_typeOf hTs ?_)
  rw [if_pos (by decide)]
  refine wpAny_bind (sliceApplied_gen hs pl pu ?_)
  have hno : ¬ ((((sIx items.size 0 lo : Nat) : Int) == 0 && (1 : Int) == 1 && (sIx items.size items.size hi - sIx items.size 0 lo) == items.size) = true) := by
    intro q
    rw [Bool.and_eq_true, Bool.and_eq_true] at q
    have q1 : ((sIx items.size 0 lo : Nat) : Int) = 0 := eq_of_beq q.1.1
    have q2 : sIx items.size items.size hi - sIx items.size 0 lo = items.size := eq_of_beq q.2
    exact hw ⟨by omega, by omega⟩
  show wpAny _ _ (if (((sIx items.size 0 lo : Nat) : Int) == 0 && (1 : Int) == 1 && (sIx items.size items.size hi - sIx items.size 0 lo) == items.size) = true then _ else _) _ _ s
  rw [if_neg hno, pick_gen]
  first
    | exact wpAny_bind (m := Builtin.Tuple.tupleExact _) (wpAny_newObj_type (wpAny_pure ⟨_, rfl, wpAny_pure h⟩) htake)
    | exact wpAny_bind (m := Builtin.Tuple.tupleExact _) (wpAny_newObj_type (wpAny_bind (wpAny_pure (wpAny_pure ⟨_, rfl, wpAny_pure h⟩))) htake)
    | exact wpAny_bind (wpAny_bind (m := Builtin.Tuple.tupleExact _) (wpAny_newObj_type (wpAny_pure (wpAny_pure ⟨_, rfl, wpAny_pure h⟩)) htake))
    | exact wpAny_bind (wpAny_bind (m := Builtin.Tuple.tupleExact _) (wpAny_newObj_type (wpAny_pure ⟨_, rfl, wpAny_pure h⟩) htake))
end
end HT
namespace L2
open PySem PySem.Spec PyProof.Rows
abbrev TO := St → Hp → (Option Int → Hp → Prop) → Prop
def PO (X : Cx) (e : Option Expr) (t : TO) : Prop :=
  ∀ (pins : List (Addr × Obj)) (s : Shared) (σ : St) (H : Hp) (Q : Option Int → Hp → Prop), Inv X pins σ H s → t σ H Q →
    wpAny (model X.prog X.w) X.A (evalPart e X.env) (fun u s' => ∃ o H', Inv X pins σ H' s' ∧ IsPart u o ∧ Q o H') X.xe s
def tNoPart : TO := fun _ H Q => Q none H
def tPart (t : TE) : TO := fun σ H Q => t σ H fun x H1 => ∃ i, x = .int i ∧ Q (some i) H1
theorem intsAre_of {ns : List Int} : ∀ {us : List Value}, Vals (ns.map V.int) us → IntsAre us ns := by
  induction ns with
  | nil => intro us r; rw [List.map_nil] at r; cases r; exact .nil
  | cons n ns ih =>
    intro us r
    rw [List.map_cons] at r
    cases r with
    | cons r1 r2 =>
      obtain ⟨t, e⟩ := r1
      subst e
      exact .cons n t (ih r2)
section
variable {X : Cx} {e : Expr} {te : TE} {lo hi : Option Expr} {tl th : TO} {pos p2 : Pos}
theorem po_none : PO X none tNoPart := by
  intro pins s σ H Q I h
  rw [evalPart_none]
  exact wpAny_pure ⟨none, H, I, .none, h⟩
theorem po_some (h : PE X e te) : PO X (some e) (tPart te) := by
  intro pins s σ H Q I hw
  rw [evalPart_some]
  refine thn (h pins s σ H _ I hw) fun u s1 ⟨x, H1, I1, r1, q1⟩ => ?_
  obtain ⟨i, rfl, q⟩ := q1
  obtain ⟨t, rfl⟩ := r1
  exact ⟨some i, H1, I1, .int i t, q⟩
def SlR (X : Cx) (r : V → Option Int → Option Int → Hp → VK → Prop) : Prop :=
  ∀ (pins : List (Addr × Obj)) (s : Shared) (σ : St) (H : Hp) (x : V) (v vl vu : Value) (lo hi : Option Int) (sl : Addr) (Q : VK), Inv X pins σ H s → RelV x v → s.heap.IsSliceOf sl vl vu .none → IsPart vl lo → IsPart vu hi → r x lo hi H Q →
    ∃ T id, typeLookup (.type T) "__getitem__" = pure (some (.builtin id)) ∧ s.TypeIs v T ∧ wpAny (model X.prog X.w) X.A (getItem v (.ref sl)) (EP X pins σ Q) X.xe s
theorem SlR.or {r r' : V → Option Int → Option Int → Hp → VK → Prop} (h : SlR X r) (h' : SlR X r') : SlR X (fun x lo hi H Q => r x lo hi H Q ∨ r' x lo hi H Q) := by
  intro pins s σ H x v vl vu lo hi sl Q I rx hs pl pu q
  rcases q with q | q
  · exact h pins s σ H x v vl vu lo hi sl Q I rx hs pl pu q
  · exact h' pins s σ H x v vl vu lo hi sl Q I rx hs pl pu q
def tSl (r : V → Option Int → Option Int → Hp → VK → Prop) (te : TE) (tl th : TO) : TE := fun σ H Q => te σ H fun x H1 => tl σ H1 fun l H2 => th σ H2 fun u H3 => r x l u H3 Q
theorem pe_slice {r : V → Option Int → Option Int → Hp → VK → Prop} (hr : SlR X r) (he : PE X e te) (hl : PO X lo tl) (hu : PO X hi th) : PE X (.Subscript e (.Slice lo hi none p2) pos) (tSl r te tl th) := by
  intro pins s σ H Q I h
  refine Subscript_ (thn (he pins s σ H _ I h) fun v s1 ⟨x, H1, I1, r1, q1⟩ => ?_)
  refine wpAny_Slice (thn (hl pins s1 σ H1 _ I1 q1) fun vl s2 ⟨l, H2, I2, pl, q2⟩ => thn (hu pins s2 σ H2 _ I2 q2) fun vu s3 ⟨u, H3, I3, pu, q3⟩ => ?_)
  rw [evalPart_none]
  refine wpAny_pure ?_
  have I4 : Inv X pins σ H3 { s3 with heap := s3.heap.push { cls := .type "slice", data := .fields #[vl, vu, .none] } } := I3.kept (t' := s3.toks) fun b ob q => Heap.get?_push_of_some _ q
  obtain ⟨T, id, hT, ht, hg⟩ := hr pins { s3 with heap := s3.heap.push { cls := .type "slice", data := .fields #[vl, vu, .none] } } σ H3 x v vl vu l u s3.heap.objs.size Q I4 r1 (Heap.IsSliceOf.new ..) pl pu q3
  show wpAny (model X.prog X.w) X.A (subscriptTail e (.Slice lo hi none p2) v (.ref s3.heap.objs.size)) (EP X pins σ Q) X.xe { s3 with heap := s3.heap.push { cls := .type "slice", data := .fields #[vl, vu, .none] } }
  exact tail_any (ops := [.ref s3.heap.objs.size, v]) ht hT hg (by with_unfolding_all rfl)
def cutV (xs : List V) (lo hi : Option Int) : List V := (xs.drop (HT.sIx xs.length 0 lo)).take (HT.sIx xs.length xs.length hi - HT.sIx xs.length 0 lo)
theorem cutV_length (xs : List V) (lo hi : Option Int) : (cutV xs lo hi).length ≤ xs.length := by
  unfold cutV
  rw [List.length_take, List.length_drop]
  omega
def rSlT (K : PySem.W.Frag) : V → Option Int → Option Int → Hp → VK → Prop := fun x lo hi H Q => ∃ a xs, x = .ref a ∧ SqT K H a xs ∧
  ¬ (HT.sIx xs.length 0 lo = 0 ∧ HT.sIx xs.length xs.length hi = xs.length) ∧ ∀ p, H p = none → Q (.ref p) (upd H p (.tup (cutV xs lo hi)))
theorem sl_tup : SlR X (rSlT X.K) := by
  intro pins s σ H x v vl vu lo hi sl Q I rx hs pl pu h
  obtain ⟨a, xs, rfl, hx, hw, q⟩ := h
  cases rx
  obtain ⟨its, r, ht, hz⟩ := I.tuple hx
  have hlen : its.toArray.size = xs.length := by rw [List.size_toArray]; exact r.length.symm
  refine ⟨"tuple", _, PyProof.Rows.slot_tuple_getitem.lookup, ht.typeIs, ?_⟩
  refine HT.getItem_tuple_cut ht hs pl pu (by rw [hlen]; exact hw) ?_ (by rw [hlen]; exact hz)
  rw [hlen]
  refine ⟨.ref s.heap.objs.size, _, I.laid (t' := s.toks) (o := .tup (cutV xs lo hi)) (fun b ob q => Heap.get?_push_of_some _ q) (Nat.le_refl _) ?_, rfl, q _ (I.hok.fresh (Nat.le_refl _))⟩
  exact ⟨Nat.le_trans (cutV_length xs lo hi) hz, _, (r.drop (HT.sIx xs.length 0 lo)).take (HT.sIx xs.length xs.length hi - HT.sIx xs.length 0 lo), IsTup.new _ _⟩
end
end L2
namespace L2
open PySem PySem.Spec PyProof.Rows
def ixN (n : Nat) (i : Int) : Option Nat := if 0 ≤ i then (if i < n then some i.toNat else none) else if -(n : Int) ≤ i then some (i + n).toNat else none
def atI {α : Type} (xs : List α) (i : Int) : Option α := (ixN xs.length i).bind fun j => xs[j]?
theorem ixN_seq {n : Nat} {i : Int} {j : Nat} (h : ixN n i = some j) : seqIndex? i n = some j ∧ j < n ∧ -(n : Int) ≤ i ∧ i < n := by
  unfold ixN at h
  by_cases h0 : 0 ≤ i
  · rw [if_pos h0] at h
    by_cases h1 : i < n
    · rw [if_pos h1] at h
      have e : i.toNat = j := Option.some.inj h
      exact ⟨by rw [seqIndex_of h0 h1, e], by omega, by omega, h1⟩
    · rw [if_neg h1] at h; cases h
  · rw [if_neg h0] at h
    by_cases h1 : -(n : Int) ≤ i
    · rw [if_pos h1] at h
      have e : (i + n).toNat = j := Option.some.inj h
      exact ⟨by rw [seqIndex_neg (by omega) h1, e], by omega, h1, by omega⟩
    · rw [if_neg h1] at h; cases h
theorem atI_get {α : Type} {xs : List α} {i : Int} {v : α} (h : atI xs i = some v) : ∃ j, seqIndex? i xs.length = some j ∧ xs[j]? = some v ∧ j < xs.length ∧ -(xs.length : Int) ≤ i ∧ i < xs.length := by
  unfold atI at h
  cases e : ixN xs.length i with
  | none => rw [e] at h; cases h
  | some j =>
    rw [e] at h
    obtain ⟨h1, h2, h3, h4⟩ := ixN_seq e
    exact ⟨j, h1, h, h2, h3, h4⟩
theorem atI_nat {α : Type} {xs : List α} {j : Nat} {v : α} (h : xs[j]? = some v) : atI xs (j : Int) = some v := by
  have hj : j < xs.length := (List.getElem?_eq_some_iff.mp h).1
  have e : ixN xs.length (j : Int) = some j := by
    unfold ixN
    rw [if_pos (by omega), if_pos (by omega)]; simp
  unfold atI; rw [e]; exact h
theorem atI_last {α : Type} (xs : List α) (v : α) : atI (xs ++ [v]) (-1) = some v := by
  have hl : (xs ++ [v]).length = xs.length + 1 := by simp
  have e : ixN (xs ++ [v]).length (-1) = some xs.length := by
    unfold ixN
    rw [hl, if_neg (by decide), if_pos (by omega)]
    congr 1
    omega
  unfold atI
  rw [e]
  show (xs ++ [v])[xs.length]? = some v
  simp
def PlainIx (b : Expr) : Prop := ∀ o i, subscripted b false o i = operate [o, i] (getItem o i)
def IxR (X : Cx) (r : R2) : Prop :=
  ∀ (value slice : Expr) (pins : List (Addr × Obj)) (s : Shared) (σ : St) (H : Hp) (x y : V) (v u : Value) (Q : VK), Inv X pins σ H s → RelV x v → RelV y u → r x y H Q →
    subscripted slice false v u = operate [v, u] (getItem v u) → wpAny (model X.prog X.w) X.A (subscriptTail value slice v u) (EP X pins σ Q) X.xe s
def MtR (X : Cx) (id : String) (r : V → List V → Hp → VK → Prop) : Prop :=
  ∀ (pins : List (Addr × Obj)) (s : Shared) (σ : St) (H : Hp) (x : V) (xs : List V) (v : Value) (us : List Value) (Q : VK), Inv X pins σ H s → RelV x v → Vals xs us → r x xs H Q →
    wpAny (model X.prog X.w) X.A (call (.builtin id) (v :: us)) (EP X pins σ Q) X.xe s
section
variable {X : Cx} {a b : Expr} {ta tb : TE} {pos : Pos}
theorem IxR.or {r r' : R2} (h : IxR X r) (h' : IxR X r') : IxR X (fun x y H Q => r x y H Q ∨ r' x y H Q) := by
  intro value slice pins s σ H x y v u Q I rx ry q hs
  rcases q with q | q
  · exact h value slice pins s σ H x y v u Q I rx ry q hs
  · exact h' value slice pins s σ H x y v u Q I rx ry q hs
theorem MtR.or {id : String} {r r' : V → List V → Hp → VK → Prop} (h : MtR X id r) (h' : MtR X id r') : MtR X id (fun x xs H Q => r x xs H Q ∨ r' x xs H Q) := by
  intro pins s σ H x xs v us Q I rx rs q
  rcases q with q | q
  · exact h pins s σ H x xs v us Q I rx rs q
  · exact h' pins s σ H x xs v us Q I rx rs q
theorem pe_ix {r : R2} (hr : IxR X r) (ha : PE X a ta) (hb : PE X b tb) (hs : PlainIx b) : PE X (.Subscript a b pos) (tOp r ta tb) := by
  intro pins s σ H Q I h
  exact Subscript_ (binT ha hb I h fun v u s2 x y H2 I2 rx ry q => hr a b pins s2 σ H2 x y v u Q I2 rx ry q (hs _ _))
def rIxL (K : PySem.W.Frag) : R2 := fun x y H Q => ∃ p xs i v, x = .ref p ∧ y = .int i ∧ SqL K H p xs ∧ atI xs i = some v ∧ Q v H
def rIxT (K : PySem.W.Frag) : R2 := fun x y H Q => ∃ p xs i v, x = .ref p ∧ y = .int i ∧ SqT K H p xs ∧ atI xs i = some v ∧ Q v H
def rIxS : R2 := fun x y H Q => ∃ z i c, x = .str z ∧ y = .int i ∧ z.length ≤ sizeLine ∧ atI z.cps.toList i = some c ∧ Q (.str ⟨#[c]⟩) H
theorem ix_list : IxR X (rIxL X.K) := by
  intro value slice pins s σ H x y v u Q I rx ry h hs
  obtain ⟨p, xs, i, z, rfl, rfl, hq, he, q⟩ := h
  cases rx
  obtain ⟨t, rfl⟩ := ry
  obtain ⟨its, r, pl, hz⟩ := I.list hq
  obtain ⟨j, h1, h2, h3, h4, h5⟩ := atI_get he
  obtain ⟨w, ew, rw'⟩ := r.get h2
  have hl := r.length
  have hn := line63
  have fin : EP X pins σ Q w s := ⟨z, H, I, rw', q⟩
  by_cases h0 : 0 ≤ i
  · have hj : i.toNat = j := by
      rw [seqIndex_of h0 h5] at h1
      exact Option.some.inj h1
    exact item_listR pl.isList h0 (by omega) (by rw [hj]; simpa using ew) fin hs
  · have hj : (i + (its.toArray.size : Int)).toNat = j := by
      rw [seqIndex_neg (by omega) h4] at h1
      rw [List.size_toArray, ← hl]
      exact Option.some.inj h1
    exact subscriptTail_builtinR (x := w) pl.isList.typeIs slot_list_getitem.lookup
      (wpAny_getItem_list_neg (Q := fun r s' => r = w ∧ EP X pins σ Q r s') pl.isList (by omega) (by rw [List.size_toArray] <;> omega) (by omega) (by rw [hj]; simpa using ew) ⟨rfl, fin⟩) hs
theorem ix_tup : IxR X (rIxT X.K) := by
  intro value slice pins s σ H x y v u Q I rx ry h hs
  obtain ⟨p, xs, i, z, rfl, rfl, hq, he, q⟩ := h
  cases rx
  obtain ⟨t, rfl⟩ := ry
  obtain ⟨its, r, pl, hz⟩ := I.tuple hq
  obtain ⟨j, h1, h2, h3, h4, h5⟩ := atI_get he
  obtain ⟨w, ew, rw'⟩ := r.get h2
  have hl := r.length
  have hn := line63
  have fin : EP X pins σ Q w s := ⟨z, H, I, rw', q⟩
  exact subscriptTail_builtinR (x := w) pl.typeIs slot_tuple_getitem.lookup
    (getItem_tuple (j := j) (Q := fun r s' => r = w ∧ EP X pins σ Q r s') pl (by omega) (by omega) (by rw [List.size_toArray, ← hl]; exact h1) (by simpa using ew) ⟨rfl, fin⟩) hs
theorem ix_str : IxR X rIxS := by
  intro value slice pins s σ H x y v u Q I rx ry h hs
  obtain ⟨z, i, c, rfl, rfl, hz, he, q⟩ := h
  obtain ⟨t, rfl⟩ := rx
  obtain ⟨t', rfl⟩ := ry
  obtain ⟨j, h1, h2, h3, h4, h5⟩ := atI_get he
  have hl : z.cps.toList.length = z.length := by simp [Str.length]
  rw [hl] at h1 h4 h5
  have hn := line63
  exact tail_any (typeIs_str s z t) slot_str_getitem.lookup (getItem_str (c := c) (by
    have e1 : decide (i < -(2 ^ 63 : Int)) = false := decide_eq_false (by omega)
    have e2 : decide (i ≥ 2 ^ 63) = false := decide_eq_false (by omega)
    rw [e1, e2, Bool.or_false]) (by rw [h1]; simpa using h2) ⟨.str ⟨#[c]⟩, H, I.tok _, ⟨_, rfl⟩, q⟩) hs
def rIx (K : PySem.W.Frag) : R2 := fun x y H Q => rIxL K x y H Q ∨ rIxT K x y H Q ∨ rIxS x y H Q
theorem ix_seq : IxR X (rIx X.K) := ix_list.or (ix_tup.or ix_str)
theorem mapSeq_set (its : List Value) (n j : Nat) (u : Value) : Obj.mapSeq (·.setIfInBounds j u) { cls := .type "list", data := .seq its.toArray n } = { cls := .type "list", data := .seq (its.set j u).toArray n } := by
  simp [Obj.mapSeq]
theorem Inv.lst {pins : List (Addr × Obj)} {σ : St} {H : Hp} {s : Shared} {p : Addr} {xs : List V} (I : Inv X pins σ H s) (h : H p = some (.lst xs)) :
    ∃ (its : List Value) (n : Nat), Vals xs its ∧ s.heap.get? p = some { cls := .type "list", data := .seq its.toArray n } ∧ xs.length ≤ sizeLine := by
  obtain ⟨z, its, n, r, e⟩ := I.hok p _ h
  exact ⟨its, n, r, e, z⟩
theorem Inv.lstUpd {pins : List (Addr × Obj)} {σ : St} {H : Hp} {s : Shared} {p : Addr} {xs ys : List V} {its its' : List Value} {n n' : Nat} {f : Obj → Obj} (I : Inv X pins σ H s) (h : H p = some (.lst xs))
    (ho : s.heap.get? p = some { cls := .type "list", data := .seq its.toArray n }) (hf : f { cls := .type "list", data := .seq its.toArray n } = { cls := .type "list", data := .seq its'.toArray n' }) (r : Vals ys its') (hz : ys.length ≤ sizeLine) (t : Nat) :
    Inv X pins σ (upd H p (.lst ys)) { s with heap := s.heap.update p f, toks := t } := by
  have e : (s.heap.update p f).get? p = some { cls := .type "list", data := .seq its'.toArray n' } := by
    rw [Heap.get?_update_self f ho (by rw [hf] <;> rfl), hf]
  refine I.write (x := p) (e := p) (by rw [h]; trivial) (.inl rfl) (fun b u hb q => (Heap.get?_update_other _ _ (Ne.symm hb)).trans q) ⟨_, e⟩ ?_
  exact ⟨hz, its', n', r, e⟩
def rSetL : V → V → V → Hp → (Hp → Prop) → Prop := fun o i v H Q => ∃ p xs k j, o = .ref p ∧ i = .int k ∧ H p = some (.lst xs) ∧ ixN xs.length k = some j ∧ Q (upd H p (.lst (xs.set j v)))
theorem set_list : PSet X rSetL := by
  intro pins s σ H o i v ov iv u Q I ro ri rv h
  obtain ⟨p, xs, k, j, rfl, rfl, hp, hj, q⟩ := h
  cases ro
  obtain ⟨t, rfl⟩ := ri
  obtain ⟨its, n, r, ho, hz⟩ := I.lst hp
  obtain ⟨h1, h2, h3, h4⟩ := ixN_seq hj
  have hl := r.length
  have hn := line63
  have I' : Inv X pins σ (upd H p (.lst (xs.set j v))) { s with heap := s.heap.update p (Obj.mapSeq (·.setIfInBounds j u)) } :=
    I.lstUpd hp ho (mapSeq_set its n j u) (r.set rv j) (by rw [List.length_set]; exact hz) s.toks
  by_cases h0 : 0 ≤ k
  · have hk : k.toNat = j := by
      rw [seqIndex_of h0 h4] at h1
      exact Option.some.inj h1
    exact PySem.W.ki_setAt ho h0 (by omega) (by rw [List.size_toArray, ← hl]; exact h4) (by rw [hk]; exact ⟨_, I', q⟩)
  · have hk : (k + (its.toArray.size : Int)).toNat = j := by
      rw [seqIndex_neg (by omega) h3] at h1
      rw [List.size_toArray, ← hl]
      exact Option.some.inj h1
    exact PySem.W.ki_setBack ho (by omega) (by rw [List.size_toArray, ← hl]; exact h3) (by omega) (by rw [hk]; exact ⟨_, I', q⟩)
theorem slice_bounds (lo hi : Option Int) (n : Nat) : (sliceBounds lo hi none n).1 = ((HT.sIx n 0 lo : Nat) : Int) ∧ (sliceBounds lo hi none n).2.1 = ((HT.sIx n n hi : Nat) : Int) ∧ (sliceBounds lo hi none n).2.2 = 1 := by
  refine ⟨?_, ?_, rfl⟩
  · cases lo with
    | none => simp [sliceBounds, HT.sIx]
    | some i =>
      simp only [sliceBounds, HT.sIx, Option.getD_none, show (1 : Int) > 0 by decide, if_true]
      by_cases h : i < 0
      · simp only [h, if_true] <;> omega
      · simp only [h, if_false] <;> omega
  · cases hi with
    | none => simp [sliceBounds, HT.sIx]
    | some i =>
      simp only [sliceBounds, HT.sIx, Option.getD_none, show (1 : Int) > 0 by decide, if_true]
      by_cases h : i < 0
      · simp only [h, if_true] <;> omega
      · simp only [h, if_false] <;> omega
theorem slicePick_cut (its : List Value) (lo hi : Option Int) : slicePick its.toArray lo hi none = ((its.drop (HT.sIx its.length 0 lo)).take (HT.sIx its.length its.length hi - HT.sIx its.length 0 lo)).toArray := by
  obtain ⟨h1, h2, h3⟩ := slice_bounds lo hi its.toArray.size
  unfold slicePick
  rw [h1, h2, h3]
  simp only [sliceRange_one, pick_run, List.size_toArray] <;> rfl
def rSlL (K : PySem.W.Frag) : V → Option Int → Option Int → Hp → VK → Prop := fun x lo hi H Q => ∃ a xs, x = .ref a ∧ SqL K H a xs ∧ ∀ p, H p = none → Q (.ref p) (upd H p (.lst (cutV xs lo hi)))
theorem sl_list : SlR X (rSlL X.K) := by
  intro pins s σ H x v vl vu lo hi sl Q I rx hs pl pu h
  obtain ⟨a, xs, rfl, hx, q⟩ := h
  cases rx
  obtain ⟨its, r, ht, hz⟩ := I.list hx
  have hlen := r.length
  refine ⟨"list", _, slot_list_getitem.lookup, ht.isList.typeIs, ?_⟩
  refine wpAny_getItem_list_slice ht.isList hs pl pu .none (by simp) ?_ (by rw [List.size_toArray] <;> omega)
  rw [slicePick_cut, ← hlen]
  refine ⟨.ref s.heap.objs.size, _, I.laid (t' := s.toks) (o := .lst (cutV xs lo hi)) (fun b ob q => Heap.get?_push_of_some _ q) (Nat.le_refl _) ?_, rfl, q _ (I.hok.fresh (Nat.le_refl _))⟩
  exact ⟨Nat.le_trans (cutV_length xs lo hi) hz, _, 0, (r.drop (HT.sIx xs.length 0 lo)).take (HT.sIx xs.length xs.length hi - HT.sIx xs.length 0 lo), Heap.get?_push_size _ rfl⟩
def flatV : V → Bool
  | .non => true
  | .bl _ => true
  | .int _ => true
  | .str _ => true
  | _ => false
def eqV : V → V → Bool
  | .non, .non => true
  | .bl a, .bl b => a == b
  | .bl a, .int b => (if a then 1 else 0) == b
  | .int a, .bl b => a == (if b then 1 else 0)
  | .int a, .int b => a == b
  | .str a, .str b => a == b
  | _, _ => false
theorem eqAt_V {A : Around} {s : Shared} {y x : V} {u v : Value} (ry : RelV y u) (rx : RelV x v) (fy : flatV y = true) (fx : flatV x = true) : SeqAt.EqAt A s u v (eqV y x) := by
  cases y with
  | non =>
    cases ry
    cases x with
    | non => cases rx; exact SeqAt.EqAt.same _
    | bl b => cases rx; exact SeqAt.EqAt.none_bool b
    | int b => obtain ⟨t, rfl⟩ := rx; exact SeqAt.EqAt.none_int b t
    | str b => obtain ⟨t, rfl⟩ := rx; exact SeqAt.EqAt.none_str b t
    | _ => exact absurd (show false = true from fx) Bool.false_ne_true
  | bl a =>
    cases ry
    cases x with
    | non => cases rx; exact SeqAt.EqAt.bool_none a
    | bl b => cases rx; exact SeqAt.EqAt.bool_bool a b
    | int b => obtain ⟨t, rfl⟩ := rx; exact SeqAt.EqAt.bool_int a b t
    | str b => obtain ⟨t, rfl⟩ := rx; exact SeqAt.EqAt.bool_str a b t
    | _ => exact absurd (show false = true from fx) Bool.false_ne_true
  | int a =>
    obtain ⟨t', rfl⟩ := ry
    cases x with
    | non => cases rx; exact SeqAt.EqAt.int_none a t'
    | bl b => cases rx; exact SeqAt.EqAt.int_bool a t' b
    | int b => obtain ⟨t, rfl⟩ := rx; exact SeqAt.EqAt.int_int a t' b t
    | str b => obtain ⟨t, rfl⟩ := rx; exact SeqAt.EqAt.int_str a t' b t
    | _ => exact absurd (show false = true from fx) Bool.false_ne_true
  | str a =>
    obtain ⟨t', rfl⟩ := ry
    cases x with
    | non => cases rx; exact SeqAt.EqAt.str_none a t'
    | bl b => cases rx; exact SeqAt.EqAt.str_bool a t' b
    | int b => obtain ⟨t, rfl⟩ := rx; exact SeqAt.EqAt.str_int a t' b t
    | str b => obtain ⟨t, rfl⟩ := rx; exact SeqAt.EqAt.str_str a t' b t
    | _ => exact absurd (show false = true from fx) Bool.false_ne_true
  | _ => exact absurd (show false = true from fy) Bool.false_ne_true
theorem call_len_seq : CallR X (.builtin "len") (fun xs H Q => ∃ p ys, xs = [.ref p] ∧ (SqL X.K H p ys ∨ SqT X.K H p ys) ∧ Q (.int ys.length) H) := by
  intro pins s σ H xs us Q I r h
  obtain ⟨p, ys, rfl, hq, q⟩ := h
  obtain ⟨u, rfl, rx⟩ := vals1 r
  cases rx
  have hn := line63
  rcases hq with hq | hq
  · obtain ⟨its, r', pl, hz⟩ := I.list hq
    have hlen := r'.length
    exact Calls.call_len_list pl.isList (by simp only [List.size_toArray] <;> omega) ⟨.int ys.length, H, I.tok _, ⟨s.toks + 1, by rw [List.size_toArray, hlen]⟩, q⟩
  · obtain ⟨its, r', pl, hz⟩ := I.tuple hq
    have hlen := r'.length
    exact len_tuple pl (by simp only [List.size_toArray] <;> omega) ⟨.int ys.length, H, I.tok _, ⟨s.toks + 1, by rw [List.size_toArray, hlen]⟩, q⟩
theorem call_len_str : CallR X (.builtin "len") (fun xs H Q => ∃ z, xs = [.str z] ∧ z.length ≤ sizeLine ∧ Q (.int z.length) H) := by
  intro pins s σ H xs us Q I r h
  obtain ⟨z, rfl, hz, q⟩ := h
  obtain ⟨u, rfl, t, rfl⟩ := vals1 r
  have hn := line63
  exact len_str (by omega) ⟨.int z.length, H, I.tok _, ⟨_, rfl⟩, q⟩
theorem CallR.or {f : Value} {r r' : List V → Hp → VK → Prop} (h : CallR X f r) (h' : CallR X f r') : CallR X f (fun xs H Q => r xs H Q ∨ r' xs H Q) := by
  intro pins s σ H xs us Q I rs q
  rcases q with q | q
  · exact h pins s σ H xs us Q I rs q
  · exact h' pins s σ H xs us Q I rs q
theorem call_list_of : CallR X (.type "list") (fun xs H Q => ∃ p ys, xs = [.ref p] ∧ (SqL X.K H p ys ∨ SqT X.K H p ys) ∧ ∀ l, H l = none → Q (.ref l) (upd H l (.lst ys))) := by
  intro pins s σ H xs us Q I r h
  obtain ⟨p, ys, rfl, hq, q⟩ := h
  obtain ⟨u, rfl, rx⟩ := vals1 r
  cases rx
  have fin : ∀ (its : List Value), Vals ys its → ys.length ≤ sizeLine → ∀ (h' : Heap) (c' : Nat), (∀ b o', s.heap.get? b = some o' → h'.get? b = some o') →
      h'.get? s.heap.objs.size = some { cls := .type "list", dict := none, data := .seq its.toArray c', slots := #[] } → EP X pins σ Q (.ref s.heap.objs.size) { s with heap := h' } := fun its r' hz h' c' kp e =>
    ⟨.ref s.heap.objs.size, _, I.laid (t' := s.toks) kp (Nat.le_refl _) (show ObjOk X.prog X.w _ h' _ (.lst ys) from ⟨hz, its, c', r', e⟩), rfl, q _ (I.hok.fresh (Nat.le_refl _))⟩
  rcases hq with hq | hq
  · obtain ⟨its, r', pl, hz⟩ := I.list hq
    have hlen := r'.length
    obtain ⟨o, ho, hc, n, hd⟩ := pl.isList
    exact call_list_seq p (.inl rfl) ho hc hd (fun h' c' kp e => fin its r' hz h' c' kp e) (by simp only [List.size_toArray] <;> omega)
  · obtain ⟨its, r', pl, hz⟩ := I.tuple hq
    have hlen := r'.length
    obtain ⟨o, ho, hc, n, hd⟩ := pl
    exact call_list_seq p (.inr rfl) ho hc hd (fun h' c' kp e => fin its r' hz h' c' kp e) (by simp only [List.size_toArray] <;> omega)
def tyV (K : PySem.W.Frag) (T : String) (x : V) (H : Hp) : Prop := match x with
  | .str _ => T = "str"
  | .int _ => T = "int"
  | .ref p => (T = "list" ∧ ∃ xs, SqL K H p xs) ∨ (T = "tuple" ∧ ∃ o, K.lookup p = some o ∧ o.cls = .type "tuple" ∧ o.dict = none) ∨
      (T = "dict" ∧ ((∃ kvs ep, H p = some (.dK kvs ep)) ∨ ∃ kvs bs, H p = some (.dT kvs bs))) ∨ (T = "set" ∧ ∃ S n, H p = some (.set S n))
  | _ => False
theorem tyV_is {pins : List (Addr × Obj)} {σ : St} {H : Hp} {s : Shared} {T : String} {x : V} {v : Value} (I : Inv X pins σ H s) (r : RelV x v) (ty : tyV X.K T x H) :
    s.TypeIs v T ∧ ∀ a, v = .ref a → ∃ ob, s.heap.get? a = some ob ∧ ob.dict = none := by
  cases x with
  | str z =>
    obtain ⟨t, rfl⟩ := r
    cases (show T = "str" from ty)
    exact ⟨typeIs_str s z t, fun _ e => nomatch e⟩
  | int i =>
    obtain ⟨t, rfl⟩ := r
    cases (show T = "int" from ty)
    exact ⟨typeIs_int s i t, fun _ e => nomatch e⟩
  | ref p =>
    cases r
    rcases ty with ⟨rfl, xs, hq⟩ | ⟨rfl, o, hk, hc, hd⟩ | ⟨rfl, hk⟩ | ⟨rfl, S, n, hk⟩
    · obtain ⟨its, _, pl, _⟩ := I.list hq
      refine ⟨pl.isList.typeIs, fun a e => ?_⟩
      cases e
      obtain ⟨o, n, e, c, hd, _⟩ := pl
      exact ⟨o, e, hd⟩
    · refine ⟨⟨o, I.kIn p o hk, hc⟩, fun a e => ?_⟩
      cases e
      exact ⟨o, I.kIn _ o hk, hd⟩
    · have z : ∃ o, s.heap.get? p = some o ∧ o.ExactDict := by
        rcases hk with ⟨kvs, ep, hk⟩ | ⟨kvs, bs, hk⟩
        · obtain ⟨_, _, _, _, o, _, e, ex, _⟩ := I.hok p _ hk
          exact ⟨o, e, ex⟩
        · obtain ⟨_, _, _, _, _, o, _, _, e, ex, _⟩ := I.hok p _ hk
          exact ⟨o, e, ex⟩
      obtain ⟨o, e, ex⟩ := z
      refine ⟨⟨o, e, ex.1⟩, fun a e2 => ?_⟩
      cases e2
      exact ⟨o, e, ex.2.1⟩
    · obtain ⟨o, _, _, _, e, ex, _⟩ := I.hok p _ hk
      refine ⟨⟨o, e, ex.1⟩, fun a e2 => ?_⟩
      cases e2
      exact ⟨o, e, ex.2.1⟩
  | _ => exact False.elim ty
def tBM (K : PySem.W.Frag) (T : String) (r : V → List V → Hp → VK → Prop) (to : TE) (t : TA) : TE := fun σ H Q => to σ H fun x H1 => tyV K T x H1 ∧ t σ H1 fun xs H2 => r x xs H2 Q
variable {o e : Expr} {es : List Expr} {to : TE} {t : TA} {name : Str} {apos cpos : Pos} {T id : String} {r : V → List V → Hp → VK → Prop}
theorem pe_bm (pa : PlainAttrs T) (slot : Slot T name id) (hty : typeOf (.builtin id) = pure (.type "method_descriptor")) (hm : MtR X id r) (ho : PE X o to) (ha : PA X (e :: es) t)
    (hbase : attributeBase o name X.env (eval o X.env) = eval o X.env := by rfl)
    (hfew : ((backTo cpos (starEach (e :: es) X.env)).all (fun x => !x.1) && (backToKw cpos (keywordEach [] X.env)).all (fun x => x.1.isSome)
      && decide ((e :: es).length + ([] : List Keyword).length + (if ([] : List Keyword).isEmpty then 0 else 1) < 30)) = true := by rfl)
    (hline : (apos.endLine == cpos.line) = true := by rfl) (hs : starEach (e :: es) X.env = (false, eval e X.env) :: starEach es X.env := by rfl) (hplain : (backTo cpos (starEach es X.env)).any (·.1) = false := by rfl) :
    PE X (.Call (.Attribute o name apos) (e :: es) [] cpos) (tBM X.K T r to t) := by
  intro pins s σ H Q I h
  refine wpAny_Call_method_late hbase hfew hline rfl (thn (ho pins s σ H _ I h) fun v s1 ⟨x, H1, I1, r1, ty, q1⟩ => ?_)
  obtain ⟨h1, h2⟩ := tyV_is I1 r1 ty
  refine ⟨T, id, pa, slot, hty, h1, h2, ?_⟩
  have hA := ha cpos pins s1 σ H1 _ I1 q1
  rw [hs] at hA ⊢
  refine Calls.callWith_builtin (by show (false || (backTo cpos (starEach es X.env)).any (·.1)) = false; rw [hplain] <;> rfl) (Calls.evalArgs_plain ?_)
  exact thn hA fun us s2 ⟨vs, H2, I2, r2, q2⟩ => hm pins s2 σ H2 x vs v us Q I2 r1 r2 q2
end
end L2
namespace L2
open PySem PySem.Spec PyProof.Rows
def MtM (X : Cx) (id : String) (r : V → List V → Hp → VK → Prop) : Prop :=
  ∀ (pins : List (Addr × Obj)) (s : Shared) (σ : St) (H : Hp) (x : V) (xs : List V) (v : Value) (us : List Value) (Q : VK), Inv X pins σ H s → RelV x v → Vals xs us → r x xs H Q →
    wpAny (model X.prog X.w) X.A (call (.builtin id) (v :: us)) (EP X pins σ Q) X.xe s
theorem Vals.one : ∀ {x : V} {us : List Value}, Vals [x] us → ∃ u, us = [u] ∧ RelV x u
  | _, _, .cons r .nil => ⟨_, rfl, r⟩
theorem Vals.zero : ∀ {us : List Value}, Vals [] us → us = []
  | _, .nil => rfl
theorem Vals.reverse {xs : List V} {us : List Value} (h : Vals xs us) : Vals xs.reverse us.reverse := by
  induction h with
  | nil => exact .nil
  | cons r t ih => rw [List.reverse_cons, List.reverse_cons]; exact Vals.append ih (.cons r .nil)
section
variable {X : Cx} {pins : List (Addr × Obj)} {σ : St} {H : Hp} {s : Shared} {l b : Addr} {xs ys zs : List V}
theorem Inv.lset {its its' : List Value} {n : Nat} {f : Array Value → Array Value} {t' : Nat} (I : Inv X pins σ H s) (hH : H l = some (.lst xs))
    (e : s.heap.get? l = some { cls := .type "list", data := .seq its.toArray n }) (hf : f its.toArray = its'.toArray) (hv : Vals ys its') (hz : ys.length ≤ sizeLine) :
    Inv X pins σ (upd H l (.lst ys)) { s with heap := s.heap.update l (Obj.mapSeq f), toks := t' } := by
  have q := PySem.IsL.update e f
  rw [hf] at q
  refine I.write (x := l) (e := l) (by rw [hH]; exact trivial) (.inl rfl) (fun b' u hb hu => (Heap.get?_update_other s.heap (Obj.mapSeq f) (Ne.symm hb)).trans hu) ⟨_, q⟩ ?_
  exact ⟨hz, its', _, hv, q⟩
theorem Inv.lnew {its : List Value} {t' : Nat} (I : Inv X pins σ H s) (hv : Vals ys its) (hz : ys.length ≤ sizeLine) :
    Inv X pins σ (upd H s.heap.objs.size (.lst ys)) { s with heap := s.heap.push { cls := .type "list", data := .seq its.toArray }, toks := t' } :=
  I.laid (fun _ _ q => Heap.get?_push_of_some _ q) (Nat.le_refl _) ⟨hz, its, 0, hv, Heap.get?_push_size _ rfl⟩
theorem Inv.fresh (I : Inv X pins σ H s) : H s.heap.objs.size = none := I.hok.fresh (Nat.le_refl _)
theorem Inv.lstM (I : Inv X pins σ H s) (hH : H l = some (.lst xs)) : xs.length ≤ sizeLine ∧ ∃ (its : List Value) (n : Nat), Vals xs its ∧ xs.length = its.length ∧ s.heap.get? l = some { cls := .type "list", data := .seq its.toArray n } := by
  obtain ⟨z, its, n, r, e⟩ := I.hok l _ hH
  exact ⟨z, its, n, r, r.length, e⟩
end
section
variable {X : Cx}
def rAppend : V → List V → Hp → VK → Prop := fun x vs H Q => ∃ l xs y, x = .ref l ∧ vs = [y] ∧ H l = some (.lst xs) ∧ xs.length < sizeLine ∧ Q .non (upd H l (.lst (xs ++ [y])))
theorem mt_append : MtM X "list.append" rAppend := by
  intro pins s σ H x vs v us Q I rx rv h
  obtain ⟨l, xs, y, rfl, rfl, hH, hz, q⟩ := h
  cases rx
  obtain ⟨u, rfl, ru⟩ := rv.one
  obtain ⟨z, its, n, r, hl, e⟩ := I.lstM hH
  refine call_meets F.slot_list_append ⟨_, e, rfl⟩ F.entry_list_append (F.args_list_append_2 _ _) (PySem.list_append l its.toArray n u (by rw [List.size_toArray]; omega)) ⟨e, ?_⟩
  refine ⟨.non, _, I.lset (its' := its ++ [u]) hH e (by simp) (r.append (.cons ru .nil)) ?_, rfl, q⟩
  rw [List.length_append, List.length_singleton]
  omega
end
section
variable {prog : Program} {w : World} {A : Around} {E : Value → Shared → Prop} {s : Shared}
set_option maxRecDepth 100000 in
end
section
variable {X : Cx}
end
end L2
namespace Att
open PySem PySem.W PySem.Calls PyProof.Rows
theorem ints_of_wellAll {P : Params} {h : Heap} : ∀ (ns : List Int) (vs : List Value), WellAll P h vs (ns.map WData.int) → IntsAre vs ns := by
  intro ns
  induction ns with
  | nil =>
    intro vs w
    rw [List.map_nil] at w
    cases w
    exact .nil
  | cons n ns ih =>
    intro vs w
    rw [List.map_cons] at w
    cases w with
    | cons a b =>
      cases a
      exact .cons _ _ (ih _ b)
theorem script_of {l : OpenLaw} {n : Nat} (hn : l.most = some n) {P : Params} {h : Heap} {args : List WData} {vals : List Value}
    (hpre : l.row.toRowW.claim.pre args = true) (hwl : WellAll P h vals args) :
    ∃ a vs ns, vals = [Value.ref a] ∧ args = [WData.list (ns.map WData.int)] ∧ h.get? a = some { cls := .type "list", data := .seq vs.toArray } ∧ IntsAre vs ns ∧ ns.length ≤ n := by
  have hsh : WShape.hasAll [] args [.list .int] = true := (pre_splitW hpre).1
  have hc : l.pre.holds [] { args := args } = true := (pre_splitW hpre).2
  obtain ⟨d, r, rfl, h1, h2⟩ := hasAllW_cons hsh
  obtain rfl := hasAllW_nil h2
  obtain ⟨xs, rfl, h3⟩ := hasW_list h1
  obtain ⟨ns, rfl⟩ := items_int h3
  have hlen : ns.length ≤ n := by
    unfold OpenLaw.pre at hc
    have h4 : (WTm.not (.lt (.lit (.int (n : Int))) (.len (.arg 0)))).holds [] { args := [.list (ns.map .int)] } = true := by
      have h4 := (holds_andW hc).1
      rw [hn] at h4
      exact h4
    have h5 := condW_of h4 (w_not (w_lt w_lit (w_len_list (w_arg rfl))))
    rw [List.length_map] at h5
    refine Nat.le_of_not_lt fun q => ?_
    have q' : (n : Int) < ((ns.length : Nat) : Int) := by omega
    first
      | (rw [decide_eq_true q'] at h5; exact absurd h5 (by decide))
      | (simp at h5; omega)
  cases hwl with
  | cons w1 w2 =>
    cases w2
    cases w1 with
    | list ho hall => exact ⟨_, _, ns, rfl, rfl, ho, ints_of_wellAll ns _ hall, hlen⟩
theorem post_true (l : OpenLaw) (args : List WData) : l.row.toRowW.claim.post args (.bool true) args = true :=
  postW_of (r := l.row.toRowW) (X := (true == true))
    (show WShape.has [] (.bool true) .bool = true by first | rfl | decide | simp [WShape.has, WShape.arms, WShape.armsAll])
    (show (WTm.eq .res (.lit (.bool true))).value [] { args := args, res := some (.bool true), after := args } = some (.bool (true == true)) from w_eq_bool (w_res rfl) w_lit) rfl
theorem attach_call {l : OpenLaw} {n : Nat} {q : Program} {loose : List Str} {XP : (Str → Option Value) → Heap → Prop} {YP : World → Heap → Prop} {d : DefRec}
    (hn : l.most = some n) (hdf : d.params.defaults = [])
    (call : ∀ (w : World) (s₀ s₁ : Shared) (mg mb : Str → Option Value) (fa : Addr) (o : Obj) (pm cd doc : Value) (a : Addr) (vs : List Value) (ns : List Int),
      Ground q loose [] XP w s₀ mg mb s₁.heap → YP w s₁.heap →
      s₁.heap.get? fa = some o → o.data = .func (docDef d.name d.params d.body d.scope pm cd doc) → s₁.heap.CodeRec cd d.name → mg d.name = some (.ref fa) →
      s₁.heap.get? a = some { cls := .type "list", data := .seq vs.toArray } → IntsAre vs ns → ns.length ≤ n → s₁.gens = #[] →
      codeAny (model l.prog w) callerA (.call (.ref fa) ⟨[.ref a], []⟩) (fun r s' => r = .ok (.ret (.bool true)) ∧ OldK s₁.heap s'.heap ∧ s'.os = s₁.os ∧ AllBare s'.gens) s₁) :
    WalkO q loose XP YP l.row.toRowW d [] (fun f vs => PySem.call f vs) := by
  intro w s₀ s₁ mg mb G Y fa o pm cd doc dV kV ho hd hcd hD hmg hg args vals as hpre hlay hrd hwl hlo
  obtain rfl : dV = .none := Dflts.none hD hdf
  obtain rfl : kV = .none := Dflts.noKw hD
  obtain ⟨a, vs, ns, rfl, rfl, hobj, hints, hlen⟩ := script_of hn hpre hwl
  refine enter_call (codeAny_mono (call w s₀ s₁ mg mb fa o pm cd doc a vs ns G Y ho (fd_plain hd) hcd hmg hobj hints hlen hg) fun r s' hq => ?_)
  obtain ⟨rfl, h2, h3, h4⟩ := hq
  exact ⟨.inl ⟨.bool true, .bool true, [], rfl, fun _ => rfl, .bool true, post_true l _, fun _ => ⟨List.Pairwise.nil, fun _ hm => (nomatch hm)⟩⟩, h2, h3, h4⟩
section
variable {prog : Program} {w : World} {A : Around} {E : Value → Shared → Prop} {s : Shared} {K : Frag}
end
end Att
namespace L2
open PySem PySem.Spec PyProof.Rows
theorem vals_ints : ∀ {vs : List Value} {ns : List Int}, IntsAre vs ns → Vals (ns.map V.int) vs
  | _, _, .nil => .nil
  | _, _, .cons n t h => .cons ⟨t, rfl⟩ (vals_ints h)
def Only (H : Hp) : Prop := ∀ b, H b = none ∨ ∃ o xs, H b = some (.frz o (.lst xs))
theorem law_call {P : Program} {w : World} {K : PySem.W.Frag} {mg mb : Str → Option Value} {CX : CXT} {k : Nat} {fa a : Addr} {fd : FuncData} {x : Str} {sp : Sp} {s₁ : Shared} {vs : List Value} {ns : List Int}
    (KX : K.In s₁.heap) (hns : s₁.heap.Ns mainGlobals mg) (hb : s₁.heap.Ns builtinsNs mb) (hbb : ∀ x : Str, x ≠ "__name__" → mb x = bootBuiltins x) (hlim : s₁.heap.NoLimit) (hg : s₁.gens = #[])
    (ha : s₁.heap.get? a = some { cls := .type "list", data := .seq vs.toArray }) (hi : IntsAre vs ns) (hl : ns.length ≤ sizeLine) (hr : Room k callerA)
    (F : ∀ base : Heap, K.In base → base.Ns mainGlobals mg → FnOk P w K mg base CX k fa fd [x] sp) (hbind : ∀ (s : Shared) (u : Value), BindsTo s fd ⟨[u], []⟩ [(x, u)])
    (hsp : ∀ H : Hp, Only H → SqL K H a (ns.map V.int) → sp [.ref a] H (fun v _ => v = .bl true) fun _ _ _ => False)
    (hCX : ∀ H e s', CX [] H s₁ (fun _ _ _ => False) e s' → False) :
    codeAny (model P w) callerA (.call (.ref fa) ⟨[.ref a], []⟩) (fun r s' => r = .ok (.ret (.bool true)) ∧ OldK s₁.heap s'.heap ∧ s'.os = s₁.os ∧ AllBare s'.gens) s₁ := by
  have rv := vals_ints hi
  have lenV := hi.length
  -- from an abstract heap in which nothing but the script may be tracked
  have core : ∀ H : Hp, Only H → SqL K H a (ns.map V.int) → HOk P w H s₁.heap → (∀ b, H b ≠ none → b = a) → (H a ≠ none → K.lookup a = none) →
      codeAny (model P w) callerA (.call (.ref fa) ⟨[.ref a], []⟩) (fun r s' => r = .ok (.ret (.bool true)) ∧ OldK s₁.heap s'.heap ∧ s'.os = s₁.os ∧ AllBare s'.gens) s₁ := by
    intro H hO hS hok hA hK
    have base_of : ∀ {b : Addr} {o : Obj}, s₁.heap.get? b = some o → H b = none → (hidT s₁.heap H).get? b = some o := fun e n => hidT_get e n
    have noA : ∀ {b : Addr} {o : Obj} {es : Array DictEntry} {ep : Nat}, s₁.heap.get? b = some o → o.data = .dict es ep → H b = none := fun {b o es ep} e d => by
      cases q : H b with
      | none => rfl
      | some u =>
        have e' : b = a := hA b (by rw [q]; simp)
        subst e'
        rw [ha] at e; cases e
        have d' : Data.seq vs.toArray _ = Data.dict es ep := d
        cases d'
    have nsK : ∀ {b : Addr} {m : Str → Option Value}, s₁.heap.Ns b m → (hidT s₁.heap H).Ns b m := fun {b m} ⟨o, es, ep, e, d, r⟩ => ⟨o, es, ep, base_of e (noA e d), d, r⟩
    have hKb : K.In (hidT s₁.heap H) := fun b o e => base_of (KX b o e) (by
      cases q : H b with
      | none => rfl
      | some u =>
        have e' : b = a := hA b (by rw [q]; simp)
        subst e'
        rw [hK (by rw [q]; simp)] at e; cases e)
    have hM : Mod K mg (hidT s₁.heap H) := ⟨hKb, nsK hns, ⟨mb, nsK hb, hbb⟩, let ⟨mc, h1, h2⟩ := hlim; ⟨mc, nsK h1, h2⟩⟩
    have e0 : Env0 P w K mg (hidT s₁.heap H) callerA [] s₁ H := ⟨rfl, hM, fun b o e => of_hidT e, Nat.le_of_eq (hidT_size _ _), trivial, fun b hb => absurd (show b ∈ ([] : List Addr) from hb) (by simp), hok, .of_eq hg⟩
    refine codeAny_mono ((F _ hKb (nsK hns)).run callerA [] s₁ H ⟨[.ref a], []⟩ [.ref a] [.ref a] _ _ hr e0 (hbind s₁ (.ref a)) (.cons rfl .nil) (hsp H hO hS)) fun r s' h => ?_
    cases r with
    | error e => exact (hCX H e s' h).elim
    | ok fl =>
      cases fl with
      | next => exact False.elim h
      | brk => exact False.elim h
      | cont => exact False.elim h
      | ret u =>
        obtain ⟨v, H', os, bare, un, hok', r', q⟩ := h
        have q' : v = .bl true := q
        subst q'
        obtain rfl : u = Value.bool true := r'
        refine ⟨rfl, OldK.of_keep fun b o e => ?_, os, bare⟩
        cases q : H b with
        | none => exact un.keep b o e q (by intro z; exact absurd (show b ∈ ([] : List Addr) from z) (by simp)) (by simp)
        | some u =>
          rcases hO b with z | ⟨ob, xs, z⟩
          · rw [q] at z; cases z
          · have z2 := un.frzs b ob _ z
            obtain ⟨e1, _⟩ := hok b _ z
            obtain ⟨e2, _⟩ := hok' b _ z2
            rw [e] at e1; cases e1
            exact e2
  cases hk : K.lookup a with
  | some o =>
    -- the script is one of the module's own objects
    have e := KX a o hk
    rw [ha] at e
    cases e
    refine core (fun _ => none) (fun _ => .inl rfl) (.inr ⟨_, vs.toArray, _, hk, rfl, rfl, rfl, by rw [List.size_toArray, lenV]; exact hl, by simpa using rv⟩) (fun b u z => by have z' : (none : Option HO) = some u := z; cases z') (fun b z => absurd rfl z) fun z => absurd rfl z
  | none =>
    refine core (fun b => if b = a then some (.frz { cls := .type "list", data := .seq vs.toArray } (.lst (ns.map V.int))) else none) (fun b => ?_) (.inl (.inr ⟨{ cls := .type "list", data := .seq vs.toArray }, if_pos rfl⟩)) (fun b u z => ?_) (fun b z => ?_) fun _ => hk
    · by_cases hb : b = a
      · exact .inr ⟨_, _, if_pos hb⟩
      · exact .inl (if_neg hb)
    · by_cases hb : b = a
      · have z' := (if_pos hb).symm.trans z
        cases z'
        subst hb
        exact ⟨ha, by rw [List.length_map]; exact hl, vs, _, rv, ha⟩
      · have z' := (if_neg hb).symm.trans z
        cases z'
    · by_cases hb : b = a
      · exact hb
      · exact absurd (if_neg hb) z
end L2
namespace L2
open PySem PySem.Spec PyProof.Rows
abbrev KOf {K : PySem.W.Frag} {h : Heap} (_ : K.In h) : PySem.W.Frag := K
end L2
namespace L2
open PySem PySem.Spec PyProof.Rows
def defArgs (s : Stmt) : Arguments := match s with
  | .FunctionDef _ a _ _ _ _ _ _ _ _ => a
  | _ => { posonlyargs := [], args := [], vararg := none, kwonlyargs := [], kw_defaults := [], kwarg := none, defaults := [] }
def defBody (s : Stmt) : List Stmt := match s with
  | .FunctionDef _ _ b _ _ _ _ _ _ _ => b
  | _ => []
def defScope (s : Stmt) : Scope := match s with
  | .FunctionDef _ _ _ _ _ _ sc _ _ _ => sc
  | _ => { kind := .function, names := [], isGenerator := false, isCoroutine := false }
abbrev CX0 : CXT := fun _ _ _ _ _ _ => False
abbrev E0 : XK := fun _ _ _ => False
theorem pass0 {X : Cx} : Passes CX0 X E0 := fun _ _ _ _ _ _ _ h => h.elim
structure Fun (K : PySem.W.Frag) (x qual : Str) (st : Stmt) (f : Addr) (fd : FuncData) : Prop where
  ex : ∃ (oc : Value) (od : Option Addr) (kV doc pm : Value) (an : Option Addr) (cdv ct : Value) (osl : Array (Option Value)),
    fd = PySem.W.fnOf x qual (defArgs st) (defBody st) (defScope st) .none kV doc pm an cdv ct ∧ K.lookup f = some ⟨oc, od, .func fd, osl⟩ ∧ PySem.W.codeIn K cdv qual = true
  kp : PySem.W.keepIn K (.ref f) = true
section
variable {P : Program} {w : World} {K : PySem.W.Frag} {mg : Str → Option Value} {base : Heap}
theorem Fun.ok {x qual : Str} {st : Stmt} {f : Addr} {fd : FuncData} {N ps : List Str} {k : Nat} {sp : Sp} (F : Fun K x qual st f fd) (S : FnScope N ps (defScope st)) (len : ∀ vs H Q E, sp vs H Q E → vs.length = ps.length)
    (hbody : ∀ (cdv : Value) (A : Around) (outer : List Env) (s : Shared) (H : Hp) (vs : List V) (Q : VK) (E : XK), Room k (A.deeper (envOfC qual (defScope st) s.heap.objs.size f cdv)) → sp vs H Q E →
      ∃ t, PSs (cxOf CX0 P w K mg base N qual (defScope st) f cdv A outer s H E).nox (defBody st) t ∧ t { nx := fun _ H' => Q .non H', rt := Q } (start N vs) H) : FnOk P w K mg base CX0 (k + 1) f fd ps sp := by
  obtain ⟨oc, od, kV, doc, pm, an, cdv, ct, osl, rfl, lk, hcd⟩ := F.ex
  refine fn_of lk hcd S len fun A outer s H vs Q E hr hsp => ?_
  obtain ⟨t, h, q⟩ := hbody cdv A outer s H vs Q E hr hsp
  exact ⟨t, h.nox, q⟩
theorem Fun.binds {x qual : Str} {st : Stmt} {f : Addr} {fd : FuncData} {ps : List Str} (F : Fun K x qual st f fd)
    (h : ∀ (kV doc pm : Value) (an : Option Addr) (cdv ct : Value) (us : List Value), us.length = ps.length → bindArgs (PySem.W.fnOf x qual (defArgs st) (defBody st) (defScope st) .none kV doc pm an cdv ct) ⟨us, []⟩ = pure (ps.zip us)) : Binds K fd ps [] := by
  obtain ⟨oc, od, kV, doc, pm, an, cdv, ct, osl, rfl, lk, hcd⟩ := F.ex
  exact .all (h kV doc pm an cdv ct)
theorem fun_mk {x qual : Str} {st : Stmt} {f : Addr} {oc : Value} {od an : Option Addr} {osl : Array (Option Value)} {kV doc pm cdv ct : Value} (l : K.lookup f = some ⟨oc, od, .func (PySem.W.fnOf x qual (defArgs st) (defBody st) (defScope st) .none kV doc pm an cdv ct), osl⟩)
    (c : PySem.W.codeIn K cdv qual = true) (k : PySem.W.keepIn K (.ref f) = true) : Fun K x qual st f (PySem.W.fnOf x qual (defArgs st) (defBody st) (defScope st) .none kV doc pm an cdv ct) := ⟨⟨oc, od, kV, doc, pm, an, cdv, ct, osl, rfl, l, c⟩, k⟩
end
section
variable {X : Cx}
end
def Same (H H' : Hp) : Prop := ∀ b o, H b = some o → H' b = some o
theorem Same.refl (H : Hp) : Same H H := fun _ _ h => h
theorem Same.trans {H H1 H2 : Hp} (a : Same H H1) (b : Same H1 H2) : Same H H2 := fun c o h => b c o (a c o h)
theorem Same.free {H H' : Hp} (e : Same H H') {l : Addr} (h : H' l = Option.none) : H l = Option.none := by
  cases q : H l with
  | none => rfl
  | some o =>
    rw [e l o q] at h
    cases h
theorem Same.seq {K : PySem.W.Frag} {H H' : Hp} {a : Addr} {xs : List V} (e : Same H H') (h : SqL K H a xs) : SqL K H' a xs := by
  rcases h with (h | ⟨o, h⟩) | h
  · exact .inl (.inl (e _ _ h))
  · exact .inl (.inr ⟨o, e _ _ h⟩)
  · exact .inr h
end L2
set_option Elab.async false
set_option linter.all false
set_option maxRecDepth 100000
set_option maxHeartbeats 1000000
namespace L2
open PySem PySem.Spec PyProof.Rows
def RdL (K : PySem.W.Frag) (H : Hp) (a : Addr) (xs : List V) : Prop :=
  Rd H a (.lst xs) ∨ ∃ (its : Array Value) (n : Nat), K.lookup a = some { cls := .type "list", data := .seq its n } ∧ its.size ≤ sizeLine ∧ Vals xs its.toList
theorem RdL.of {K : PySem.W.Frag} {H : Hp} {a : Addr} {xs : List V} (h : H a = some (.lst xs)) : RdL K H a xs := .inl (.inl h)
theorem RdL.sq {K : PySem.W.Frag} {H : Hp} {a : Addr} {xs : List V} (h : RdL K H a xs) : SqL K H a xs := by
  rcases h with h | ⟨its, n, h1, h2, h3⟩
  · exact .inl h
  · exact .inr ⟨_, its, n, h1, rfl, rfl, rfl, h2, h3⟩
theorem Same.rdl {K : PySem.W.Frag} {H H' : Hp} {a : Addr} {xs : List V} (e : Same H H') (h : RdL K H a xs) : RdL K H' a xs := by
  rcases h with (h | ⟨o, h⟩) | h
  · exact .inl (.inl (e _ _ h))
  · exact .inl (.inr ⟨o, e _ _ h⟩)
  · exact .inr h
theorem Inv.rdl {X : Cx} {pins : List (Addr × Obj)} {σ : St} {H : Hp} {s : Shared} {a : Addr} {xs : List V} (I : Inv X pins σ H s) (h : RdL X.K H a xs) : xs.length ≤ sizeLine ∧ ∃ (its : List Value) (n : Nat), Vals xs its ∧ s.heap.get? a = some { cls := .type "list", data := .seq its.toArray n } := by
  rcases h with h | ⟨its, n, h1, h2, h3⟩
  · obtain ⟨z, its, n, r, e⟩ := h.ok I.hok
    exact ⟨z, its, n, r, e⟩
  · refine ⟨by rw [h3.length]; simpa using h2, its.toList, n, h3, ?_⟩
    rw [Array.toArray_toList]
    exact I.kIn a _ h1
def clOf (cells : List (Str × Addr)) : List (Str × NameKind) → List (Str × Addr) → List (Str × Addr)
  | [], acc => acc
  | (n, k) :: r, acc => clOf cells r (if k == .free then (n, (cells.lookup n).getD 0) :: acc else acc)
theorem closure_eq {env : Env} : ∀ (names : List (Str × NameKind)) (acc : List (Str × Addr)), (∀ x ∈ names, x.2 = .free → ∃ c, env.cells.lookup x.1 = some c) →
    (forIn names acc fun (x : Str × NameKind) (r : List (Str × Addr)) =>
      (if (x.2 == NameKind.free) = true then do let a ← cellOf env x.1; pure (ForInStep.yield ((x.1, a) :: r)) else pure (ForInStep.yield r) : Sem (ForInStep (List (Str × Addr))))) = pure (clOf env.cells names acc)
  | [], acc, _ => by simp [clOf]
  | (n, k) :: r, acc, h => by
    have ih := fun acc' => closure_eq (env := env) r acc' fun x hx => h x (List.mem_cons_of_mem _ hx)
    rw [List.forIn_cons]
    by_cases hk : k = .free
    · subst hk
      obtain ⟨c, hc⟩ := h (n, .free) (by simp) rfl
      have e1 : cellOf env n = pure c := by unfold cellOf; rw [hc]
      simp only [beq_self_eq_true, if_true, e1, pure_bind]
      rw [ih]
      simp [clOf, hc]
    · have hk' : (k == NameKind.free) = false := by simpa using hk
      simp only [hk', Bool.false_eq_true, if_false, pure_bind]
      rw [ih]
      simp [clOf, hk']
theorem closure_of {env : Env} {scope : Scope} (h : ∀ x ∈ scope.names, x.2 = .free → ∃ c, env.cells.lookup x.1 = some c) : closureFor scope env = pure (clOf env.cells scope.names []) := by
  have e : closureFor scope env = (forIn scope.names ([] : List (Str × Addr)) fun (x : Str × NameKind) (r : List (Str × Addr)) =>
      (if (x.2 == NameKind.free) = true then do let a ← cellOf env x.1; pure (ForInStep.yield ((x.1, a) :: r)) else pure (ForInStep.yield r) : Sem (ForInStep (List (Str × Addr))))) >>= fun r => pure r := rfl
  rw [e, closure_eq _ _ h]
  rfl
theorem clOf_mem {cells : List (Str × Addr)} : ∀ {names : List (Str × NameKind)} {acc : List (Str × Addr)} {x : Str} {c : Addr}, (x, c) ∈ clOf cells names acc → (x, c) ∈ acc ∨ ((x, .free) ∈ names ∧ c = (cells.lookup x).getD 0)
  | [], acc, x, c, h => .inl h
  | (n, k) :: r, acc, x, c, h => by
    rcases clOf_mem (names := r) h with h | ⟨h, e⟩
    · by_cases hk : k = .free
      · subst hk
        simp only [beq_self_eq_true, if_true] at h
        rcases List.mem_cons.mp h with h | h
        · cases h; exact .inr ⟨by simp, rfl⟩
        · exact .inl h
      · have hk' : (k == NameKind.free) = false := by simpa using hk
        simp only [hk', Bool.false_eq_true, if_false] at h
        exact .inl h
    · exact .inr ⟨List.mem_cons_of_mem _ h, e⟩
theorem clOf_acc {cells : List (Str × Addr)} : ∀ {names : List (Str × NameKind)} {acc : List (Str × Addr)} {p : Str × Addr}, p ∈ acc → p ∈ clOf cells names acc
  | [], acc, p, h => h
  | (n, k) :: r, acc, p, h => clOf_acc (names := r) (by split <;> simp [h])
theorem clOf_has {cells : List (Str × Addr)} : ∀ {names : List (Str × NameKind)} {acc : List (Str × Addr)} {x : Str}, (x, .free) ∈ names → ∃ c, (x, c) ∈ clOf cells names acc
  | (n, k) :: r, acc, x, h => by
    rcases List.mem_cons.mp h with h | h
    · have e1 : x = n := congrArg Prod.fst h
      have e2 : NameKind.free = k := congrArg Prod.snd h
      subst e1 e2
      refine ⟨(cells.lookup x).getD 0, ?_⟩
      show (x, (cells.lookup x).getD 0) ∈ clOf cells r (if (NameKind.free == NameKind.free) = true then (x, (cells.lookup x).getD 0) :: acc else acc)
      exact clOf_acc (by simp)
    · exact clOf_has (names := r) h
theorem lookup_some_of_mem {α : Type} : ∀ {l : List (Str × α)} {x : Str} {c : α}, (x, c) ∈ l → ∃ c', l.lookup x = some c'
  | (n, k) :: r, x, c, h => by
    by_cases e : x = n
    · subst e; exact ⟨k, by simp [List.lookup_cons]⟩
    · have e' : (x == n) = false := by simpa using e
      rcases List.mem_cons.mp h with h | h
      · cases h; exact absurd rfl e
      · obtain ⟨c', q⟩ := lookup_some_of_mem h
        exact ⟨c', by simp [List.lookup_cons, e', q]⟩
theorem clOf_lookup {cells : List (Str × Addr)} {names : List (Str × NameKind)} {x : Str} {c : Addr} (h : (clOf cells names []).lookup x = some c) (hh : ∀ y ∈ names, y.2 = .free → ∃ c, cells.lookup y.1 = some c) : cells.lookup x = some c := by
  rcases clOf_mem (PySem.mem_of_lookup h) with h | ⟨h, e⟩
  · cases h
  · obtain ⟨c', q⟩ := hh _ h rfl
    rw [q] at e
    simp at e
    rw [e]
    exact q
theorem lookup_relabel {env : Env} : ∀ {names : List (Str × NameKind)} {x : Str},
    (names.map fun (n, k) => if (k == NameKind.free && env.scope.kind == .function && env.kindOf n == some .cell) then (n, NameKind.cell) else (n, k)).lookup x
      = (names.lookup x).map fun k => if (k == NameKind.free && env.scope.kind == .function && env.kindOf x == some .cell) then NameKind.cell else k
  | [], x => rfl
  | (n, k) :: r, x => by
    have ih := @lookup_relabel env r x
    rw [List.map_cons]
    have e0 : (if (k == NameKind.free && env.scope.kind == .function && env.kindOf n == some .cell) = true then (n, NameKind.cell) else (n, k)) = (n, if (k == NameKind.free && env.scope.kind == .function && env.kindOf n == some .cell) = true then NameKind.cell else k) := by split <;> rfl
    show List.lookup x ((if (k == NameKind.free && env.scope.kind == .function && env.kindOf n == some .cell) = true then (n, NameKind.cell) else (n, k)) :: _) = _
    rw [e0]
    by_cases e : x = n
    · subst e
      rw [List.lookup_cons, List.lookup_cons, beq_self_eq_true]
      rfl
    · have e' : (x == n) = false := by simpa using e
      rw [List.lookup_cons, List.lookup_cons, e']
      exact ih
abbrev cxC (X : Cx) (N' : List Str) (scope : Scope) (s3 : Shared) (H3 : Hp) (ex : List Addr) : Cx :=
  { X with N := N', s₀ := s3, H₀ := H3, env := compEnvC scope (clOf X.env.cells scope.names []) s3.heap.objs.size X.env, outer := X.stack, stack := X.stack, ex := ex, fn := fun _ => false, pn := [], xe := fun _ _ => False }
def inn (m : List (Option Nat)) (σ : St) : St := m.map fun o => match o with
  | none => none
  | some j => (σ[j]?).join
structure CompScope (X : Cx) (N' : List Str) (m : List (Option Nat)) (scope : Scope) : Prop where
  kind : scope.kind = .function
  len : m.length = N'.length
  nocell : ∀ y ∈ scope.names, y.2 ≠ .cell
  names : ∀ y ∈ scope.names, y.2 = .local → scope.names.lookup y.1 = some .local
  free : ∀ y ∈ scope.names, y.2 = .free → X.env.kindOf y.1 = some .cell ∨ X.env.kindOf y.1 = some .free
  cap : ∀ (i j : Nat) (x : Str), m[i]? = some (some j) → N'[i]? = some x → X.N[j]? = some x ∧ scope.names.lookup x = some .free
def PTs (X : Cx) (ifs : List Expr) (t : TT) : Prop :=
  ∀ (pins : List (Addr × Obj)) (s : Shared) (σ : St) (H : Hp) (Q : Bool → Hp → Prop), Inv X pins σ H s → t σ H Q →
    wpAny (model X.prog X.w) X.A (forIn ifs true fun c r => if r = true then do let ok ← isTrue c X.env (eval c X.env); pure (ForInStep.yield ok) else pure (ForInStep.yield r)) (TP X pins σ Q) X.xe s
def tYes : TT := fun _ H Q => Q true H
theorem pts_nil {X : Cx} : PTs X [] tYes := fun _ _ σ H _ I h => wpAny_tests_nil ⟨H, I, h⟩
theorem pts_one {X : Cx} {c : Expr} {t : TT} (h : PT X c t) : PTs X [c] t := fun pins s σ H Q I q => wpAny_tests_one (h pins s σ H Q I q)
section
variable {prog : Program} {w : World} {A : Around} {R : Result → Shared → Prop} {s : Shared}
theorem compLoop_go {elt target iter : Expr} {ifs : List Expr} {scope : Scope} {pos : Pos} {it acc : Value} {env : Env} (I : Nat → Shared → Prop)
    (turn : ∀ n s, I n s → wpAny (model prog w) A (pyNext it) (fun r s₁ => match r with
      | none => R (.ok .next) s₁
      | some v => wpAny (model prog w) A (letOwnedTupleGo target it v) (fun _ s₁' => wpAny (model prog w) A (assign target env v) (fun _ s₂ =>
          wpAny (model prog w) A (forIn ifs true fun c r => if r = true then do let ok ← isTrue c env (eval c env); pure (ForInStep.yield ok) else pure (ForInStep.yield r)) (fun ok s₃ =>
            if ok = true then wpAny (model prog w) A (eval elt env) (fun x s₄ =>
              wpAny (model prog w) A (call (.builtin "list.append") [acc, x]) (fun _ s₅ => ∃ m, m < n ∧ I m s₅) (fun _ _ => False) s₄) (fun _ _ => False) s₃
            else ∃ m, m < n ∧ I m s₃) (fun _ _ => False) s₂) (fun _ _ => False) s₁') (fun _ _ => False) s₁) (fun _ _ => False) s)
    (n : Nat) (h : I n s) :
    codeAny (model prog w) A (.compLoop (.ListComp elt [⟨target, iter, ifs, 0⟩] scope pos) 0 it acc env) R s := by
  refine codeAny_loop rfl I (fun n s hI => ?_) n h
  show wpAny _ A ((compTurn (.ListComp elt [⟨target, iter, ifs, 0⟩] scope pos) 0 it acc env).onRaise (fun x => do noteFrame x env; theTreesLotGoes x)) _ _ s
  refine wpAny_noted ?_
  rw [compTurn_list]
  have nv : ∀ {E : Value → Shared → Prop} (x : Value) (s : Shared), (fun (_ : Value) (_ : Shared) => False) x s → E x s := fun _ _ f => f.elim
  refine wpAny_bind (wpAny_standAt (wpAny_bind (wpAny_mono (turn n s hI) (fun r s₁ h₁ => ?_) nv)))
  cases r with
  | none => exact wpAny_pure h₁
  | some v =>
    refine wpAny_bind (wpAny_mono h₁ (fun _ s₁' h₁' => ?_) nv)
    refine wpAny_bind (wpAny_mono h₁' (fun _ s₂ h₂ => wpAny_bind (wpAny_mono h₂ (fun ok s₃ h₃ => ?_) nv)) nv)
    cases ok with
    | false => exact wpAny_pure ⟨rfl, h₃⟩
    | true =>
      exact wpAny_bind (wpAny_bind (wpAny_mono h₃ (fun x s₄ h₄ => wpAny_bind (wpAny_mono h₄ (fun _ s₅ h₅ => wpAny_pure (wpAny_pure ⟨rfl, h₅⟩)) nv)) nv))
end
end L2
set_option Elab.async false
set_option linter.all false
set_option maxRecDepth 100000
set_option maxHeartbeats 1000000
namespace L2
open PySem PySem.Spec PyProof.Rows
abbrev TIn (α : Type) := Shared → Hp → List Addr → α
def tComp (wi : TI) (m : List (Option Nat)) (g : TIn TG) (tc : TIn TT) (te : TIn TE) : TE := fun σ H Q => wi σ H fun J H1 => ∀ D, H1 D = none → ∀ s3 ex,
  ∃ W : Nat → Nat → St → Hp → Prop, (∃ k, W 0 k (inn m σ) (upd H1 D (.lst []))) ∧ ∀ i k σ' H', W i k σ' H' →
    (J.stop i H' ∧ Q (.ref D) H') ∨ (J.go i H' ∧ ∃ N : St → Hp → Prop, (∀ σ' H', N σ' H' → ∃ k', k' < k ∧ W (i + 1) k' σ' H') ∧
      ∀ x H2, J.yld i H' x H2 → g s3 (upd H1 D (.lst [])) ex x σ' H2 fun σ2 H3 => tc s3 (upd H1 D (.lst [])) ex σ2 H3 fun b H4 =>
        if b = true then te s3 (upd H1 D (.lst [])) ex σ2 H4 fun v H5 => ∃ xs, H5 D = some (.lst xs) ∧ xs.length < sizeLine ∧ N σ2 (upd H5 D (.lst (xs ++ [v]))) else N σ2 H4)
section
variable {X : Cx} {elt iter tg : Expr} {ifs : List Expr} {scope : Scope} {pos : Pos} {N' : List Str} {m : List (Option Nat)} {wi : TI} {g : TIn TG} {tc : TIn TT} {te : TIn TE}
theorem comp_inv {pins : List (Addr × Obj)} {σ : St} {H : Hp} {s : Shared} {fp : List Addr} {h₁ : Heap} {tk : Nat} (cs : CompScope X N' m scope) (I : Inv X pins σ H s) (f : ∀ b ∈ fp, FpOk X pins H b) (fo : ∀ b ∈ fp, b < s.heap.objs.size)
    (hns : h₁.Ns s.heap.objs.size (fun x => (([] : List (Str × Value)).reverse.lookup x))) (hk : ∀ b o, s.heap.get? b = some o → h₁.get? b = some o) :
    Inv (cxC X N' scope s H fp) [] (inn m σ) H { s with heap := h₁, toks := tk } := by
  have hfree : ∀ y ∈ scope.names, y.2 = .free → ∃ c, X.env.cells.lookup y.1 = some c := fun y hy hf => I.ok.has y.1 (cs.free y hy hf)
  have hcl : ∀ x c, (clOf X.env.cells scope.names []).lookup x = some c → X.env.cells.lookup x = some c := fun x c e => clOf_lookup e hfree
  refine ⟨⟨I.ok.mod, cs.kind, I.ok.glob, I.ok.blt, Nat.le_refl _, fun x y c e1 e2 => I.ok.inj x y c (hcl x c e1) (hcl y c e2), fun x hx => ?_, fun x c hx => (by cases hx), I.ok.hd, I.ok.frames, .inl rfl, fun b hb => ⟨Nat.ne_of_lt (fo b hb), fun x c e => (f b hb).2.2.2.2.1 x c (hcl x c e)⟩,
    fun b o e => I.bs b o e, Nat.le_trans I.ok.bsz I.sz, fun b o e hb => ?_, fun b hb z => ?_, I.stack, I.stkFree⟩,
    rfl, I.bare, Un.kept hk, ⟨_, hns, fun i x v h1 h2 h3 => ?_⟩, fun x c e => ?_, I.hok.fresh (Nat.le_refl _), fun x c e => I.freeC x c (hcl x c e), fun p hp => (by cases hp), I.hok.kept hk, ?_⟩
  · have hx' : (relabel scope X.env).names.lookup x = some .cell ∨ (relabel scope X.env).names.lookup x = some .free := hx
    have e : (relabel scope X.env).names.lookup x = (scope.names.lookup x).map fun k => if (k == NameKind.free && X.env.scope.kind == .function && X.env.kindOf x == some .cell) then NameKind.cell else k := lookup_relabel
    rw [e] at hx'
    have hf : (x, NameKind.free) ∈ scope.names := by
      cases q : scope.names.lookup x with
      | none => rw [q] at hx'; simp at hx'
      | some k =>
        rw [q] at hx'
        have hm := PySem.mem_of_lookup q
        by_cases hk2 : k = .free
        · subst hk2; exact hm
        · have hk' : (k == NameKind.free) = false := by simpa using hk2
          simp only [hk', Option.map_some, Bool.false_and, Bool.false_eq_true, if_false, Option.some.injEq] at hx'
          rcases hx' with z | z
          · exact absurd z (cs.nocell _ hm)
          · exact absurd z hk2
    obtain ⟨c, hc⟩ := clOf_has (cells := X.env.cells) (acc := []) hf
    exact lookup_some_of_mem hc
  · rcases (f b hb).2.2.2.1 with z | z
    · exact I.ok.noex b o e z
    · exact absurd (Nat.lt_of_lt_of_le (Heap.lt_size (I.ok.bs b o e).1) z) (Nat.lt_irrefl _)
  · rcases List.mem_cons.mp (I.stkSub b z) with q | q
    · exact (f b hb).2.1 q
    · exact (f b hb).2.2.1 q
  · unfold inn at h2
    rw [List.getElem?_map] at h2
    cases q : m[i]? with
    | none => rw [q] at h2; cases h2
    | some o =>
      rw [q] at h2
      cases o with
      | none => cases h2
      | some j =>
        simp only [Option.map_some, Option.some.injEq] at h2
        have h2' : σ[j]? = some (some v) := by
          cases z : σ[j]? with
          | none => rw [z] at h2; cases h2
          | some a => rw [z] at h2; simp at h2; rw [h2]
        obtain ⟨hN, hfr⟩ := cs.cap i j x q h1
        have hfm := PySem.mem_of_lookup hfr
        obtain ⟨m0, hn0, hl⟩ := I.loc
        have hkind := cs.free _ hfm rfl
        have hvis : Vis X.env.scope x := hkind.elim (fun z => .inr (.inl z)) (fun z => .inr (.inr z))
        obtain ⟨u, ru, lu⟩ := hl j x v hN h2' hvis
        refine ⟨u, ru, .inr ⟨?_, ?_⟩⟩
        · show (relabel scope X.env).names.lookup x = some .cell ∨ (relabel scope X.env).names.lookup x = some .free
          have e : (relabel scope X.env).names.lookup x = (scope.names.lookup x).map fun k => if (k == NameKind.free && X.env.scope.kind == .function && X.env.kindOf x == some .cell) then NameKind.cell else k := lookup_relabel
          rw [e, hfr]
          simp only [Option.map_some]
          split
          · exact .inl rfl
          · exact .inr rfl
        · rcases lu with ⟨k, _⟩ | ⟨_, c, e, z⟩
          · rcases hkind with z | z <;> · rw [k] at z; cases z
          · obtain ⟨c', hc'⟩ := lookup_some_of_mem (clOf_has (cells := X.env.cells) (acc := []) hfm).choose_spec
            have := hcl x c' hc'
            rw [e] at this
            cases this
            obtain ⟨oc, hoc, hd⟩ := z
            exact ⟨c, hc', oc, hk c oc hoc, hd⟩
  · obtain ⟨v, oc, hoc, hd⟩ := I.cell x c (hcl x c e)
    exact ⟨v, oc, hk c oc hoc, hd⟩
  · show (inn m σ).length = N'.length
    unfold inn
    rw [List.length_map, cs.len]
theorem comp_core {use : Option (Value → Sem Unit)} {Q' : Value → Shared → Prop} {pins : List (Addr × Obj)} {s : Shared} {σ : St} {H : Hp} {Q : VK}
    (hc : X.calm = true) (cs : CompScope X N' m scope) (hi : PI X tg iter wi) (hg : ∀ s3 H3 ex, PG (cxC X N' scope s3 H3 ex) tg (g s3 H3 ex)) (ht : ∀ s3 H3 ex, PTs (cxC X N' scope s3 H3 ex) ifs (tc s3 H3 ex))
    (he : ∀ s3 H3 ex, PE (cxC X N' scope s3 H3 ex) elt (te s3 H3 ex)) (I : Inv X pins σ H s) (h : tComp wi m g tc te σ H Q)
    (fin : ∀ D C s' H', Inv X pins σ H' s' → FpOk X pins H' C → (∃ m, s'.heap.Ns C m) → Q (.ref D) H' → compPost (model X.prog X.w) X.A X.xe use Q' (.ref D) C (.ok .next) s') :
    wpAny (model X.prog X.w) X.A (eval iter X.env) (fun x s₁ => wpAny (model X.prog X.w) X.A (pyIter x) (fun it s₂ => wpAny (model X.prog X.w) X.A (newList []) (fun acc s₃ =>
      wpAny (model X.prog X.w) X.A (newFunctionEnv scope X.env.globals (clOf X.env.cells scope.names []) [] X.env.qual none .none (some X.env)) (fun cenv s₄ =>
        codeAny (model X.prog X.w) X.A (.compStart (.ListComp elt [⟨tg, iter, ifs, 0⟩] scope pos) 0 it acc { cenv with scope := relabel scope X.env }) (compPost (model X.prog X.w) X.A X.xe use Q' acc cenv.locals) s₄) X.xe s₃) X.xe s₂) X.xe s₁) X.xe s := by
  refine thn (hi pins s σ H _ I h) fun v s1 h1 => thn h1 fun itv s2 h2 => ?_
  obtain ⟨it, fp, tn, J, H2, e, I2, T, st2, f2, h⟩ := h2
  subst e
  refine wpAny_newObj_type (wpAny_newFunctionEnv cs.nocell (by intro y hy; simp at hy) (fun h₁ hns₁ hsb₁ => ?_) cs.kind)
  have hf : H2 s2.heap.objs.size = none := I2.hok.fresh (Nat.le_refl _)
  obtain ⟨W, ⟨k0, w0⟩, turn⟩ := h s2.heap.objs.size hf { s2 with heap := s2.heap.push { cls := .type "list", data := .seq ([] : List Value).toArray } } fp
  have I3 : Inv X pins σ (upd H2 s2.heap.objs.size (.lst [])) { s2 with heap := s2.heap.push { cls := .type "list", data := .seq ([] : List Value).toArray } } := I2.lnew (its := []) (t' := s2.toks) .nil (by simp)
  have fpO : ∀ b ∈ fp, b < s2.heap.objs.size := fun b hb => by
    obtain ⟨o, e, _⟩ := T.obj _ _ st2 b hb
    exact Heap.lt_size e
  have f3 : ∀ b ∈ fp, FpOk X pins (upd H2 s2.heap.objs.size (.lst [])) b := fun b hb => ⟨by rw [upd_ne (Nat.ne_of_lt (fpO b hb))]; exact (f2 b hb).1, (f2 b hb).2⟩
  generalize hs3 : ({ s2 with heap := s2.heap.push { cls := .type "list", data := .seq ([] : List Value).toArray } } : Shared) = s3 at *
  have hC : s3.heap.objs.size = s2.heap.objs.size + 1 := by rw [← hs3]; exact Heap.size_push ..
  have fp3 : ∀ b ∈ fp, b < s3.heap.objs.size := fun b hb => by rw [hC]; exact Nat.lt_succ_of_lt (fpO b hb)
  have k3 : ∀ b o, s2.heap.get? b = some o → s3.heap.get? b = some o := fun b o e => by rw [← hs3]; exact Heap.get?_push_of_some _ e
  have k1 : ∀ b o, s3.heap.get? b = some o → h₁.get? b = some o := fun b o e => hsb₁.extBut b o (Nat.ne_of_lt (Heap.lt_size e)) (Heap.get?_push_of_some _ e)
  have J0 := comp_inv (tk := s3.toks + ([] : List (Str × Value)).length) cs I3 f3 fp3 hns₁ k1
  have st1 : tn 0 h₁ := T.keep _ _ _ st2 fun b _ o e => k1 b o (k3 b o e)
  have fpY : ∀ {H' : Hp}, (∀ b ∈ fp, H' b = none) → ∀ b ∈ fp, FpOk (cxC X N' scope s3 (upd H2 s2.heap.objs.size (.lst [])) fp) [] H' b := fun hn b hb =>
    ⟨hn b hb, Nat.ne_of_lt (fp3 b hb), J0.ok.exfs b hb, .inl hb, (J0.ok.exf b hb).2, fun p hp => by cases hp⟩
  have hfr : ∀ b ∈ fp, (upd H2 s2.heap.objs.size (.lst [])) b = none := fun b hb => (f3 b hb).1
  have loop : codeAny (model X.prog X.w) X.A (.compLoop (.ListComp elt [⟨tg, iter, ifs, 0⟩] scope pos) 0 (.ref it) (.ref s2.heap.objs.size) (compEnvC scope (clOf X.env.cells scope.names []) s3.heap.objs.size X.env))
      (compPost (model X.prog X.w) X.A X.xe use Q' (.ref s2.heap.objs.size) s3.heap.objs.size) { s3 with heap := h₁, toks := s3.toks + ([] : List (Str × Value)).length } := by
    refine compLoop_go (fun n s' => ∃ i σ' H', Inv (cxC X N' scope s3 (upd H2 s2.heap.objs.size (.lst [])) fp) [] σ' H' s' ∧ tn i s'.heap ∧ (∀ b ∈ fp, H' b = none) ∧ W i n σ' H') ?_ k0 ⟨0, _, _, J0, st1, hfr, w0⟩
    rintro n s4 ⟨i, σ4, H4, I4, st4, fr4, w4⟩
    rcases turn i n σ4 H4 w4 with ⟨stop, qn⟩ | ⟨go, N, hN, step⟩
    · refine thn (T.done (cxC X N' scope s3 (upd H2 s2.heap.objs.size (.lst [])) fp) rfl rfl rfl hc i [] s4 σ4 H4 _ I4 (fpY fr4) st4 stop) fun r s5 ⟨hr, I5⟩ => ?_
      subst hr
      have hch : ∀ b ∈ fp, (b ∈ X.ex ∨ X.s₀.heap.objs.size ≤ b) ∧ b ≠ X.env.locals ∧ (∀ x c, X.env.cells.lookup x = some c → c ≠ b) ∧ ∀ p ∈ X.pn ++ pins, p.1 ≠ b := fun b hb => ⟨(f2 b hb).2.2.2.1, (f2 b hb).2.1, (f2 b hb).2.2.2.2.1, (f2 b hb).2.2.2.2.2⟩
      have I6 : Inv X pins σ H4 s5 := I3.call' (ch := fp) I5.os I5.base I5.hok I5.bare hch
      obtain ⟨m5, hn5, _⟩ := id I5.loc
      exact fin _ _ s5 H4 I6 (I3.fpOk (Nat.le_refl _) I5.free) ⟨m5, hn5⟩ qn
    · refine thn (T.item (cxC X N' scope s3 (upd H2 s2.heap.objs.size (.lst [])) fp) rfl rfl rfl hc i [] s4 σ4 H4 _ I4 (fpY fr4) st4 go) fun r s5 ⟨u, hr, h5⟩ => ?_
      subst hr
      refine thn h5 fun _ s6 ⟨x, H6, I6, r6, y6, st6, fr6⟩ => ?_
      have I6' := I6.pinned (fpY fr6) (T.obj _ _ st6)
      refine thn (hg _ _ _ _ s6 σ4 H6 x u _ I6' r6 (step x H6 y6)) fun _ s7 ⟨σ7, H7, I7, q7⟩ => ?_
      refine thn (ht _ _ _ _ s7 σ7 H7 _ I7 q7) fun b s8 ⟨H8, I8, q8⟩ => ?_
      have again : ∀ {s9 : Shared} {σ9 : St} {H9 : Hp}, Inv (cxC X N' scope s3 (upd H2 s2.heap.objs.size (.lst [])) fp) ([] ++ pinsAt fp s6.heap) σ9 H9 s9 → N σ9 H9 → ∃ m, m < n ∧ ∃ i σ' H', Inv (cxC X N' scope s3 (upd H2 s2.heap.objs.size (.lst [])) fp) [] σ' H' s9 ∧ tn i s9.heap ∧ (∀ b ∈ fp, H' b = none) ∧ W i m σ' H' := fun {s9 σ9 H9} I9 n9 => by
        obtain ⟨m', hm, w9⟩ := hN σ9 H9 n9
        refine ⟨m', hm, i + 1, σ9, H9, I9.unpinned, T.keep _ _ _ st6 fun b hb o e => (I9.pin (b, o) (List.mem_append_right _ (List.mem_append_right _ (mem_pinsAt hb e)))).1, fun b hb => ?_, w9⟩
        obtain ⟨o, e, d⟩ := T.obj _ _ st6 b hb
        exact (I9.pin (b, o) (List.mem_append_right _ (List.mem_append_right _ (mem_pinsAt hb e)))).2.1
      cases b with
      | false => exact again I8 q8
      | true =>
        rw [if_pos rfl]
        refine thn (he _ _ _ _ s8 σ7 H8 _ I8 q8) fun y s9 ⟨v9, H9, I9, r9, xs, hD, hz, q9⟩ => ?_
        refine thn (mt_append _ s9 σ7 H9 (.ref s2.heap.objs.size) [v9] (.ref s2.heap.objs.size) [y] (fun _ H' => N σ7 H') I9 rfl (.cons r9 .nil) ⟨_, xs, v9, rfl, rfl, hD, hz, q9⟩) fun _ s10 ⟨_, H10, I10, _, q10⟩ => ?_
        exact again I10 q10
  exact codeAny_compStart_list loop (T.self _ 0 _ _ _ st1 loop)
theorem pe_comp (hc : X.calm = true) (cs : CompScope X N' m scope) (hi : PI X tg iter wi) (hg : ∀ s3 H3 ex, PG (cxC X N' scope s3 H3 ex) tg (g s3 H3 ex)) (ht : ∀ s3 H3 ex, PTs (cxC X N' scope s3 H3 ex) ifs (tc s3 H3 ex))
    (he : ∀ s3 H3 ex, PE (cxC X N' scope s3 H3 ex) elt (te s3 H3 ex)) (hs : ∀ x, foldedSetIterable iter X.env x = pure x := by intro _; rfl) : PE X (.ListComp elt [⟨tg, iter, ifs, 0⟩] scope pos) (tComp wi m g tc te) := by
  intro pins s σ H Q I h
  rw [eval_ListComp]
  have hfree : ∀ y ∈ scope.names, y.2 = .free → ∃ c, X.env.cells.lookup y.1 = some c := fun y hy hf => I.ok.has y.1 (cs.free y hy hf)
  refine wpAny_comprehension_free (use := none) rfl hs (closure_of hfree) cs.kind cs.names (comp_core hc cs hi hg ht he I h fun D C s' H' I' fC ⟨mC, hn⟩ q => ?_)
  refine ⟨mC, hn, fun h' sb => ⟨.ref D, H', I'.turned (t' := s'.toks) (fun b o hb e => (sb.2 b hb).trans e) fC.1 fC.2.1 fC.2.2.2.1 fC.2.2.2.2.1 fC.2.2.2.2.2, rfl, q⟩⟩
theorem ps_setC {i : Nat} {x : Str} {pos' posS : Pos} (hN : X.N.Nodup) (hix : X.N[i]? = some x) (hx : Loc X.env.scope x)
    (hc : X.calm = true) (cs : CompScope X N' m scope) (hi : PI X tg iter wi) (hg : ∀ s3 H3 ex, PG (cxC X N' scope s3 H3 ex) tg (g s3 H3 ex)) (ht : ∀ s3 H3 ex, PTs (cxC X N' scope s3 H3 ex) ifs (tc s3 H3 ex))
    (he : ∀ s3 H3 ex, PE (cxC X N' scope s3 H3 ex) elt (te s3 H3 ex)) (hs : ∀ x, foldedSetIterable iter X.env x = pure x := by intro _; rfl)
    (hsw : swapsWith (.ListComp elt [⟨tg, iter, ifs, 0⟩] scope pos) (some (.Name x pos')) posS.line X.env = pure true := by rfl)
    (hf : X.fn x = true ∨ X.env.scope.names.lookup x = some .local := by first | exact .inl rfl | exact .inr rfl | assumption) :
    PS X (.Assign [.Name x pos'] (.ListComp elt [⟨tg, iter, ifs, 0⟩] scope pos) posS) (tAsg (tComp wi m g tc te) (gName i)) := by
  intro pins s σ H D I h
  have hfree : ∀ y ∈ scope.names, y.2 = .free → ∃ c, X.env.cells.lookup y.1 = some c := fun y hy hf => I.ok.has y.1 (cs.free y hy hf)
  rw [exec_Assign_Name_used _ _ _ _ hsw]
  refine wpAny_bind (wpAny_standAt (wpAny_bind ?_))
  show wpAny _ _ (do let _ ← comprehension (.ListComp elt [⟨tg, iter, ifs, 0⟩] scope pos) scope X.env _ (newList []) false (eval iter X.env) (some (assign (.Name x pos') X.env))) _ _ s
  refine wpAny_bind (wpAny_mono (wpAny_comprehension_free (use := some (assign (.Name x pos') X.env)) (Q := fun _ s' => SP X pins D .next s') rfl hs (closure_of hfree) cs.kind cs.names (comp_core hc cs hi hg ht he I h fun A C s' H' I' fC ⟨mC, hn⟩ q => ?_)) (fun _ s' hq => wpAny_pure (wpAny_pure hq)) fun _ _ e => e)
  show wpAny _ _ (assign (.Name x pos') X.env (.ref A)) _ _ _
  refine wpAny_assign_Name (store_ok2 I' hN hix hx (show RelV (.ref A) (.ref A) from rfl) (fun s2 I2 hsb => ?_) hf)
  obtain ⟨a, sba, ha⟩ := hsb
  have hCa : C ≠ a := by
    rcases ha with rfl | ha
    · exact fC.2.1
    · exact fun z => fC.2.2.2.2.1 x a ha z.symm
  refine ⟨mC, hn.sameBut sba hCa, fun h' sb => ⟨_, H', I2.turned (t' := s2.toks) (fun b o hb e => (sb.2 b hb).trans e) fC.1 fC.2.1 fC.2.2.2.1 fC.2.2.2.2.1 fC.2.2.2.2.2, q⟩⟩
end
end L2
set_option Elab.async false
set_option linter.all false
set_option maxRecDepth 100000
set_option maxHeartbeats 1000000
namespace L2
open PySem PySem.Spec PyProof.Rows
theorem small2 : 2 ≤ sizeLine := by decide
theorem Inv.turnedS {X : Cx} {pins : List (Addr × Obj)} {σ : St} {H : Hp} {s : Shared} {h' : Heap} {t' : Nat} {fp : List Addr} (I : Inv X pins σ H s) (k : ∀ b o, b ∉ fp → s.heap.get? b = some o → h'.get? b = some o) (f : ∀ b ∈ fp, FpOk X pins H b) :
    Inv X pins σ H { s with heap := h', toks := t' } := by
  have nit : ∀ b u, H b = some u → b ∉ fp := fun b u e z => by rw [(f b z).1] at e; cases e
  refine I.step (g' := s.gens) (d' := s.drawn) (ch := fp) (fun b hb => ⟨(f b hb).2.2.2.1, (f b hb).2.1, (f b hb).2.2.2.2.1, (f b hb).2.2.2.2.2⟩) (fun b o _ _ hc e _ => k b o hc e) (fun b o _ _ hc e _ => ⟨o.slots, k b o hc e⟩) (fun _ _ _ _ n => n)
    (fun b o hc e => ⟨o, k b o hc e⟩) (fun _ _ e => e) (fun _ _ _ e => e) (fun b ps e => ⟨#[], by rw [e]; simp⟩) (fun m hm => ?_) (fun b u e => ?_) I.bare
  · obtain ⟨o, es, ep, ho, r⟩ := hm
    exact ⟨o, es, ep, k _ o (fun z => (f _ z).2.1 rfl) ho, r⟩
  · refine (I.hok b u e).stay (fun c v hc q => k c v ?_ q) (fun _ q => q) fun _ _ q => q
    rcases hc with z | z
    · rw [z]; exact nit b u e
    · exact nit c _ z
theorem Inv.turnedNew {X : Cx} {pins : List (Addr × Obj)} {σ : St} {H : Hp} {s : Shared} {h' : Heap} {t' : Nat} {fp : List Addr} {a : Addr} {o : HO} (I : Inv X pins σ H s) (k : ∀ b o, b ∉ fp → s.heap.get? b = some o → h'.get? b = some o) (f : ∀ b ∈ fp, FpOk X pins H b)
    (hp : s.heap.objs.size ≤ a) (new : ObjOk X.prog X.w (upd H a o) h' a o) : Inv X pins σ (upd H a o) { s with heap := h', toks := t' } := by
  have hfree : H a = none := I.hok.fresh hp
  have nit : ∀ b u, H b = some u → b ∉ fp := fun b u e z => by rw [(f b z).1] at e; cases e
  refine I.step (g' := s.gens) (d' := s.drawn) (ch := fp) (fun b hb => ⟨(f b hb).2.2.2.1, (f b hb).2.1, (f b hb).2.2.2.2.1, (f b hb).2.2.2.2.2⟩) (fun b o _ _ hc e _ => k b o hc e) (fun b o _ _ hc e _ => ⟨o.slots, k b o hc e⟩)
    (fun b o _ q n => by rw [upd_ne (Nat.ne_of_lt (Nat.lt_of_lt_of_le (Heap.lt_size q) hp))]; exact n)
    (fun b o hc e => ⟨o, k b o hc e⟩) (fun b zs q => by rw [upd_ne (ne_of_none q hfree)]; exact q) (fun b ob zs q => by rw [upd_ne (ne_of_none q hfree)]; exact q) (fun b ps q => ⟨#[], by rw [upd_ne (ne_of_none q hfree), q]; simp⟩) (fun m hm => ?_) (fun b u q => ?_) I.bare
  · obtain ⟨o, es, ep, ho, r⟩ := hm
    exact ⟨o, es, ep, k _ o (fun z => (f _ z).2.1 rfl) ho, r⟩
  · by_cases hb : b = a
    · subst hb; rw [upd_same] at q; cases q; exact new
    · rw [upd_ne hb] at q
      refine (I.hok b u q).stay (fun c v hc z => k c v ?_ z) (fun c z => by rw [upd_ne (ne_of_none z hfree)]; exact z) fun c zs z => by rw [upd_ne (ne_of_none z hfree)]; exact z
      rcases hc with rfl | hc
      · exact nit _ _ q
      · exact nit _ _ hc
def Its (x : Str) : It := ⟨fun i _ => i < x.cps.size, fun i H v H' => H' = H ∧ ∃ c, x.cps[i]? = some c ∧ v = .str ⟨#[c]⟩, fun i _ => i = x.cps.size⟩
theorem turn_str {P : Program} {w : World} {K : PySem.W.Frag} {tg : Expr} {x : Str} {it : Addr} {n : String} {t : Tok} (hn : ["enumerate", "zip", "dict_itemiterator", "dict_reverseitemiterator", "odict_iterator", "itertools.zip_longest", "itertools.pairwise"].contains n = false)
    (W : ∀ A' : Around, A'.handled = none → Walks P w A' it [it] [it] x.cps.size (SignAt x) (fun i h => h.IsStrIter it n x t i))
    (hs : ∀ (A : Around) (i : Nat) (s : Shared) (Q : Value → Shared → Prop) (E : Value → Shared → Prop), s.heap.IsStrIter it n x t i → Q (.ref it) s → wpAny (model P w) A (pyIter (.ref it)) Q E s) : Turn P w K tg (Its x) [it] it (fun i h => h.IsStrIter it n x t i) where
  mem := by simp
  obj := fun i h st b hb => by
    have e : b = it := by simpa using hb
    subst e
    obtain ⟨o, e, c, d⟩ := st
    exact ⟨o, e, fun v z => by rw [d] at z; cases z⟩
  keep := fun i h h' st k => by
    obtain ⟨o, e, r⟩ := st
    exact ⟨o, k it (by simp) o e, r⟩
  item := by
    intro X hP hw hK hc i pins s σ H E I hf st hg
    subst hP hw hK
    refine (W X.A (I.ok.hd hc)).item i s _ _ hg st fun v h' tk hv st' kk => ?_
    obtain ⟨c, u, hx, rfl⟩ := hv
    have I1 : Inv X pins σ H { s with heap := h', toks := tk } := I.turnedS kk hf
    obtain ⟨o, e, c', d⟩ := id st'
    exact ⟨_, rfl, go_of (s := { s with heap := h', toks := tk }) e c' d hn ⟨.str ⟨#[c]⟩, H, I1, ⟨u, rfl⟩, ⟨rfl, c, hx, rfl⟩, st', fun b hb => (hf b hb).1⟩⟩
  done := by
    intro X hP hw hK hc i pins s σ H E I hf st hg
    subst hP hw hK
    have e : i = x.cps.size := hg
    subst e
    exact (W X.A (I.ok.hd hc)).done s _ _ st fun h' tk kk => ⟨rfl, I.turnedS kk hf⟩
  self := hs
section
variable {X : Cx} {tg : Expr}
theorem str_it {pins : List (Addr × Obj)} {σ : St} {H : Hp} {s : Shared} {R : It → Hp → Prop} {E : Value → Shared → Prop} {x : Str} {t : Tok} (I : Inv X pins σ H s) (q : R (Its x) H) :
    wpAny (model X.prog X.w) X.A (pyIter (.str x t)) (PIE X pins σ tg R) E s := by
  have fin : ∀ (o : Obj) (n : String), (hn : ["enumerate", "zip", "dict_itemiterator", "dict_reverseitemiterator", "odict_iterator", "itertools.zip_longest", "itertools.pairwise"].contains n = false) →
      (W : ∀ A' : Around, A'.handled = none → Walks X.prog X.w A' s.heap.objs.size [s.heap.objs.size] [s.heap.objs.size] x.cps.size (SignAt x) (fun i h => h.IsStrIter s.heap.objs.size n x t i)) →
      (hs : ∀ (A : Around) (i : Nat) (s' : Shared) (Q : Value → Shared → Prop) (E : Value → Shared → Prop), s'.heap.IsStrIter s.heap.objs.size n x t i → Q (.ref s.heap.objs.size) s' → wpAny (model X.prog X.w) A (pyIter (.ref s.heap.objs.size)) Q E s') →
      (s.heap.push o).IsStrIter s.heap.objs.size n x t 0 → PIE X pins σ tg R (.ref s.heap.objs.size) { s with heap := s.heap.push o } := fun o n hn W hs st => by
    refine ⟨s.heap.objs.size, [s.heap.objs.size], _, _, H, rfl, I.kept (t' := s.toks) fun b o e => Heap.get?_push_of_some _ e, turn_str hn W hs, st, fun b hb => ?_, q⟩
    have e : b = s.heap.objs.size := by simpa using hb
    subst e
    exact I.fpOk (Nat.le_refl _) (I.hok.fresh (Nat.le_refl _))
  cases ha : x.cps.all (· < 128)
  · exact wpAny_pyIter_wide ha (fin _ _ (by decide) (fun A' hA => Walks.strWide hA _ x t) (fun _ _ _ _ _ st q => wpAny_pyIter_striter_wide st q) ⟨_, Heap.get?_push_size _ rfl, rfl, rfl⟩)
  · exact wpAny_pyIter_ascii ha (fin _ _ (by decide) (fun A' hA => Walks.strAscii hA _ x t) (fun _ _ _ _ _ st q => wpAny_pyIter_striter_ascii st q) ⟨_, Heap.get?_push_size _ rfl, rfl, rfl⟩)
def iSeq (K : PySem.W.Frag) (tl : TE) : TI := fun σ H R => tl σ H fun x H1 => (∃ a, x = .ref a ∧ (∃ xs, SqL K H1 a xs) ∧ R (Itl K a) H1) ∨ (∃ a, x = .ref a ∧ (∃ xs, SqT K H1 a xs) ∧ R (Itt K a) H1) ∨ (∃ z, x = .str z ∧ R (Its z) H1)
theorem pi_seq {l : Expr} {tl : TE} (hl : PE X l tl) : PI X tg l (iSeq X.K tl) := by
  intro pins s σ H R I h
  refine thn (hl pins s σ H _ I h) fun v s1 ⟨x, H1, I1, r1, q1⟩ => ?_
  rcases q1 with ⟨a, e, ⟨xs, hq⟩, q⟩ | ⟨a, e, ⟨xs, hq⟩, q⟩ | ⟨z, e, q⟩
  · subst e
    cases r1
    obtain ⟨its, rv, p, hz⟩ := I1.list hq
    refine wpAny_pyIter_list p.isList ?_
    refine ⟨s1.heap.objs.size, [s1.heap.objs.size], _, _, H1, rfl, I1.kept (t' := s1.toks) fun b o e => Heap.get?_push_of_some _ e, turn_list a _, ⟨_, Heap.get?_push_size _ rfl, rfl, rfl⟩, fun b hb => ?_, q⟩
    have e : b = s1.heap.objs.size := by simpa using hb
    subst e
    exact I1.fpOk (Nat.le_refl _) (I1.hok.fresh (Nat.le_refl _))
  · subst e
    cases r1
    obtain ⟨its, rv, p, hz⟩ := I1.tuple hq
    refine wpAny_pyIter_tuple (show s1.heap.IsTuple a its.toArray from p) ?_
    refine ⟨s1.heap.objs.size, [s1.heap.objs.size], _, _, H1, rfl, I1.kept (t' := s1.toks) fun b o e => Heap.get?_push_of_some _ e, turn_tuple a _, ⟨_, Heap.get?_push_size _ rfl, rfl, rfl⟩, fun b hb => ?_, q⟩
    have e : b = s1.heap.objs.size := by simpa using hb
    subst e
    exact I1.fpOk (Nat.le_refl _) (I1.hok.fresh (Nat.le_refl _))
  · subst e
    obtain ⟨t, rfl⟩ := r1
    exact str_it I1 q
end
def Ite (K : PySem.W.Frag) (a : Addr) : It :=
  ⟨fun i H => ∃ xs x, SqL K H a xs ∧ xs[i]? = some x, fun i H v H' => ∃ t, v = .ref t ∧ H t = none ∧ ∀ xs, SqL K H a xs → ∃ x, xs[i]? = some x ∧ H' = upd H t (.tup [.int i, x]), fun i H => ∃ xs, SqL K H a xs ∧ xs.length ≤ i⟩
theorem upd_fp {H : Hp} {t : Addr} {o : HO} {fp : List Addr} (h : ∀ b ∈ fp, H b = none) (ht : ∀ b ∈ fp, b ≠ t) : ∀ b ∈ fp, upd H t o b = none := fun b hb => by rw [upd_ne (ht b hb)]; exact h b hb
theorem letGo_enum {prog : Program} {w : World} {A : Around} {E : Value → Shared → Prop} {s : Shared} {elts : List Expr} {x1} {pos : Pos} {e it T : Addr} {i : Int} {old : Value} {Q : Unit → Shared → Prop} (he : IsEnumOut s.heap e it i old T)
    (hQ : ∀ h', IsEnum h' e it i old → Heap.SameBut e s.heap h' → Q () { s with heap := h' }) :
    wpAny (model prog w) A (letOwnedTupleGo (.Tuple elts x1 pos) (.ref e) (.ref T)) Q E s := by
  unfold letOwnedTupleGo
  refine wpAny_bind (wpAny_load he ?_)
  show wpAny _ _ (if (["enumerate", "zip", "dict_itemiterator", "dict_reverseitemiterator", "odict_iterator", "itertools.zip_longest", "itertools.pairwise"].contains "enumerate" &&
      (#[rawInt T, .bool false, .ref it, rawInt i, .none, old] : Array Value)[0]? == some (rawInt T)) = true then _ else _) Q E s
  rw [if_pos (by simp)]
  refine wpAny_bind (wpAny_rule ?_)
  show wpAny _ _ (setField (.ref e) 0 .none) Q E s
  exact wpAny_setField_rec he (by simp) fun h' hz' hs' => hQ h' hz' hs'
theorem turn_enum {P : Program} {w : World} {K : PySem.W.Frag} {elts : List Expr} {x1} {pos : Pos} (a e it : Addr) (hne : e ≠ it) : Turn P w K (.Tuple elts x1 pos) (Ite K a) [e, it] e (fun i h => (∃ old, IsEnum h e it i old) ∧ h.IsListIter it a i) where
  mem := by simp
  obj := fun i h st b hb => by
    obtain ⟨⟨old, h1⟩, o, h2, c, d⟩ := st
    rcases List.mem_cons.mp hb with rfl | hb
    · exact ⟨_, h1, fun v z => by have z' : Data.fields _ = Data.cell v := z; cases z'⟩
    · have e : b = it := by simpa using hb
      subst e
      exact ⟨o, h2, fun v z => by rw [d] at z; cases z⟩
  keep := fun i h h' st k => by
    obtain ⟨⟨old, h1⟩, h2⟩ := st
    exact ⟨⟨old, k e (by simp) _ h1⟩, h2.at fun o q => k it (by simp) o q⟩
  item := by
    intro X hP hw hK hc i pins s σ H E I hf st hg
    subst hP hw hK
    obtain ⟨xs, x, hq, hx⟩ := hg
    obtain ⟨its, rv, p, hz⟩ := I.list hq
    obtain ⟨u, hu, ru⟩ := rv.get hx
    obtain ⟨⟨old, h1⟩, h2⟩ := st
    refine wpAny_pyNext_enum_item h1 h2 p.isList (x := u) (by simpa using hu) hne fun h' e1 e2 e3 e4 kk => ?_
    refine ⟨_, rfl, letGo_enum e1 fun h'' e5 sb => ?_⟩
    have hte : s.heap.objs.size ≠ e := Nat.ne_of_gt (Heap.lt_size h1)
    have hti : s.heap.objs.size ≠ it := by obtain ⟨o, q, _⟩ := h2; exact Nat.ne_of_gt (Heap.lt_size q)
    have hT : h''.get? s.heap.objs.size = some { cls := .type "tuple", data := .seq #[.int i s.toks, u] } := sb.extBut _ _ hte e3
    have hfree : H s.heap.objs.size = none := I.hok.fresh (Nat.le_refl _)
    have new : ObjOk X.prog X.w (upd H s.heap.objs.size (.tup [.int i, x])) h'' s.heap.objs.size (.tup [.int i, x]) := ⟨small2, [.int i s.toks, u], .cons ⟨_, rfl⟩ (.cons ru .nil), ⟨_, hT, rfl, _, rfl⟩⟩
    refine ⟨.ref s.heap.objs.size, upd H s.heap.objs.size (.tup [.int i, x]), I.turnedNew (fp := [e, it]) (fun b o hb q => sb.extBut b o (fun z => hb (by simp [z])) (kk b o (fun z => hb (by simp [z])) (fun z => hb (by simp [z])) q)) hf (Nat.le_refl _) new, rfl,
      ⟨_, rfl, hfree, fun ys hy => ⟨x, by rw [I.list_inj hy hq]; exact hx, rfl⟩⟩, ⟨⟨u, e5⟩, e2.extBut sb.extBut (Ne.symm hne)⟩, upd_fp (fun b hb => (hf b hb).1) fun b hb => ?_⟩
    rcases List.mem_cons.mp hb with rfl | hb
    · exact hte.symm
    · have z : b = it := by simpa using hb
      rw [z]; exact hti.symm
  done := by
    intro X hP hw hK hc i pins s σ H E I hf st hg
    subst hP hw hK
    obtain ⟨xs, hq, hx⟩ := hg
    obtain ⟨its, rv, p, hz⟩ := I.list hq
    obtain ⟨⟨old, h1⟩, h2⟩ := st
    have hl := rv.length
    exact wpAny_pyNext_enum_end (I.ok.hd hc) h1 h2 p.isList (by simp; omega) fun h' eb => ⟨rfl, I.turnedS (fp := [e, it]) (t' := s.toks) (fun b o hb q => eb b o (fun z => hb (by simp [z])) q) hf⟩
  self := fun _ _ _ _ _ st h => by
    obtain ⟨⟨old, h1⟩, _⟩ := st
    exact wpAny_pyIter_enum h1 h
end L2
set_option Elab.async false
set_option linter.all false
set_option maxRecDepth 100000
set_option maxHeartbeats 1000000
namespace L2
open PySem PySem.Spec PyProof.Rows
section
variable {X : Cx} {elts : List Expr} {x1 : Nat} {tpos : Pos}
def iEnum (K : PySem.W.Frag) (ta : TA) : TI := fun σ H R => ta σ H fun vs H1 => ∃ a xs, vs = [.ref a] ∧ RdL K H1 a xs ∧ R (Ite K a) H1
theorem pi_enum {a : Expr} {ta : TA} {p pos : Pos} (hg : Gl X "enumerate") (hm : X.mg "enumerate" = none) (ha : PA X [a] ta) (hs : starEach [a] X.env = [(false, eval a X.env)] := by rfl) : PI X (.Tuple elts x1 tpos) (.Call (.Name "enumerate" p) [a] [] pos) (iEnum X.K ta) := by
  intro pins s σ H R I h
  refine Call_ (ld_blt I hg hm boot_enumerate (PyProof.Rows.callWith_type1 (thn (ha pos pins s σ H _ I h) fun us s1 ⟨vs, H1, I1, r1, q1⟩ => ?_) hs rfl))
  obtain ⟨l, xs, e, hl, q⟩ := q1
  subst e
  obtain ⟨u, rfl, ru⟩ := vals1 r1
  cases ru
  obtain ⟨z, its, n, r, e⟩ := I1.rdl hl
  refine call_enumerate_1 e fun h' e1 e2 e3 kk => ?_
  refine wpAny_pyIter_enum e1 ?_
  have hne : s1.heap.objs.size + 1 ≠ s1.heap.objs.size := by omega
  refine ⟨s1.heap.objs.size + 1, [s1.heap.objs.size + 1, s1.heap.objs.size], _, _, H1, rfl, I1.kept (t' := s1.toks) kk, turn_enum l _ _ hne, ⟨⟨_, e1⟩, e2⟩, fun b hb => ?_, q⟩
  have hb' : s1.heap.objs.size ≤ b := by
    rcases List.mem_cons.mp hb with rfl | hb
    · exact Nat.le_succ _
    · have e : b = s1.heap.objs.size := by simpa using hb
      exact Nat.le_of_eq e.symm
  exact I1.fpOk hb' (I1.hok.fresh hb')
end
end L2
set_option Elab.async false
set_option linter.all false
set_option maxRecDepth 100000
set_option maxHeartbeats 1000000
namespace L2
open PySem PySem.Spec PyProof.Rows
inductive D where
  | non | bl (b : Bool) | int (i : Int) | str (x : Str) | tup (ds : List D) | lst (ds : List D) | obj (cn : Str) (fs : List (Str × D)) | dic (kvs : List (Key × D)) | dit (kvs : List (List Key × D))
structure ClsAt (K : PySem.W.Frag) (cn : Str) (C : Addr) : Prop where
  at_ : PySem.W.nsIn K mainGlobals cn = some (some (.ref C))
  cls : Cls K C
def KeyIn (H : Hp) : List (List Key × V) → List Addr → Prop
  | [], [] => True
  | p :: ps, b :: bs => H b = some (.tup (p.1.map kV)) ∧ KeyIn H ps bs
  | _, _ => False
theorem KeyIn.mono {H H' : Hp} (e : Same H H') : ∀ {ps : List (List Key × V)} {bs : List Addr}, KeyIn H ps bs → KeyIn H' ps bs
  | [], [], h => h
  | p :: ps, b :: bs, h => ⟨e _ _ h.1, KeyIn.mono e h.2⟩
  | [], _ :: _, h => h.elim
  | _ :: _, [], h => h.elim
mutual
def Rep (K : PySem.W.Frag) (H : Hp) : V → D → Prop
  | v, .non => v = .non
  | v, .bl b => v = .bl b
  | v, .int i => v = .int i
  | v, .str x => v = .str x
  | v, .tup ds => ∃ a xs, v = .ref a ∧ SqT K H a xs ∧ Reps K H xs ds
  | v, .lst ds => ∃ a xs, v = .ref a ∧ RdL K H a xs ∧ Reps K H xs ds
  | v, .obj cn fs => ∃ a C dx gs, v = .ref a ∧ H a = some (.ins C dx gs) ∧ ClsAt K cn C ∧ (∀ p ∈ fs, NoAttr K C p.1) ∧ RepF K H gs fs
  | v, .dic kvs => ∃ a ks ep, v = .ref a ∧ H a = some (.dK ks ep) ∧ RepK K H ks kvs
  | v, .dit kvs => ∃ a ks bs, v = .ref a ∧ H a = some (.dT ks bs) ∧ KeyIn H ks bs ∧ RepT K H ks kvs
def Reps (K : PySem.W.Frag) (H : Hp) : List V → List D → Prop
  | [], [] => True
  | v :: vs, d :: ds => Rep K H v d ∧ Reps K H vs ds
  | _, _ => False
def RepF (K : PySem.W.Frag) (H : Hp) : List (Str × V) → List (Str × D) → Prop
  | [], [] => True
  | v :: vs, d :: ds => (v.1 = d.1 ∧ Rep K H v.2 d.2) ∧ RepF K H vs ds
  | _, _ => False
def RepK (K : PySem.W.Frag) (H : Hp) : List (Key × V) → List (Key × D) → Prop
  | [], [] => True
  | v :: vs, d :: ds => (v.1 = d.1 ∧ Rep K H v.2 d.2) ∧ RepK K H vs ds
  | _, _ => False
def RepT (K : PySem.W.Frag) (H : Hp) : List (List Key × V) → List (List Key × D) → Prop
  | [], [] => True
  | v :: vs, d :: ds => (v.1 = d.1 ∧ Rep K H v.2 d.2) ∧ RepT K H vs ds
  | _, _ => False
end
theorem Same.seqT {K : PySem.W.Frag} {H H' : Hp} {a : Addr} {xs : List V} (e : Same H H') (h : SqT K H a xs) : SqT K H' a xs := by
  rcases h with (h | ⟨o, h⟩) | h
  · exact .inl (.inl (e _ _ h))
  · exact .inl (.inr ⟨o, e _ _ h⟩)
  · exact .inr h
mutual
theorem Rep.mono {K : PySem.W.Frag} {H H' : Hp} (e : Same H H') : ∀ (v : V) (d : D), Rep K H v d → Rep K H' v d
  | v, .non, h => by simpa only [Rep] using h
  | v, .bl b, h => by simpa only [Rep] using h
  | v, .int i, h => by simpa only [Rep] using h
  | v, .str x, h => by simpa only [Rep] using h
  | v, .tup ds, h => by
    simp only [Rep] at h ⊢
    obtain ⟨a, xs, h1, h2, h3⟩ := h
    exact ⟨a, xs, h1, e.seqT h2, Reps.mono e xs ds h3⟩
  | v, .lst ds, h => by
    simp only [Rep] at h ⊢
    obtain ⟨a, xs, h1, h2, h3⟩ := h
    exact ⟨a, xs, h1, e.rdl h2, Reps.mono e xs ds h3⟩
  | v, .obj cn fs, h => by
    simp only [Rep] at h ⊢
    obtain ⟨a, C, dx, gs, h1, h2, h3, h4, h5⟩ := h
    exact ⟨a, C, dx, gs, h1, e _ _ h2, h3, h4, RepF.mono e gs fs h5⟩
  | v, .dic kvs, h => by
    simp only [Rep] at h ⊢
    obtain ⟨a, ks, ep, h1, h2, h3⟩ := h
    exact ⟨a, ks, ep, h1, e _ _ h2, RepK.mono e ks kvs h3⟩
  | v, .dit kvs, h => by
    simp only [Rep] at h ⊢
    obtain ⟨a, ks, bs, h1, h2, h3, h4⟩ := h
    exact ⟨a, ks, bs, h1, e _ _ h2, h3.mono e, RepT.mono e ks kvs h4⟩
theorem Reps.mono {K : PySem.W.Frag} {H H' : Hp} (e : Same H H') : ∀ (vs : List V) (ds : List D), Reps K H vs ds → Reps K H' vs ds
  | [], [], h => by simp only [Reps]
  | v :: vs, d :: ds, h => by
    simp only [Reps] at h ⊢
    exact ⟨Rep.mono e v d h.1, Reps.mono e vs ds h.2⟩
  | [], _ :: _, h => by simp only [Reps] at h
  | _ :: _, [], h => by simp only [Reps] at h
theorem RepF.mono {K : PySem.W.Frag} {H H' : Hp} (e : Same H H') : ∀ (vs : List (Str × V)) (ds : List (Str × D)), RepF K H vs ds → RepF K H' vs ds
  | [], [], h => by simp only [RepF]
  | (x, v) :: vs, (y, d) :: ds, h => by
    simp only [RepF] at h ⊢
    exact ⟨⟨h.1.1, Rep.mono e v d h.1.2⟩, RepF.mono e vs ds h.2⟩
  | [], _ :: _, h => by simp only [RepF] at h
  | _ :: _, [], h => by simp only [RepF] at h
theorem RepK.mono {K : PySem.W.Frag} {H H' : Hp} (e : Same H H') : ∀ (vs : List (Key × V)) (ds : List (Key × D)), RepK K H vs ds → RepK K H' vs ds
  | [], [], h => by simp only [RepK]
  | (x, v) :: vs, (y, d) :: ds, h => by
    simp only [RepK] at h ⊢
    exact ⟨⟨h.1.1, Rep.mono e v d h.1.2⟩, RepK.mono e vs ds h.2⟩
  | [], _ :: _, h => by simp only [RepK] at h
  | _ :: _, [], h => by simp only [RepK] at h
theorem RepT.mono {K : PySem.W.Frag} {H H' : Hp} (e : Same H H') : ∀ (vs : List (List Key × V)) (ds : List (List Key × D)), RepT K H vs ds → RepT K H' vs ds
  | [], [], h => by simp only [RepT]
  | (x, v) :: vs, (y, d) :: ds, h => by
    simp only [RepT] at h ⊢
    exact ⟨⟨h.1.1, Rep.mono e v d h.1.2⟩, RepT.mono e vs ds h.2⟩
  | [], _ :: _, h => by simp only [RepT] at h
  | _ :: _, [], h => by simp only [RepT] at h
end
section
variable {K : PySem.W.Frag} {H H' : Hp}
theorem Reps.length : ∀ {vs : List V} {ds : List D}, Reps K H vs ds → vs.length = ds.length
  | [], [], _ => rfl
  | v :: vs, d :: ds, h => by
    simp only [Reps] at h
    simp only [List.length_cons, Reps.length h.2]
  | [], _ :: _, h => by simp only [Reps] at h
  | _ :: _, [], h => by simp only [Reps] at h
theorem Reps.get : ∀ {vs : List V} {ds : List D} {i : Nat} {d : D}, Reps K H vs ds → ds[i]? = some d → ∃ v, vs[i]? = some v ∧ Rep K H v d
  | [], [], i, d, _, e => by simp at e
  | v :: vs, d' :: ds, 0, d, h, e => by
    simp only [Reps] at h
    simp only [List.getElem?_cons_zero, Option.some.injEq] at e
    subst e
    exact ⟨v, rfl, h.1⟩
  | v :: vs, d' :: ds, i + 1, d, h, e => by
    simp only [Reps] at h
    simp only [List.getElem?_cons_succ] at e ⊢
    exact Reps.get h.2 e
  | [], _ :: _, _, _, h, _ => by simp only [Reps] at h
  | _ :: _, [], _, _, h, _ => by simp only [Reps] at h
theorem Reps.getV : ∀ {vs : List V} {ds : List D} {i : Nat} {v : V}, Reps K H vs ds → vs[i]? = some v → ∃ d, ds[i]? = some d ∧ Rep K H v d
  | [], [], i, d, _, e => by simp at e
  | v' :: vs, d :: ds, 0, v, h, e => by
    simp only [Reps] at h
    simp only [List.getElem?_cons_zero, Option.some.injEq] at e
    subst e
    exact ⟨d, rfl, h.1⟩
  | v' :: vs, d :: ds, i + 1, v, h, e => by
    simp only [Reps] at h
    simp only [List.getElem?_cons_succ] at e ⊢
    exact Reps.getV h.2 e
  | [], _ :: _, _, _, h, _ => by simp only [Reps] at h
  | _ :: _, [], _, _, h, _ => by simp only [Reps] at h
theorem Reps.nil : Reps K H [] [] := by simp only [Reps]
theorem Reps.cons {v : V} {vs : List V} {d : D} {ds : List D} (h : Rep K H v d) (hs : Reps K H vs ds) : Reps K H (v :: vs) (d :: ds) := by simp only [Reps]; exact ⟨h, hs⟩
theorem Reps.append : ∀ {vs : List V} {ds : List D} {us : List V} {es : List D}, Reps K H vs ds → Reps K H us es → Reps K H (vs ++ us) (ds ++ es)
  | [], [], _, _, _, h => h
  | v :: vs, d :: ds, _, _, h, h' => by
    simp only [Reps] at h
    exact Reps.cons h.1 (Reps.append h.2 h')
  | [], _ :: _, _, _, h, _ => by simp only [Reps] at h
  | _ :: _, [], _, _, h, _ => by simp only [Reps] at h
theorem Reps.take : ∀ {vs : List V} {ds : List D} (n : Nat), Reps K H vs ds → Reps K H (vs.take n) (ds.take n)
  | _, _, 0, _ => Reps.nil
  | [], [], _ + 1, _ => Reps.nil
  | v :: vs, d :: ds, n + 1, h => by
    simp only [Reps] at h
    exact Reps.cons h.1 (Reps.take n h.2)
  | [], _ :: _, _ + 1, h => by simp only [Reps] at h
  | _ :: _, [], _ + 1, h => by simp only [Reps] at h
theorem Reps.drop : ∀ {vs : List V} {ds : List D} (n : Nat), Reps K H vs ds → Reps K H (vs.drop n) (ds.drop n)
  | _, _, 0, h => h
  | [], [], _ + 1, _ => Reps.nil
  | v :: vs, d :: ds, n + 1, h => by
    simp only [Reps] at h
    exact Reps.drop n h.2
  | [], _ :: _, _ + 1, h => by simp only [Reps] at h
  | _ :: _, [], _ + 1, h => by simp only [Reps] at h
theorem Reps.set : ∀ {vs : List V} {ds : List D} {v : V} {d : D} (n : Nat), Reps K H vs ds → Rep K H v d → Reps K H (vs.set n v) (ds.set n d)
  | [], [], _, _, _, _, _ => Reps.nil
  | v' :: vs, d' :: ds, v, d, 0, h, q => by
    simp only [Reps] at h
    exact Reps.cons q h.2
  | v' :: vs, d' :: ds, v, d, n + 1, h, q => by
    simp only [Reps] at h
    exact Reps.cons h.1 (Reps.set n h.2 q)
  | [], _ :: _, _, _, _, h, _ => by simp only [Reps] at h
  | _ :: _, [], _, _, _, h, _ => by simp only [Reps] at h
theorem Reps.reverse {vs : List V} {ds : List D} (h : Reps K H vs ds) : Reps K H vs.reverse ds.reverse := by
  induction vs generalizing ds with
  | nil =>
    cases ds with
    | nil => exact Reps.nil
    | cons => simp only [Reps] at h
  | cons v vs ih =>
    cases ds with
    | nil => simp only [Reps] at h
    | cons d ds =>
      simp only [Reps] at h
      rw [List.reverse_cons, List.reverse_cons]
      exact Reps.append (ih h.2) (Reps.cons h.1 Reps.nil)
end
structure Ext (G H G' H' : Hp) : Prop where
  g : Same G G'
  h : Same H H'
  s : Same G' H'
  n : ∀ p, G p = none → H p ≠ none → G' p = none
theorem Ext.refl {G H : Hp} (s : Same G H) : Ext G H G H := ⟨Same.refl _, Same.refl _, s, fun _ h _ => h⟩
theorem Ext.trans {G H G1 H1 G2 H2 : Hp} (a : Ext G H G1 H1) (b : Ext G1 H1 G2 H2) : Ext G H G2 H2 :=
  ⟨a.g.trans b.g, a.h.trans b.h, b.s, fun p h1 h2 => b.n p (a.n p h1 h2) fun z => h2 (a.h.free z)⟩
theorem same_upd {H : Hp} {p : Addr} {o : HO} (h : H p = none) : Same H (upd H p o) := fun b u e => by rw [upd_ne (ne_of_none e h)]; exact e
theorem same_upd2 {G H : Hp} {p : Addr} {o : HO} (s : Same G H) : Same (upd G p o) (upd H p o) := fun b u e => by
  by_cases hb : b = p
  · subst hb; rw [upd_same] at e ⊢; exact e
  · rw [upd_ne hb] at e ⊢; exact s b u e
theorem Ext.new {G H : Hp} {p : Addr} {o : HO} (s : Same G H) (h : H p = none) : Ext G H (upd G p o) (upd H p o) :=
  ⟨same_upd (s.free h), same_upd h, same_upd2 s, fun q h1 h2 => by rw [upd_ne (fun z => h2 (by rw [z]; exact h))]; exact h1⟩
theorem Ext.own {G H : Hp} {p : Addr} {o : HO} (s : Same G H) (h : H p = none) : Ext G H G (upd H p o) :=
  ⟨Same.refl _, same_upd h, s.trans (same_upd h), fun q h1 _ => h1⟩
inductive OV where
  | ll (dss : List (List D))
  | dc (kvs : List (Key × D))
  | dl (kvs : List (Key × List D))
  | tl (d : D) (ds : List D)
  | ld (ess : List (List (Key × D)))
  | dt (kvs : List (List Key × List D))
  | tp (ds : List D)
def OV.val : OV → D
  | .ll dss => .lst (dss.map .lst)
  | .dc kvs => .dic kvs
  | .dl kvs => .dic (kvs.map fun p => (p.1, .lst p.2))
  | .tl d ds => .tup [d, .lst ds]
  | .ld ess => .lst (ess.map .dic)
  | .dt kvs => .dit (kvs.map fun p => (p.1, .lst p.2))
  | .tp ds => .tup ds
inductive R where
  | fz (d : D)
  | ow (ds : List D)
  | ov (o : OV)
def R.val : R → D
  | .fz d => d
  | .ow ds => .lst ds
  | .ov o => o.val
inductive Sl where
  | un
  | fz (d : D)
  | ow (ds : List D)
  | ov (o : OV)
def R.sl : R → Sl
  | .fz d => .fz d
  | .ow ds => .ow ds
  | .ov o => .ov o
def RepL (K : PySem.W.Frag) (G H : Hp) : List Addr → List (List D) → Prop
  | [], [] => True
  | q :: qs, ds :: dss => (∃ xs, H q = some (.lst xs) ∧ Reps K G xs ds) ∧ RepL K G H qs dss
  | _, _ => False
theorem RepL.mono {K : PySem.W.Frag} {G H G' H' : Hp} (g : Same G G') : ∀ {qs : List Addr} {dss : List (List D)}, (∀ q ∈ qs, ∀ xs, H q = some (.lst xs) → H' q = some (.lst xs)) → RepL K G H qs dss → RepL K G' H' qs dss
  | [], [], _, _ => by simp only [RepL]
  | q :: qs, ds :: dss, hh, h => by
    simp only [RepL] at h ⊢
    obtain ⟨⟨xs, h1, h2⟩, h3⟩ := h
    exact ⟨⟨xs, hh q (by simp) xs h1, h2.mono g⟩, RepL.mono g (fun r hr => hh r (by simp [hr])) h3⟩
  | [], _ :: _, _, h => by simp only [RepL] at h
  | _ :: _, [], _, h => by simp only [RepL] at h
theorem RepL.here {K : PySem.W.Frag} {G H : Hp} : ∀ {qs : List Addr} {dss : List (List D)}, RepL K G H qs dss → ∀ q ∈ qs, H q ≠ none
  | [], [], _, q, hq => by cases hq
  | q :: qs, ds :: dss, h, r, hr => by
    simp only [RepL] at h
    obtain ⟨⟨xs, h1, h2⟩, h3⟩ := h
    rcases List.mem_cons.mp hr with rfl | hr
    · rw [h1]; exact nofun
    · exact RepL.here h3 r hr
  | [], _ :: _, h, _, _ => by simp only [RepL] at h
  | _ :: _, [], h, _, _ => by simp only [RepL] at h
theorem RepL.reps {K : PySem.W.Frag} {G H G' : Hp} (g : Same G G') : ∀ {qs : List Addr} {dss : List (List D)}, (∀ q ∈ qs, ∀ xs, H q = some (.lst xs) → G' q = some (.lst xs)) → RepL K G H qs dss → Reps K G' (qs.map V.ref) (dss.map D.lst)
  | [], [], _, _ => Reps.nil
  | q :: qs, ds :: dss, hh, h => by
    simp only [RepL] at h
    obtain ⟨⟨xs, h1, h2⟩, h3⟩ := h
    refine Reps.cons ?_ (RepL.reps g (fun r hr => hh r (by simp [hr])) h3)
    simp only [Rep]
    exact ⟨q, xs, rfl, RdL.of (hh q (by simp) xs h1), h2.mono g⟩
  | [], _ :: _, _, h => by simp only [RepL] at h
  | _ :: _, [], _, h => by simp only [RepL] at h
def RepE (K : PySem.W.Frag) (G H : Hp) : List Addr → List (List (Key × D)) → Prop
  | [], [] => True
  | q :: qs, ds :: dss => (∃ ks ep, H q = some (.dK ks ep) ∧ RepK K G ks ds) ∧ RepE K G H qs dss
  | _, _ => False
theorem RepE.mono {K : PySem.W.Frag} {G H G' H' : Hp} (g : Same G G') : ∀ {qs : List Addr} {dss : List (List (Key × D))}, (∀ q ∈ qs, ∀ u, H q = some u → H' q = some u) → RepE K G H qs dss → RepE K G' H' qs dss
  | [], [], _, _ => by simp only [RepE]
  | q :: qs, ds :: dss, hh, h => by
    simp only [RepE] at h ⊢
    obtain ⟨⟨ks, ep, h1, h2⟩, h3⟩ := h
    exact ⟨⟨ks, ep, hh q (by simp) _ h1, RepK.mono g _ _ h2⟩, RepE.mono g (fun r hr => hh r (by simp [hr])) h3⟩
  | [], _ :: _, _, h => by simp only [RepE] at h
  | _ :: _, [], _, h => by simp only [RepE] at h
theorem RepE.kind {K : PySem.W.Frag} {G H : Hp} : ∀ {qs : List Addr} {dss : List (List (Key × D))}, RepE K G H qs dss → ∀ q ∈ qs, ∃ ks ep, H q = some (.dK ks ep)
  | [], [], _, q, hq => by cases hq
  | q :: qs, ds :: dss, h, r, hr => by
    simp only [RepE] at h
    obtain ⟨⟨ks, ep, h1, h2⟩, h3⟩ := h
    rcases List.mem_cons.mp hr with rfl | hr
    · exact ⟨ks, ep, h1⟩
    · exact RepE.kind h3 r hr
  | [], _ :: _, h, _, _ => by simp only [RepE] at h
  | _ :: _, [], h, _, _ => by simp only [RepE] at h
theorem RepE.here {K : PySem.W.Frag} {G H : Hp} {qs : List Addr} {dss : List (List (Key × D))} (h : RepE K G H qs dss) : ∀ q ∈ qs, H q ≠ none := fun q hq => by
  obtain ⟨ks, ep, e⟩ := h.kind q hq
  rw [e]; exact nofun
theorem RepE.reps {K : PySem.W.Frag} {G H G' : Hp} (g : Same G G') : ∀ {qs : List Addr} {dss : List (List (Key × D))}, (∀ q ∈ qs, ∀ u, H q = some u → G' q = some u) → RepE K G H qs dss → Reps K G' (qs.map V.ref) (dss.map D.dic)
  | [], [], _, _ => Reps.nil
  | q :: qs, ds :: dss, hh, h => by
    simp only [RepE] at h
    obtain ⟨⟨ks, ep, h1, h2⟩, h3⟩ := h
    refine Reps.cons ?_ (RepE.reps g (fun r hr => hh r (by simp [hr])) h3)
    simp only [Rep]
    exact ⟨q, ks, ep, rfl, hh q (by simp) _ h1, RepK.mono g _ _ h2⟩
  | [], _ :: _, _, h => by simp only [RepE] at h
  | _ :: _, [], _, h => by simp only [RepE] at h
def Owns (K : PySem.W.Frag) (G H : Hp) (p : Addr) (fp : List Addr) : OV → Prop
  | .ll dss => H p = some (.lst (fp.map V.ref)) ∧ RepL K G H fp dss
  | .dc kvs => fp = [] ∧ ∃ ks ep, H p = some (.dK ks ep) ∧ RepK K G ks kvs
  | .dl kvs => ∃ ks ep, H p = some (.dK ks ep) ∧ ks.map (·.1) = kvs.map (·.1) ∧ ks.map (·.2) = fp.map V.ref ∧ RepL K G H fp (kvs.map (·.2))
  | .tl d ds => ∃ q v xs, fp = [q] ∧ H p = some (.tup [v, .ref q]) ∧ Rep K G v d ∧ H q = some (.lst xs) ∧ Reps K G xs ds
  | .ld ess => H p = some (.lst (fp.map V.ref)) ∧ RepE K G H fp ess
  | .dt kvs => ∃ ks bs, H p = some (.dT ks bs) ∧ KeyIn G ks bs ∧ ks.map (·.1) = kvs.map (·.1) ∧ ks.map (·.2) = fp.map V.ref ∧ RepL K G H fp (kvs.map (·.2))
  | .tp ds => fp = [] ∧ ∃ xs, H p = some (.tup xs) ∧ Reps K G xs ds
theorem Owns.here {K : PySem.W.Frag} {G H : Hp} {p : Addr} {fp : List Addr} {o : OV} (h : Owns K G H p fp o) : ∀ q ∈ p :: fp, H q ≠ none := by
  intro q hq
  cases o with
  | ll dss =>
    rcases List.mem_cons.mp hq with rfl | hq
    · rw [h.1]; exact nofun
    · exact h.2.here q hq
  | dc kvs =>
    obtain ⟨rfl, ks, ep, h1, _⟩ := h
    simp only [List.mem_singleton] at hq
    subst hq
    rw [h1]; exact nofun
  | dl kvs =>
    obtain ⟨ks, ep, h1, _, _, h4⟩ := h
    rcases List.mem_cons.mp hq with rfl | hq
    · rw [h1]; exact nofun
    · exact h4.here q hq
  | tl d ds =>
    obtain ⟨r, v, xs, rfl, h1, _, h2, _⟩ := h
    simp only [List.mem_cons, List.not_mem_nil, or_false] at hq
    rcases hq with rfl | rfl
    · rw [h1]; exact nofun
    · rw [h2]; exact nofun
  | ld ess =>
    rcases List.mem_cons.mp hq with rfl | hq
    · rw [h.1]; exact nofun
    · exact h.2.here q hq
  | dt kvs =>
    obtain ⟨ks, bs, h1, _, _, _, h4⟩ := h
    rcases List.mem_cons.mp hq with rfl | hq
    · rw [h1]; exact nofun
    · exact h4.here q hq
  | tp ds =>
    obtain ⟨rfl, xs, h1, _⟩ := h
    simp only [List.mem_singleton] at hq
    subst hq
    rw [h1]; exact nofun
theorem RepL.kind {K : PySem.W.Frag} {G H : Hp} : ∀ {qs : List Addr} {dss : List (List D)}, RepL K G H qs dss → ∀ q ∈ qs, ∃ xs, H q = some (.lst xs)
  | [], [], _, q, hq => by cases hq
  | q :: qs, ds :: dss, h, r, hr => by
    simp only [RepL] at h
    obtain ⟨⟨xs, h1, h2⟩, h3⟩ := h
    rcases List.mem_cons.mp hr with rfl | hr
    · exact ⟨xs, h1⟩
    · exact RepL.kind h3 r hr
  | [], _ :: _, h, _, _ => by simp only [RepL] at h
  | _ :: _, [], h, _, _ => by simp only [RepL] at h
theorem Owns.kind {K : PySem.W.Frag} {G H : Hp} {p : Addr} {fp : List Addr} {o : OV} (h : Owns K G H p fp o) : ∀ q ∈ p :: fp, ∀ C dx fs, H q ≠ some (.ins C dx fs) := by
  intro q hq C dx fs z
  cases o with
  | ll dss =>
    rcases List.mem_cons.mp hq with rfl | hq
    · rw [h.1] at z; cases z
    · obtain ⟨xs, e⟩ := h.2.kind q hq
      rw [e] at z; cases z
  | dc kvs =>
    obtain ⟨rfl, ks, ep, h1, _⟩ := h
    simp only [List.mem_singleton] at hq
    subst hq
    rw [h1] at z; cases z
  | dl kvs =>
    obtain ⟨ks, ep, h1, _, _, h4⟩ := h
    rcases List.mem_cons.mp hq with rfl | hq
    · rw [h1] at z; cases z
    · obtain ⟨xs, e⟩ := h4.kind q hq
      rw [e] at z; cases z
  | tl d ds =>
    obtain ⟨r, v, xs, rfl, h1, _, h2, _⟩ := h
    simp only [List.mem_cons, List.not_mem_nil, or_false] at hq
    rcases hq with rfl | rfl
    · rw [h1] at z; cases z
    · rw [h2] at z; cases z
  | ld ess =>
    rcases List.mem_cons.mp hq with rfl | hq
    · rw [h.1] at z; cases z
    · obtain ⟨ks, ep, e⟩ := h.2.kind q hq
      rw [e] at z; cases z
  | dt kvs =>
    obtain ⟨ks, bs, h1, _, _, _, h4⟩ := h
    rcases List.mem_cons.mp hq with rfl | hq
    · rw [h1] at z; cases z
    · obtain ⟨xs, e⟩ := h4.kind q hq
      rw [e] at z; cases z
  | tp ds =>
    obtain ⟨rfl, xs, h1, _⟩ := h
    simp only [List.mem_singleton] at hq
    subst hq
    rw [h1] at z; cases z
theorem Owns.mono {K : PySem.W.Frag} {G H G' H' : Hp} {p : Addr} {fp : List Addr} {o : OV} (g : Same G G') (hh : ∀ q ∈ p :: fp, ∀ u, H q = some u → H' q = some u) (h : Owns K G H p fp o) : Owns K G' H' p fp o := by
  cases o with
  | ll dss => exact ⟨hh p (by simp) _ h.1, h.2.mono g fun q hq xs => hh q (by simp [hq]) _⟩
  | dc kvs =>
    obtain ⟨rfl, ks, ep, h1, h2⟩ := h
    exact ⟨rfl, ks, ep, hh p (by simp) _ h1, RepK.mono g _ _ h2⟩
  | dl kvs =>
    obtain ⟨ks, ep, h1, h2, h3, h4⟩ := h
    exact ⟨ks, ep, hh p (by simp) _ h1, h2, h3, h4.mono g fun q hq xs => hh q (by simp [hq]) _⟩
  | tl d ds =>
    obtain ⟨r, v, xs, rfl, h1, h2, h3, h4⟩ := h
    exact ⟨r, v, xs, rfl, hh p (by simp) _ h1, h2.mono g, hh r (by simp) _ h3, h4.mono g⟩
  | ld ess => exact ⟨hh p (by simp) _ h.1, h.2.mono g fun q hq => hh q (by simp [hq])⟩
  | dt kvs =>
    obtain ⟨ks, bs, h1, hk, h2, h3, h4⟩ := h
    exact ⟨ks, bs, hh p (by simp) _ h1, hk.mono g, h2, h3, h4.mono g fun q hq xs => hh q (by simp [hq]) _⟩
  | tp ds =>
    obtain ⟨rfl, xs, h1, h2⟩ := h
    exact ⟨rfl, xs, hh p (by simp) _ h1, h2.mono g⟩
theorem RepK.of_lists {K : PySem.W.Frag} {G : Hp} : ∀ {ks : List (Key × V)} {kvs : List (Key × List D)} {fp : List Addr}, ks.map (·.1) = kvs.map (·.1) → ks.map (·.2) = fp.map V.ref → Reps K G (fp.map V.ref) ((kvs.map (·.2)).map D.lst) → RepK K G ks (kvs.map fun p => (p.1, .lst p.2))
  | [], [], _, _, _, _ => by simp only [List.map_nil, RepK]
  | a :: ks, b :: kvs, fp, h1, h2, h3 => by
    simp only [List.map_cons, List.cons.injEq] at h1
    cases fp with
    | nil => simp at h2
    | cons q fp =>
      simp only [List.map_cons, List.cons.injEq] at h2
      simp only [List.map_cons, Reps] at h3
      simp only [List.map_cons, RepK]
      exact ⟨⟨h1.1, by rw [h2.1]; exact h3.1⟩, RepK.of_lists h1.2 h2.2 h3.2⟩
  | [], _ :: _, _, h, _, _ => by simp at h
  | _ :: _, [], _, h, _, _ => by simp at h
theorem RepT.of_lists {K : PySem.W.Frag} {G : Hp} : ∀ {ks : List (List Key × V)} {kvs : List (List Key × List D)} {fp : List Addr}, ks.map (·.1) = kvs.map (·.1) → ks.map (·.2) = fp.map V.ref → Reps K G (fp.map V.ref) ((kvs.map (·.2)).map D.lst) → RepT K G ks (kvs.map fun p => (p.1, .lst p.2))
  | [], [], _, _, _, _ => by simp only [List.map_nil, RepT]
  | a :: ks, b :: kvs, fp, h1, h2, h3 => by
    simp only [List.map_cons, List.cons.injEq] at h1
    cases fp with
    | nil => simp at h2
    | cons q fp =>
      simp only [List.map_cons, List.cons.injEq] at h2
      simp only [List.map_cons, Reps] at h3
      simp only [List.map_cons, RepT]
      exact ⟨⟨h1.1, by rw [h2.1]; exact h3.1⟩, RepT.of_lists h1.2 h2.2 h3.2⟩
  | [], _ :: _, _, h, _, _ => by simp at h
  | _ :: _, [], _, h, _, _ => by simp at h
def plus (G H : Hp) (l : List Addr) : Hp := fun a => if a ∈ l then H a else G a
theorem plus_in {G H : Hp} {l : List Addr} {a : Addr} (h : a ∈ l) : plus G H l a = H a := if_pos h
theorem plus_out {G H : Hp} {l : List Addr} {a : Addr} (h : a ∉ l) : plus G H l a = G a := if_neg h
theorem plus_same {G H : Hp} {l : List Addr} (h : ∀ q ∈ l, G q = none) : Same G (plus G H l) := fun b u e => by
  rw [plus_out (fun z => by rw [h b z] at e; cases e)]; exact e
theorem Owns.freeze {K : PySem.W.Frag} {G H : Hp} {p : Addr} {fp : List Addr} {o : OV} (h : Owns K G H p fp o) (hn : ∀ q ∈ p :: fp, G q = none) : Rep K (plus G H (p :: fp)) (.ref p) o.val := by
  have hs := plus_same (H := H) hn
  have hp : plus G H (p :: fp) p = H p := plus_in (by simp)
  cases o with
  | ll dss =>
    simp only [OV.val, Rep]
    exact ⟨p, _, rfl, RdL.of (by rw [hp]; exact h.1), h.2.reps hs fun q hq xs e => by rw [plus_in (by simp [hq])]; exact e⟩
  | dc kvs =>
    obtain ⟨rfl, ks, ep, h1, h2⟩ := h
    simp only [OV.val, Rep]
    exact ⟨p, ks, ep, rfl, by rw [hp]; exact h1, RepK.mono hs _ _ h2⟩
  | dl kvs =>
    obtain ⟨ks, ep, h1, h2, h3, h4⟩ := h
    simp only [OV.val, Rep]
    exact ⟨p, ks, ep, rfl, by rw [hp]; exact h1, RepK.of_lists h2 h3 (h4.reps hs fun q hq xs e => by rw [plus_in (by simp [hq])]; exact e)⟩
  | tl d ds =>
    obtain ⟨r, v, xs, rfl, h1, h2, h3, h4⟩ := h
    simp only [OV.val, Rep]
    refine ⟨p, _, rfl, SqT.of (by rw [hp]; exact h1), Reps.cons (h2.mono hs) (Reps.cons ?_ Reps.nil)⟩
    simp only [Rep]
    exact ⟨r, xs, rfl, RdL.of (by rw [plus_in (by simp)]; exact h3), h4.mono hs⟩
  | dt kvs =>
    obtain ⟨ks, bs, h1, hk, h2, h3, h4⟩ := h
    simp only [OV.val, Rep]
    exact ⟨p, ks, bs, rfl, by rw [hp]; exact h1, hk.mono hs, RepT.of_lists h2 h3 (h4.reps hs fun q hq xs e => by rw [plus_in (by simp [hq])]; exact e)⟩
  | tp ds =>
    obtain ⟨rfl, xs, h1, h2⟩ := h
    simp only [OV.val, Rep]
    exact ⟨p, xs, rfl, SqT.of (by rw [hp]; exact h1), h2.mono hs⟩
  | ld ess =>
    simp only [OV.val, Rep]
    exact ⟨p, _, rfl, RdL.of (by rw [hp]; exact h.1), h.2.reps hs fun q hq u e => by rw [plus_in (by simp [hq])]; exact e⟩
abbrev Ev := List Sl
def gt : Ev → Nat → Sl
  | [], _ => .un
  | a :: _, 0 => a
  | _ :: r, n + 1 => gt r n
theorem gt_set {ρ : Ev} {i j : Nat} {s : Sl} : gt (ρ.set i s) j = if i = j ∧ j < ρ.length then s else gt ρ j := by
  induction ρ generalizing i j with
  | nil => simp [gt]
  | cons a r ih =>
    cases i with
    | zero =>
      cases j with
      | zero => simp [gt]
      | succ j => simp [gt]
    | succ i =>
      cases j with
      | zero => simp [gt]
      | succ j => simp [gt, ih]
def RepR (K : PySem.W.Frag) (G' H' H : Hp) (v : V) : R → Prop
  | .fz d => Rep K G' v d
  | .ow ds => ∃ p xs, v = .ref p ∧ H p = none ∧ G' p = none ∧ H' p = some (.lst xs) ∧ Reps K G' xs ds
  | .ov o => ∃ p fp, v = .ref p ∧ (p :: fp).Nodup ∧ Owns K G' H' p fp o ∧ ∀ q ∈ p :: fp, H q = none ∧ G' q = none
structure EOk (K : PySem.W.Frag) (G0 H0 : Hp) (ρ : Ev) (σ : St) (G H : Hp) : Prop where
  e : Ext G0 H0 G H
  len : σ.length = ρ.length
  fz : ∀ i d, gt ρ i = .fz d → ∃ v, σ[i]? = some (some v) ∧ Rep K G v d
  ow : ∀ i ds, gt ρ i = .ow ds → ∃ p xs, σ[i]? = some (some (.ref p)) ∧ H p = some (.lst xs) ∧ G p = none ∧ H0 p = none ∧ Reps K G xs ds
  dj : ∀ i j ds es, i ≠ j → gt ρ i = .ow ds → gt ρ j = .ow es → σ[i]? ≠ σ[j]?
  on : ∃ own : Addr → Option Nat, (∀ i ds p, gt ρ i = .ow ds → σ[i]? = some (some (.ref p)) → own p = some i) ∧ ∀ i o, gt ρ i = .ov o → ∃ p fp, σ[i]? = some (some (.ref p)) ∧ (p :: fp).Nodup ∧ Owns K G H p fp o ∧ ∀ q ∈ p :: fp, G q = none ∧ H0 q = none ∧ own q = some i
section
variable {K : PySem.W.Frag} {G0 H0 G H G' H' G2 H2 : Hp} {ρ : Ev} {σ : St} {v : V}
theorem EOk.ext (E : EOk K G0 H0 ρ σ G H) (x : Ext G H G' H') : EOk K G0 H0 ρ σ G' H' where
  e := E.e.trans x
  len := E.len
  fz := fun i d h => let ⟨v, h1, h2⟩ := E.fz i d h; ⟨v, h1, h2.mono x.g⟩
  ow := fun i ds h => let ⟨p, xs, h1, h2, h3, h4, h5⟩ := E.ow i ds h; ⟨p, xs, h1, x.h _ _ h2, x.n p h3 (by rw [h2]; exact nofun), h4, h5.mono x.g⟩
  dj := E.dj
  on := by
    obtain ⟨own, h1, h2⟩ := E.on
    refine ⟨own, h1, fun i o h => ?_⟩
    obtain ⟨p, fp, b1, b2, b3, b4⟩ := h2 i o h
    exact ⟨p, fp, b1, b2, b3.mono x.g fun q _ u e => x.h q u e, fun q hq => ⟨x.n q (b4 q hq).1 (b3.here q hq), (b4 q hq).2⟩⟩
theorem RepR.freeze {r : R} (x : Ext G H G' H') (h : RepR K G' H' H v r) : ∃ G2, Ext G H G2 H' ∧ Rep K G2 v r.val ∧ Same G' G2 := by
  cases r with
  | fz d => exact ⟨G', x, h, Same.refl _⟩
  | ow ds =>
    obtain ⟨p, xs, h1, h2, h3, h4, h5⟩ := h
    refine ⟨upd G' p (.lst xs), ⟨x.g.trans (same_upd h3), x.h, fun b o e => ?_, fun q hq1 hq2 => ?_⟩, ?_, same_upd h3⟩
    · by_cases hb : b = p
      · subst hb; rw [upd_same] at e; rw [h4]; exact e
      · rw [upd_ne hb] at e; exact x.s b o e
    · rw [upd_ne (fun z => hq2 (by rw [z]; exact h2))]; exact x.n q hq1 hq2
    · show Rep K (upd G' p (.lst xs)) v (.lst ds)
      simp only [Rep]
      exact ⟨p, xs, h1, RdL.of upd_same, h5.mono (same_upd h3)⟩
  | ov o =>
    obtain ⟨p, fp, rfl, h1, h2, h3⟩ := h
    have hn : ∀ q ∈ p :: fp, G' q = none := fun q hq => (h3 q hq).2
    refine ⟨plus G' H' (p :: fp), ⟨x.g.trans (plus_same hn), x.h, fun b u e => ?_, fun q hq1 hq2 => ?_⟩, h2.freeze hn, plus_same hn⟩
    · by_cases hb : b ∈ p :: fp
      · rw [plus_in hb] at e; exact e
      · rw [plus_out hb] at e; exact x.s b u e
    · rw [plus_out (fun z => hq2 (h3 q z).1)]; exact x.n q hq1 hq2
theorem RepR.ext {r : R} {H1 : Hp} (x : Ext G' H' G2 H2) (h : RepR K G' H' H1 v r) : RepR K G2 H2 H1 v r := by
  cases r with
  | fz d => exact Rep.mono x.g v d h
  | ow ds =>
    obtain ⟨p, xs, h1, h2, h3, h4, h5⟩ := h
    exact ⟨p, xs, h1, h2, x.n p h3 (by rw [h4]; exact nofun), x.h _ _ h4, h5.mono x.g⟩
  | ov o =>
    obtain ⟨p, fp, rfl, h1, h2, h3⟩ := h
    exact ⟨p, fp, rfl, h1, h2.mono x.g fun q _ u e => x.h q u e, fun q hq => ⟨(h3 q hq).1, x.n q (h3 q hq).2 (h2.here q hq)⟩⟩
theorem RepR.older {r : R} {H1 H3 : Hp} (s : Same H3 H1) (h : RepR K G' H' H1 v r) : RepR K G' H' H3 v r := by
  cases r with
  | fz d => exact h
  | ow ds =>
    obtain ⟨p, xs, h1, h2, h3, h4, h5⟩ := h
    exact ⟨p, xs, h1, s.free h2, h3, h4, h5⟩
  | ov o =>
    obtain ⟨p, fp, rfl, h1, h2, h3⟩ := h
    exact ⟨p, fp, rfl, h1, h2, fun q hq => ⟨s.free (h3 q hq).1, (h3 q hq).2⟩⟩
end
abbrev TD := Ev → (R → Prop) → Prop
abbrev TDb := Ev → (Bool → Prop) → Prop
abbrev TDa := Ev → (List D → Prop) → Prop
structure DE where
  nx : Ev → Prop
  rt : R → Prop
  bk : Ev → Prop := fun _ => False
  ct : Ev → Prop := fun _ => False
abbrev TX := DE → Ev → Prop
def PD (X : Cx) (e : Expr) (t : TD) : Prop := ∃ tt, PE X e tt ∧ ∀ (ρ : Ev) (σ : St) (G0 H0 G H : Hp) (Q : R → Prop) (P : VK), EOk X.K G0 H0 ρ σ G H → t ρ Q →
  (∀ v H' r G', Ext G H G' H' → RepR X.K G' H' H v r → Q r → P v H') → tt σ H P
def PB (X : Cx) (e : Expr) (t : TDb) : Prop := ∃ tt, PT X e tt ∧ ∀ (ρ : Ev) (σ : St) (G0 H0 G H : Hp) (Q : Bool → Prop) (P : Bool → Hp → Prop), EOk X.K G0 H0 ρ σ G H → t ρ Q →
  (∀ b H' G', Ext G H G' H' → Q b → P b H') → tt σ H P
def PDa (X : Cx) (es : List Expr) (t : TDa) : Prop := ∃ tt, PA X es tt ∧ ∀ (ρ : Ev) (σ : St) (G0 H0 G H : Hp) (Q : List D → Prop) (P : List V → Hp → Prop), EOk X.K G0 H0 ρ σ G H → t ρ Q →
  (∀ vs H' ds G', Ext G H G' H' → Reps X.K G' vs ds → Q ds → P vs H') → tt σ H P
structure Goes (K : PySem.W.Frag) (G0 H0 G : Hp) (D : DE) (E : Ends) : Prop where
  nx : ∀ ρ σ G' H', Same G G' → EOk K G0 H0 ρ σ G' H' → D.nx ρ → E.nx σ H'
  rt : ∀ v H' r G', Ext G0 H0 G' H' → RepR K G' H' H0 v r → D.rt r → E.rt v H'
  bk : ∀ ρ σ G' H', Same G G' → EOk K G0 H0 ρ σ G' H' → D.bk ρ → E.bk σ H'
  ct : ∀ ρ σ G' H', Same G G' → EOk K G0 H0 ρ σ G' H' → D.ct ρ → E.ct σ H'
theorem Goes.shift {K : PySem.W.Frag} {G0 H0 G G' : Hp} {D : DE} {E : Ends} (g : Goes K G0 H0 G D E) (s : Same G G') : Goes K G0 H0 G' D E :=
  ⟨fun ρ σ G2 H2 s2 => g.nx ρ σ G2 H2 (s.trans s2), g.rt, fun ρ σ G2 H2 s2 => g.bk ρ σ G2 H2 (s.trans s2), fun ρ σ G2 H2 s2 => g.ct ρ σ G2 H2 (s.trans s2)⟩
def PX (X : Cx) (st : Stmt) (t : TX) : Prop := ∃ tt, PS X st tt ∧ ∀ (ρ : Ev) (σ : St) (G0 H0 G H : Hp) (D : DE) (E : Ends), EOk X.K G0 H0 ρ σ G H → t D ρ → Goes X.K G0 H0 G D E → tt E σ H
def PXs (X : Cx) (st : List Stmt) (t : TX) : Prop := ∃ tt, PSs X st tt ∧ ∀ (ρ : Ev) (σ : St) (G0 H0 G H : Hp) (D : DE) (E : Ends), EOk X.K G0 H0 ρ σ G H → t D ρ → Goes X.K G0 H0 G D E → tt E σ H
end L2
set_option Elab.async false
set_option linter.all false
set_option maxRecDepth 100000
set_option maxHeartbeats 1000000
namespace L2
open PySem PySem.Spec PyProof.Rows
section
variable {X : Cx} {pos : Pos} {a b c : Expr} {ta tb tc : TD}
theorem fzR {K : PySem.W.Frag} {G' H' H : Hp} {v : V} {d : D} (h : Rep K G' v d) : RepR K G' H' H v (.fz d) := h
def dVar (i : Nat) : TD := fun ρ Q => match gt ρ i with
  | .fz d => Q (.fz d)
  | _ => False
theorem pd_var (i : Nat) {x : Str} (hN : X.N[i]? = some x := by rfl) (hv : Vis X.env.scope x := by first | exact Or.inl rfl | exact Or.inr (Or.inl rfl) | exact Or.inr (Or.inr rfl)) (hd : (x == ("__debug__" : Str)) = false := by decide)
    (hcd : (x == ("__classdict__" : Str)) = false := by decide) : PD X (.Name x pos) (dVar i) := by
  refine ⟨_, pe_var hN hv hd hcd, fun ρ σ G0 H0 G H Q P E h k => ?_⟩
  unfold dVar at h
  split at h
  · rename_i d e
    obtain ⟨v, h1, h2⟩ := E.fz i d e
    exact ⟨v, h1, k v H (.fz d) G (.refl E.e.s) h2 h⟩
  · exact h.elim
def dC (d : D) : TD := fun _ Q => Q (.fz d)
theorem pd_const {e : Expr} {v : V} {d : D} (h : PE X e (tC v)) (r : ∀ K G, Rep K G v d) : PD X e (dC d) :=
  ⟨_, h, fun ρ σ G0 H0 G H Q P E h k => k v H (.fz d) G (.refl E.e.s) (r _ _) h⟩
theorem rep_int (K : PySem.W.Frag) (G : Hp) (i : Int) : Rep K G (.int i) (.int i) := by simp only [Rep]
theorem rep_bl (K : PySem.W.Frag) (G : Hp) (i : Bool) : Rep K G (.bl i) (.bl i) := by simp only [Rep]
theorem rep_str (K : PySem.W.Frag) (G : Hp) (i : Str) : Rep K G (.str i) (.str i) := by simp only [Rep]
theorem rep_non (K : PySem.W.Frag) (G : Hp) : Rep K G .non .non := by simp only [Rep]
theorem pd_int {i j} : PD X (.Constant (.int i) j pos) (dC (.int i)) := pd_const pe_int fun K G => rep_int K G i
theorem pd_bl {i j} : PD X (.Constant (.bool i) j pos) (dC (.bl i)) := pd_const pe_bl fun K G => rep_bl K G i
theorem pd_str {i j} : PD X (.Constant (.str i) j pos) (dC (.str i)) := pd_const pe_str fun K G => rep_str K G i
theorem pd_non {j} : PD X (.Constant .none j pos) (dC .non) := pd_const pe_non fun K G => rep_non K G
abbrev O2 := D → D → (R → Prop) → Prop
def OpP (X : Cx) (f : Value → Value → Sem Value) (o : O2) : Prop := ∃ r : R2, OpR X f r ∧ ∀ (G H : Hp) (x y : V) (d e : D) (Q : R → Prop) (P : VK), Same G H → Rep X.K G x d → Rep X.K G y e → o d e Q →
  (∀ v H' r' G', Ext G H G' H' → RepR X.K G' H' H v r' → Q r' → P v H') → r x y H P
def dOp (o : O2) (ta tb : TD) : TD := fun ρ Q => ta ρ fun ra => tb ρ fun rb => o ra.val rb.val Q
theorem op_run {r : R2} {o : O2} {tta ttb : TE}
    (hr : ∀ (G H : Hp) (x y : V) (d e : D) (Q : R → Prop) (P : VK), Same G H → Rep X.K G x d → Rep X.K G y e → o d e Q → (∀ v H' r' G', Ext G H G' H' → RepR X.K G' H' H v r' → Q r' → P v H') → r x y H P)
    (ha : ∀ (ρ : Ev) (σ : St) (G0 H0 G H : Hp) (Q : R → Prop) (P : VK), EOk X.K G0 H0 ρ σ G H → ta ρ Q → (∀ v H' r G', Ext G H G' H' → RepR X.K G' H' H v r → Q r → P v H') → tta σ H P)
    (hb : ∀ (ρ : Ev) (σ : St) (G0 H0 G H : Hp) (Q : R → Prop) (P : VK), EOk X.K G0 H0 ρ σ G H → tb ρ Q → (∀ v H' r G', Ext G H G' H' → RepR X.K G' H' H v r → Q r → P v H') → ttb σ H P)
    (ρ : Ev) (σ : St) (G0 H0 G H : Hp) (Q : R → Prop) (P : VK) (E : EOk X.K G0 H0 ρ σ G H) (h : dOp o ta tb ρ Q) (k : ∀ v H' r G', Ext G H G' H' → RepR X.K G' H' H v r → Q r → P v H') : tOp r tta ttb σ H P := by
  refine ha ρ σ G0 H0 G H _ _ E h fun v H1 ra G1 x1 r1 h1 => ?_
  obtain ⟨G1', x1', q1, _⟩ := r1.freeze x1
  refine hb ρ σ G0 H0 G1' H1 _ _ (E.ext x1') h1 fun u H2 rb G2 x2 r2 h2 => ?_
  obtain ⟨G2', x2', q2, _⟩ := r2.freeze x2
  refine hr G2' H2 v u _ _ Q P x2'.s (q1.mono x2'.g) q2 h2 fun v' H' r' G' x3 r3 h3 => ?_
  have x4 := (x1'.trans x2').trans x3
  exact k v' H' r' G' x4 (r3.older (x1'.trans x2').h) h3
theorem pd_op {op : Operator} {o : O2} (ho : OpP X (binaryOp op) o) (ha : PD X a ta) (hb : PD X b tb) : PD X (.BinOp a op b pos) (dOp o ta tb) := by
  obtain ⟨r, hr, hr'⟩ := ho
  obtain ⟨tta, pa, qa⟩ := ha
  obtain ⟨ttb, pb, qb⟩ := hb
  exact ⟨_, pe_op hr pa pb, op_run hr' qa qb⟩
theorem pd_cmp {op : CmpOp} {o : O2} (ho : OpP X (compareOp op) o) (ha : PD X a ta) (hb : PD X b tb) (hm : behindInMarks op b = false := by first | exact nomark _ | rfl) : PD X (.Compare a [op] [b] pos) (dOp o ta tb) := by
  obtain ⟨r, hr, hr'⟩ := ho
  obtain ⟨tta, pa, qa⟩ := ha
  obtain ⟨ttb, pb, qb⟩ := hb
  exact ⟨_, pe_cmpR hr pa pb hm, op_run hr' qa qb⟩
def dTst (t : TD) : TDb := fun ρ Q => t ρ fun r => match r with
  | .fz (.bl k) => Q k
  | _ => False
theorem pb_cmp {op : CmpOp} {o : O2} (ho : OpP X (compareOp op) o) (ha : PD X a ta) (hb : PD X b tb) (hm : behindInMarks op b = false := by first | exact nomark _ | rfl) : PB X (.Compare a [op] [b] pos) (dTst (dOp o ta tb)) := by
  obtain ⟨r, hr, hr'⟩ := ho
  obtain ⟨tta, pa, qa⟩ := ha
  obtain ⟨ttb, pb, qb⟩ := hb
  refine ⟨_, pt_cmpR hr pa pb hm, fun ρ σ G0 H0 G H Q P E h k => ?_⟩
  refine op_run hr' qa qb ρ σ G0 H0 G H _ _ E h fun v H' r G' x1 r1 h1 => ?_
  split at h1
  · rename_i kk
    have e : v = .bl kk := by simpa only [RepR, Rep] using r1
    exact ⟨kk, e, k kk H' G' x1 h1⟩
  · exact h1.elim
theorem pb_val {e : Expr} {t : TD} (h : PD X e t) (he : ∀ whole, isTrue e X.env whole = (do let v ← whole; standAt e.pos; holding [v] (truthy v)) := by intro _; rfl) : PB X e (dTst t) := by
  obtain ⟨tt, p, q⟩ := h
  refine ⟨_, pt_val p he, fun ρ σ G0 H0 G H Q P E h k => ?_⟩
  refine q ρ σ G0 H0 G H _ _ E h fun v H' r G' x1 r1 h1 => ?_
  split at h1
  · rename_i kk
    have e : v = .bl kk := by simpa only [RepR, Rep] using r1
    exact ⟨kk, e, k kk H' G' x1 h1⟩
  · exact h1.elim
def oAdd : O2 := fun d e Q => match d, e with
  | .int i, .int j => Q (.fz (.int (i + j)))
  | .str x, .str y => x.length + y.length ≤ sizeLine ∧ Q (.fz (.str (x ++ y)))
  | .lst xs, .lst ys => xs.length + ys.length ≤ sizeLine ∧ Q (.ow (xs ++ ys))
  | _, _ => False
def rCatR (K : PySem.W.Frag) : R2 := fun x y H Q => ∃ l b xs zs, x = .ref l ∧ y = .ref b ∧ RdL K H l xs ∧ RdL K H b zs ∧ xs.length + zs.length ≤ sizeLine ∧ ∀ p, H p = none → Q (.ref p) (upd H p (.lst (xs ++ zs)))
theorem op_catR : OpR X (binaryOp .Add) (rCatR X.K) := by
  intro pins s σ H x y v u Q I rx ry h
  obtain ⟨l, b, xs, zs, rfl, rfl, hH, hB, hz, q⟩ := h
  cases rx
  cases ry
  obtain ⟨z, its, n, r, e⟩ := I.rdl hH
  obtain ⟨z2, its2, n2, r2, e2⟩ := I.rdl hB
  have hl := r.length
  have hl2 := r2.length
  refine PySem.P.add_list e e2 ?_ (by rw [List.size_toArray, List.size_toArray]; omega)
  have ea : its.toArray ++ its2.toArray = (its ++ its2).toArray := by simp
  rw [ea]
  exact ⟨.ref _, _, I.lnew (t' := s.toks) (r.append r2) (by rw [List.length_append]; omega), rfl, q _ I.fresh⟩
theorem own_fin {G H : Hp} {xs : List V} {ds : List D} {Q : R → Prop} {P : VK} (s : Same G H) (r : Reps X.K G xs ds) (q : Q (.ow ds))
    (k : ∀ v H' r' G', Ext G H G' H' → RepR X.K G' H' H v r' → Q r' → P v H') : ∀ p, H p = none → P (.ref p) (upd H p (.lst xs)) := fun p hp =>
  k _ _ (.ow ds) G (.own s hp) ⟨p, xs, rfl, hp, s.free hp, upd_same, r⟩ q
theorem o_add : OpP X (binaryOp .Add) oAdd := by
  refine ⟨_, op_add.or (op_add_str.or op_catR), fun G H x y d e Q P s rx ry h k => ?_⟩
  unfold oAdd at h
  split at h
  · simp only [Rep] at rx ry
    exact .inl ⟨_, _, rx, ry, k _ _ _ G (.refl s) (fzR (rep_int _ _ _)) h⟩
  · simp only [Rep] at rx ry
    exact .inr (.inl ⟨_, _, rx, ry, h.1, k _ _ _ G (.refl s) (fzR (rep_str _ _ _)) h.2⟩)
  · simp only [Rep] at rx ry
    obtain ⟨a, xs, rfl, hx, rxs⟩ := rx
    obtain ⟨b, ys, rfl, hy, rys⟩ := ry
    refine .inr (.inr ⟨_, _, _, _, rfl, rfl, s.rdl hx, s.rdl hy, by rw [rxs.length, rys.length]; exact h.1, own_fin s (rxs.append rys) h.2 k⟩)
  · exact h.elim
def oI (C : Int → Int → Prop) (g : Int → Int → D) : O2 := fun d e Q => match d, e with
  | .int i, .int j => C i j ∧ Q (.fz (g i j))
  | _, _ => False
def oI0 (g : Int → Int → D) : O2 := fun d e Q => match d, e with
  | .int i, .int j => Q (.fz (g i j))
  | _, _ => False
theorem opP_I {f : Value → Value → Sem Value} {C : Int → Int → Prop} {g : Int → Int → V} {g' : Int → Int → D} (h : OpR X f (rI C g)) (hg : ∀ K G i j, Rep K G (g i j) (g' i j)) : OpP X f (oI C g') := by
  refine ⟨_, h, fun G H x y d e Q P s rx ry h k => ?_⟩
  unfold oI at h
  split at h
  · simp only [Rep] at rx ry
    exact ⟨_, _, rx, ry, h.1, k _ _ _ G (.refl s) (fzR (hg _ _ _ _)) h.2⟩
  · exact h.elim
theorem opP_I0 {f : Value → Value → Sem Value} {g : Int → Int → V} {g' : Int → Int → D} (h : OpR X f (rI0 g)) (hg : ∀ K G i j, Rep K G (g i j) (g' i j)) : OpP X f (oI0 g') := by
  refine ⟨_, h, fun G H x y d e Q P s rx ry h k => ?_⟩
  unfold oI0 at h
  split at h
  · simp only [Rep] at rx ry
    exact ⟨_, _, rx, ry, k _ _ _ G (.refl s) (fzR (hg _ _ _ _)) h⟩
  · exact h.elim
theorem o_sub : OpP X (binaryOp .Sub) (oI0 fun i j => .int (i - j)) := opP_I0 op_sub fun K G i j => rep_int K G _
theorem o_mul : OpP X (binaryOp .Mult) (oI CMul fun i j => .int (i * j)) := opP_I op_mul fun K G i j => rep_int K G _
theorem o_fdiv : OpP X (binaryOp .FloorDiv) (oI CDiv fun i j => .int (i / j)) := opP_I op_fdiv fun K G i j => rep_int K G _
theorem o_mod : OpP X (binaryOp .Mod) (oI (fun _ j => 0 < j) fun i j => .int (i % j)) := opP_I op_mod fun K G i j => rep_int K G _
theorem o_pow : OpP X (binaryOp .Pow) (oI CPow fun i j => .int (i ^ j.toNat)) := opP_I op_pow fun K G i j => rep_int K G _
theorem o_lt : OpP X (compareOp .Lt) (oI0 fun i j => .bl (decide (i < j))) := opP_I0 op_lt fun K G i j => rep_bl K G _
theorem o_gt : OpP X (compareOp .Gt) (oI0 fun i j => .bl (decide (j < i))) := opP_I0 op_gt fun K G i j => rep_bl K G _
theorem o_ge : OpP X (compareOp .GtE) (oI0 fun i j => .bl (decide (j ≤ i))) := opP_I0 op_ge fun K G i j => rep_bl K G _
end
end L2
set_option Elab.async false
set_option linter.all false
set_option maxRecDepth 100000
set_option maxHeartbeats 1000000
namespace L2
open PySem PySem.Spec PyProof.Rows PySem.SeqAt
mutual
def eqD : D → D → Bool
  | .non, .non => true
  | .bl a, .bl b => a == b
  | .bl a, .int b => (if a then 1 else 0) == b
  | .int a, .bl b => a == (if b then 1 else 0)
  | .int a, .int b => a == b
  | .str a, .str b => a == b
  | .tup xs, .tup ys => eqDs xs ys
  | .lst xs, .lst ys => eqDs xs ys
  | _, _ => false
def eqDs : List D → List D → Bool
  | [], [] => true
  | x :: xs, y :: ys => eqD x y && eqDs xs ys
  | _, _ => false
end
def okE : Nat → D → Prop
  | _, .non => True
  | _, .bl _ => True
  | _, .int _ => True
  | _, .str _ => True
  | n + 1, .tup ds => ∀ d ∈ ds, okE n d
  | n + 1, .lst ds => ∀ d ∈ ds, okE n d
  | _, _ => False
theorem okE.mono : ∀ {n m : Nat} {d : D}, n ≤ m → okE n d → okE m d
  | n, m, .non, _, _ => by cases m <;> exact trivial
  | n, m, .bl _, _, _ => by cases m <;> exact trivial
  | n, m, .int _, _, _ => by cases m <;> exact trivial
  | n, m, .str _, _, _ => by cases m <;> exact trivial
  | 0, m, .tup ds, _, h => by cases h
  | 0, m, .lst ds, _, h => by cases h
  | n + 1, 0, .tup ds, l, h => by omega
  | n + 1, 0, .lst ds, l, h => by omega
  | n + 1, m + 1, .tup ds, l, h => fun d hd => okE.mono (by omega) (h d hd)
  | n + 1, m + 1, .lst ds, l, h => fun d hd => okE.mono (by omega) (h d hd)
  | 0, m, .obj _ _, _, h => by cases h
  | n + 1, m, .obj _ _, _, h => by cases h
  | 0, m, .dic _, _, h => by cases h
  | 0, m, .dit _, _, h => by cases h
  | n + 1, m, .dic _, _, h => by cases h
  | n + 1, m, .dit _, _, h => by cases h
mutual
theorem eqD_refl : ∀ (n : Nat) (d : D), okE n d → eqD d d = true
  | n, .non, _ => by simp only [eqD]
  | n, .bl _, _ => by simp only [eqD, beq_self_eq_true]
  | n, .int _, _ => by simp only [eqD, beq_self_eq_true]
  | n, .str _, _ => by simp only [eqD, beq_self_eq_true]
  | 0, .tup ds, h => by cases h
  | 0, .lst ds, h => by cases h
  | n + 1, .tup ds, h => by simp only [eqD]; exact eqDs_refl n ds h
  | n + 1, .lst ds, h => by simp only [eqD]; exact eqDs_refl n ds h
  | 0, .obj _ _, h => by cases h
  | n + 1, .obj _ _, h => by cases h
  | 0, .dic _, h => by cases h
  | 0, .dit _, h => by cases h
  | n + 1, .dic _, h => by cases h
  | n + 1, .dit _, h => by cases h
theorem eqDs_refl : ∀ (n : Nat) (ds : List D), (∀ d ∈ ds, okE n d) → eqDs ds ds = true
  | n, [], _ => by simp only [eqDs]
  | n, d :: ds, h => by simp only [eqDs, eqD_refl n d (h d (by simp)), eqDs_refl n ds (fun e he => h e (by simp [he])), Bool.and_self]
end
theorem eqDs_len : ∀ {xs ys : List D}, xs.length ≠ ys.length → eqDs xs ys = false
  | [], [], h => absurd rfl h
  | x :: xs, y :: ys, h => by
    rw [eqDs, eqDs_len (xs := xs) (ys := ys) (by simpa using h), Bool.and_false]
  | [], _ :: _, _ => by simp only [eqDs]
  | _ :: _, [], _ => by simp only [eqDs]
theorem eqDs_all : ∀ (xs ys : List D), xs.length = ys.length → eqDs xs ys = (List.range xs.length).all fun j => eqD (xs.getD j .non) (ys.getD j .non)
  | [], [], _ => by simp [eqDs]
  | x :: xs, y :: ys, h => by
    rw [eqDs, eqDs_all xs ys (by simpa using h), List.length_cons, List.range_succ_eq_map, List.all_cons, List.all_map]
    congr 1
  | [], _ :: _, h => by simp at h
  | _ :: _, [], h => by simp at h
theorem eqDs_min (xs ys : List D) : ((List.range (min xs.length ys.length)).all (fun j => eqD (xs.getD j .non) (ys.getD j .non)) && xs.length == ys.length) = eqDs xs ys := by
  by_cases h : xs.length = ys.length
  · rw [eqDs_all xs ys h, h]
    simp
  · rw [eqDs_len h]
    simp [h]
section
variable {X : Cx} {pins : List (Addr × Obj)} {σ : St} {H : Hp} {s : Shared}
mutual
theorem rep_inj (I : Inv X pins σ H s) : ∀ (n : Nat) (d e : D) (v : V), okE n d → okE n e → Rep X.K H v d → Rep X.K H v e → d = e
  | n, .non, e, v, h, h', r, r' => by
    cases e <;> simp only [Rep] at r r' <;> subst r <;> first | rfl | (simp at r'; done) | (simp only [V.bl.injEq, V.int.injEq, V.str.injEq] at r'; rw [r'])
  | n, .bl b, e, v, h, h', r, r' => by
    cases e <;> simp only [Rep] at r r' <;> subst r <;> first | rfl | (simp at r'; done) | (simp only [V.bl.injEq, V.int.injEq, V.str.injEq] at r'; rw [r'])
  | n, .int b, e, v, h, h', r, r' => by
    cases e <;> simp only [Rep] at r r' <;> subst r <;> first | rfl | (simp at r'; done) | (simp only [V.bl.injEq, V.int.injEq, V.str.injEq] at r'; rw [r'])
  | n, .str b, e, v, h, h', r, r' => by
    cases e <;> simp only [Rep] at r r' <;> subst r <;> first | rfl | (simp at r'; done) | (simp only [V.bl.injEq, V.int.injEq, V.str.injEq] at r'; rw [r'])
  | 0, .tup ds, e, v, h, h', r, r' => by cases h
  | 0, .lst ds, e, v, h, h', r, r' => by cases h
  | n + 1, .tup ds, e, v, h, h', r, r' => by
    simp only [Rep] at r
    obtain ⟨a, xs, rfl, q, rs⟩ := r
    cases e <;> simp only [Rep] at r'
    case tup es =>
      obtain ⟨b, ys, e1, q', rs'⟩ := r'
      cases e1
      rw [I.tuple_inj q' q] at rs'
      rw [reps_inj I n ds es xs h h' rs rs']
    case lst es =>
      obtain ⟨b, ys, e1, q', rs'⟩ := r'
      cases e1
      obtain ⟨its, _, ht, _⟩ := I.tuple q
      obtain ⟨its', _, hl, _⟩ := I.list q'.sq
      exact absurd rfl (ne_of_list_tuple hl.isList (show s.heap.IsTuple a its.toArray from ht))
    case obj => cases h'
    case dic => cases h'
    case dit => cases h'
    all_goals cases r'
  | n + 1, .lst ds, e, v, h, h', r, r' => by
    simp only [Rep] at r
    obtain ⟨a, xs, rfl, q, rs⟩ := r
    cases e <;> simp only [Rep] at r'
    case lst es =>
      obtain ⟨b, ys, e1, q', rs'⟩ := r'
      cases e1
      rw [I.list_inj q'.sq q.sq] at rs'
      rw [reps_inj I n ds es xs h h' rs rs']
    case tup es =>
      obtain ⟨b, ys, e1, q', rs'⟩ := r'
      cases e1
      obtain ⟨its, _, ht, _⟩ := I.tuple q'
      obtain ⟨its', _, hl, _⟩ := I.list q.sq
      exact absurd rfl (ne_of_list_tuple hl.isList (show s.heap.IsTuple a its.toArray from ht))
    case obj => cases h'
    case dic => cases h'
    case dit => cases h'
    all_goals cases r'
  | 0, .obj _ _, _, _, h, _, _, _ => by cases h
  | n + 1, .obj _ _, _, _, h, _, _, _ => by cases h
  | 0, .dic _, _, _, h, _, _, _ => by cases h
  | 0, .dit _, _, _, h, _, _, _ => by cases h
  | n + 1, .dic _, _, _, h, _, _, _ => by cases h
  | n + 1, .dit _, _, _, h, _, _, _ => by cases h
theorem reps_inj (I : Inv X pins σ H s) : ∀ (n : Nat) (ds es : List D) (vs : List V), (∀ d ∈ ds, okE n d) → (∀ d ∈ es, okE n d) → Reps X.K H vs ds → Reps X.K H vs es → ds = es
  | n, [], [], _, _, _, _, _ => rfl
  | n, d :: ds, e :: es, v :: vs, h, h', r, r' => by
    simp only [Reps] at r r'
    rw [rep_inj I n d e v (h d (by simp)) (h' e (by simp)) r.1 r'.1, reps_inj I n ds es vs (fun x hx => h x (by simp [hx])) (fun x hx => h' x (by simp [hx])) r.2 r'.2]
  | n, [], _ :: _, [], _, _, _, r => by simp only [Reps] at r
  | n, [], _ :: _, _ :: _, _, _, r, _ => by simp only [Reps] at r
  | n, _ :: _, [], [], _, _, r, _ => by simp only [Reps] at r
  | n, _ :: _, [], _ :: _, _, _, _, r => by simp only [Reps] at r
  | n, _ :: _, _ :: _, [], _, _, r, _ => by simp only [Reps] at r
end
theorem item_of {vs : List V} {ds : List D} {us : List Value} {j : Nat} (rv : Vals vs us) (rd : Reps X.K H vs ds) (hj : j < us.toArray.size) : ∃ v, RelV v us.toArray[j] ∧ Rep X.K H v (ds.getD j .non) ∧ ds.getD j .non ∈ ds := by
  have h1 : j < us.length := by simpa using hj
  have h2 : j < vs.length := by rw [rv.length]; exact h1
  have h3 : j < ds.length := by rw [← rd.length]; exact h2
  obtain ⟨u, hu, ru⟩ := rv.get (List.getElem?_eq_getElem h2)
  obtain ⟨d, hd, rd'⟩ := rd.getV (List.getElem?_eq_getElem h2)
  rw [List.getElem?_eq_getElem h1] at hu
  rw [List.getElem?_eq_getElem h3] at hd
  cases hu
  cases hd
  refine ⟨vs[j], ?_, ?_, ?_⟩
  · simpa using ru
  · simpa [List.getD, h3] using rd'
  · simp [List.getD, h3]
def flatD : D → Bool
  | .non => true
  | .bl _ => true
  | .int _ => true
  | .str _ => true
  | _ => false
theorem flat_eq {d e : D} {x y : V} (hd : flatD d = true) (he : flatD e = true) (rx : Rep X.K H x d) (ry : Rep X.K H y e) : flatV x = true ∧ flatV y = true ∧ eqV x y = eqD d e := by
  cases d <;> first | cases hd | skip
  all_goals (cases e <;> first | cases he | skip)
  all_goals
    simp only [Rep] at rx ry
    subst rx ry
    exact ⟨rfl, rfl, by simp [eqV, eqD]⟩
theorem eqAt_D (I : Inv X pins σ H s) : ∀ (n : Nat) (A : Around) (d e : D) (x y : V) (v u : Value), okE n d → okE n e → A.units + n < cLine → Rep X.K H x d → Rep X.K H y e → RelV x v → RelV y u → EqAt A s v u (eqD d e) := by
  intro n
  induction n with
  | zero =>
    intro A d e x y v u hd he hu rx ry qx qy
    have fd : flatD d = true := by cases d <;> first | rfl | cases hd
    have fe : flatD e = true := by cases e <;> first | rfl | cases he
    obtain ⟨h1, h2, h3⟩ := flat_eq fd fe rx ry
    rw [← h3]
    exact eqAt_V qx qy h1 h2
  | succ n ih =>
    intro A d e x y v u hd he hu rx ry qx qy
    have hu0 : A.units < cLine := by omega
    have hu1 : A.in1.units + n < cLine := by show A.units + 1 + n < cLine; omega
    by_cases fd : flatD d = true
    · by_cases fe : flatD e = true
      · obtain ⟨h1, h2, h3⟩ := flat_eq fd fe rx ry
        rw [← h3]
        exact eqAt_V qx qy h1 h2
      · cases e <;> first | exact absurd rfl fe | skip
        case tup es =>
          simp only [Rep] at ry
          obtain ⟨b, ys, rfl, q, rs⟩ := ry
          cases qy
          obtain ⟨its, rv, ht, _⟩ := I.tuple q
          have ht' : s.heap.IsTuple b its.toArray := ht
          cases d <;> first | cases fd | skip
          · simp only [Rep] at rx; subst rx; cases qx; simpa only [eqD] using EqAt.none_tuple ht' hu0
          · simp only [Rep] at rx; subst rx; cases qx; simpa only [eqD] using EqAt.bool_tuple _ ht' hu0
          · simp only [Rep] at rx; subst rx; obtain ⟨t, rfl⟩ := qx; simpa only [eqD] using EqAt.int_tuple _ t ht' hu0
          · simp only [Rep] at rx; subst rx; obtain ⟨t, rfl⟩ := qx; simpa only [eqD] using EqAt.str_tuple _ t ht' hu0
        case lst es =>
          simp only [Rep] at ry
          obtain ⟨b, ys, rfl, q, rs⟩ := ry
          cases qy
          obtain ⟨its, rv, ht, _⟩ := I.list q.sq
          have ht' := ht.isList
          cases d <;> first | cases fd | skip
          · simp only [Rep] at rx; subst rx; cases qx; simpa only [eqD] using EqAt.none_list ht' hu0
          · simp only [Rep] at rx; subst rx; cases qx; simpa only [eqD] using EqAt.bool_list _ ht' hu0
          · simp only [Rep] at rx; subst rx; obtain ⟨t, rfl⟩ := qx; simpa only [eqD] using EqAt.int_list _ t ht' hu0
          · simp only [Rep] at rx; subst rx; obtain ⟨t, rfl⟩ := qx; simpa only [eqD] using EqAt.str_list _ t ht' hu0
        case obj => cases he
        case dic => cases he
        case dit => cases he
    · cases d <;> first | exact absurd rfl fd | skip
      case tup ds =>
        have rx0 := rx
        simp only [Rep] at rx
        obtain ⟨a, xs, rfl, q, rs⟩ := rx
        cases qx
        obtain ⟨its, rv, ht, _⟩ := I.tuple q
        have ht' : s.heap.IsTuple a its.toArray := ht
        cases e
        case non => simp only [Rep] at ry; subst ry; cases qy; simpa only [eqD] using EqAt.tuple_none ht' hu0
        case bl => simp only [Rep] at ry; subst ry; cases qy; simpa only [eqD] using EqAt.tuple_bool _ ht' hu0
        case int => simp only [Rep] at ry; subst ry; obtain ⟨t, rfl⟩ := qy; simpa only [eqD] using EqAt.tuple_int _ t ht' hu0
        case str => simp only [Rep] at ry; subst ry; obtain ⟨t, rfl⟩ := qy; simpa only [eqD] using EqAt.tuple_str _ t ht' hu0
        case lst es =>
          simp only [Rep] at ry
          obtain ⟨b, ys, rfl, q', rs'⟩ := ry
          cases qy
          obtain ⟨its', rv', hl, _⟩ := I.list q'.sq
          simpa only [eqD] using EqAt.tuple_list ht' hl.isList hu0
        case tup es =>
          have ry0 := ry
          simp only [Rep] at ry
          obtain ⟨b, ys, rfl, q', rs'⟩ := ry
          cases qy
          obtain ⟨its', rv', ht2, _⟩ := I.tuple q'
          by_cases hab : a = b
          · subst hab
            have e0 := rep_inj I (n + 1) _ _ _ hd he rx0 ry0
            rw [← e0, eqD_refl (n + 1) _ hd]
            exact EqAt.same _
          · refine EqAt.of_refs hab ?_
            have h := RcAt.tuples (e := fun j => eqD (ds.getD j .non) (es.getD j .non)) ht' (show s.heap.IsTuple b its'.toArray from ht2) hu0 fun j h1 h2 => by
              obtain ⟨v1, a1, b1, c1⟩ := item_of rv rs h1
              obtain ⟨v2, a2, b2, c2⟩ := item_of rv' rs' h2
              exact ih A.in1 _ _ v1 v2 _ _ (hd _ c1) (he _ c2) hu1 b1 b2 a1 a2
            have l1 : its.toArray.size = ds.length := by rw [List.size_toArray, ← rv.length, rs.length]
            have l2 : its'.toArray.size = es.length := by rw [List.size_toArray, ← rv'.length, rs'.length]
            rw [l1, l2, eqDs_min] at h
            simpa only [eqD] using h
        case obj => cases he
        case dic => cases he
        case dit => cases he
      case lst ds =>
        have rx0 := rx
        simp only [Rep] at rx
        obtain ⟨a, xs, rfl, q, rs⟩ := rx
        cases qx
        obtain ⟨its, rv, ht, _⟩ := I.list q.sq
        have ht' := ht.isList
        cases e
        case non => simp only [Rep] at ry; subst ry; cases qy; simpa only [eqD] using EqAt.list_none ht' hu0
        case bl => simp only [Rep] at ry; subst ry; cases qy; simpa only [eqD] using EqAt.list_bool _ ht' hu0
        case int => simp only [Rep] at ry; subst ry; obtain ⟨t, rfl⟩ := qy; simpa only [eqD] using EqAt.list_int _ t ht' hu0
        case str => simp only [Rep] at ry; subst ry; obtain ⟨t, rfl⟩ := qy; simpa only [eqD] using EqAt.list_str _ t ht' hu0
        case tup es =>
          simp only [Rep] at ry
          obtain ⟨b, ys, rfl, q', rs'⟩ := ry
          cases qy
          obtain ⟨its', rv', hl, _⟩ := I.tuple q'
          simpa only [eqD] using EqAt.list_tuple ht' (show s.heap.IsTuple b its'.toArray from hl) hu0
        case lst es =>
          have ry0 := ry
          simp only [Rep] at ry
          obtain ⟨b, ys, rfl, q', rs'⟩ := ry
          cases qy
          obtain ⟨its', rv', ht2, _⟩ := I.list q'.sq
          by_cases hab : a = b
          · subst hab
            have e0 := rep_inj I (n + 1) _ _ _ hd he rx0 ry0
            rw [← e0, eqD_refl (n + 1) _ hd]
            exact EqAt.same _
          · refine EqAt.of_refs hab ?_
            have l1 : its.toArray.size = ds.length := by rw [List.size_toArray, ← rv.length, rs.length]
            have l2 : its'.toArray.size = es.length := by rw [List.size_toArray, ← rv'.length, rs'.length]
            by_cases hl : ds.length = es.length
            · have h := RcAt.lists (e := fun j => eqD (ds.getD j .non) (es.getD j .non)) ht' ht2.isList (by rw [l1, l2, hl]) hu0 fun j h1 h2 => by
                obtain ⟨v1, a1, b1, c1⟩ := item_of rv rs h1
                obtain ⟨v2, a2, b2, c2⟩ := item_of rv' rs' h2
                exact ih A.in1 _ _ v1 v2 _ _ (hd _ c1) (he _ c2) hu1 b1 b2 a1 a2
              rw [l1, ← eqDs_all ds es hl] at h
              simpa only [eqD] using h
            · have h := RcAt.lists_lengths (A := A) ht' ht2.isList (by rw [l1, l2]; simpa using hl) hu0
              simp only [eqD, eqDs_len hl]
              exact h
        case obj => cases he
        case dic => cases he
        case dit => cases he
      case obj => cases hd
      case dic => cases hd
      case dit => cases hd
end
end L2
set_option Elab.async false
set_option linter.all false
set_option maxRecDepth 100000
set_option maxHeartbeats 1000000
namespace L2
open PySem PySem.Spec PyProof.Rows PySem.SeqAt
section
variable {X : Cx} {pins : List (Addr × Obj)} {σ : St} {H : Hp} {s : Shared}
theorem RcAt_D (I : Inv X pins σ H s) : ∀ (n : Nat) (A : Around) (d e : D) (x y : V) (v u : Value), okE n d → okE n e → A.units + n < cLine → Rep X.K H x d → Rep X.K H y e → RelV x v → RelV y u → RcAt A s v u (eqD d e) := by
  intro n A d e x y v u hd he hu rx ry qx qy
  have hu0 : A.units < cLine := by omega
  cases d
  case non =>
    simp only [Rep] at rx; subst rx; cases qx
    cases e
    case non => simp only [Rep] at ry; subst ry; cases qy; simpa only [eqD, Bool.not_true] using RcAt.none_none
    case bl => simp only [Rep] at ry; subst ry; cases qy; simpa only [eqD, Bool.not_false] using RcAt.none_bool _
    case int => simp only [Rep] at ry; subst ry; obtain ⟨t, rfl⟩ := qy; simpa only [eqD, Bool.not_false] using RcAt.none_int _ t
    case str => simp only [Rep] at ry; subst ry; obtain ⟨t, rfl⟩ := qy; simpa only [eqD, Bool.not_false] using RcAt.none_str _ t
    case tup =>
      simp only [Rep] at ry; obtain ⟨b, ys, rfl, q, rs⟩ := ry; cases qy; obtain ⟨its, rv, ht, _⟩ := I.tuple q
      simpa only [eqD, Bool.not_false] using RcAt.none_tuple (show s.heap.IsTuple b its.toArray from ht) hu0
    case lst =>
      simp only [Rep] at ry; obtain ⟨b, ys, rfl, q, rs⟩ := ry; cases qy; obtain ⟨its, rv, ht, _⟩ := I.list q.sq
      simpa only [eqD, Bool.not_false] using RcAt.none_list ht.isList hu0
    case obj => cases n <;> cases he
    case dic => cases n <;> cases he
    case dit => cases n <;> cases he
  case bl a =>
    simp only [Rep] at rx; subst rx; cases qx
    cases e
    case non => simp only [Rep] at ry; subst ry; cases qy; simpa only [eqD, Bool.not_false] using RcAt.bool_none _
    case bl => simp only [Rep] at ry; subst ry; cases qy; simpa only [eqD] using RcAt.bool_bool _ _
    case int => simp only [Rep] at ry; subst ry; obtain ⟨t, rfl⟩ := qy; simpa only [eqD] using RcAt.bool_int _ _ t
    case str => simp only [Rep] at ry; subst ry; obtain ⟨t, rfl⟩ := qy; simpa only [eqD, Bool.not_false] using RcAt.bool_str _ _ t
    case tup =>
      simp only [Rep] at ry; obtain ⟨b, ys, rfl, q, rs⟩ := ry; cases qy; obtain ⟨its, rv, ht, _⟩ := I.tuple q
      simpa only [eqD, Bool.not_false] using RcAt.bool_tuple _ (show s.heap.IsTuple b its.toArray from ht) hu0
    case lst =>
      simp only [Rep] at ry; obtain ⟨b, ys, rfl, q, rs⟩ := ry; cases qy; obtain ⟨its, rv, ht, _⟩ := I.list q.sq
      simpa only [eqD, Bool.not_false] using RcAt.bool_list _ ht.isList hu0
    case obj => cases n <;> cases he
    case dic => cases n <;> cases he
    case dit => cases n <;> cases he
  case int a =>
    simp only [Rep] at rx; subst rx; obtain ⟨t0, rfl⟩ := qx
    cases e
    case non => simp only [Rep] at ry; subst ry; cases qy; simpa only [eqD, Bool.not_false] using RcAt.int_none _ t0
    case bl => simp only [Rep] at ry; subst ry; cases qy; simpa only [eqD] using RcAt.int_bool _ t0 _
    case int => simp only [Rep] at ry; subst ry; obtain ⟨t, rfl⟩ := qy; simpa only [eqD] using RcAt.int_int _ t0 _ t
    case str => simp only [Rep] at ry; subst ry; obtain ⟨t, rfl⟩ := qy; simpa only [eqD, Bool.not_false] using RcAt.int_str _ t0 _ t
    case tup =>
      simp only [Rep] at ry; obtain ⟨b, ys, rfl, q, rs⟩ := ry; cases qy; obtain ⟨its, rv, ht, _⟩ := I.tuple q
      simpa only [eqD, Bool.not_false] using RcAt.int_tuple _ t0 (show s.heap.IsTuple b its.toArray from ht) hu0
    case lst =>
      simp only [Rep] at ry; obtain ⟨b, ys, rfl, q, rs⟩ := ry; cases qy; obtain ⟨its, rv, ht, _⟩ := I.list q.sq
      simpa only [eqD, Bool.not_false] using RcAt.int_list _ t0 ht.isList hu0
    case obj => cases n <;> cases he
    case dic => cases n <;> cases he
    case dit => cases n <;> cases he
  case str a =>
    simp only [Rep] at rx; subst rx; obtain ⟨t0, rfl⟩ := qx
    cases e
    case non => simp only [Rep] at ry; subst ry; cases qy; simpa only [eqD, Bool.not_false] using RcAt.str_none _ t0
    case bl => simp only [Rep] at ry; subst ry; cases qy; simpa only [eqD, Bool.not_false] using RcAt.str_bool _ t0 _
    case int => simp only [Rep] at ry; subst ry; obtain ⟨t, rfl⟩ := qy; simpa only [eqD, Bool.not_false] using RcAt.str_int _ t0 _ t
    case str => simp only [Rep] at ry; subst ry; obtain ⟨t, rfl⟩ := qy; simpa only [eqD] using RcAt.str_str _ t0 _ t
    case tup =>
      simp only [Rep] at ry; obtain ⟨b, ys, rfl, q, rs⟩ := ry; cases qy; obtain ⟨its, rv, ht, _⟩ := I.tuple q
      simpa only [eqD, Bool.not_false] using RcAt.str_tuple _ t0 (show s.heap.IsTuple b its.toArray from ht) hu0
    case lst =>
      simp only [Rep] at ry; obtain ⟨b, ys, rfl, q, rs⟩ := ry; cases qy; obtain ⟨its, rv, ht, _⟩ := I.list q.sq
      simpa only [eqD, Bool.not_false] using RcAt.str_list _ t0 ht.isList hu0
    case obj => cases n <;> cases he
    case dic => cases n <;> cases he
    case dit => cases n <;> cases he
  case tup ds =>
    cases n with
    | zero => cases hd
    | succ n =>
    have hu1 : A.in1.units + n < cLine := by show A.units + 1 + n < cLine; omega
    simp only [Rep] at rx
    obtain ⟨a, xs, rfl, q, rs⟩ := rx
    cases qx
    obtain ⟨its, rv, ht, _⟩ := I.tuple q
    have ht' : s.heap.IsTuple a its.toArray := ht
    cases e
    case non => simp only [Rep] at ry; subst ry; cases qy; simpa only [eqD, Bool.not_false] using RcAt.tuple_none ht' hu0
    case bl => simp only [Rep] at ry; subst ry; cases qy; simpa only [eqD, Bool.not_false] using RcAt.tuple_bool _ ht' hu0
    case int => simp only [Rep] at ry; subst ry; obtain ⟨t, rfl⟩ := qy; simpa only [eqD, Bool.not_false] using RcAt.tuple_int _ t ht' hu0
    case str => simp only [Rep] at ry; subst ry; obtain ⟨t, rfl⟩ := qy; simpa only [eqD, Bool.not_false] using RcAt.tuple_str _ t ht' hu0
    case lst es =>
      simp only [Rep] at ry
      obtain ⟨b, ys, rfl, q', rs'⟩ := ry
      cases qy
      obtain ⟨its', rv', hl, _⟩ := I.list q'.sq
      simpa only [eqD, Bool.not_false] using RcAt.tuple_list ht' hl.isList hu0
    case tup es =>
      simp only [Rep] at ry
      obtain ⟨b, ys, rfl, q', rs'⟩ := ry
      cases qy
      obtain ⟨its', rv', ht2, _⟩ := I.tuple q'
      have h := RcAt.tuples (e := fun j => eqD (ds.getD j .non) (es.getD j .non)) ht' (show s.heap.IsTuple b its'.toArray from ht2) hu0 fun j h1 h2 => by
        obtain ⟨v1, a1, b1, c1⟩ := item_of rv rs h1
        obtain ⟨v2, a2, b2, c2⟩ := item_of rv' rs' h2
        exact eqAt_D I n A.in1 _ _ v1 v2 _ _ (hd _ c1) (he _ c2) hu1 b1 b2 a1 a2
      have l1 : its.toArray.size = ds.length := by rw [List.size_toArray, ← rv.length, rs.length]
      have l2 : its'.toArray.size = es.length := by rw [List.size_toArray, ← rv'.length, rs'.length]
      rw [l1, l2, eqDs_min] at h
      simpa only [eqD] using h
    case obj => cases he
    case dic => cases he
    case dit => cases he
  case lst ds =>
    cases n with
    | zero => cases hd
    | succ n =>
    have hu1 : A.in1.units + n < cLine := by show A.units + 1 + n < cLine; omega
    simp only [Rep] at rx
    obtain ⟨a, xs, rfl, q, rs⟩ := rx
    cases qx
    obtain ⟨its, rv, ht, _⟩ := I.list q.sq
    have ht' := ht.isList
    cases e
    case non => simp only [Rep] at ry; subst ry; cases qy; simpa only [eqD, Bool.not_false] using RcAt.list_none ht' hu0
    case bl => simp only [Rep] at ry; subst ry; cases qy; simpa only [eqD, Bool.not_false] using RcAt.list_bool _ ht' hu0
    case int => simp only [Rep] at ry; subst ry; obtain ⟨t, rfl⟩ := qy; simpa only [eqD, Bool.not_false] using RcAt.list_int _ t ht' hu0
    case str => simp only [Rep] at ry; subst ry; obtain ⟨t, rfl⟩ := qy; simpa only [eqD, Bool.not_false] using RcAt.list_str _ t ht' hu0
    case tup es =>
      simp only [Rep] at ry
      obtain ⟨b, ys, rfl, q', rs'⟩ := ry
      cases qy
      obtain ⟨its', rv', hl, _⟩ := I.tuple q'
      simpa only [eqD, Bool.not_false] using RcAt.list_tuple ht' (show s.heap.IsTuple b its'.toArray from hl) hu0
    case lst es =>
      simp only [Rep] at ry
      obtain ⟨b, ys, rfl, q', rs'⟩ := ry
      cases qy
      obtain ⟨its', rv', ht2, _⟩ := I.list q'.sq
      have l1 : its.toArray.size = ds.length := by rw [List.size_toArray, ← rv.length, rs.length]
      have l2 : its'.toArray.size = es.length := by rw [List.size_toArray, ← rv'.length, rs'.length]
      by_cases hl : ds.length = es.length
      · have h := RcAt.lists (e := fun j => eqD (ds.getD j .non) (es.getD j .non)) ht' ht2.isList (by rw [l1, l2, hl]) hu0 fun j h1 h2 => by
          obtain ⟨v1, a1, b1, c1⟩ := item_of rv rs h1
          obtain ⟨v2, a2, b2, c2⟩ := item_of rv' rs' h2
          exact eqAt_D I n A.in1 _ _ v1 v2 _ _ (hd _ c1) (he _ c2) hu1 b1 b2 a1 a2
        rw [l1, ← eqDs_all ds es hl] at h
        simpa only [eqD] using h
      · have h := RcAt.lists_lengths (A := A) ht' ht2.isList (by rw [l1, l2]; simpa using hl) hu0
        simp only [eqD, eqDs_len hl]
        exact h
    case obj => cases he
    case dic => cases he
    case dit => cases he
  case obj => cases n <;> cases hd
  case dic => cases n <;> cases hd
  case dit => cases n <;> cases hd
theorem RcNeAt_D (I : Inv X pins σ H s) : ∀ (n : Nat) (A : Around) (d e : D) (x y : V) (v u : Value), okE n d → okE n e → A.units + n < cLine → Rep X.K H x d → Rep X.K H y e → RelV x v → RelV y u → RcNeAt A s v u (!eqD d e) := by
  intro n A d e x y v u hd he hu rx ry qx qy
  have hu0 : A.units < cLine := by omega
  cases d
  case non =>
    simp only [Rep] at rx; subst rx; cases qx
    cases e
    case non => simp only [Rep] at ry; subst ry; cases qy; simpa only [eqD, Bool.not_true] using RcNeAt.none_none
    case bl => simp only [Rep] at ry; subst ry; cases qy; simpa only [eqD, Bool.not_false] using RcNeAt.none_bool _
    case int => simp only [Rep] at ry; subst ry; obtain ⟨t, rfl⟩ := qy; simpa only [eqD, Bool.not_false] using RcNeAt.none_int _ t
    case str => simp only [Rep] at ry; subst ry; obtain ⟨t, rfl⟩ := qy; simpa only [eqD, Bool.not_false] using RcNeAt.none_str _ t
    case tup =>
      simp only [Rep] at ry; obtain ⟨b, ys, rfl, q, rs⟩ := ry; cases qy; obtain ⟨its, rv, ht, _⟩ := I.tuple q
      simpa only [eqD, Bool.not_false] using RcNeAt.none_tuple (show s.heap.IsTuple b its.toArray from ht) hu0
    case lst =>
      simp only [Rep] at ry; obtain ⟨b, ys, rfl, q, rs⟩ := ry; cases qy; obtain ⟨its, rv, ht, _⟩ := I.list q.sq
      simpa only [eqD, Bool.not_false] using RcNeAt.none_list ht.isList hu0
    case obj => cases n <;> cases he
    case dic => cases n <;> cases he
    case dit => cases n <;> cases he
  case bl a =>
    simp only [Rep] at rx; subst rx; cases qx
    cases e
    case non => simp only [Rep] at ry; subst ry; cases qy; simpa only [eqD, Bool.not_false] using RcNeAt.bool_none _
    case bl => simp only [Rep] at ry; subst ry; cases qy; simpa only [eqD] using RcNeAt.bool_bool _ _
    case int => simp only [Rep] at ry; subst ry; obtain ⟨t, rfl⟩ := qy; simpa only [eqD] using RcNeAt.bool_int _ _ t
    case str => simp only [Rep] at ry; subst ry; obtain ⟨t, rfl⟩ := qy; simpa only [eqD, Bool.not_false] using RcNeAt.bool_str _ _ t
    case tup =>
      simp only [Rep] at ry; obtain ⟨b, ys, rfl, q, rs⟩ := ry; cases qy; obtain ⟨its, rv, ht, _⟩ := I.tuple q
      simpa only [eqD, Bool.not_false] using RcNeAt.bool_tuple _ (show s.heap.IsTuple b its.toArray from ht) hu0
    case lst =>
      simp only [Rep] at ry; obtain ⟨b, ys, rfl, q, rs⟩ := ry; cases qy; obtain ⟨its, rv, ht, _⟩ := I.list q.sq
      simpa only [eqD, Bool.not_false] using RcNeAt.bool_list _ ht.isList hu0
    case obj => cases n <;> cases he
    case dic => cases n <;> cases he
    case dit => cases n <;> cases he
  case int a =>
    simp only [Rep] at rx; subst rx; obtain ⟨t0, rfl⟩ := qx
    cases e
    case non => simp only [Rep] at ry; subst ry; cases qy; simpa only [eqD, Bool.not_false] using RcNeAt.int_none _ t0
    case bl => simp only [Rep] at ry; subst ry; cases qy; simpa only [eqD] using RcNeAt.int_bool _ t0 _
    case int => simp only [Rep] at ry; subst ry; obtain ⟨t, rfl⟩ := qy; simpa only [eqD] using RcNeAt.int_int _ t0 _ t
    case str => simp only [Rep] at ry; subst ry; obtain ⟨t, rfl⟩ := qy; simpa only [eqD, Bool.not_false] using RcNeAt.int_str _ t0 _ t
    case tup =>
      simp only [Rep] at ry; obtain ⟨b, ys, rfl, q, rs⟩ := ry; cases qy; obtain ⟨its, rv, ht, _⟩ := I.tuple q
      simpa only [eqD, Bool.not_false] using RcNeAt.int_tuple _ t0 (show s.heap.IsTuple b its.toArray from ht) hu0
    case lst =>
      simp only [Rep] at ry; obtain ⟨b, ys, rfl, q, rs⟩ := ry; cases qy; obtain ⟨its, rv, ht, _⟩ := I.list q.sq
      simpa only [eqD, Bool.not_false] using RcNeAt.int_list _ t0 ht.isList hu0
    case obj => cases n <;> cases he
    case dic => cases n <;> cases he
    case dit => cases n <;> cases he
  case str a =>
    simp only [Rep] at rx; subst rx; obtain ⟨t0, rfl⟩ := qx
    cases e
    case non => simp only [Rep] at ry; subst ry; cases qy; simpa only [eqD, Bool.not_false] using RcNeAt.str_none _ t0
    case bl => simp only [Rep] at ry; subst ry; cases qy; simpa only [eqD, Bool.not_false] using RcNeAt.str_bool _ t0 _
    case int => simp only [Rep] at ry; subst ry; obtain ⟨t, rfl⟩ := qy; simpa only [eqD, Bool.not_false] using RcNeAt.str_int _ t0 _ t
    case str => simp only [Rep] at ry; subst ry; obtain ⟨t, rfl⟩ := qy; simpa only [eqD] using RcNeAt.str_str _ t0 _ t
    case tup =>
      simp only [Rep] at ry; obtain ⟨b, ys, rfl, q, rs⟩ := ry; cases qy; obtain ⟨its, rv, ht, _⟩ := I.tuple q
      simpa only [eqD, Bool.not_false] using RcNeAt.str_tuple _ t0 (show s.heap.IsTuple b its.toArray from ht) hu0
    case lst =>
      simp only [Rep] at ry; obtain ⟨b, ys, rfl, q, rs⟩ := ry; cases qy; obtain ⟨its, rv, ht, _⟩ := I.list q.sq
      simpa only [eqD, Bool.not_false] using RcNeAt.str_list _ t0 ht.isList hu0
    case obj => cases n <;> cases he
    case dic => cases n <;> cases he
    case dit => cases n <;> cases he
  case tup ds =>
    cases n with
    | zero => cases hd
    | succ n =>
    have hu1 : A.in1.units + n < cLine := by show A.units + 1 + n < cLine; omega
    simp only [Rep] at rx
    obtain ⟨a, xs, rfl, q, rs⟩ := rx
    cases qx
    obtain ⟨its, rv, ht, _⟩ := I.tuple q
    have ht' : s.heap.IsTuple a its.toArray := ht
    cases e
    case non => simp only [Rep] at ry; subst ry; cases qy; simpa only [eqD, Bool.not_false] using RcNeAt.tuple_none ht' hu0
    case bl => simp only [Rep] at ry; subst ry; cases qy; simpa only [eqD, Bool.not_false] using RcNeAt.tuple_bool _ ht' hu0
    case int => simp only [Rep] at ry; subst ry; obtain ⟨t, rfl⟩ := qy; simpa only [eqD, Bool.not_false] using RcNeAt.tuple_int _ t ht' hu0
    case str => simp only [Rep] at ry; subst ry; obtain ⟨t, rfl⟩ := qy; simpa only [eqD, Bool.not_false] using RcNeAt.tuple_str _ t ht' hu0
    case lst es =>
      simp only [Rep] at ry
      obtain ⟨b, ys, rfl, q', rs'⟩ := ry
      cases qy
      obtain ⟨its', rv', hl, _⟩ := I.list q'.sq
      simpa only [eqD, Bool.not_false] using RcNeAt.tuple_list ht' hl.isList hu0
    case tup es =>
      simp only [Rep] at ry
      obtain ⟨b, ys, rfl, q', rs'⟩ := ry
      cases qy
      obtain ⟨its', rv', ht2, _⟩ := I.tuple q'
      have h := RcNeAt.tuples (e := fun j => eqD (ds.getD j .non) (es.getD j .non)) ht' (show s.heap.IsTuple b its'.toArray from ht2) hu0 fun j h1 h2 => by
        obtain ⟨v1, a1, b1, c1⟩ := item_of rv rs h1
        obtain ⟨v2, a2, b2, c2⟩ := item_of rv' rs' h2
        exact eqAt_D I n A.in1 _ _ v1 v2 _ _ (hd _ c1) (he _ c2) hu1 b1 b2 a1 a2
      have l1 : its.toArray.size = ds.length := by rw [List.size_toArray, ← rv.length, rs.length]
      have l2 : its'.toArray.size = es.length := by rw [List.size_toArray, ← rv'.length, rs'.length]
      rw [l1, l2, eqDs_min] at h
      simpa only [eqD] using h
    case obj => cases he
    case dic => cases he
    case dit => cases he
  case lst ds =>
    cases n with
    | zero => cases hd
    | succ n =>
    have hu1 : A.in1.units + n < cLine := by show A.units + 1 + n < cLine; omega
    simp only [Rep] at rx
    obtain ⟨a, xs, rfl, q, rs⟩ := rx
    cases qx
    obtain ⟨its, rv, ht, _⟩ := I.list q.sq
    have ht' := ht.isList
    cases e
    case non => simp only [Rep] at ry; subst ry; cases qy; simpa only [eqD, Bool.not_false] using RcNeAt.list_none ht' hu0
    case bl => simp only [Rep] at ry; subst ry; cases qy; simpa only [eqD, Bool.not_false] using RcNeAt.list_bool _ ht' hu0
    case int => simp only [Rep] at ry; subst ry; obtain ⟨t, rfl⟩ := qy; simpa only [eqD, Bool.not_false] using RcNeAt.list_int _ t ht' hu0
    case str => simp only [Rep] at ry; subst ry; obtain ⟨t, rfl⟩ := qy; simpa only [eqD, Bool.not_false] using RcNeAt.list_str _ t ht' hu0
    case tup es =>
      simp only [Rep] at ry
      obtain ⟨b, ys, rfl, q', rs'⟩ := ry
      cases qy
      obtain ⟨its', rv', hl, _⟩ := I.tuple q'
      simpa only [eqD, Bool.not_false] using RcNeAt.list_tuple ht' (show s.heap.IsTuple b its'.toArray from hl) hu0
    case lst es =>
      simp only [Rep] at ry
      obtain ⟨b, ys, rfl, q', rs'⟩ := ry
      cases qy
      obtain ⟨its', rv', ht2, _⟩ := I.list q'.sq
      have l1 : its.toArray.size = ds.length := by rw [List.size_toArray, ← rv.length, rs.length]
      have l2 : its'.toArray.size = es.length := by rw [List.size_toArray, ← rv'.length, rs'.length]
      by_cases hl : ds.length = es.length
      · have h := RcNeAt.lists (e := fun j => eqD (ds.getD j .non) (es.getD j .non)) ht' ht2.isList (by rw [l1, l2, hl]) hu0 fun j h1 h2 => by
          obtain ⟨v1, a1, b1, c1⟩ := item_of rv rs h1
          obtain ⟨v2, a2, b2, c2⟩ := item_of rv' rs' h2
          exact eqAt_D I n A.in1 _ _ v1 v2 _ _ (hd _ c1) (he _ c2) hu1 b1 b2 a1 a2
        rw [l1, ← eqDs_all ds es hl] at h
        simpa only [eqD] using h
      · have h := RcNeAt.lists_lengths (A := A) ht' ht2.isList (by rw [l1, l2]; simpa using hl) hu0
        simp only [eqD, eqDs_len hl]
        exact h
    case obj => cases he
    case dic => cases he
    case dit => cases he
  case obj => cases n <;> cases hd
  case dic => cases n <;> cases hd
  case dit => cases n <;> cases hd
end
section
variable {X : Cx}
def oEq : O2 := fun d e Q => okE 9 d ∧ okE 9 e ∧ Q (.fz (.bl (eqD d e)))
def oNe : O2 := fun d e Q => okE 9 d ∧ okE 9 e ∧ Q (.fz (.bl (!eqD d e)))
theorem o_eq (hu : X.A.units + 64 < cLine) : OpP X (compareOp .Eq) oEq := by
  refine ⟨fun x y H Q => ∃ d e, okE 9 d ∧ okE 9 e ∧ Rep X.K H x d ∧ Rep X.K H y e ∧ Q (.bl (eqD d e)) H, fun pins s σ H x y v u Q I rx ry h => ?_, fun G H x y d e Q P s rx ry h k => ?_⟩
  · obtain ⟨d, e, hd, he, rd, re, q⟩ := h
    exact RcAt_D I 9 X.A d e x y v u hd he (by omega) rd re rx ry _ _ _ _ ⟨.bl _, H, I, rfl, q⟩
  · exact ⟨d, e, h.1, h.2.1, rx.mono s, ry.mono s, k _ _ _ G (.refl s) (fzR (rep_bl _ _ _)) h.2.2⟩
theorem o_ne (hu : X.A.units + 64 < cLine) : OpP X (compareOp .NotEq) oNe := by
  refine ⟨fun x y H Q => ∃ d e, okE 9 d ∧ okE 9 e ∧ Rep X.K H x d ∧ Rep X.K H y e ∧ Q (.bl (!eqD d e)) H, fun pins s σ H x y v u Q I rx ry h => ?_, fun G H x y d e Q P s rx ry h k => ?_⟩
  · obtain ⟨d, e, hd, he, rd, re, q⟩ := h
    exact RcNeAt_D I 9 X.A d e x y v u hd he (by omega) rd re rx ry _ _ _ _ ⟨.bl _, H, I, rfl, q⟩
  · exact ⟨d, e, h.1, h.2.1, rx.mono s, ry.mono s, k _ _ _ G (.refl s) (fzR (rep_bl _ _ _)) h.2.2⟩
def inD (d : D) (ds : List D) : Bool := ds.any fun e => eqD e d
def oInB (neg : Bool) : O2 := fun d e Q => match d, e with
  | .str x, .str y => Q (.fz (.bl (if neg then !(!(Builtin.Str.occurrences y x 0 y.length 1).isEmpty) else !(Builtin.Str.occurrences y x 0 y.length 1).isEmpty)))
  | d, .lst es => okE 8 d ∧ (∀ e ∈ es, okE 8 e) ∧ Q (.fz (.bl (if neg then !inD d es else inD d es)))
  | d, .tup es => okE 8 d ∧ (∀ e ∈ es, okE 8 e) ∧ Q (.fz (.bl (if neg then !inD d es else inD d es)))
  | _, _ => False
def isNon : D → Bool
  | .non => true
  | _ => false
def oIsB (neg : Bool) : O2 := fun d e Q => match e with
  | .non => Q (.fz (.bl (if neg then !isNon d else isNon d)))
  | _ => False
end
end L2
set_option Elab.async false
set_option linter.all false
set_option maxRecDepth 100000
set_option maxHeartbeats 1000000
namespace L2
open PySem PySem.Spec PyProof.Rows
section
variable {X : Cx} {pos : Pos} {a b c : Expr} {ta tb tc : TD} {pa pb' : TDb} {rest : List Expr}
def bNot (t : TDb) : TDb := fun ρ Q => t ρ fun k => Q (!k)
def bAnd (t u : TDb) : TDb := fun ρ Q => t ρ fun k => if k = true then u ρ Q else Q false
def bOr (t u : TDb) : TDb := fun ρ Q => t ρ fun k => if k = true then Q true else u ρ Q
theorem pb_not (h : PB X a pa) : PB X (.UnaryOp .Not a pos) (bNot pa) := by
  obtain ⟨t, p, q⟩ := h
  exact ⟨_, pt_not p, fun ρ σ G0 H0 G H Q P E h k => q ρ σ G0 H0 G H _ _ E h fun b H' G' x hq => k _ H' G' x hq⟩
def PWb (X : Cx) (e : Expr) (t : TDb) : Prop := ∃ tt, PW X e tt ∧ ∀ (ρ : Ev) (σ : St) (G0 H0 G H : Hp) (Q : Bool → Prop) (P : Bool → Hp → Prop), EOk X.K G0 H0 ρ σ G H → t ρ Q →
  (∀ b H' G', Ext G H G' H' → Q b → P b H') → tt σ H P
theorem PWb.pb {e : Expr} {t : TDb} (h : PWb X e t) : PB X e t := let ⟨tt, p, q⟩ := h; ⟨tt, p.pt, q⟩
theorem pw_and1' (h : PB X a pa) : PWb X (.BoolOp .And [a] pos) pa := let ⟨tt, p, q⟩ := h; ⟨tt, pw_and1 p, q⟩
theorem pw_or1' (h : PB X a pa) : PWb X (.BoolOp .Or [a] pos) pa := let ⟨tt, p, q⟩ := h; ⟨tt, pw_or1 p, q⟩
theorem pw_and' (h : PB X a pa) (h' : PWb X (.BoolOp .And (b :: rest) pos) pb') : PWb X (.BoolOp .And (a :: b :: rest) pos) (bAnd pa pb') := by
  obtain ⟨t, p, q⟩ := h
  obtain ⟨t', p', q'⟩ := h'
  refine ⟨_, pw_and p p', fun ρ σ G0 H0 G H Q P E h k => q ρ σ G0 H0 G H _ _ E h fun b H' G' x hq => ?_⟩
  cases b with
  | true => rw [if_pos rfl] at hq ⊢; exact q' ρ σ G0 H0 G' H' Q P (E.ext x) hq fun b2 H2 G2 x2 h2 => k b2 H2 G2 (x.trans x2) h2
  | false => rw [if_neg Bool.false_ne_true] at hq ⊢; exact k false H' G' x hq
theorem pw_or' (h : PB X a pa) (h' : PWb X (.BoolOp .Or (b :: rest) pos) pb') : PWb X (.BoolOp .Or (a :: b :: rest) pos) (bOr pa pb') := by
  obtain ⟨t, p, q⟩ := h
  obtain ⟨t', p', q'⟩ := h'
  refine ⟨_, pw_or p p', fun ρ σ G0 H0 G H Q P E h k => q ρ σ G0 H0 G H _ _ E h fun b H' G' x hq => ?_⟩
  cases b with
  | true => rw [if_pos rfl] at hq ⊢; exact k true H' G' x hq
  | false => rw [if_neg Bool.false_ne_true] at hq ⊢; exact q' ρ σ G0 H0 G' H' Q P (E.ext x) hq fun b2 H2 G2 x2 h2 => k b2 H2 G2 (x.trans x2) h2
def dNot (t : TD) : TD := fun ρ Q => t ρ fun r => match r with
  | .fz (.bl k) => Q (.fz (.bl (!k)))
  | _ => False
def dAnd (t u : TD) : TD := fun ρ Q => t ρ fun r => match r with
  | .fz (.bl k) => if k = true then u ρ Q else Q (.fz (.bl false))
  | _ => False
def dOr (t u : TD) : TD := fun ρ Q => t ρ fun r => match r with
  | .fz (.bl k) => if k = true then Q (.fz (.bl true)) else u ρ Q
  | _ => False
theorem pd_not (h : PD X a ta) : PD X (.UnaryOp .Not a pos) (dNot ta) := by
  obtain ⟨t, p, q⟩ := h
  refine ⟨_, pe_not p, fun ρ σ G0 H0 G H Q P E h k => q ρ σ G0 H0 G H _ _ E h fun v H' r G' x rr hq => ?_⟩
  split at hq
  · rename_i kk
    have e : v = .bl kk := by simpa only [RepR, Rep] using rr
    exact ⟨kk, e, k _ H' _ G' x (fzR (rep_bl _ _ _)) hq⟩
  · exact hq.elim
theorem pd_one {op} (h : PD X a ta) : PD X (.BoolOp op [a] pos) ta := let ⟨t, p, q⟩ := h; ⟨t, pe_one p, q⟩
theorem pd_and (h : PD X a ta) (h' : PD X (.BoolOp .And (b :: rest) pos) tb) : PD X (.BoolOp .And (a :: b :: rest) pos) (dAnd ta tb) := by
  obtain ⟨t, p, q⟩ := h
  obtain ⟨t', p', q'⟩ := h'
  refine ⟨_, pe_and p p', fun ρ σ G0 H0 G H Q P E h k => q ρ σ G0 H0 G H _ _ E h fun v H' r G' x rr hq => ?_⟩
  split at hq
  · rename_i kk
    have e : v = .bl kk := by simpa only [RepR, Rep] using rr
    refine ⟨kk, e, ?_⟩
    cases kk with
    | true => rw [if_pos rfl] at hq ⊢; exact q' ρ σ G0 H0 G' H' Q P (E.ext x) hq fun b2 H2 r2 G2 x2 rr2 h2 => k b2 H2 r2 G2 (x.trans x2) (rr2.older x.h) h2
    | false => rw [if_neg Bool.false_ne_true] at hq ⊢; exact k _ H' _ G' x (fzR (rep_bl _ _ _)) hq
  · exact hq.elim
def dIf (t : TDb) (ta tb : TD) : TD := fun ρ Q => t ρ fun k => if k = true then ta ρ Q else tb ρ Q
def dChain (o o' : O2) (ta tb tc : TD) : TD := fun ρ Q => ta ρ fun ra => tb ρ fun rb => o ra.val rb.val fun r => match r with
  | .fz (.bl k) => if k = true then tc ρ fun rc => o' rb.val rc.val Q else Q (.fz (.bl false))
  | _ => False
abbrev Rdg (K : PySem.W.Frag) (t : TD) (tt : TE) : Prop := ∀ (ρ : Ev) (σ : St) (G0 H0 G H : Hp) (Q : R → Prop) (P : VK), EOk K G0 H0 ρ σ G H → t ρ Q → (∀ v H' r G', Ext G H G' H' → RepR K G' H' H v r → Q r → P v H') → tt σ H P
def oIx : O2 := fun d e Q => match d, e with
  | .lst ds, .int i => ∃ d, atI ds i = some d ∧ Q (.fz d)
  | .tup ds, .int i => ∃ d, atI ds i = some d ∧ Q (.fz d)
  | .str z, .int i => z.length ≤ sizeLine ∧ ∃ c, atI z.cps.toList i = some c ∧ Q (.fz (.str ⟨#[c]⟩))
  | _, _ => False
theorem atI_rep {K : PySem.W.Frag} {G : Hp} {xs : List V} {ds : List D} {i : Int} {d : D} (r : Reps K G xs ds) (h : atI ds i = some d) : ∃ v, atI xs i = some v ∧ Rep K G v d := by
  unfold atI at h ⊢
  rw [r.length]
  cases e : ixN ds.length i with
  | none => rw [e] at h; cases h
  | some j =>
    rw [e] at h
    simp only [Option.bind_some] at h ⊢
    exact r.get h
theorem pd_ix (h1 : PD X a ta) (h2 : PD X b tb) (hs : PlainIx b := by intro _ _; rfl) : PD X (.Subscript a b pos) (dOp oIx ta tb) := by
  obtain ⟨t1, p1, q1⟩ := h1
  obtain ⟨t2, p2, q2⟩ := h2
  refine ⟨_, pe_ix ix_seq p1 p2 hs, op_run (r := rIx X.K) (fun G H x y d e Q P s rx ry h k => ?_) q1 q2⟩
  unfold oIx at h
  split at h
  · simp only [Rep] at rx ry
    obtain ⟨p, xs, rfl, hq, rs⟩ := rx
    obtain ⟨d, hd, q⟩ := h
    obtain ⟨v, hv, rv⟩ := atI_rep rs hd
    exact .inl ⟨p, xs, _, v, rfl, ry, (s.rdl hq).sq, hv, k _ _ _ G (.refl s) (fzR rv) q⟩
  · simp only [Rep] at rx ry
    obtain ⟨p, xs, rfl, hq, rs⟩ := rx
    obtain ⟨d, hd, q⟩ := h
    obtain ⟨v, hv, rv⟩ := atI_rep rs hd
    exact .inr (.inl ⟨p, xs, _, v, rfl, ry, s.seqT hq, hv, k _ _ _ G (.refl s) (fzR rv) q⟩)
  · simp only [Rep] at rx ry
    obtain ⟨hz, c, hc, q⟩ := h
    exact .inr (.inr ⟨_, _, c, rx, ry, hz, hc, k _ _ _ G (.refl s) (fzR (rep_str _ _ _)) q⟩)
  · exact h.elim
def dIxO (i : Nat) (tb : TD) : TD := fun ρ Q => match gt ρ i with
  | .ow ds => tb ρ fun rb => match rb.val with
    | .int j => ∃ d, atI ds j = some d ∧ Q (.fz d)
    | _ => False
  | _ => False
theorem pd_ixO (i : Nat) {x : Str} {p' : Pos} (h2 : PD X b tb) (hN : X.N[i]? = some x := by rfl) (hv : Vis X.env.scope x := by first | exact Or.inl rfl | exact Or.inr (Or.inl rfl) | exact Or.inr (Or.inr rfl)) (hs : PlainIx b := by intro _ _; rfl) (hd : (x == ("__debug__" : Str)) = false := by decide)
    (hcd : (x == ("__classdict__" : Str)) = false := by decide) : PD X (.Subscript (.Name x p') b pos) (dIxO i tb) := by
  obtain ⟨t2, p2, q2⟩ := h2
  refine ⟨_, pe_ix ix_seq (pe_var hN hv hd hcd) p2 hs, fun ρ σ G0 H0 G H Q P E h k => ?_⟩
  unfold dIxO at h
  split at h
  · rename_i ds hg
    obtain ⟨p, xs, h1, h2, h3, h4, h5⟩ := E.ow i ds hg
    refine ⟨_, h1, q2 ρ σ G0 H0 G H _ _ E h fun v H' r G' x1 rr hq => ?_⟩
    obtain ⟨G2, x2, rv, _⟩ := rr.freeze x1
    split at hq
    · rename_i j e2
      obtain ⟨d, hd', q⟩ := hq
      obtain ⟨w', hw, rw'⟩ := atI_rep (h5.mono x2.g) hd'
      rw [e2] at rv
      simp only [Rep] at rv
      exact .inl ⟨p, xs, _, w', rfl, rv, SqL.of (x2.h _ _ h2), hw, k _ _ _ G2 x2 (fzR rw') q⟩
    · exact hq.elim
  · exact h.elim
variable {e : Expr} {es : List Expr} {te : TD} {ts : TDa}
def aNil : TDa := fun _ Q => Q []
def aCons (te : TD) (ts : TDa) : TDa := fun ρ Q => te ρ fun r => ts ρ fun ds => Q (r.val :: ds)
theorem pda_nil : PDa X [] aNil := ⟨_, pa_nil, fun ρ σ G0 H0 G H Q P E h k => k [] H [] G (.refl E.e.s) Reps.nil h⟩
theorem pda_cons (h : PD X e te) (hr : PDa X es ts) (hs : starEach (e :: es) X.env = (false, eval e X.env) :: starEach es X.env := by rfl) : PDa X (e :: es) (aCons te ts) := by
  obtain ⟨t1, p1, q1⟩ := h
  obtain ⟨t2, p2, q2⟩ := hr
  refine ⟨_, pa_cons p1 p2 hs, fun ρ σ G0 H0 G H Q P E h k => q1 ρ σ G0 H0 G H _ _ E h fun v H' r G' x1 rr hq => ?_⟩
  obtain ⟨G2, x2, rv, _⟩ := rr.freeze x1
  refine q2 ρ σ G0 H0 G2 H' _ _ (E.ext x2) hq fun vs H3 ds G3 x3 rs hq3 => ?_
  exact k _ H3 _ G3 (x2.trans x3) (Reps.cons (rv.mono x3.g) rs) hq3
def dTup (ts : TDa) : TD := fun ρ Q => ts ρ fun ds => ds.length ≤ sizeLine ∧ Q (.fz (.tup ds))
def dLst (ts : TDa) : TD := fun ρ Q => ts ρ fun ds => ds.length ≤ sizeLine ∧ Q (.ow ds)
theorem pd_tup {x1} (h : PDa X es ts) : PD X (.Tuple es x1 pos) (dTup ts) := by
  obtain ⟨t, p, q⟩ := h
  refine ⟨_, pe_tup p, fun ρ σ G0 H0 G H Q P E h k => q ρ σ G0 H0 G H _ _ E h fun vs H' ds G' x rs hq => ⟨by rw [rs.length]; exact hq.1, fun p hp => ?_⟩⟩
  have x2 : Ext G' H' (upd G' p (.tup vs)) (upd H' p (.tup vs)) := .new x.s hp
  refine k _ _ (.fz (.tup ds)) _ (x.trans x2) ?_ hq.2
  show Rep X.K _ _ (.tup ds)
  simp only [Rep]
  exact ⟨p, vs, rfl, SqT.of upd_same, rs.mono x2.g⟩
theorem pd_lst (h : PDa X es ts) : PD X (.List es pos) (dLst ts) := by
  obtain ⟨t, p, q⟩ := h
  refine ⟨_, pe_lst p, fun ρ σ G0 H0 G H Q P E h k => q ρ σ G0 H0 G H _ _ E h fun vs H' ds G' x rs hq => ⟨by rw [rs.length]; exact hq.1, fun p hp => ?_⟩⟩
  exact k _ _ (.ow ds) G' (x.trans (.own x.s hp)) ⟨p, vs, rfl, x.h.free hp, x.s.free hp, upd_same, rs⟩ hq.2
def CallP (X : Cx) (f : Value) (o : List D → (R → Prop) → Prop) : Prop := ∃ r, CallR X f r ∧ ∀ (G H : Hp) (vs : List V) (ds : List D) (Q : R → Prop) (P : VK), Same G H → Reps X.K G vs ds → o ds Q →
  (∀ v H' r' G', Ext G H G' H' → RepR X.K G' H' H v r' → Q r' → P v H') → r vs H P
def dCB (o : List D → (R → Prop) → Prop) (ts : TDa) : TD := fun ρ Q => ts ρ fun ds => o ds Q
theorem cb_rd {o : List D → (R → Prop) → Prop} {r : List V → Hp → VK → Prop} {t : TA}
    (hr : ∀ (G H : Hp) (vs : List V) (ds : List D) (Q : R → Prop) (P : VK), Same G H → Reps X.K G vs ds → o ds Q → (∀ v H' r' G', Ext G H G' H' → RepR X.K G' H' H v r' → Q r' → P v H') → r vs H P)
    (q : ∀ (ρ : Ev) (σ : St) (G0 H0 G H : Hp) (Q : List D → Prop) (P : List V → Hp → Prop), EOk X.K G0 H0 ρ σ G H → ts ρ Q → (∀ vs H' ds G', Ext G H G' H' → Reps X.K G' vs ds → Q ds → P vs H') → t σ H P) : Rdg X.K (dCB o ts) (tCB r t) :=
  fun ρ σ G0 H0 G H Q P E h k => q ρ σ G0 H0 G H _ _ E h fun vs H' ds G' x rs hq => hr G' H' vs ds Q P x.s rs hq fun v H2 r' G2 x2 rr q2 => k v H2 r' G2 (x.trans x2) (rr.older x.h) q2
theorem pd_callB {id : String} {x : Str} {p : Pos} {o : List D → (R → Prop) → Prop} (hc : CallP X (.builtin id) o) (hm : X.mg x = none) (hv : bootBuiltins x = some (.builtin id)) (ha : PDa X (e :: es) ts) (hg : Gl X x := by rfl) (hn : x ≠ "__name__" := by decide) (hdb : (x == ("__debug__" : Str)) = false := by decide)
    (he : starEach (e :: es) X.env = (false, eval e X.env) :: starEach es X.env := by rfl) (hpl : (backTo pos (starEach es X.env)).any (·.1) = false := by rfl) : PD X (.Call (.Name x p) (e :: es) [] pos) (dCB o ts) := by
  obtain ⟨r, hr, hr'⟩ := hc
  obtain ⟨t, pp, q⟩ := ha
  exact ⟨_, pe_callB hr hg hm hv pp hn hdb he hpl, cb_rd hr' q⟩
theorem pd_callTy {T : String} {x : Str} {p : Pos} {o : List D → (R → Prop) → Prop} (hc : CallP X (.type T) o) (hm : X.mg x = none) (hv : bootBuiltins x = some (.type T)) (ha : PDa X (e :: es) ts) (hg : Gl X x := by rfl) (hn : x ≠ "__name__" := by decide) (hdb : (x == ("__debug__" : Str)) = false := by decide)
    (he : starEach (e :: es) X.env = (false, eval e X.env) :: starEach es X.env := by rfl) (hpl : (backTo pos (starEach es X.env)).any (·.1) = false := by rfl) : PD X (.Call (.Name x p) (e :: es) [] pos) (dCB o ts) := by
  obtain ⟨r, hr, hr'⟩ := hc
  obtain ⟨t, pp, q⟩ := ha
  exact ⟨_, pe_callTy hr hg hm hv pp hn hdb he hpl, cb_rd hr' q⟩
end
end L2
set_option Elab.async false
set_option linter.all false
set_option maxRecDepth 100000
set_option maxHeartbeats 1000000
namespace L2
open PySem PySem.Spec PyProof.Rows
theorem σ_set {σ : St} {i j : Nat} {x : Option V} : (σ.set i x)[j]? = if i = j ∧ j < σ.length then some x else σ[j]? := by
  by_cases h : i = j
  · subst h
    by_cases hl : i < σ.length
    · simp [hl]
    · simp [hl]
  · simp [h]
section
variable {K : PySem.W.Frag} {G0 H0 G H G' H' : Hp} {ρ : Ev} {σ : St}
theorem EOk.put {i : Nat} {v : V} {r : R} (E : EOk K G0 H0 ρ σ G H) (x : Ext G H G' H') (rr : RepR K G' H' H v r) : EOk K G0 H0 (ρ.set i r.sl) (σ.set i (some v)) G' H' := by
  have E' := E.ext x
  have hl := E.len
  have gs : ∀ j s, gt (ρ.set i r.sl) j = s → (i = j ∧ j < ρ.length ∧ s = r.sl) ∨ (¬ (i = j ∧ j < ρ.length) ∧ gt ρ j = s) := fun j s e => by
    rw [gt_set] at e
    by_cases h : i = j ∧ j < ρ.length
    · rw [if_pos h] at e; exact .inl ⟨h.1, h.2, e.symm⟩
    · rw [if_neg h] at e; exact .inr ⟨h, e⟩
  refine ⟨E'.e, by simp [E.len], fun j d h => ?_, fun j ds h => ?_, fun j k ds es hjk h1 h2 => ?_, ?_⟩
  · rcases gs j _ h with ⟨h1, h2, h3⟩ | ⟨h1, h2⟩
    · cases r with
      | ow => cases h3
      | ov => cases h3
      | fz d' =>
        cases h3
        exact ⟨v, by rw [σ_set, if_pos ⟨h1, by omega⟩], rr⟩
    · obtain ⟨u, hu, ru⟩ := E'.fz j d h2
      exact ⟨u, by rw [σ_set, if_neg (by rw [hl]; exact h1)]; exact hu, ru⟩
  · rcases gs j _ h with ⟨h1, h2, h3⟩ | ⟨h1, h2⟩
    · cases r with
      | fz => cases h3
      | ov => cases h3
      | ow ds' =>
        cases h3
        obtain ⟨p, xs, rfl, a1, a2, a3, a4⟩ := rr
        exact ⟨p, xs, by rw [σ_set, if_pos ⟨h1, by omega⟩], a3, a2, E.e.h.free a1, a4⟩
    · obtain ⟨p, xs, b1, b2, b3, b4, b5⟩ := E'.ow j ds h2
      exact ⟨p, xs, by rw [σ_set, if_neg (by rw [hl]; exact h1)]; exact b1, b2, b3, b4, b5⟩
  · have old : ∀ {j : Nat} {ds : List D}, gt ρ j = .ow ds → ∀ es, r = .ow es → σ[j]? ≠ some (some v) := fun {j ds} h es e z => by
      subst e
      obtain ⟨p, xs, rfl, a1, a2, a3, a4⟩ := rr
      obtain ⟨p', xs', b1, b2, b3, b4, b5⟩ := E.ow j ds h
      rw [b1] at z
      cases z
      rw [a1] at b2
      cases b2
    rcases gs j _ h1 with ⟨c1, c2, c3⟩ | ⟨c1, c2⟩
    · rcases gs k _ h2 with ⟨d1, d2, d3⟩ | ⟨d1, d2⟩
      · exact absurd (c1.symm.trans d1) hjk
      · rw [σ_set, if_pos ⟨c1, by omega⟩, σ_set, if_neg (by rw [hl]; exact d1)]
        cases r with
        | fz => cases c3
        | ov => cases c3
        | ow es' => exact fun z => old d2 es' rfl z.symm
    · rcases gs k _ h2 with ⟨d1, d2, d3⟩ | ⟨d1, d2⟩
      · rw [σ_set, if_neg (by rw [hl]; exact c1), σ_set, if_pos ⟨d1, by omega⟩]
        cases r with
        | fz => cases d3
        | ov => cases d3
        | ow es' => exact old c2 es' rfl
      · rw [σ_set, if_neg (by rw [hl]; exact c1), σ_set, if_neg (by rw [hl]; exact d1)]
        exact E.dj j k ds es hjk c2 d2
  · obtain ⟨own, o1, o2⟩ := E.on
    have hσ : ∀ j, ¬ (i = j ∧ j < ρ.length) → (σ.set i (some v))[j]? = σ[j]? := fun j h => by rw [σ_set, if_neg (by rw [hl]; exact h)]
    have gen : ∀ L : List Addr, (∀ q ∈ L, H q = none) → (∀ j ds p, i = j → j < ρ.length → r.sl = .ow ds → v = .ref p → p ∈ L) →
        (∀ j o, i = j → j < ρ.length → r.sl = .ov o → ∃ p fp, v = .ref p ∧ (p :: fp).Nodup ∧ Owns K G' H' p fp o ∧ ∀ q ∈ p :: fp, G' q = none ∧ q ∈ L) →
        ∃ own : Addr → Option Nat, (∀ j ds p, gt (ρ.set i r.sl) j = .ow ds → (σ.set i (some v))[j]? = some (some (.ref p)) → own p = some j) ∧ ∀ j o, gt (ρ.set i r.sl) j = .ov o → ∃ p fp, (σ.set i (some v))[j]? = some (some (.ref p)) ∧ (p :: fp).Nodup ∧ Owns K G' H' p fp o ∧ ∀ q ∈ p :: fp, G' q = none ∧ H0 q = none ∧ own q = some j := by
      intro L hL hw ho
      refine ⟨fun q => if q ∈ L then some i else own q, fun j ds p h hp => ?_, fun j o h => ?_⟩
      · rcases gs j _ h with ⟨h1, h2, h3⟩ | ⟨h1, h2⟩
        · rw [σ_set, if_pos ⟨h1, by omega⟩] at hp
          have hv : v = .ref p := by injection hp with hp; injection hp
          dsimp only
          rw [if_pos (hw j ds p h1 h2 h3.symm hv), h1]
        · rw [hσ j h1] at hp
          obtain ⟨p', xs', b1, b2, _⟩ := E.ow j ds h2
          have hne : p ∉ L := fun z => by
            rw [hp] at b1
            cases b1
            rw [hL p z] at b2
            cases b2
          dsimp only
          rw [if_neg hne]
          exact o1 j ds p h2 hp
      · rcases gs j _ h with ⟨h1, h2, h3⟩ | ⟨h1, h2⟩
        · obtain ⟨p, fp, rfl, c1, c2, c3⟩ := ho j o h1 h2 h3.symm
          refine ⟨p, fp, by rw [σ_set, if_pos ⟨h1, by omega⟩], c1, c2, fun q hq => ⟨(c3 q hq).1, E.e.h.free (hL q (c3 q hq).2), ?_⟩⟩
          dsimp only
          rw [if_pos (c3 q hq).2, h1]
        · obtain ⟨p, fp, b1, b2, b3, b4⟩ := o2 j o h2
          refine ⟨p, fp, by rw [hσ j h1]; exact b1, b2, b3.mono x.g fun q _ u e => x.h q u e, fun q hq => ⟨x.n q (b4 q hq).1 (b3.here q hq), (b4 q hq).2.1, ?_⟩⟩
          dsimp only
          rw [if_neg (fun z => b3.here q hq (hL q z))]
          exact (b4 q hq).2.2
    cases r with
    | fz d => exact gen [] (fun q hq => by cases hq) (fun j ds p _ _ e => by cases e) (fun j o _ _ e => by cases e)
    | ow ds' =>
      obtain ⟨p, xs, rfl, a1, a2, a3, a4⟩ := rr
      refine gen [p] (fun q hq => ?_) (fun j ds p' _ _ e e2 => ?_) (fun j o _ _ e => by cases e)
      · simp only [List.mem_singleton] at hq
        subst hq; exact a1
      · cases e2; simp
    | ov o' =>
      obtain ⟨p, fp, rfl, a1, a2, a3⟩ := rr
      refine gen (p :: fp) (fun q hq => (a3 q hq).1) (fun j ds p' _ _ e => by cases e) (fun j o _ _ e => ?_)
      cases e
      exact ⟨p, fp, rfl, a1, a2, fun q hq => ⟨(a3 q hq).2, hq⟩⟩
def frz (i : Nat) (ρ : Ev) : Ev := match gt ρ i with
  | .ow ds => ρ.set i (.fz (.lst ds))
  | .ov o => ρ.set i (.fz o.val)
  | _ => ρ
theorem gt_lt {ρ : Ev} {i : Nat} {s : Sl} (h : gt ρ i = s) (hs : s ≠ .un) : i < ρ.length := by
  induction ρ generalizing i with
  | nil => simp [gt] at h; exact absurd h.symm hs
  | cons a r ih =>
    cases i with
    | zero => simp
    | succ i => simp only [gt] at h; have := ih h; simp; omega
theorem EOk.freezeL2 (i : Nat) (E : EOk K G0 H0 ρ σ G H) : ∃ L : List Addr, (∀ q ∈ L, G q = none) ∧ EOk K G0 H0 (frz i ρ) σ (plus G H L) H ∧ (((∀ o, gt ρ i = .ov o → ∃ kvs, o = .dc kvs) → ∀ q ∈ L, H q ≠ none ∧ ∀ xs, ¬ Rd H q (.tup xs))) ∧ ∀ o p, gt ρ i = .ov o → σ[i]? = some (some (.ref p)) → p ∈ L := by
  unfold frz
  split
  · rename_i ds hg
    obtain ⟨p, xs, h1, h2, h3, h4, h5⟩ := E.ow i ds hg
    have hlt : i < ρ.length := gt_lt hg (by simp)
    have hs : Same G (upd G p (.lst xs)) := same_upd h3
    have gs : ∀ j s, gt (ρ.set i (.fz (.lst ds))) j = s → (i = j ∧ s = .fz (.lst ds)) ∨ (i ≠ j ∧ gt ρ j = s) := fun j s e => by
      rw [gt_set] at e
      by_cases h : i = j
      · subst h; rw [if_pos ⟨rfl, hlt⟩] at e; exact .inl ⟨rfl, e.symm⟩
      · rw [if_neg (fun z => h z.1)] at e; exact .inr ⟨h, e⟩
    have ep : plus G H [p] = upd G p (.lst xs) := by
      funext a
      by_cases ha : a = p
      · subst ha; rw [upd_same, plus_in (by simp)]; exact h2
      · rw [upd_ne ha, plus_out (by simpa using ha)]
    refine ⟨[p], fun q hq => ?_, ?_, fun _ q hq => by
      simp only [List.mem_singleton] at hq
      rw [hq]
      exact ⟨(by rw [h2]; exact nofun), fun xs' e => by rcases e with e | ⟨_, e⟩ <;> (rw [h2] at e; cases e)⟩, fun o p z => by rw [hg] at z; cases z⟩
    · simp only [List.mem_singleton] at hq
      subst hq; exact h3
    rw [ep]
    refine ⟨⟨E.e.g.trans hs, E.e.h, fun b o e => ?_, fun q q1 q2 => ?_⟩, by simp [E.len], fun j d h => ?_, fun j es h => ?_, fun j k es fs hjk a1 a2 => ?_, ?_⟩
    · by_cases hb : b = p
      · subst hb; rw [upd_same] at e; rw [h2]; exact e
      · rw [upd_ne hb] at e; exact E.e.s b o e
    · rw [upd_ne (fun z => q2 (by rw [z]; exact h4))]
      exact E.e.n q q1 q2
    · rcases gs j _ h with ⟨e, e2⟩ | ⟨e, e2⟩
      · subst e
        cases e2
        exact ⟨_, h1, by simp only [Rep]; exact ⟨p, xs, rfl, RdL.of upd_same, h5.mono hs⟩⟩
      · obtain ⟨u, u1, u2⟩ := E.fz j d e2
        exact ⟨u, u1, u2.mono hs⟩
    · rcases gs j _ h with ⟨e, e2⟩ | ⟨e, e2⟩
      · cases e2
      · obtain ⟨p', xs', b1, b2, b3, b4, b5⟩ := E.ow j es e2
        have hne : p' ≠ p := fun z => by
          subst z
          exact E.dj i j ds es e hg e2 (by rw [h1, b1])
        exact ⟨p', xs', b1, b2, by rw [upd_ne hne]; exact b3, b4, b5.mono hs⟩
    · rcases gs j _ a1 with ⟨_, e2⟩ | ⟨e, e2⟩
      · cases e2
      · rcases gs k _ a2 with ⟨_, e4⟩ | ⟨e3, e4⟩
        · cases e4
        · exact E.dj j k es fs hjk e2 e4
    · obtain ⟨own, o1, o2⟩ := E.on
      refine ⟨own, fun j es p' h hp => ?_, fun j o h => ?_⟩
      · rcases gs j _ h with ⟨_, e2⟩ | ⟨_, e2⟩
        · cases e2
        · exact o1 j es p' e2 hp
      · rcases gs j _ h with ⟨_, e2⟩ | ⟨e, e2⟩
        · cases e2
        · obtain ⟨p', fp, b1, b2, b3, b4⟩ := o2 j o e2
          refine ⟨p', fp, b1, b2, b3.mono hs fun q _ u e => e, fun q hq => ⟨?_, (b4 q hq).2⟩⟩
          rw [upd_ne fun z => ?_]
          · exact (b4 q hq).1
          · have z1 := (b4 q hq).2.2
            rw [z, o1 i ds p hg h1] at z1
            injection z1 with z1
            exact e z1
  · rename_i o hg
    obtain ⟨own, o1, o2⟩ := E.on
    obtain ⟨p, fp, h1, h2, h3, h4⟩ := o2 i o hg
    have hlt : i < ρ.length := gt_lt hg (by simp)
    have hn : ∀ q ∈ p :: fp, G q = none := fun q hq => (h4 q hq).1
    have hs : Same G (plus G H (p :: fp)) := plus_same hn
    have gs : ∀ j s, gt (ρ.set i (.fz o.val)) j = s → (i = j ∧ s = .fz o.val) ∨ (i ≠ j ∧ gt ρ j = s) := fun j s e => by
      rw [gt_set] at e
      by_cases h : i = j
      · subst h; rw [if_pos ⟨rfl, hlt⟩] at e; exact .inl ⟨rfl, e.symm⟩
      · rw [if_neg (fun z => h z.1)] at e; exact .inr ⟨h, e⟩
    suffices hmain : EOk K G0 H0 (ρ.set i (.fz o.val)) σ (plus G H (p :: fp)) H from ⟨p :: fp, hn, hmain, fun hd q hq => by
      obtain ⟨kvs, rfl⟩ := hd o hg
      obtain ⟨rfl, ks, ep, h5, _⟩ := h3
      simp only [List.mem_singleton] at hq
      rw [hq]
      exact ⟨(by rw [h5]; exact nofun), fun xs' e => by rcases e with e | ⟨_, e⟩ <;> (rw [h5] at e; cases e)⟩, fun o' p' _ e => by rw [h1] at e; cases e; simp⟩
    refine ⟨⟨E.e.g.trans hs, E.e.h, fun b u e => ?_, fun q q1 q2 => ?_⟩, by simp [E.len], fun j d h => ?_, fun j es h => ?_, fun j k es fs hjk a1 a2 => ?_, own, fun j es p' h hp => ?_, fun j o' h => ?_⟩
    · by_cases hb : b ∈ p :: fp
      · rw [plus_in hb] at e; exact e
      · rw [plus_out hb] at e; exact E.e.s b u e
    · rw [plus_out (fun z => q2 (h4 q z).2.1)]; exact E.e.n q q1 q2
    · rcases gs j _ h with ⟨e, e2⟩ | ⟨e, e2⟩
      · subst e
        cases e2
        exact ⟨_, h1, h3.freeze hn⟩
      · obtain ⟨u, u1, u2⟩ := E.fz j d e2
        exact ⟨u, u1, u2.mono hs⟩
    · rcases gs j _ h with ⟨e, e2⟩ | ⟨e, e2⟩
      · cases e2
      · obtain ⟨p', xs', b1, b2, b3, b4, b5⟩ := E.ow j es e2
        refine ⟨p', xs', b1, b2, ?_, b4, b5.mono hs⟩
        rw [plus_out fun z => ?_]
        · exact b3
        · have z1 := (h4 p' z).2.2
          rw [o1 j es p' e2 b1] at z1
          injection z1 with z1
          exact e z1.symm
    · rcases gs j _ a1 with ⟨_, e2⟩ | ⟨e, e2⟩
      · cases e2
      · rcases gs k _ a2 with ⟨_, e4⟩ | ⟨e3, e4⟩
        · cases e4
        · exact E.dj j k es fs hjk e2 e4
    · rcases gs j _ h with ⟨_, e2⟩ | ⟨_, e2⟩
      · cases e2
      · exact o1 j es p' e2 hp
    · rcases gs j _ h with ⟨_, e2⟩ | ⟨e, e2⟩
      · cases e2
      · obtain ⟨p', fp', b1, b2, b3, b4⟩ := o2 j o' e2
        refine ⟨p', fp', b1, b2, b3.mono hs fun q _ u e => e, fun q hq => ⟨?_, (b4 q hq).2⟩⟩
        rw [plus_out fun z => ?_]
        · exact (b4 q hq).1
        · have z1 := (b4 q hq).2.2
          rw [(h4 q z).2.2] at z1
          injection z1 with z1
          exact e z1
  · rename_i no1 no2
    have ep : plus G H [] = G := by funext a; exact plus_out (by simp)
    exact ⟨[], fun q hq => (by cases hq), by rw [ep]; exact E, fun _ q hq => (by cases hq), fun o p z => (no2 o z).elim⟩
theorem EOk.freezeL (i : Nat) (E : EOk K G0 H0 ρ σ G H) : ∃ L : List Addr, (∀ q ∈ L, G q = none) ∧ EOk K G0 H0 (frz i ρ) σ (plus G H L) H ∧ ((∀ o, gt ρ i = .ov o → ∃ kvs, o = .dc kvs) → ∀ q ∈ L, H q ≠ none ∧ ∀ xs, ¬ Rd H q (.tup xs)) :=
  let ⟨L, a, b, c, _⟩ := E.freezeL2 i
  ⟨L, a, b, c⟩
theorem EOk.freeze (i : Nat) (E : EOk K G0 H0 ρ σ G H) : ∃ G', EOk K G0 H0 (frz i ρ) σ G' H ∧ Same G G' :=
  let ⟨L, hL, E', _⟩ := E.freezeL i
  ⟨_, E', plus_same hL⟩
theorem EOk.change {i : Nat} {ds ds' : List D} {p : Addr} {xs' : List V} (E : EOk K G0 H0 ρ σ G H) (hg : gt ρ i = .ow ds) (h1 : σ[i]? = some (some (.ref p))) (hr : Reps K G xs' ds') :
    EOk K G0 H0 (ρ.set i (.ow ds')) σ G (upd H p (.lst xs')) := by
  obtain ⟨p', xs0, b1, b2, b3, b4, b5⟩ := E.ow i ds hg
  rw [h1] at b1
  cases b1
  have hlt : i < ρ.length := gt_lt hg (by simp)
  have gs : ∀ j s, gt (ρ.set i (.ow ds')) j = s → (i = j ∧ s = .ow ds') ∨ (i ≠ j ∧ gt ρ j = s) := fun j s e => by
    rw [gt_set] at e
    by_cases h : i = j
    · subst h; rw [if_pos ⟨rfl, hlt⟩] at e; exact .inl ⟨rfl, e.symm⟩
    · rw [if_neg (fun z => h z.1)] at e; exact .inr ⟨h, e⟩
  have hG : Same G (upd H p (.lst xs')) := fun b o e => by rw [upd_ne (ne_of_none e b3)]; exact E.e.s b o e
  refine ⟨⟨E.e.g, fun b o e => by rw [upd_ne (ne_of_none e b4)]; exact E.e.h b o e, hG, E.e.n⟩, by simp [E.len], fun j d h => ?_, fun j es h => ?_, fun j k es fs hjk a1 a2 => ?_, ?_⟩
  · rcases gs j _ h with ⟨_, e2⟩ | ⟨e, e2⟩
    · cases e2
    · exact E.fz j d e2
  · rcases gs j _ h with ⟨e, e2⟩ | ⟨e, e2⟩
    · subst e
      cases e2
      exact ⟨p, xs', h1, upd_same, b3, b4, hr⟩
    · obtain ⟨p', xs2, c1, c2, c3, c4, c5⟩ := E.ow j es e2
      have hne : p' ≠ p := fun z => by
        subst z
        exact E.dj i j ds es e hg e2 (by rw [h1, c1])
      exact ⟨p', xs2, c1, by rw [upd_ne hne]; exact c2, c3, c4, c5⟩
  · rcases gs j _ a1 with ⟨e, e2⟩ | ⟨e, e2⟩
    · subst e
      rcases gs k _ a2 with ⟨e3, e4⟩ | ⟨e3, e4⟩
      · exact absurd e3 hjk
      · exact E.dj i k ds fs hjk hg e4
    · rcases gs k _ a2 with ⟨e3, e4⟩ | ⟨e3, e4⟩
      · subst e3
        exact E.dj j i es ds hjk e2 hg
      · exact E.dj j k es fs hjk e2 e4
  · obtain ⟨own, o1, o2⟩ := E.on
    refine ⟨own, fun j es p' h hp => ?_, fun j o h => ?_⟩
    · rcases gs j _ h with ⟨e, e2⟩ | ⟨_, e2⟩
      · subst e; exact o1 i ds p' hg hp
      · exact o1 j es p' e2 hp
    · rcases gs j _ h with ⟨_, e2⟩ | ⟨e, e2⟩
      · cases e2
      · obtain ⟨p', fp, c1, c2, c3, c4⟩ := o2 j o e2
        refine ⟨p', fp, c1, c2, c3.mono (Same.refl _) fun q hq u e3 => ?_, c4⟩
        rw [upd_ne fun z => ?_]
        · exact e3
        · have z1 := (c4 q hq).2.2
          rw [z, o1 i ds p hg h1] at z1
          injection z1 with z1
          exact e z1
theorem EOk.changeO {i : Nat} {o o' : OV} {p : Addr} (E : EOk K G0 H0 ρ σ G H) (hg : gt ρ i = .ov o) (h1 : σ[i]? = some (some (.ref p)))
    (hc : ∀ fp, (p :: fp).Nodup → Owns K G H p fp o → ∃ fp', (p :: fp').Nodup ∧ Owns K G H' p fp' o' ∧ (∀ q ∈ p :: fp', q ∈ p :: fp ∨ H q = none) ∧ ∀ b, b ∉ p :: fp → H b ≠ none → H' b = H b) :
    EOk K G0 H0 (ρ.set i (.ov o')) σ G H' := by
  obtain ⟨own, o1, o2⟩ := E.on
  obtain ⟨p', fp, b1, b2, b3, b4⟩ := o2 i o hg
  rw [h1] at b1
  cases b1
  obtain ⟨fp', c1, c2, c3, c4⟩ := hc fp b2 b3
  have hlt : i < ρ.length := gt_lt hg (by simp)
  have gs : ∀ j s, gt (ρ.set i (.ov o')) j = s → (i = j ∧ s = .ov o') ∨ (i ≠ j ∧ gt ρ j = s) := fun j s e => by
    rw [gt_set] at e
    by_cases h : i = j
    · subst h; rw [if_pos ⟨rfl, hlt⟩] at e; exact .inl ⟨rfl, e.symm⟩
    · rw [if_neg (fun z => h z.1)] at e; exact .inr ⟨h, e⟩
  have hk : ∀ (F : Hp), (∀ q ∈ p :: fp, F q = none) → Same F H → Same F H' := fun F hF s b u e => by
    have hb : b ∉ p :: fp := fun z => by rw [hF b z] at e; cases e
    rw [c4 b hb (by rw [s b u e]; exact nofun)]
    exact s b u e
  refine ⟨⟨E.e.g, hk H0 (fun q hq => (b4 q hq).2.1) E.e.h, hk G (fun q hq => (b4 q hq).1) E.e.s, E.e.n⟩, by simp [E.len], fun j d h => ?_, fun j es h => ?_, fun j k es fs hjk a1 a2 => ?_, fun q => if q ∈ p :: fp' then some i else own q, fun j es p' h hp => ?_, fun j o2' h => ?_⟩
  · rcases gs j _ h with ⟨_, e2⟩ | ⟨e, e2⟩
    · cases e2
    · exact E.fz j d e2
  · rcases gs j _ h with ⟨_, e2⟩ | ⟨e, e2⟩
    · cases e2
    · obtain ⟨p', xs, d1, d2, d3, d4, d5⟩ := E.ow j es e2
      refine ⟨p', xs, d1, ?_, d3, d4, d5⟩
      rw [c4 p' (fun z => ?_) (by rw [d2]; exact nofun)]
      · exact d2
      · have z1 := (b4 p' z).2.2
        rw [o1 j es p' e2 d1] at z1
        injection z1 with z1
        exact e z1.symm
  · rcases gs j _ a1 with ⟨_, e2⟩ | ⟨e, e2⟩
    · cases e2
    · rcases gs k _ a2 with ⟨_, e4⟩ | ⟨e3, e4⟩
      · cases e4
      · exact E.dj j k es fs hjk e2 e4
  · rcases gs j _ h with ⟨_, e2⟩ | ⟨e, e2⟩
    · cases e2
    · have w := o1 j es p' e2 hp
      obtain ⟨p2, xs, d1, d2, _⟩ := E.ow j es e2
      rw [hp] at d1
      cases d1
      dsimp only
      rw [if_neg fun z => ?_]
      · exact w
      · rcases c3 p' z with z | z
        · have z1 := (b4 p' z).2.2
          rw [w] at z1
          injection z1 with z1
          exact e z1.symm
        · rw [z] at d2; cases d2
  · rcases gs j _ h with ⟨e, e2⟩ | ⟨e, e2⟩
    · subst e
      cases e2
      refine ⟨p, fp', h1, c1, c2, fun q hq => ?_⟩
      dsimp only
      rw [if_pos hq]
      rcases c3 q hq with z | z
      · exact ⟨(b4 q z).1, (b4 q z).2.1, rfl⟩
      · exact ⟨E.e.s.free z, E.e.h.free z, rfl⟩
    · obtain ⟨p2, fp2, d1, d2, d3, d4⟩ := o2 j o2' e2
      have hno : ∀ q ∈ p2 :: fp2, q ∉ p :: fp := fun q hq z => by
        have z1 := (b4 q z).2.2
        rw [(d4 q hq).2.2] at z1
        injection z1 with z1
        exact e z1.symm
      refine ⟨p2, fp2, d1, d2, d3.mono (Same.refl _) fun q hq u e3 => ?_, fun q hq => ⟨(d4 q hq).1, (d4 q hq).2.1, ?_⟩⟩
      · rw [c4 q (hno q hq) (by rw [e3]; exact nofun)]; exact e3
      · dsimp only
        rw [if_neg fun z => ?_]
        · exact (d4 q hq).2.2
        · rcases c3 q z with z | z
          · exact hno q hq z
          · exact d3.here q hq z
theorem EOk.weak {ρ' : Ev} (E : EOk K G0 H0 ρ σ G H) (hl : ρ'.length = ρ.length) (w : ∀ i, gt ρ' i = .un ∨ gt ρ' i = gt ρ i) : EOk K G0 H0 ρ' σ G H := by
  have g : ∀ i s, gt ρ' i = s → s ≠ .un → gt ρ i = s := fun i s e n => by
    rcases w i with h | h
    · exact absurd (e.symm.trans h) n
    · rw [← h]; exact e
  exact ⟨E.e, by rw [hl]; exact E.len, fun i d h => E.fz i d (g i _ h (by simp)), fun i d h => E.ow i d (g i _ h (by simp)), fun i j ds es hij h1 h2 => E.dj i j ds es hij (g i _ h1 (by simp)) (g j _ h2 (by simp)), let ⟨own, o1, o2⟩ := E.on; ⟨own, fun i ds p h => o1 i ds p (g i _ h (by simp)), fun i o h => o2 i o (g i _ h (by simp))⟩⟩
end
section
variable {X : Cx} {pos : Pos} {e : Expr} {te : TD}
def xSeq (t u : TX) : TX := fun D ρ => t { D with nx := u D } ρ
def xNil : TX := fun D ρ => D.nx ρ
theorem pxs_nil : PXs X [] xNil := ⟨_, pss_nil, fun ρ σ G0 H0 G H D E k h g => g.nx ρ σ G H (Same.refl _) k h⟩
theorem pxs_cons {st : Stmt} {sts : List Stmt} {t u : TX} (h1 : PX X st t) (h2 : PXs X sts u) : PXs X (st :: sts) (xSeq t u) := by
  obtain ⟨t1, p1, q1⟩ := h1
  obtain ⟨t2, p2, q2⟩ := h2
  refine ⟨_, pss_cons p1 p2, fun ρ σ G0 H0 G H D E k h g => q1 ρ σ G0 H0 G H _ _ k h ⟨fun ρ' σ' G' H' s' k' h' => q2 ρ' σ' G0 H0 G' H' D E k' h' (g.shift s'), g.rt, g.bk, g.ct⟩⟩
theorem pxs_one {st : Stmt} {t : TX} (h1 : PX X st t) : PXs X [st] t := by
  obtain ⟨t1, p1, q1⟩ := h1
  exact ⟨_, pss_one p1, q1⟩
theorem pxs_frz (i : Nat) {sts : List Stmt} {t : TX} (h : PXs X sts t) : PXs X sts (fun D ρ => t D (frz i ρ)) := by
  obtain ⟨t1, p1, q1⟩ := h
  refine ⟨_, p1, fun ρ σ G0 H0 G H D E k h g => ?_⟩
  obtain ⟨G', k', s'⟩ := k.freeze i
  exact q1 _ σ G0 H0 G' H D E k' h (g.shift s')
def xRet (te : TD) : TX := fun D ρ => te ρ D.rt
theorem px_ret (h : PD X e te) : PX X (.Return (some e) pos) (xRet te) := by
  obtain ⟨t, p, q⟩ := h
  exact ⟨_, ps_ret p, fun ρ σ G0 H0 G H D E k h g => q ρ σ G0 H0 G H _ _ k h fun v H' r G' x rr hq => g.rt v H' r G' (k.e.trans x) (rr.older k.e.h) hq⟩
def xRetO (i : Nat) : TX := fun D ρ => match gt ρ i with
  | .ow ds => D.rt (.ow ds)
  | _ => False
theorem px_retO (i : Nat) {x : Str} {p' : Pos} (hN : X.N[i]? = some x := by rfl) (hv : Vis X.env.scope x := by first | exact Or.inl rfl | exact Or.inr (Or.inl rfl) | exact Or.inr (Or.inr rfl)) (hd : (x == ("__debug__" : Str)) = false := by decide)
    (hcd : (x == ("__classdict__" : Str)) = false := by decide) : PX X (.Return (some (.Name x p')) pos) (xRetO i) := by
  refine ⟨_, ps_ret (pe_var hN hv hd hcd), fun ρ σ G0 H0 G H D E k h g => ?_⟩
  unfold xRetO at h
  split at h
  · rename_i ds hg
    obtain ⟨p, xs, h1, h2, h3, h4, h5⟩ := k.ow i ds hg
    exact ⟨_, h1, g.rt _ H (.ow ds) G k.e ⟨p, xs, rfl, h4, h3, h2, h5⟩ h⟩
  · exact h.elim
def xRetN : TX := fun D _ => D.rt (.fz .non)
def xDrop (te : TD) : TX := fun D ρ => te ρ fun _ => D.nx ρ
def xIf (c : TDb) (t u : TX) : TX := fun D ρ => c ρ fun b => if b = true then t D ρ else u D ρ
theorem px_if {c : Expr} {a b : List Stmt} {tc : TDb} {t u : TX} (hc : PB X c tc) (ha : PXs X a t) (hb : PXs X b u) : PX X (.If c a b pos) (xIf tc t u) := by
  obtain ⟨t0, p0, q0⟩ := hc
  obtain ⟨t1, p1, q1⟩ := ha
  obtain ⟨t2, p2, q2⟩ := hb
  refine ⟨_, ps_if p0 p1 p2, fun ρ σ G0 H0 G H D E k h g => q0 ρ σ G0 H0 G H _ _ k h fun b H' G' x hq => ?_⟩
  cases b with
  | true => rw [if_pos rfl] at hq ⊢; exact q1 ρ σ G0 H0 G' H' D E (k.ext x) hq (g.shift x.g)
  | false => rw [if_neg Bool.false_ne_true] at hq ⊢; exact q2 ρ σ G0 H0 G' H' D E (k.ext x) hq (g.shift x.g)
def xSet (i : Nat) (te : TD) : TX := fun D ρ => te ρ fun r => D.nx (ρ.set i r.sl)
theorem px_set (i : Nat) {x : Str} {pos' : Pos} (he : PD X e te) (hN : X.N.Nodup := by assumption) (hi : X.N[i]? = some x := by rfl) (hx : Loc X.env.scope x := by first | exact Or.inl rfl | exact Or.inr rfl) (hs : swapsWith e (some (.Name x pos')) pos.line X.env = pure false := by rfl) (hf : X.fn x = true ∨ X.env.scope.names.lookup x = some .local := by first | exact .inl rfl | exact .inr rfl | assumption) :
    PX X (.Assign [.Name x pos'] e pos) (xSet i te) := by
  obtain ⟨t, p, q⟩ := he
  exact ⟨_, ps_set hN hi hx p hs hf, fun ρ σ G0 H0 G H D E k h g => q ρ σ G0 H0 G H _ _ k h fun v H' r G' x rr hq => g.nx _ _ G' H' x.g (k.put x rr) hq⟩
def xSetF (i : Nat) (te : TD) : TX := fun D ρ => te ρ fun r => D.nx (ρ.set i (.fz r.val))
theorem px_setF (i : Nat) {x : Str} {pos' : Pos} (he : PD X e te) (hN : X.N.Nodup := by assumption) (hi : X.N[i]? = some x := by rfl) (hx : Loc X.env.scope x := by first | exact Or.inl rfl | exact Or.inr rfl) (hs : swapsWith e (some (.Name x pos')) pos.line X.env = pure false := by rfl) (hf : X.fn x = true ∨ X.env.scope.names.lookup x = some .local := by first | exact .inl rfl | exact .inr rfl | assumption) :
    PX X (.Assign [.Name x pos'] e pos) (xSetF i te) := by
  obtain ⟨t, p, q⟩ := he
  refine ⟨_, ps_set hN hi hx p hs hf, fun ρ σ G0 H0 G H D E k h g => q ρ σ G0 H0 G H _ _ k h fun v H' r G' x rr hq => ?_⟩
  obtain ⟨G2, x2, rv, _⟩ := rr.freeze x
  exact g.nx _ _ G2 H' x2.g (k.put x2 (r := .fz r.val) rv) hq
def xApp (i : Nat) (te : TD) : TX := fun D ρ => match gt ρ i with
  | .ow ds => te ρ fun r => ds.length < sizeLine ∧ D.nx (ρ.set i (.ow (ds ++ [r.val])))
  | _ => False
theorem px_app (i : Nat) {x : Str} {p1 p2 pos' : Pos} (he : PD X e te) (hN : X.N[i]? = some x := by rfl) (hv : Vis X.env.scope x := by first | exact Or.inl rfl | exact Or.inr (Or.inl rfl) | exact Or.inr (Or.inr rfl)) (hd : (x == ("__debug__" : Str)) = false := by decide)
    (hcd : (x == ("__classdict__" : Str)) = false := by decide) (hst : starEach [e] X.env = (false, eval e X.env) :: starEach [] X.env := by rfl)
    (hb : ∀ {ta : TE} {t : TA}, PE X (.Name x p1) ta → PA X [e] t → PE X (.Call (.Attribute (.Name x p1) "append" p2) [e] [] pos') (tBM X.K "list" rAppend ta t) := by intro ta t h1 h2; exact pe_bm PySem.F.plainAttrs_list PySem.F.slot_list_append PySem.F.type_list_append mt_append h1 h2) :
    PX X (.Expr (.Call (.Attribute (.Name x p1) "append" p2) [e] [] pos') pos) (xApp i te) := by
  obtain ⟨t, p, q⟩ := he
  refine ⟨_, ps_expr (hb (pe_var hN hv hd hcd) (pa_cons p pa_nil hst)), fun ρ σ G0 H0 G H D E k h g => ?_⟩
  unfold xApp at h
  split at h
  · rename_i ds hg
    obtain ⟨a, xs, h1, h2, h3, h4, h5⟩ := k.ow i ds hg
    refine ⟨_, h1, .inl ⟨rfl, xs, SqL.of h2⟩, ?_⟩
    refine q ρ σ G0 H0 G H _ _ k h fun v H' r G' x1 rr hq => ?_
    obtain ⟨G2, x2, rv, _⟩ := rr.freeze x1
    have k2 := k.ext x2
    refine ⟨a, xs, v, rfl, rfl, x2.h _ _ h2, by rw [h5.length]; exact hq.1, ?_⟩
    exact g.nx _ _ G2 _ x2.g (k2.change hg h1 ((h5.mono x2.g).append (Reps.cons rv Reps.nil))) hq.2
  · exact h.elim
end
end L2
set_option Elab.async false
set_option linter.all false
set_option maxRecDepth 100000
set_option maxHeartbeats 1000000
namespace L2
open PySem PySem.Spec PyProof.Rows
section
variable {X : Cx} {pos : Pos} {tg : Expr}
abbrev TGd := D → Ev → (Ev → Prop) → Prop
abbrev TGds := List D → Ev → (Ev → Prop) → Prop
def PGd (X : Cx) (tg : Expr) (g : TGd) : Prop := ∃ gg, PG X tg gg ∧ ∀ (ρ : Ev) (σ : St) (G0 H0 G H : Hp) (d : D) (v : V) (Q : Ev → Prop) (P : St → Hp → Prop), EOk X.K G0 H0 ρ σ G H → Rep X.K G v d → g d ρ Q →
  (∀ ρ' σ' G' H', EOk X.K G0 H0 ρ' σ' G' H' → Ext G H G' H' → Q ρ' → P σ' H') → gg v σ H P
def PGds (X : Cx) (tgs : List Expr) (g : TGds) : Prop := ∃ gg, PGs X tgs gg ∧ ∀ (ρ : Ev) (σ : St) (G0 H0 G H : Hp) (ds : List D) (vs : List V) (Q : Ev → Prop) (P : St → Hp → Prop), EOk X.K G0 H0 ρ σ G H → Reps X.K G vs ds → g ds ρ Q →
  (∀ ρ' σ' G' H', EOk X.K G0 H0 ρ' σ' G' H' → Ext G H G' H' → Q ρ' → P σ' H') → gg vs σ H P
def yName (i : Nat) : TGd := fun d ρ Q => Q (ρ.set i (.fz d))
theorem pg_nameD (i : Nat) {x : Str} (hN : X.N.Nodup := by assumption) (hi : X.N[i]? = some x := by rfl) (hx : Loc X.env.scope x := by first | exact Or.inl rfl | exact Or.inr rfl) (hf : X.fn x = true ∨ X.env.scope.names.lookup x = some .local := by first | exact .inl rfl | exact .inr rfl | assumption) : PGd X (.Name x pos) (yName i) :=
  ⟨_, pg_name hN hi hx hf, fun ρ σ G0 H0 G H d v Q P E r h k => k _ _ G H (E.put (.refl E.e.s) (r := .fz d) r) (.refl E.e.s) h⟩
def yNil : TGds := fun ds ρ Q => match ds with
  | [] => Q ρ
  | _ => False
def yCons (t : TGd) (u : TGds) : TGds := fun ds ρ Q => match ds with
  | d :: r => t d ρ fun ρ' => u r ρ' Q
  | [] => False
theorem pgs_nilD : PGds X [] yNil := by
  refine ⟨_, pgs_nil, fun ρ σ G0 H0 G H ds vs Q P E r h k => ?_⟩
  unfold yNil at h
  split at h
  · cases vs with
    | nil => exact ⟨rfl, k _ _ G H E (.refl E.e.s) h⟩
    | cons => simp only [Reps] at r
  · exact h.elim
theorem pgs_consD {e : Expr} {es : List Expr} {t : TGd} {u : TGds} (h1 : PGd X e t) (h2 : PGds X es u) (hs : (assignEach (e :: es) X.env).map (·.2) = assign e X.env :: (assignEach es X.env).map (·.2) := by rfl) : PGds X (e :: es) (yCons t u) := by
  obtain ⟨t1, p1, q1⟩ := h1
  obtain ⟨t2, p2, q2⟩ := h2
  refine ⟨_, pgs_cons p1 p2 hs, fun ρ σ G0 H0 G H ds vs Q P E r h k => ?_⟩
  unfold yCons at h
  split at h
  · cases vs with
    | nil => simp only [Reps] at r
    | cons v vs =>
      simp only [Reps] at r
      refine ⟨v, vs, rfl, q1 ρ σ G0 H0 G H _ v _ _ E r.1 h fun ρ' σ' G' H' E' x hq => ?_⟩
      exact q2 ρ' σ' G0 H0 G' H' _ vs Q P E' (r.2.mono x.g) hq fun ρ2 σ2 G2 H2 E2 x2 hq2 => k ρ2 σ2 G2 H2 E2 (x.trans x2) hq2
  · exact h.elim
def yTup (n : Nat) (t : TGds) : TGd := fun d ρ Q => match d with
  | .tup ds => ds.length = n ∧ t ds ρ Q
  | _ => False
theorem pg_tupD {es : List Expr} {k : Nat} {t : TGds} {n : Nat} (hc : X.calm = true) (h : PGds X es t) (hn : (assignEach es X.env).length = n := by rfl) (hst : (assignEach es X.env).findIdx? (·.1) = none := by rfl) : PGd X (.Tuple es k pos) (yTup n t) := by
  obtain ⟨t1, p1, q1⟩ := h
  refine ⟨_, pg_tup hc p1 hn hst, fun ρ σ G0 H0 G H d v Q P E r h k => ?_⟩
  unfold yTup at h
  split at h
  · simp only [Rep] at r
    obtain ⟨a, xs, rfl, hq, rs⟩ := r
    exact ⟨a, xs, rfl, E.e.s.seqT hq, by rw [rs.length]; exact h.1, q1 ρ σ G0 H0 G H _ xs Q P E rs h.2 k⟩
  · exact h.elim
def xAsg (te : TD) (g : TGd) : TX := fun D ρ => te ρ fun r => g r.val ρ D.nx
def Walk (K : PySem.W.Frag) (J : It) (G : Hp) (ds : List D) : Prop :=
  (∀ i d G' H', ds[i]? = some d → Same G G' → Same G' H' → J.go i H' ∧ ∀ v H2, J.yld i H' v H2 → ∃ G2, Ext G' H' G2 H2 ∧ Rep K G2 v d) ∧ ∀ G' H', Same G G' → Same G' H' → J.stop ds.length H'
abbrev TId := Ev → (List D → Prop) → Prop
def PId (X : Cx) (tg iter : Expr) (wi : TId) : Prop := ∃ ww, PI X tg iter ww ∧ ∀ (ρ : Ev) (σ : St) (G0 H0 G H : Hp) (Q : List D → Prop) (P : It → Hp → Prop), EOk X.K G0 H0 ρ σ G H → wi ρ Q →
  (∀ J H' ds G', Ext G H G' H' → Walk X.K J G' ds → Q ds → P J H') → ww σ H P
def itemsD (d : D) (Q : List D → Prop) : Prop := match d with
  | .lst ds => Q ds
  | .tup ds => Q ds
  | .str z => Q (z.cps.toList.map fun c => .str ⟨#[c]⟩)
  | _ => False
def zSeq (te : TD) : TId := fun ρ Q => te ρ fun r => itemsD r.val Q
theorem walk_list {K : PySem.W.Frag} {G : Hp} {a : Addr} {xs : List V} {ds : List D} (h : RdL K G a xs) (r : Reps K G xs ds) : Walk K (Itl K a) G ds := by
  refine ⟨fun i d G' H' hd s1 s2 => ?_, fun G' H' s1 s2 => ⟨xs, (s2.rdl (s1.rdl h)).sq, by rw [r.length]; exact Nat.le_refl _⟩⟩
  obtain ⟨v, hv, rv⟩ := r.get hd
  have hs : SqL K H' a xs := (s2.rdl (s1.rdl h)).sq
  refine ⟨⟨xs, v, hs, hv⟩, fun u H2 hy => ?_⟩
  obtain ⟨e, y⟩ := hy
  subst e
  have := y xs hs
  rw [hv] at this
  cases this
  exact ⟨G', .refl s2, rv.mono s1⟩
theorem walk_tup {K : PySem.W.Frag} {G : Hp} {a : Addr} {xs : List V} {ds : List D} (h : SqT K G a xs) (r : Reps K G xs ds) : Walk K (Itt K a) G ds := by
  refine ⟨fun i d G' H' hd s1 s2 => ?_, fun G' H' s1 s2 => ⟨xs, s2.seqT (s1.seqT h), by rw [r.length]; exact Nat.le_refl _⟩⟩
  obtain ⟨v, hv, rv⟩ := r.get hd
  have hs : SqT K H' a xs := s2.seqT (s1.seqT h)
  refine ⟨⟨xs, v, hs, hv⟩, fun u H2 hy => ?_⟩
  obtain ⟨e, y⟩ := hy
  subst e
  have := y xs hs
  rw [hv] at this
  cases this
  exact ⟨G', .refl s2, rv.mono s1⟩
theorem walk_str {K : PySem.W.Frag} {G : Hp} (z : Str) : Walk K (Its z) G (z.cps.toList.map fun c => .str ⟨#[c]⟩) := by
  refine ⟨fun i d G' H' hd s1 s2 => ?_, fun G' H' s1 s2 => ?_⟩
  · rw [List.getElem?_map] at hd
    cases e : z.cps.toList[i]? with
    | none => rw [e] at hd; cases hd
    | some c =>
      rw [e] at hd
      cases hd
      have hc : z.cps[i]? = some c := by simpa using e
      refine ⟨(Array.getElem?_eq_some_iff.mp hc).1, fun v H2 hy => ?_⟩
      obtain ⟨e2, c', hc', rfl⟩ := hy
      subst e2
      rw [hc] at hc'
      cases hc'
      exact ⟨G', .refl s2, rep_str _ _ _⟩
  · show _ = _
    simp
theorem walk_range {K : PySem.W.Frag} {G : Hp} (lo : Int) (n : Nat) : Walk K (Itr lo n) G ((List.range n).map fun (i : Nat) => .int (lo + i)) := by
  refine ⟨fun i d G' H' hd s1 s2 => ?_, fun G' H' s1 s2 => ?_⟩
  · rw [List.getElem?_map] at hd
    cases e : (List.range n)[i]? with
    | none => rw [e] at hd; cases hd
    | some c =>
      rw [e] at hd
      cases hd
      obtain ⟨h1, h2⟩ := List.getElem?_eq_some_iff.mp e
      have h3 : i < n := by simpa using h1
      have h4 : c = i := by rw [← h2]; simp
      subst h4
      refine ⟨h3, fun v H2 hy => ?_⟩
      obtain ⟨e2, rfl⟩ := hy
      subst e2
      exact ⟨G', .refl s2, rep_int _ _ _⟩
  · show n ≤ _
    simp
def enumD (ds : List D) : List D := ds.mapIdx fun i d => .tup [.int (i : Nat), d]
theorem rep_pair {K : PySem.W.Frag} {G : Hp} {t : Addr} {x y : V} {d e : D} (s1 : SqT K G t [x, y]) (r1 : Rep K G x d) (r2 : Rep K G y e) : Rep K G (.ref t) (.tup [d, e]) := by
  simp only [Rep]
  exact ⟨t, [x, y], rfl, s1, Reps.cons r1 (Reps.cons r2 Reps.nil)⟩
theorem walk_enum {K : PySem.W.Frag} {G : Hp} {a : Addr} {xs : List V} {ds : List D} (h : RdL K G a xs) (r : Reps K G xs ds) : Walk K (Ite K a) G (enumD ds) := by
  refine ⟨fun i d G' H' hd s1 s2 => ?_, fun G' H' s1 s2 => ⟨xs, (s2.rdl (s1.rdl h)).sq, by rw [r.length]; simp [enumD]⟩⟩
  unfold enumD at hd
  rw [List.getElem?_mapIdx] at hd
  cases e : ds[i]? with
  | none => rw [e] at hd; cases hd
  | some d' =>
    rw [e] at hd
    cases hd
    obtain ⟨v, hv, rv⟩ := r.get e
    have hs : SqL K H' a xs := (s2.rdl (s1.rdl h)).sq
    refine ⟨⟨xs, v, hs, hv⟩, fun u H2 hy => ?_⟩
    obtain ⟨t, rfl, ht, y⟩ := hy
    obtain ⟨x, hx, rfl⟩ := y xs hs
    rw [hv] at hx
    cases hx
    have x2 : Ext G' H' (upd G' t (.tup [.int i, v])) (upd H' t (.tup [.int i, v])) := .new s2 ht
    exact ⟨_, x2, rep_pair (SqT.of upd_same) (rep_int _ _ _) ((rv.mono s1).mono x2.g)⟩
theorem pid_seq {l : Expr} {te : TD} (h : PD X l te) : PId X tg l (zSeq te) := by
  obtain ⟨t, p, q⟩ := h
  refine ⟨_, pi_seq p, fun ρ σ G0 H0 G H Q P E h k => q ρ σ G0 H0 G H _ _ E h fun v H' r G' x rr hq => ?_⟩
  obtain ⟨G2, x2, rv, _⟩ := rr.freeze x
  unfold itemsD at hq
  split at hq
  · rename_i ds e
    rw [e] at rv
    simp only [Rep] at rv
    obtain ⟨a, xs, rfl, h1, h2⟩ := rv
    exact .inl ⟨a, rfl, ⟨xs, (x2.s.rdl h1).sq⟩, k _ H' _ G2 x2 (walk_list h1 h2) hq⟩
  · rename_i ds e
    rw [e] at rv
    simp only [Rep] at rv
    obtain ⟨a, xs, rfl, h1, h2⟩ := rv
    exact .inr (.inl ⟨a, rfl, ⟨xs, x2.s.seqT h1⟩, k _ H' _ G2 x2 (walk_tup h1 h2) hq⟩)
  · rename_i z e
    rw [e] at rv
    simp only [Rep] at rv
    exact .inr (.inr ⟨z, rv, k _ H' _ G2 x2 (walk_str z) hq⟩)
  · exact hq.elim
def zRng1 (ts : TDa) : TId := fun ρ Q => ts ρ fun ds => match ds with
  | [.int j] => -(2 ^ 62) ≤ j ∧ j < 2 ^ 62 ∧ Q ((List.range j.toNat).map fun (i : Nat) => .int (0 + i))
  | _ => False
theorem reps1 {K : PySem.W.Frag} {G : Hp} {vs : List V} {d : D} (h : Reps K G vs [d]) : ∃ v, vs = [v] ∧ Rep K G v d := by
  match vs, h with
  | [], h => simp only [Reps] at h
  | [v], h => simp only [Reps] at h; exact ⟨v, rfl, h.1⟩
  | v :: w :: r, h => simp only [Reps] at h; exact absurd h.2 (by simp)
theorem reps2 {K : PySem.W.Frag} {G : Hp} {vs : List V} {d e : D} (h : Reps K G vs [d, e]) : ∃ v w, vs = [v, w] ∧ Rep K G v d ∧ Rep K G w e := by
  match vs, h with
  | [], h => simp only [Reps] at h
  | v :: r, h =>
    simp only [Reps] at h
    obtain ⟨w, rfl, hw⟩ := reps1 h.2
    exact ⟨v, w, rfl, h.1, hw⟩
theorem pid_range1 {a : Expr} {ts : TDa} {p : Pos} (hm : X.mg "range" = none) (ha : PDa X [a] ts) (hg : Gl X "range" := by rfl) (hs : starEach [a] X.env = [(false, eval a X.env)] := by rfl) : PId X tg (.Call (.Name "range" p) [a] [] pos) (zRng1 ts) := by
  obtain ⟨t, pp, q⟩ := ha
  refine ⟨_, pi_range1 hg hm pp hs, fun ρ σ G0 H0 G H Q P E h k => q ρ σ G0 H0 G H _ _ E h fun vs H' ds G' x rs hq => ?_⟩
  split at hq
  · obtain ⟨v, rfl, rv⟩ := reps1 rs
    simp only [Rep] at rv
    subst rv
    exact ⟨_, rfl, hq.1, hq.2.1, k _ H' _ G' x (walk_range 0 _) hq.2.2⟩
  · exact hq.elim
def zEnum (ts : TDa) : TId := fun ρ Q => ts ρ fun ds => match ds with
  | [.lst es] => Q (enumD es)
  | _ => False
theorem pid_enum {a : Expr} {ts : TDa} {p tp : Pos} {elts : List Expr} {x1 : Nat} (hm : X.mg "enumerate" = none) (ha : PDa X [a] ts) (hg : Gl X "enumerate" := by rfl) (hs : starEach [a] X.env = [(false, eval a X.env)] := by rfl) : PId X (.Tuple elts x1 tp) (.Call (.Name "enumerate" p) [a] [] pos) (zEnum ts) := by
  obtain ⟨t, pp, q⟩ := ha
  refine ⟨_, pi_enum hg hm pp hs, fun ρ σ G0 H0 G H Q P E h k => q ρ σ G0 H0 G H _ _ E h fun vs H' ds G' x rs hq => ?_⟩
  split at hq
  · obtain ⟨v, rfl, rv⟩ := reps1 rs
    simp only [Rep] at rv
    obtain ⟨a, xs, rfl, h1, h2⟩ := rv
    exact ⟨a, xs, rfl, x.s.rdl h1, k _ H' _ G' x (walk_enum h1 h2) hq⟩
  · exact hq.elim
def xFor (wi : TId) (g : TGd) (tb : TX) : TX := fun D ρ => wi ρ fun ds => ∃ Iv : Nat → Ev → Prop, Iv 0 ρ ∧
  (∀ i d ρ', ds[i]? = some d → Iv i ρ' → g d ρ' fun ρ2 => tb { D with nx := Iv (i + 1), ct := Iv (i + 1), bk := D.nx } ρ2) ∧ ∀ ρ', Iv ds.length ρ' → D.nx ρ'
theorem px_for {iter : Expr} {body : List Stmt} {wi : TId} {g : TGd} {tb : TX} (hp : PassesOwn (model X.prog X.w) X.A X.env X.xe) (hc : X.calm = true) (hi : PId X tg iter wi) (hg : PGd X tg g) (hb : PXs X body tb)
    (hs : ∀ x, foldedSetIterable iter X.env x = pure x := by intro _; rfl) : PX X (.For tg iter body [] pos) (xFor wi g tb) := by
  obtain ⟨t1, p1, q1⟩ := hi
  obtain ⟨t2, p2, q2⟩ := hg
  obtain ⟨t3, p3, q3⟩ := hb
  refine ⟨_, ps_for hp hc p1 p2 p3 hs, fun ρ σ G0 H0 G H D E k h gg => q1 ρ σ G0 H0 G H _ _ k h fun J H1 ds G1 x1 wk hq => ?_⟩
  obtain ⟨Iv, i0, turn, fin⟩ := hq
  refine ⟨fun i m σ' H' => m = ds.length - i ∧ i ≤ ds.length ∧ ∃ ρ' G', EOk X.K G0 H0 ρ' σ' G' H' ∧ Same G1 G' ∧ Iv i ρ', ⟨ds.length, by simp, Nat.zero_le _, ρ, G1, k.ext x1, Same.refl _, i0⟩, ?_⟩
  rintro i m σ' H' ⟨rfl, hi, ρ', G', k', s', iv⟩
  by_cases hlt : i < ds.length
  · obtain ⟨w1, w2⟩ := wk
    obtain ⟨go, yl⟩ := w1 i ds[i] G' H' (List.getElem?_eq_getElem hlt) s' k'.e.s
    refine .inr ⟨go, fun σ2 H2 => ∃ ρ2 G2, EOk X.K G0 H0 ρ2 σ2 G2 H2 ∧ Same G1 G2 ∧ Iv (i + 1) ρ2, fun σ2 H2 ⟨ρ2, G2, k2, s2, iv2⟩ => ⟨ds.length - (i + 1), by omega, rfl, hlt, ρ2, G2, k2, s2, iv2⟩, fun v H2 hy => ?_⟩
    obtain ⟨G2, x2, rv⟩ := yl v H2 hy
    refine q2 ρ' σ' G0 H0 G2 H2 ds[i] v _ _ (k'.ext x2) rv (turn i ds[i] ρ' (List.getElem?_eq_getElem hlt) iv) fun ρ3 σ3 G3 H3 k3 x3 hq3 => ?_
    have s3 : Same G1 G3 := (s'.trans x2.g).trans x3.g
    refine q3 ρ3 σ3 G0 H0 G3 H3 _ _ k3 hq3 ⟨fun ρ4 σ4 G4 H4 s4 k4 h4 => ⟨ρ4, G4, k4, s3.trans s4, h4⟩, gg.rt, fun ρ4 σ4 G4 H4 s4 k4 h4 => gg.nx ρ4 σ4 G4 H4 ((x1.g.trans s3).trans s4) k4 h4, fun ρ4 σ4 G4 H4 s4 k4 h4 => ⟨ρ4, G4, k4, s3.trans s4, h4⟩⟩
  · have e : i = ds.length := by omega
    subst e
    exact .inl ⟨wk.2 G' H' s' k'.e.s, gg.nx ρ' σ' G' H' (x1.g.trans s') k' (fin ρ' iv)⟩
end
end L2
set_option Elab.async false
set_option linter.all false
set_option maxRecDepth 100000
set_option maxHeartbeats 1000000
namespace L2
open PySem PySem.Spec PyProof.Rows
def innS (ρ : Ev) : Option Nat → Sl
  | none => .un
  | some j => match gt ρ j with
    | .fz d => .fz d
    | _ => .un
def innP (m : List (Option Nat)) (ρ : Ev) : Ev := m.map (innS ρ)
theorem gt_map {m : List (Option Nat)} {ρ : Ev} {i : Nat} : gt (m.map (innS ρ)) i = match m[i]? with
    | some o => innS ρ o
    | none => .un := by
  induction m generalizing i with
  | nil => simp [gt]
  | cons a r ih =>
    cases i with
    | zero => simp [gt]
    | succ i => simp only [List.map_cons, gt, List.getElem?_cons_succ]; exact ih
def Keeps2 (m : List (Option Nat)) (g : TGd) : Prop := ∀ d ρ Q, g d ρ Q → g d ρ fun ρ2 => Q ρ2 ∧ ρ2.length = ρ.length ∧ ∀ j c, m[j]? = some (some c) → gt ρ2 j = gt ρ j
def Keeps2s (m : List (Option Nat)) (g : TGds) : Prop := ∀ ds ρ Q, g ds ρ Q → g ds ρ fun ρ2 => Q ρ2 ∧ ρ2.length = ρ.length ∧ ∀ j c, m[j]? = some (some c) → gt ρ2 j = gt ρ j
theorem keep_name {m : List (Option Nat)} {i : Nat} (h : m[i]? = some none := by rfl) : Keeps2 m (yName i) := fun d ρ Q q => by
  refine ⟨q, by simp, fun j c hj => ?_⟩
  rw [gt_set, if_neg]
  rintro ⟨e, _⟩
  subst e
  rw [h] at hj
  cases hj
theorem keep_nil {m : List (Option Nat)} : Keeps2s m yNil := fun ds ρ Q q => by
  unfold yNil at q ⊢
  split at q
  · exact ⟨q, rfl, fun _ _ _ => rfl⟩
  · exact q.elim
theorem keep_cons {m : List (Option Nat)} {t : TGd} {u : TGds} (mono : ∀ d ρ (Q Q' : Ev → Prop), (∀ ρ', Q ρ' → Q' ρ') → t d ρ Q → t d ρ Q') (monos : ∀ d ρ (Q Q' : Ev → Prop), (∀ ρ', Q ρ' → Q' ρ') → u d ρ Q → u d ρ Q') (h1 : Keeps2 m t) (h2 : Keeps2s m u) : Keeps2s m (yCons t u) := fun ds ρ Q q => by
  unfold yCons at q ⊢
  split at q
  · refine mono _ _ _ _ (fun ρ' ⟨q', l', k'⟩ => ?_) (h1 _ _ _ q)
    exact monos _ _ _ _ (fun ρ2 ⟨q2, l2, k2⟩ => ⟨q2, l2.trans l', fun j c hj => (k2 j c hj).trans (k' j c hj)⟩) (h2 _ _ _ q')
  · exact q.elim
theorem keep_tup {m : List (Option Nat)} {n : Nat} {u : TGds} (h2 : Keeps2s m u) : Keeps2 m (yTup n u) := fun d ρ Q q => by
  unfold yTup at q ⊢
  split at q
  · exact ⟨q.1, h2 _ _ _ q.2⟩
  · exact q.elim
theorem mono_name {i : Nat} : ∀ d ρ (Q Q' : Ev → Prop), (∀ ρ', Q ρ' → Q' ρ') → yName i d ρ Q → yName i d ρ Q' := fun _ _ _ _ h q => h _ q
theorem mono_nil : ∀ d ρ (Q Q' : Ev → Prop), (∀ ρ', Q ρ' → Q' ρ') → yNil d ρ Q → yNil d ρ Q' := fun _ _ _ _ h q => by
  unfold yNil at q ⊢
  split at q
  · exact h _ q
  · exact q.elim
theorem mono_cons {t : TGd} {u : TGds} (mono : ∀ d ρ (Q Q' : Ev → Prop), (∀ ρ', Q ρ' → Q' ρ') → t d ρ Q → t d ρ Q') (monos : ∀ d ρ (Q Q' : Ev → Prop), (∀ ρ', Q ρ' → Q' ρ') → u d ρ Q → u d ρ Q') : ∀ d ρ (Q Q' : Ev → Prop), (∀ ρ', Q ρ' → Q' ρ') → yCons t u d ρ Q → yCons t u d ρ Q' := fun _ _ _ _ h q => by
  unfold yCons at q ⊢
  split at q
  · exact mono _ _ _ _ (fun ρ' q' => monos _ _ _ _ h q') q
  · exact q.elim
theorem keep_pair {m : List (Option Nat)} {i j n : Nat} (h : m[i]? = some none := by rfl) (h' : m[j]? = some none := by rfl) : Keeps2 m (yTup n (yCons (yName i) (yCons (yName j) yNil))) :=
  keep_tup (keep_cons mono_name (mono_cons mono_name mono_nil) (keep_name h) (keep_cons mono_name mono_nil (keep_name h') keep_nil))
theorem keep_triple {m : List (Option Nat)} {i j k n : Nat} (h : m[i]? = some none := by rfl) (h' : m[j]? = some none := by rfl) (h'' : m[k]? = some none := by rfl) : Keeps2 m (yTup n (yCons (yName i) (yCons (yName j) (yCons (yName k) yNil)))) :=
  keep_tup (keep_cons mono_name (mono_cons mono_name (mono_cons mono_name mono_nil)) (keep_name h) (keep_cons mono_name (mono_cons mono_name mono_nil) (keep_name h') (keep_cons mono_name mono_nil (keep_name h'') keep_nil)))
def PTd (X : Cx) (ifs : List Expr) (t : TDb) : Prop := ∃ tt, PTs X ifs tt ∧ ∀ (ρ : Ev) (σ : St) (G0 H0 G H : Hp) (Q : Bool → Prop) (P : Bool → Hp → Prop), EOk X.K G0 H0 ρ σ G H → t ρ Q →
  (∀ b H' G', Ext G H G' H' → Q b → P b H') → tt σ H P
def bYes : TDb := fun _ Q => Q true
theorem ptd_nil {X : Cx} : PTd X [] bYes := ⟨_, pts_nil, fun ρ σ G0 H0 G H Q P E h k => k true H G (.refl E.e.s) h⟩
theorem ptd_one {X : Cx} {c : Expr} {t : TDb} (h : PB X c t) : PTd X [c] t := let ⟨tt, p, q⟩ := h; ⟨tt, pts_one p, q⟩
def dComp (wi : TId) (m : List (Option Nat)) (g : TGd) (tc : TDb) (te : TD) : TD := fun ρ Q => wi ρ fun ds => ∃ Iv : Nat → List D → Prop, Iv 0 [] ∧
  (∀ i d acc, ds[i]? = some d → Iv i acc → g d (innP m ρ) fun ρ2 => tc ρ2 fun b => if b = true then te ρ2 fun r => acc.length < sizeLine ∧ Iv (i + 1) (acc ++ [r.val]) else Iv (i + 1) acc) ∧ ∀ acc, Iv ds.length acc → Q (.ow acc)
section
variable {X : Cx} {elt iter tg : Expr} {ifs : List Expr} {scope : Scope} {pos : Pos} {N' : List Str} {m : List (Option Nat)} {wi : TId} {g : TGd} {tc : TDb} {te : TD}
theorem comp_rd (cs : CompScope X N' m scope) (hk : Keeps2 m g) {ww : TI} {gg : TIn TG} {tcc : TIn TT} {tee : TIn TE}
    (q1 : ∀ (ρ : Ev) (σ : St) (G0 H0 G H : Hp) (Q : List D → Prop) (P : It → Hp → Prop), EOk X.K G0 H0 ρ σ G H → wi ρ Q → (∀ J H' ds G', Ext G H G' H' → Walk X.K J G' ds → Q ds → P J H') → ww σ H P)
    (q2 : ∀ s3 H3 ex (ρ : Ev) (σ : St) (G0 H0 G H : Hp) (d : D) (v : V) (Q : Ev → Prop) (P : St → Hp → Prop), EOk X.K G0 H0 ρ σ G H → Rep X.K G v d → g d ρ Q → (∀ ρ' σ' G' H', EOk X.K G0 H0 ρ' σ' G' H' → Ext G H G' H' → Q ρ' → P σ' H') → gg s3 H3 ex v σ H P)
    (q3 : ∀ s3 H3 ex (ρ : Ev) (σ : St) (G0 H0 G H : Hp) (Q : Bool → Prop) (P : Bool → Hp → Prop), EOk X.K G0 H0 ρ σ G H → tc ρ Q → (∀ b H' G', Ext G H G' H' → Q b → P b H') → tcc s3 H3 ex σ H P)
    (q4 : ∀ s3 H3 ex, Rdg X.K te (tee s3 H3 ex)) : Rdg X.K (dComp wi m g tc te) (tComp ww m gg tcc tee) := by
  refine fun ρ σ G0 H0 G H Q P E h k => q1 ρ σ G0 H0 G H _ _ E h fun J H1 ds G1 x1 wk hq => ?_
  obtain ⟨Iv, i0, turn, fin⟩ := hq
  intro D hD s3 ex
  have E1 := E.ext x1
  have hGD : G1 D = none := x1.s.free hD
  have noow : ∀ {i : Nat} {es : List L2.D}, gt (innP m ρ) i = .ow es → False := fun {i es} h => by
    unfold innP at h
    rw [gt_map] at h
    split at h
    · rename_i o _
      unfold innS at h
      split at h
      · cases h
      · split at h <;> cases h
    · cases h
  have noov : ∀ {i : Nat} {o : OV}, gt (innP m ρ) i = .ov o → False := fun {i o} h => by
    unfold innP at h
    rw [gt_map] at h
    split at h
    · rename_i o _
      unfold innS at h
      split at h
      · cases h
      · split at h <;> cases h
    · cases h
  have start : EOk X.K G1 H1 (innP m ρ) (inn m σ) G1 (upd H1 D (.lst [])) := by
    refine ⟨.own x1.s hD, by simp [inn, innP], fun i d h => ?_, fun i es h => (noow h).elim, fun i j es fs _ h => (noow h).elim, fun _ => none, fun i es _ h => (noow h).elim, fun i o h => (noov h).elim⟩
    unfold innP at h
    rw [gt_map] at h
    split at h
    · rename_i o ho
      unfold innS at h
      split at h
      · cases h
      · rename_i j
        split at h
        · rename_i d' hd'
          cases h
          obtain ⟨v, hv, rv⟩ := E1.fz j d hd'
          refine ⟨v, ?_, rv⟩
          unfold inn
          rw [List.getElem?_map, ho]
          simp [hv]
        · cases h
    · cases h
  refine ⟨fun i n σ' H' => n = ds.length - i ∧ i ≤ ds.length ∧ ∃ acc xs G', EOk X.K G1 H1 (innP m ρ) σ' G' H' ∧ H' D = some (.lst xs) ∧ G' D = none ∧ Reps X.K G' xs acc ∧ Iv i acc,
    ⟨ds.length, by simp, Nat.zero_le _, [], [], G1, start, upd_same, hGD, Reps.nil, i0⟩, ?_⟩
  rintro i n σ' H' ⟨rfl, hi, acc, xs, G', E', hx, hg', rx, iv⟩
  by_cases hlt : i < ds.length
  · obtain ⟨w1, w2⟩ := wk
    obtain ⟨go, yl⟩ := w1 i ds[i] G' H' (List.getElem?_eq_getElem hlt) E'.e.g E'.e.s
    refine .inr ⟨go, fun σ2 H2 => ∃ acc xs G', EOk X.K G1 H1 (innP m ρ) σ2 G' H2 ∧ H2 D = some (.lst xs) ∧ G' D = none ∧ Reps X.K G' xs acc ∧ Iv (i + 1) acc, fun σ2 H2 h2 => ⟨ds.length - (i + 1), by omega, rfl, hlt, h2⟩, fun v H2 hy => ?_⟩
    obtain ⟨G2, x2, rv⟩ := yl v H2 hy
    refine q2 _ _ _ (innP m ρ) σ' G1 H1 G2 H2 ds[i] v _ _ (E'.ext x2) rv (hk _ _ _ (turn i ds[i] acc (List.getElem?_eq_getElem hlt) iv)) fun ρ3 σ3 G3 H3 E3 x3 hq3 => ?_
    obtain ⟨hq3, hl3, hk3⟩ := hq3
    have weak : ∀ j, gt (innP m ρ) j = .un ∨ gt (innP m ρ) j = gt ρ3 j := fun j => by
      cases hm : m[j]? with
      | none => left; unfold innP; rw [gt_map, hm]
      | some o =>
        cases o with
        | none => left; unfold innP; rw [gt_map, hm]; rfl
        | some c => right; exact (hk3 j c hm).symm
    have x23 := x2.trans x3
    refine q3 _ _ _ ρ3 σ3 G1 H1 G3 H3 _ _ E3 hq3 fun b H4 G4 x4 hq4 => ?_
    have x24 := x23.trans x4
    have E4 := (E3.ext x4).weak (ρ' := innP m ρ) (hl3.symm) weak
    have hx4 : H4 D = some (.lst xs) := x24.h _ _ hx
    have hg4 : G4 D = none := x24.n D hg' (by rw [hx]; exact nofun)
    cases b with
    | false =>
      rw [if_neg Bool.false_ne_true] at hq4 ⊢
      exact ⟨acc, xs, G4, E4, hx4, hg4, rx.mono x24.g, hq4⟩
    | true =>
      rw [if_pos rfl] at hq4 ⊢
      refine q4 _ _ _ ρ3 σ3 G1 H1 G4 H4 _ _ (E3.ext x4) hq4 fun v5 H5 r5 G5 x5 rr5 hq5 => ?_
      obtain ⟨G6, x6, rv6, _⟩ := rr5.freeze x5
      have E6 := E4.ext x6
      have hx6 : H5 D = some (.lst xs) := x6.h _ _ hx4
      have hg6 : G6 D = none := x6.n D hg4 (by rw [hx4]; exact nofun)
      have r6 : Reps X.K G6 xs acc := (rx.mono x24.g).mono x6.g
      refine ⟨xs, hx6, by rw [r6.length]; exact hq5.1, acc ++ [r5.val], xs ++ [v5], G6, ?_, upd_same, hg6, r6.append (Reps.cons rv6 Reps.nil), hq5.2⟩
      refine ⟨⟨E6.e.g, fun b o e => by rw [upd_ne (ne_of_none e hD)]; exact E6.e.h b o e, fun b o e => by rw [upd_ne (ne_of_none e hg6)]; exact E6.e.s b o e, E6.e.n⟩, E6.len, E6.fz, fun i es h => (noow h).elim, fun i j es fs _ h => (noow h).elim, fun _ => none, fun i es _ h => (noow h).elim, fun i o h => (noov h).elim⟩
  · have e : i = ds.length := by omega
    subst e
    refine .inl ⟨wk.2 G' H' E'.e.g E'.e.s, k _ H' (.ow acc) G' (x1.trans E'.e) ⟨D, xs, rfl, x1.h.free hD, hg', hx, rx⟩ (fin acc iv)⟩
theorem pd_comp (hc : X.calm = true) (cs : CompScope X N' m scope) (hk : Keeps2 m g) (hi : PId X tg iter wi) (hg : ∀ s3 H3 ex, PGd (cxC X N' scope s3 H3 ex) tg g) (ht : ∀ s3 H3 ex, PTd (cxC X N' scope s3 H3 ex) ifs tc)
    (he : ∀ s3 H3 ex, PD (cxC X N' scope s3 H3 ex) elt te) (hs : ∀ x, foldedSetIterable iter X.env x = pure x := by intro _; rfl) : PD X (.ListComp elt [⟨tg, iter, ifs, 0⟩] scope pos) (dComp wi m g tc te) := by
  obtain ⟨ww, p1, q1⟩ := hi
  exact ⟨_, pe_comp (g := fun s3 H3 ex => (hg s3 H3 ex).choose) (tc := fun s3 H3 ex => (ht s3 H3 ex).choose) (te := fun s3 H3 ex => (he s3 H3 ex).choose) hc cs p1 (fun s3 H3 ex => (hg s3 H3 ex).choose_spec.1) (fun s3 H3 ex => (ht s3 H3 ex).choose_spec.1) (fun s3 H3 ex => (he s3 H3 ex).choose_spec.1) hs,
    comp_rd cs hk q1 (fun s3 H3 ex => (hg s3 H3 ex).choose_spec.2) (fun s3 H3 ex => (ht s3 H3 ex).choose_spec.2) (fun s3 H3 ex => (he s3 H3 ex).choose_spec.2)⟩
theorem px_setC (i : Nat) {x : Str} {pos' posS : Pos} (hc : X.calm = true) (cs : CompScope X N' m scope) (hk : Keeps2 m g) (hi : PId X tg iter wi) (hg : ∀ s3 H3 ex, PGd (cxC X N' scope s3 H3 ex) tg g) (ht : ∀ s3 H3 ex, PTd (cxC X N' scope s3 H3 ex) ifs tc)
    (he : ∀ s3 H3 ex, PD (cxC X N' scope s3 H3 ex) elt te) (hN : X.N.Nodup := by assumption) (hix : X.N[i]? = some x := by rfl) (hx : Loc X.env.scope x := by first | exact Or.inl rfl | exact Or.inr rfl) (hs : ∀ x, foldedSetIterable iter X.env x = pure x := by intro _; rfl)
    (hsw : swapsWith (.ListComp elt [⟨tg, iter, ifs, 0⟩] scope pos) (some (.Name x pos')) posS.line X.env = pure true := by rfl)
    (hf : X.fn x = true ∨ X.env.scope.names.lookup x = some .local := by first | exact .inl rfl | exact .inr rfl | assumption) :
    PX X (.Assign [.Name x pos'] (.ListComp elt [⟨tg, iter, ifs, 0⟩] scope pos) posS) (xSet i (dComp wi m g tc te)) := by
  obtain ⟨ww, p1, q1⟩ := hi
  refine ⟨_, ps_setC (g := fun s3 H3 ex => (hg s3 H3 ex).choose) (tc := fun s3 H3 ex => (ht s3 H3 ex).choose) (te := fun s3 H3 ex => (he s3 H3 ex).choose) hN hix hx hc cs p1 (fun s3 H3 ex => (hg s3 H3 ex).choose_spec.1) (fun s3 H3 ex => (ht s3 H3 ex).choose_spec.1) (fun s3 H3 ex => (he s3 H3 ex).choose_spec.1) hs hsw hf, fun ρ σ G0 H0 G H D E k h gg => ?_⟩
  exact comp_rd cs hk q1 (fun s3 H3 ex => (hg s3 H3 ex).choose_spec.2) (fun s3 H3 ex => (ht s3 H3 ex).choose_spec.2) (fun s3 H3 ex => (he s3 H3 ex).choose_spec.2) ρ σ G0 H0 G H _ _ k h fun v H' r G' x rr hq => gg.nx _ _ G' H' x.g (k.put x rr) hq
theorem px_setCF (i : Nat) {x : Str} {pos' posS : Pos} (hc : X.calm = true) (cs : CompScope X N' m scope) (hk : Keeps2 m g) (hi : PId X tg iter wi) (hg : ∀ s3 H3 ex, PGd (cxC X N' scope s3 H3 ex) tg g) (ht : ∀ s3 H3 ex, PTd (cxC X N' scope s3 H3 ex) ifs tc)
    (he : ∀ s3 H3 ex, PD (cxC X N' scope s3 H3 ex) elt te) (hN : X.N.Nodup := by assumption) (hix : X.N[i]? = some x := by rfl) (hx : Loc X.env.scope x := by first | exact Or.inl rfl | exact Or.inr rfl) (hs : ∀ x, foldedSetIterable iter X.env x = pure x := by intro _; rfl)
    (hsw : swapsWith (.ListComp elt [⟨tg, iter, ifs, 0⟩] scope pos) (some (.Name x pos')) posS.line X.env = pure true := by rfl)
    (hf : X.fn x = true ∨ X.env.scope.names.lookup x = some .local := by first | exact .inl rfl | exact .inr rfl | assumption) :
    PX X (.Assign [.Name x pos'] (.ListComp elt [⟨tg, iter, ifs, 0⟩] scope pos) posS) (xSetF i (dComp wi m g tc te)) := by
  obtain ⟨ww, p1, q1⟩ := hi
  refine ⟨_, ps_setC (g := fun s3 H3 ex => (hg s3 H3 ex).choose) (tc := fun s3 H3 ex => (ht s3 H3 ex).choose) (te := fun s3 H3 ex => (he s3 H3 ex).choose) hN hix hx hc cs p1 (fun s3 H3 ex => (hg s3 H3 ex).choose_spec.1) (fun s3 H3 ex => (ht s3 H3 ex).choose_spec.1) (fun s3 H3 ex => (he s3 H3 ex).choose_spec.1) hs hsw hf, fun ρ σ G0 H0 G H D E k h gg => ?_⟩
  refine comp_rd cs hk q1 (fun s3 H3 ex => (hg s3 H3 ex).choose_spec.2) (fun s3 H3 ex => (ht s3 H3 ex).choose_spec.2) (fun s3 H3 ex => (he s3 H3 ex).choose_spec.2) ρ σ G0 H0 G H _ _ k h fun v H' r G' x rr hq => ?_
  obtain ⟨G2, x2, rv, _⟩ := rr.freeze x
  exact gg.nx _ _ G2 H' x2.g (k.put x2 (r := .fz r.val) rv) hq
end
abbrev SpD := List D → (R → Prop) → Prop
def PSp (K : PySem.W.Frag) (n : Nat) (t : SpD) : Sp := fun vs H Q _ => ∃ G ds Qr, Same G H ∧ Reps K G vs ds ∧ ds.length = n ∧ t ds Qr ∧ ∀ v H' r G', Ext G H G' H' → RepR K G' H' H v r → Qr r → Q v H'
def startP (N : List Str) (ds : List D) : Ev := ds.map Sl.fz ++ List.replicate (N.length - ds.length) .un
theorem gt_append_fz {ds : List D} {l : List Sl} {i : Nat} {s : Sl} (h : gt (ds.map Sl.fz ++ l) i = s) : (∃ d, ds[i]? = some d ∧ s = .fz d) ∨ (ds.length ≤ i ∧ gt l (i - ds.length) = s) := by
  induction ds generalizing i with
  | nil => exact .inr ⟨Nat.zero_le _, by simpa using h⟩
  | cons d ds ih =>
    cases i with
    | zero => simp only [List.map_cons, List.cons_append, gt] at h; exact .inl ⟨d, rfl, h.symm⟩
    | succ i =>
      simp only [List.map_cons, List.cons_append, gt] at h
      rcases ih h with ⟨e, h1, h2⟩ | ⟨h1, h2⟩
      · exact .inl ⟨e, by simpa using h1, h2⟩
      · refine .inr ⟨by simp; omega, ?_⟩
        rw [List.length_cons]
        rw [show i + 1 - (ds.length + 1) = i - ds.length by omega]
        exact h2
theorem gt_rep_un {n i : Nat} : gt (List.replicate n Sl.un) i = .un := by
  induction n generalizing i with
  | zero => simp [gt]
  | succ n ih =>
    cases i with
    | zero => rfl
    | succ i => exact ih
theorem start_ok {K : PySem.W.Frag} {G H : Hp} {N : List Str} {vs : List V} {ds : List D} (s : Same G H) (r : Reps K G vs ds) : EOk K G H (startP N ds) (start N vs) G H := by
  have hl := r.length
  have c : ∀ {i : Nat} {t : Sl}, gt (startP N ds) i = t → t ≠ .un → ∃ d, ds[i]? = some d ∧ t = .fz d := fun {i t} h n => by
    rcases gt_append_fz h with h | ⟨_, h⟩
    · exact h
    · rw [gt_rep_un] at h; exact absurd h.symm n
  refine ⟨.refl s, by simp [start, startP, hl], fun i d h => ?_, fun i es h => ?_, fun i j es fs _ h => ?_, fun _ => none, fun i es _ h => ?_, fun i o h => ?_⟩
  · obtain ⟨d', h1, h2⟩ := c h (by simp)
    cases h2
    obtain ⟨v, hv, rv⟩ := r.get h1
    have hi : i < vs.length := (List.getElem?_eq_some_iff.mp hv).1
    refine ⟨v, ?_, rv⟩
    unfold start
    rw [List.getElem?_append_left (by simpa using hi), List.getElem?_map, hv]
    rfl
  · obtain ⟨d', h1, h2⟩ := c h (by simp)
    cases h2
  · obtain ⟨d', h1, h2⟩ := c h (by simp)
    cases h2
  · obtain ⟨d', h1, h2⟩ := c h (by simp)
    cases h2
  · obtain ⟨d', h1, h2⟩ := c h (by simp)
    cases h2
section
variable {P : Program} {w : World} {K : PySem.W.Frag} {mg : Str → Option Value} {base : Heap}
theorem fn_pure {x qual : Str} {st : Stmt} {f : Addr} {fd : FuncData} {N ps : List Str} {k : Nat} {t : SpD} {T : TX} (F : Fun K x qual st f fd) (S : FnScope N ps (defScope st))
    (body : ∀ (cdv : Value) (A : Around) (outer : List Env) (s : Shared) (H : Hp) (E : XK), Room k (A.deeper (envOfC qual (defScope st) s.heap.objs.size f cdv)) → PXs (cxOf CX0 P w K mg base N qual (defScope st) f cdv A outer s H E).nox (defBody st) T)
    (spec : ∀ (ds : List D) (Qr : R → Prop), ds.length = ps.length → t ds Qr → T { nx := fun _ => Qr (.fz .non), rt := Qr } (startP N ds)) : FnOk P w K mg base CX0 (k + 1) f fd ps (PSp K ps.length t) := by
  refine F.ok S (fun vs H Q E h => ?_) (fun cdv A outer s H vs Q E hr h => ?_)
  · obtain ⟨G, ds, Qr, _, r, hl, _⟩ := h
    rw [r.length, hl]
  · obtain ⟨G, ds, Qr, s0, r, hl, ht, k0⟩ := h
    obtain ⟨tt, p, q⟩ := body cdv A outer s H E hr
    exact ⟨tt, p, q _ _ G H G H _ _ (start_ok s0 r) (spec ds Qr hl ht) ⟨fun ρ σ G' H' _ e h => k0 _ H' _ G' e.e (fzR (rep_non _ _)) h, k0, fun _ _ _ _ _ _ h => h.elim, fun _ _ _ _ _ _ h => h.elim⟩⟩
end
section
variable {X : Cx} {k n : Nat} {f : Addr} {fd : FuncData} {ps : List Str} {t : SpD} {x : Str} {p pos : Pos} {e : Expr} {es : List Expr} {ts : TDa}
def dCall (n : Nat) (t : SpD) (ts : TDa) : TD := fun ρ Q => ts ρ fun ds => ds.length = n ∧ t ds Q
theorem pd_call (F : FnOk X.prog X.w X.K X.mg X.base CX0 k f fd ps (PSp X.K n t)) (hr : Room k X.A) (hm : X.mg x = some (.ref f)) (hk : PySem.W.keepIn X.K (.ref f) = true) (hb : Binds X.K fd ps []) (ha : PDa X (e :: es) ts) (hg : Gl X x := by rfl) (hdb : (x == ("__debug__" : Str)) = false := by decide)
    (he : starEach (e :: es) X.env = (false, eval e X.env) :: starEach es X.env := by rfl) (hpl : (backTo pos (starEach es X.env)).any (·.1) = false := by rfl) : PD X (.Call (.Name x p) (e :: es) [] pos) (dCall n t ts) := by
  obtain ⟨tt, pp, q⟩ := ha
  refine ⟨_, pe_call F hr hg hm hk hb .nil pass0 pp hdb he hpl, fun ρ σ G0 H0 G H Q P E h k => q ρ σ G0 H0 G H _ _ E h fun vs H' ds G' x rs hq => ?_⟩
  rw [List.append_nil]
  exact ⟨G', ds, Q, x.s, rs, hq.1, hq.2, fun v H2 r G2 x2 rr q2 => k v H2 r G2 (x.trans x2) (rr.older x.h) q2⟩
end
end L2
set_option Elab.async false
set_option linter.all false
set_option maxRecDepth 100000
set_option maxHeartbeats 1000000
namespace L2
open PySem PySem.Spec PyProof.Rows PySem.StrLaws
def cutL {α : Type} (xs : List α) (lo hi : Option Int) : List α := (xs.drop (HT.sIx xs.length 0 lo)).take (HT.sIx xs.length xs.length hi - HT.sIx xs.length 0 lo)
def cutS (z : Str) (lo hi : Option Int) : Str := ⟨(cutL z.cps.toList lo hi).toArray⟩
theorem clipS (v : Int) (n d : Nat) : max 0 (min (if v < 0 then v + (n : Int) else v) (n : Int)) = ((HT.sIx n d (some v) : Nat) : Int) := by
  rw [← HT.clip_eq]
  by_cases h : v < 0
  · rw [if_pos h, if_pos h]; omega
  · rw [if_neg h, if_neg h]; omega
theorem strIdx_cut (z : Str) (lo hi : Option Int) : (Builtin.Str.strSliceIndices lo hi 1 z.length).filterMap (z.cps[·]?) = cutL z.cps.toList lo hi := by
  have hl : z.cps.toList.length = z.length := by simp [Str.length]
  have e : Builtin.Str.strSliceIndices lo hi 1 z.length = sliceRange ((HT.sIx z.length 0 lo : Nat) : Int) ((HT.sIx z.length z.length hi : Nat) : Int) 1 := by
    unfold Builtin.Str.strSliceIndices
    cases lo with
    | none =>
      cases hi with
      | none => rfl
      | some v => simp only [show ((1 : Int) > 0) from by decide, if_true, clipS v z.length z.length]; rfl
    | some u =>
      cases hi with
      | none => simp only [show ((1 : Int) > 0) from by decide, if_true, clipS u z.length 0]; rfl
      | some v => simp only [show ((1 : Int) > 0) from by decide, if_true, clipS v z.length z.length, clipS u z.length 0]
  rw [e]
  unfold cutL
  rw [hl]
  generalize ha : HT.sIx z.length 0 lo = a
  generalize hb : HT.sIx z.length z.length hi = b
  have hbl : b ≤ z.length := by rw [← hb]; exact HT.sIx_le _ _ (Nat.le_refl _) _
  have hal : a ≤ z.length := by rw [← ha]; exact HT.sIx_le _ _ (Nat.zero_le _) _
  by_cases hab : a ≤ b
  · have := sliced_plain z hab hbl
    rw [strSliceIndices_plain hab hbl] at this
    rw [← this]
    unfold sliceRange
    simp only [show ((1 : Int) > 0) from by decide, if_true]
    congr 1
    by_cases h : a < b
    · rw [if_pos (by omega)]
      rw [show (((b : Int) - (a : Int) + 1 - 1) / 1).toNat = b - a by omega]
      apply List.map_congr_left
      intro k _
      show ((a : Int) + 1 * (k : Int)).toNat = a + k
      omega
    · rw [if_neg (by omega), show b - a = 0 by omega]
      rfl
  · rw [show b - a = 0 by omega, List.take_zero]
    unfold sliceRange
    simp only [show ((1 : Int) > 0) from by decide, if_true]
    rw [if_neg (by omega)]
    rfl
theorem slice_cut (z : Str) (lo hi : Option Int) : Txt.slice z lo hi = cutS z lo hi := by
  unfold Txt.slice cutS
  split
  · rename_i h
    have h' : (Builtin.Str.strSliceIndices lo hi 1 z.length).length = z.length := by simpa using h
    have hl : z.cps.toList.length = z.length := by simp [Str.length]
    have e := strIdx_cut z lo hi
    have h2 : (cutL z.cps.toList lo hi).length = z.length := by
      unfold cutL
      rw [List.length_take, List.length_drop, hl]
      have e1 : Builtin.Str.strSliceIndices lo hi 1 z.length = sliceRange ((HT.sIx z.length 0 lo : Nat) : Int) ((HT.sIx z.length z.length hi : Nat) : Int) 1 := by
        unfold Builtin.Str.strSliceIndices
        cases lo with
        | none =>
          cases hi with
          | none => rfl
          | some v => simp only [show ((1 : Int) > 0) from by decide, if_true, clipS v z.length z.length]; rfl
        | some u =>
          cases hi with
          | none => simp only [show ((1 : Int) > 0) from by decide, if_true, clipS u z.length 0]; rfl
          | some v => simp only [show ((1 : Int) > 0) from by decide, if_true, clipS v z.length z.length, clipS u z.length 0]
      rw [e1] at h'
      unfold sliceRange at h'
      simp only [show ((1 : Int) > 0) from by decide, if_true, List.length_map, List.length_range] at h'
      have b1 := HT.sIx_le z.length z.length (Nat.le_refl _) hi
      have b2 := HT.sIx_le z.length 0 (Nat.zero_le _) lo
      by_cases h3 : ((HT.sIx z.length 0 lo : Nat) : Int) < ((HT.sIx z.length z.length hi : Nat) : Int)
      · rw [if_pos h3] at h'; omega
      · rw [if_neg h3] at h'; simp at h'; omega
    apply Str.ext'
    show z.cps = (cutL z.cps.toList lo hi).toArray
    have h3 : cutL z.cps.toList lo hi = z.cps.toList := by
      unfold cutL at h2 ⊢
      rw [List.length_take, List.length_drop, hl] at h2
      rw [hl]
      have b1 := HT.sIx_le z.length z.length (Nat.le_refl _) hi
      have a0 : HT.sIx z.length 0 lo = 0 ∨ z.length = 0 := by omega
      rcases a0 with a0 | a0
      · rw [a0, List.drop_zero, Nat.sub_zero]
        exact List.take_of_length_le (by omega)
      · have : z.cps.toList = [] := List.eq_nil_of_length_eq_zero (by omega)
        rw [this]; simp
    rw [h3]
  · rw [strIdx_cut]
section
variable {X : Cx} {pos : Pos} {e : Expr} {te : TD}
theorem sl_str : SlR X (fun x lo hi H Q => ∃ z, x = .str z ∧ z.length ≤ sizeLine ∧ Q (.str (cutS z lo hi)) H) := by
  intro pins s σ H x v vl vu lo hi sl Q I rx hs pl pu h
  obtain ⟨z, rfl, hz, q⟩ := h
  obtain ⟨t, rfl⟩ := rx
  refine ⟨"str", _, F.slot_str_getitem.lookup, typeIs_str _ _ _, ?_⟩
  have part : ∀ {u : Value} {o : Option Int}, IsPart u o → ∃ p : Option (Int × Tok), u = partValue p ∧ p.map (·.1) = o := fun h => by
    cases h with
    | none => exact ⟨none, rfl, rfl⟩
    | int i t => exact ⟨some (i, t), rfl, rfl⟩
  obtain ⟨p1, rfl, e1⟩ := part pl
  obtain ⟨p2, rfl, e2⟩ := part pu
  obtain ⟨o, ho, hc, hd⟩ := hs
  refine wpAny_getItem_str_slice (l := p1) (u := p2) (st := none) ⟨o, ho, hc, hd⟩ rfl ?_
  have fin : ∀ t' k, EP X pins σ Q (.str (Txt.slice z lo hi) t') { s with toks := k } := fun t' k => ⟨.str (cutS z lo hi), H, I.tok k, ⟨t', by rw [slice_cut]⟩, q⟩
  have hle := Nat.le_trans (Txt.slice_le z lo hi) hz
  subst e1 e2
  exact post_val_or_str ⟨hle, fin⟩
abbrev TOd := Ev → (Option Int → Prop) → Prop
def POd (X : Cx) (e : Option Expr) (t : TOd) : Prop := ∃ tt, PO X e tt ∧ ∀ (ρ : Ev) (σ : St) (G0 H0 G H : Hp) (Q : Option Int → Prop) (P : Option Int → Hp → Prop), EOk X.K G0 H0 ρ σ G H → t ρ Q → (∀ o H' G', Ext G H G' H' → Q o → P o H') → tt σ H P
def oNo : TOd := fun _ Q => Q none
def oSome (te : TD) : TOd := fun ρ Q => te ρ fun r => match r.val with
  | .int i => Q (some i)
  | _ => False
theorem pod_none : POd X none oNo := ⟨_, po_none, fun ρ σ G0 H0 G H Q P E h k => k none H G (.refl E.e.s) h⟩
theorem pod_some (h : PD X e te) : POd X (some e) (oSome te) := by
  obtain ⟨t, p, q⟩ := h
  refine ⟨_, po_some p, fun ρ σ G0 H0 G H Q P E h k => q ρ σ G0 H0 G H _ _ E h fun v H' r G' x rr hq => ?_⟩
  obtain ⟨G2, x2, rv, _⟩ := rr.freeze x
  split at hq
  · rename_i i e1
    rw [e1] at rv
    simp only [Rep] at rv
    exact ⟨i, rv, k _ H' G2 x2 hq⟩
  · exact hq.elim
def dSl (te : TD) (tl th : TOd) : TD := fun ρ Q => te ρ fun r => tl ρ fun lo => th ρ fun hi => match r.val with
  | .lst ds => Q (.ow (cutL ds lo hi))
  | .str z => z.length ≤ sizeLine ∧ Q (.fz (.str (cutS z lo hi)))
  | .tup ds => ¬ (HT.sIx ds.length 0 lo = 0 ∧ HT.sIx ds.length ds.length hi = ds.length) ∧ Q (.fz (.tup (cutL ds lo hi)))
  | _ => False
theorem cut_rep {K : PySem.W.Frag} {G : Hp} {xs : List V} {ds : List D} (r : Reps K G xs ds) (lo hi : Option Int) : Reps K G (cutV xs lo hi) (cutL ds lo hi) := by
  unfold cutV cutL
  rw [r.length]
  exact (r.drop _).take _
theorem pd_slice {lo hi : Option Expr} {tl th : TOd} {p2 : Pos} (he : PD X e te) (hl : POd X lo tl) (hh : POd X hi th) : PD X (.Subscript e (.Slice lo hi none p2) pos) (dSl te tl th) := by
  obtain ⟨t1, p1, q1⟩ := he
  obtain ⟨t2, p2, q2⟩ := hl
  obtain ⟨t3, p3, q3⟩ := hh
  refine ⟨_, pe_slice (sl_list.or (sl_str.or sl_tup)) p1 p2 p3, fun ρ σ G0 H0 G H Q P E h k => q1 ρ σ G0 H0 G H _ _ E h fun v H' r G' x rr hq => ?_⟩
  obtain ⟨G1, x1, rv, _⟩ := rr.freeze x
  refine q2 ρ σ G0 H0 G1 H' _ _ (E.ext x1) hq fun lo H2 G2 x2 hq2 => ?_
  refine q3 ρ σ G0 H0 G2 H2 _ _ ((E.ext x1).ext x2) hq2 fun hi H3 G3 x3 hq3 => ?_
  have x13 := (x1.trans x2).trans x3
  have rv3 := (rv.mono x2.g).mono x3.g
  split at hq3
  · rename_i ds e1
    rw [e1] at rv3
    simp only [Rep] at rv3
    obtain ⟨a, xs, rfl, h1, h2⟩ := rv3
    refine .inl ⟨a, xs, rfl, (x13.s.rdl h1).sq, fun p hp => ?_⟩
    exact k _ _ (.ow _) G3 (x13.trans (.own x13.s hp)) ⟨p, _, rfl, x13.h.free hp, x13.s.free hp, upd_same, cut_rep h2 lo hi⟩ hq3
  · rename_i z e1
    rw [e1] at rv3
    simp only [Rep] at rv3
    exact .inr (.inl ⟨z, rv3, hq3.1, k _ _ _ G3 x13 (fzR (rep_str _ _ _)) hq3.2⟩)
  · rename_i ds e1
    rw [e1] at rv3
    simp only [Rep] at rv3
    obtain ⟨a, xs, rfl, h1, h2⟩ := rv3
    refine .inr (.inr ⟨a, xs, rfl, x13.s.seqT h1, by rw [h2.length]; exact hq3.1, fun p hp => ?_⟩)
    have x4 : Ext G3 H3 (upd G3 p (.tup (cutV xs lo hi))) (upd H3 p (.tup (cutV xs lo hi))) := .new x13.s hp
    refine k _ _ (.fz _) _ (x13.trans x4) ?_ hq3.2
    show Rep X.K _ _ (.tup _)
    simp only [Rep]
    exact ⟨p, _, rfl, SqT.of upd_same, (cut_rep h2 lo hi).mono x4.g⟩
  · exact hq3.elim
def oLen : SpD := fun ds Q => match ds with
  | [.lst es] => Q (.fz (.int es.length))
  | [.tup es] => Q (.fz (.int es.length))
  | [.str z] => z.length ≤ sizeLine ∧ Q (.fz (.int z.length))
  | _ => False
theorem c_len : CallP X (.builtin "len") oLen := by
  refine ⟨_, call_len_seq.or call_len_str, fun G H vs ds Q P s rs h k => ?_⟩
  unfold oLen at h
  split at h
  · obtain ⟨v, rfl, rv⟩ := reps1 rs
    simp only [Rep] at rv
    obtain ⟨a, xs, rfl, h1, h2⟩ := rv
    refine .inl ⟨a, xs, rfl, .inl ((s.rdl h1).sq), ?_⟩
    rw [h2.length]
    exact k _ _ _ G (.refl s) (fzR (rep_int _ _ _)) h
  · obtain ⟨v, rfl, rv⟩ := reps1 rs
    simp only [Rep] at rv
    obtain ⟨a, xs, rfl, h1, h2⟩ := rv
    refine .inl ⟨a, xs, rfl, .inr (s.seqT h1), ?_⟩
    rw [h2.length]
    exact k _ _ _ G (.refl s) (fzR (rep_int _ _ _)) h
  · obtain ⟨v, rfl, rv⟩ := reps1 rs
    simp only [Rep] at rv
    subst rv
    exact .inr ⟨_, rfl, h.1, k _ _ _ G (.refl s) (fzR (rep_int _ _ _)) h.2⟩
  · exact h.elim
def dLenO (i : Nat) : TD := fun ρ Q => match gt ρ i with
  | .ow ds => Q (.fz (.int ds.length))
  | _ => False
theorem pd_lenO (i : Nat) {x : Str} {p p' : Pos} (hm : X.mg "len" = none) (hN : X.N[i]? = some x := by rfl) (hv : Vis X.env.scope x := by first | exact Or.inl rfl | exact Or.inr (Or.inl rfl) | exact Or.inr (Or.inr rfl)) (hg : Gl X "len" := by rfl) (hd : (x == ("__debug__" : Str)) = false := by decide)
    (hcd : (x == ("__classdict__" : Str)) = false := by decide) (hst : starEach [Expr.Name x p'] X.env = (false, eval (.Name x p') X.env) :: starEach [] X.env := by rfl) : PD X (.Call (.Name "len" p) [.Name x p'] [] pos) (dLenO i) := by
  refine ⟨_, pe_callB call_len_seq hg hm boot_len (pa_cons (pe_var hN hv hd hcd) pa_nil hst), fun ρ σ G0 H0 G H Q P E h k => ?_⟩
  unfold dLenO at h
  split at h
  · rename_i ds hg
    obtain ⟨a, xs, h1, h2, h3, h4, h5⟩ := E.ow i ds hg
    refine ⟨_, h1, a, xs, rfl, .inl (SqL.of h2), ?_⟩
    rw [h5.length]
    exact k _ _ _ G (.refl E.e.s) (fzR (rep_int _ _ _)) h
  · exact h.elim
end
end L2
set_option Elab.async false
set_option linter.all false
set_option maxRecDepth 100000
set_option maxHeartbeats 1000000
namespace L2
open PySem PySem.Spec PyProof.Rows
section
variable {X : Cx} {pos : Pos} {e : Expr} {te : TD}
def tyD : D → String
  | .non => "NoneType"
  | .bl _ => "bool"
  | .int _ => "int"
  | .str _ => "str"
  | .tup _ => "tuple"
  | .lst _ => "list"
  | .obj _ _ => "object"
  | .dic _ => "dict"
  | .dit _ => "dict"
def isTy (t T : String) : Bool := (t == T) || (t == "bool" && T == "int")
theorem kit_ty {K : PySem.W.Frag} {t T : String} (ht : t ∈ ["NoneType", "bool", "int", "str", "tuple", "list"]) (hT : T ∈ ["bool", "int", "str", "tuple", "list"]) : PySem.W.kitOne K (.type t) (.type T) = some (isTy t T) := by
  simp only [List.mem_cons, List.not_mem_nil, or_false] at ht hT
  rcases ht with rfl | rfl | rfl | rfl | rfl | rfl <;> rcases hT with rfl | rfl | rfl | rfl | rfl <;> (first | rfl | decide | (unfold PySem.W.kitOne PySem.W.kitCls; decide +kernel))
def noObj : D → Bool
  | .obj _ _ => false
  | .dic _ => false
  | .dit _ => false
  | _ => true
theorem call_isi {T : String} (hT : T ∈ ["bool", "int", "str", "tuple", "list"]) : CallR X (.builtin "isinstance") (fun xs H Q => ∃ x d, xs = [x, .ty T] ∧ Rep X.K H x d ∧ noObj d = true ∧ Q (.bl (isTy (tyD d) T)) H) := by
  intro pins s σ H xs us Q I r h
  obtain ⟨x, d, rfl, rd, ho, q⟩ := h
  obtain ⟨u, c, rfl, ru, rc⟩ := vals2 r
  cases (show c = Value.type T from rc)
  have fin : ∀ tk, EP X pins σ Q (.bool (isTy (tyD d) T)) { s with toks := tk } := fun tk => ⟨.bl _, H, I.tok tk, rfl, q⟩
  cases d with
  | non => simp only [Rep] at rd; subst rd; cases (show u = Value.none from ru); exact PySem.W.kia_one PySem.W.kitx_none I.kIn True.intro (kit_ty (by simp) hT) (fun z => nomatch z) fin
  | bl y => simp only [Rep] at rd; subst rd; cases (show u = Value.bool y from ru); exact PySem.W.kia_one PySem.W.kitx_bool I.kIn True.intro (kit_ty (by simp) hT) (fun z => nomatch z) fin
  | int i => simp only [Rep] at rd; subst rd; obtain ⟨t, q'⟩ := (show ∃ t, u = Value.int i t from ru); cases q'; exact PySem.W.kia_one PySem.W.kitx_int I.kIn True.intro (kit_ty (by simp) hT) (fun z => nomatch z) fin
  | str y => simp only [Rep] at rd; subst rd; obtain ⟨t, q'⟩ := (show ∃ t, u = Value.str y t from ru); cases q'; exact PySem.W.kia_one PySem.W.kitx_str I.kIn True.intro (kit_ty (by simp) hT) (fun z => nomatch z) fin
  | tup ds =>
    simp only [Rep] at rd
    obtain ⟨a, xs, rfl, hq, _⟩ := rd
    cases (show u = Value.ref a from ru)
    obtain ⟨its, _, ht, _⟩ := I.tuple hq
    obtain ⟨o, h1, h2, _⟩ := ht
    exact PySem.W.kia_one PySem.W.kitx_tuple I.kIn ⟨o, h1, h2⟩ (kit_ty (by simp) hT) (fun z => nomatch z) fin
  | lst ds =>
    simp only [Rep] at rd
    obtain ⟨a, xs, rfl, hq, _⟩ := rd
    cases (show u = Value.ref a from ru)
    obtain ⟨its, _, ht, _⟩ := I.list hq.sq
    obtain ⟨o, n, h1, h2, _⟩ := ht
    exact PySem.W.kia_one PySem.W.kitx_list I.kIn ⟨o, h1, h2⟩ (kit_ty (by simp) hT) (fun z => nomatch z) fin
  | obj => cases ho
  | dic => cases ho
  | dit => cases ho
def dIsi (T : String) (te : TD) : TD := fun ρ Q => te ρ fun r => noObj r.val = true ∧ Q (.fz (.bl (isTy (tyD r.val) T)))
theorem pd_isi {T : String} {TN : Str} {p p' : Pos} (he : PD X e te) (hm : X.mg "isinstance" = none) (hm2 : X.mg TN = none) (hv : bootBuiltins TN = some (.type T)) (hT : T ∈ ["bool", "int", "str", "tuple", "list"] := by decide) (hg : Gl X "isinstance" := by rfl) (hg2 : Gl X TN := by rfl) (hn : TN ≠ "__name__" := by decide)
    (hd : (TN == ("__debug__" : Str)) = false := by decide) (hst : starEach [e, Expr.Name TN p'] X.env = (false, eval e X.env) :: starEach [Expr.Name TN p'] X.env := by rfl) (hst2 : starEach [Expr.Name TN p'] X.env = (false, eval (.Name TN p') X.env) :: starEach [] X.env := by rfl)
    (hpl : (backTo pos (starEach [Expr.Name TN p'] X.env)).any (·.1) = false := by rfl) : PD X (.Call (.Name "isinstance" p) [e, .Name TN p'] [] pos) (dIsi T te) := by
  obtain ⟨t, pp, q⟩ := he
  refine ⟨_, pe_callB (call_isi hT) hg hm boot_isinstance (pa_cons pp (pa_cons (pe_bltn (v := .ty T) hg2 hm2 hv rfl hn hd) pa_nil hst2) hst) (by decide) (by decide) hst hpl, fun ρ σ G0 H0 G H Q P E h k => q ρ σ G0 H0 G H _ _ E h fun v H' r G' x rr hq => ?_⟩
  obtain ⟨G2, x2, rv, _⟩ := rr.freeze x
  exact ⟨v, r.val, rfl, rv.mono x2.s, hq.1, k _ _ _ G2 x2 (fzR (rep_bl _ _ _)) hq.2⟩
end
end L2
set_option Elab.async false
set_option linter.all false
set_option maxRecDepth 100000
set_option maxHeartbeats 1000000
namespace L2
open PySem PySem.Spec PyProof.Rows
section
variable {P : Program} {w : World} {K : PySem.W.Frag} {mg : Str → Option Value} {base : Heap}
structure Known (P : Program) (w : World) (K : PySem.W.Frag) (mg : Str → Option Value) (base : Heap) (k : Nat) (x : Str) (n : Nat) (t : SpD) : Prop where
  ex : ∃ (f : Addr) (fd : FuncData) (ps : List Str), FnOk P w K mg base CX0 k f fd ps (PSp K n t) ∧ mg x = some (.ref f) ∧ PySem.W.keepIn K (.ref f) = true ∧ Binds K fd ps []
structure At (K : PySem.W.Frag) (mg : Str → Option Value) (x : Str) (st : Stmt) : Prop where
  ex : ∃ (f : Addr) (fd : FuncData), Fun K x x st f fd ∧ mg x = some (.ref f)
theorem at_mk {h : Heap} {x : Str} {st : Stmt} {f : Addr} {oc : Value} {od an : Option Addr} {osl : Array (Option Value)} {kV doc pm cdv ct : Value} (X : K.In h) (G : h.Ns mainGlobals mg) (a : PySem.W.nsIn K mainGlobals x = some (some (.ref f)))
    (l : K.lookup f = some ⟨oc, od, .func (PySem.W.fnOf x x (defArgs st) (defBody st) (defScope st) .none kV doc pm an cdv ct), osl⟩) (c : PySem.W.codeIn K cdv x = true) (k : PySem.W.keepIn K (.ref f) = true) : At K mg x st :=
  ⟨f, _, fun_mk l c k, PySem.W.mg_of X G a⟩
theorem FnOk.spec {k : Nat} {f : Addr} {fd : FuncData} {ps : List Str} {n : Nat} {t t' : SpD} (F : FnOk P w K mg base CX0 k f fd ps (PSp K n t)) (h : ∀ ds Q, ds.length = n → t' ds Q → t ds Q) : FnOk P w K mg base CX0 k f fd ps (PSp K n t') :=
  F.imp fun vs H Q E ⟨G, ds, Qr, s, r, l, q, k⟩ => ⟨G, ds, Qr, s, r, l, h ds Qr l q, k⟩
end
section
variable {X : Cx} {k k' n : Nat} {t : SpD} {x : Str} {p pos : Pos} {e : Expr} {es : List Expr} {ts : TDa}
theorem pd_callK (C : Known X.prog X.w X.K X.mg X.base k x n t) (hr : Room k' X.A) (ha : PDa X (e :: es) ts) (hk : k ≤ k' := by decide) (hg : Gl X x := by rfl) (hdb : (x == ("__debug__" : Str)) = false := by decide)
    (he : starEach (e :: es) X.env = (false, eval e X.env) :: starEach es X.env := by rfl) (hpl : (backTo pos (starEach es X.env)).any (·.1) = false := by rfl) : PD X (.Call (.Name x p) (e :: es) [] pos) (dCall n t ts) := by
  obtain ⟨f, fd, ps, F, hm, kp, hb⟩ := C.ex
  exact pd_call F (hr.mono hk) hm kp hb ha hg hdb he hpl
end
def compChk (kindOf : Str → Option NameKind) (N N' : List Str) (m : List (Option Nat)) (scope : Scope) : Bool :=
  (scope.kind == .function) && (m.length == N'.length) && (scope.names.all fun y => y.2 != .cell) && (scope.names.all fun y => y.2 != .local || scope.names.lookup y.1 == some .local) &&
  (scope.names.all fun y => y.2 != .free || kindOf y.1 == some .cell || kindOf y.1 == some .free) &&
  ((m.zip N').all fun p => match p.1 with
    | none => true
    | some j => N[j]? == some p.2 && scope.names.lookup p.2 == some .free)
theorem CompScope.of {X : Cx} {N' : List Str} {m : List (Option Nat)} {scope : Scope} (h : compChk X.env.kindOf X.N N' m scope = true) : CompScope X N' m scope := by
  unfold compChk at h
  simp only [Bool.and_eq_true, beq_iff_eq, List.all_eq_true, Bool.or_eq_true, bne_iff_ne, ne_eq] at h
  obtain ⟨⟨⟨⟨⟨h1, h2⟩, h3⟩, h4⟩, h5⟩, h6⟩ := h
  refine ⟨h1, h2, fun y hy => h3 y hy, fun y hy e => (h4 y hy).resolve_left fun z => z e, fun y hy e => ?_, fun i j x hm hN => ?_⟩
  · rcases h5 y hy with (z | z) | z
    · exact absurd e z
    · exact .inl z
    · exact .inr z
  · have hz : (some j, x) ∈ m.zip N' := by
      apply List.mem_of_getElem? (i := i)
      rw [List.getElem?_zip_eq_some]
      exact ⟨hm, hN⟩
    have := h6 _ hz
    simpa using this
theorem script_val {K : PySem.W.Frag} {G : Hp} {a : Addr} {ns : List Int} (h : RdL K G a (ns.map V.int)) : Rep K G (.ref a) (.lst (ns.map D.int)) := by
  simp only [Rep]
  refine ⟨a, _, rfl, h, ?_⟩
  clear h
  induction ns with
  | nil => exact Reps.nil
  | cons n r ih => exact Reps.cons (rep_int _ _ _) ih
def LawSp (n : Nat) : SpD := fun ds Q => ∃ ns : List Int, ds = [.lst (ns.map .int)] ∧ ns.length ≤ n ∧ Q (.fz (.bl true))
theorem walk_pure {l : PySem.W.OpenLaw} {n k : Nat} {q : Program} {loose : List Str} {XP : (Str → Option Value) → Heap → Prop} {YP : World → Heap → Prop} {d : DefRec} {K : Params → PySem.W.Frag} {x : Str}
    (hn : l.most = some n) (hn2 : n ≤ sizeLine) (hdf : d.params.defaults = []) (hr : Room k callerA) (hY : ∀ (w : World) (h : Heap), YP w h → (K w.params).In h)
    (F : ∀ (w : World) (mg : Str → Option Value) (fa : Addr) (h : Heap), (K w.params).In h → h.Ns mainGlobals mg → mg d.name = some (.ref fa) →
      ∃ fd : FuncData, (∀ (s : Shared) (u : Value), BindsTo s fd ⟨[u], []⟩ [(x, u)]) ∧ ∀ base : Heap, FnOk l.prog w (K w.params) mg base CX0 k fa fd [x] (PSp (K w.params) 1 (LawSp n))) :
    PySem.W.WalkO q loose XP YP l.row.toRowW d [] (fun f vs => PySem.call f vs) := by
  refine Att.attach_call hn hdf fun w s₀ s₁ mg mb fa o pm cd doc a vs ns G Y ho hd hcd hmg hobj hints hlen hg => ?_
  have KX := hY w _ Y
  obtain ⟨fd, hb, hF⟩ := F w mg fa _ KX G.T.g hmg
  refine law_call KX G.T.g G.T.b G.T.builtins G.T.nolimit hg hobj hints (Nat.le_trans hlen hn2) hr (fun base _ _ => hF base) hb (fun H hO hS => ?_) fun H e s' z => z
  have hL : RdL (K w.params) H a (ns.map V.int) := by
    rcases hS with hS | ⟨o, its, m, h1, h2, h3, h4, h5, h6⟩
    · exact .inl hS
    · have e := KX a o h1
      rw [hobj] at e
      cases e
      have h4' : Data.seq vs.toArray _ = Data.seq its m := h4
      injection h4' with e1 e2
      subst e1
      exact .inr ⟨_, _, h1, h5, h6⟩
  refine ⟨H, [.lst (ns.map .int)], fun r => r = .fz (.bl true), Same.refl _, Reps.cons (script_val hL) Reps.nil, rfl, ⟨ns, rfl, hlen, rfl⟩, fun v H' r G' _ rr e => ?_⟩
  subst e
  simpa only [RepR, Rep] using rr
theorem law_mk {P : Program} {w : World} {K : PySem.W.Frag} {mg : Str → Option Value} {st : Stmt} {N : List Str} {x : Str} {k : Nat} {t : SpD} {T : Heap → TX} {fa : Addr} (DA : At K mg "law" st) (hmg : mg "law" = some (.ref fa)) (S : FnScope N [x] (defScope st))
    (hb : ∀ (kV doc pm : Value) (an : Option Addr) (cdv ct : Value) (us : List Value), us.length = 1 → bindArgs (PySem.W.fnOf "law" "law" (defArgs st) (defBody st) (defScope st) .none kV doc pm an cdv ct) ⟨us, []⟩ = pure ([x].zip us))
    (body : ∀ (base : Heap) (f : Addr) (cdv : Value) (A : Around) (outer : List Env) (s : Shared) (H : Hp) (E : XK), Room k (A.deeper (envOfC "law" (defScope st) s.heap.objs.size f cdv)) → PXs (cxOf CX0 P w K mg base N "law" (defScope st) f cdv A outer s H E).nox (defBody st) (T base))
    (spec : ∀ (base : Heap) (ds : List D) (Qr : R → Prop), ds.length = 1 → t ds Qr → T base { nx := fun _ => Qr (.fz .non), rt := Qr } (startP N ds)) :
    ∃ fd : FuncData, (∀ (s : Shared) (u : Value), BindsTo s fd ⟨[u], []⟩ [(x, u)]) ∧ ∀ base : Heap, FnOk P w K mg base CX0 (k + 1) fa fd [x] (PSp K 1 t) := by
  obtain ⟨f, fd, F, hm⟩ := DA.ex
  rw [hmg] at hm
  cases hm
  refine ⟨fd, fun s u => ?_, fun base => fn_pure F S (body base fa) (spec base)⟩
  obtain ⟨oc, od, kV, doc, pm, an, cdv, ct, osl, rfl, lk, hcd⟩ := F.ex
  exact .of_eq (hb kV doc pm an cdv ct [u] rfl)
end L2
set_option Elab.async false
set_option linter.all false
set_option maxRecDepth 100000
set_option maxHeartbeats 1000000
namespace L2
open PySem PySem.Spec PyProof.Rows
def xFrz (i : Nat) (t : TX) : TX := fun D ρ => t D (frz i ρ)
theorem val_fz (d : D) : (R.fz d).val = d := rfl
theorem val_ow (ds : List D) : (R.ow ds).val = .lst ds := rfl
theorem sl_fz (d : D) : (R.fz d).sl = .fz d := rfl
theorem sl_ow (ds : List D) : (R.ow ds).sl = .ow ds := rfl
theorem comp_fm {α : Type} {wi : TId} {m : List (Option Nat)} {g : TGd} {tc : TDb} {te : TD} {ρ : Ev} {Q : R → Prop} (L : List α) (φ : α → D) (f : α → Option D) (hw : ∀ Q' : List D → Prop, Q' (L.map φ) → wi ρ Q') (hl : L.length ≤ sizeLine)
    (h : ∀ x ∈ L, ∀ (K1 : D → Prop) (K0 : Prop), (∀ e, f x = some e → K1 e) → (f x = none → K0) → g (φ x) (innP m ρ) fun ρ2 => tc ρ2 fun b => if b = true then te ρ2 fun r => K1 r.val else K0)
    (q : Q (.ow (L.filterMap f))) : dComp wi m g tc te ρ Q := by
  refine hw _ ⟨fun i acc => acc = (L.take i).filterMap f, rfl, fun i d acc hd ha => ?_, fun acc ha => ?_⟩
  · rw [List.getElem?_map] at hd
    cases hx : L[i]? with
    | none => rw [hx] at hd; cases hd
    | some x =>
      rw [hx] at hd
      cases hd
      have hi : i < L.length := (List.getElem?_eq_some_iff.mp hx).1
      have e : L.take (i + 1) = L.take i ++ [x] := by rw [List.take_add_one, hx]; rfl
      have hlen : acc.length < sizeLine := by
        rw [ha]
        refine Nat.lt_of_le_of_lt (List.length_filterMap_le _ _) ?_
        rw [List.length_take]; omega
      exact h x (List.mem_of_getElem? hx) (fun e => acc.length < sizeLine ∧ acc ++ [e] = (L.take (i + 1)).filterMap f) (acc = (L.take (i + 1)).filterMap f)
        (fun z hz => ⟨hlen, by rw [e, List.filterMap_append, ha]; simp [hz]⟩) (fun hz => by rw [e, List.filterMap_append, ha]; simp [hz])
  · dsimp only at ha
    rw [List.length_map, List.take_length] at ha
    rw [ha]; exact q
theorem comp_map {α : Type} {wi : TId} {m : List (Option Nat)} {g : TGd} {te : TD} {ρ : Ev} {Q : R → Prop} (L : List α) (φ f : α → D) (hw : ∀ Q' : List D → Prop, Q' (L.map φ) → wi ρ Q') (hl : L.length ≤ sizeLine)
    (h : ∀ x ∈ L, ∀ (K1 : D → Prop), K1 (f x) → g (φ x) (innP m ρ) fun ρ2 => te ρ2 fun r => K1 r.val) (q : Q (.ow (L.map f))) : dComp wi m g bYes te ρ Q := by
  refine comp_fm L φ (fun x => some (f x)) hw hl (fun x hx K1 K0 h1 _ => ?_) ?_
  · have := h x hx K1 (h1 _ rfl)
    simpa [bYes] using this
  · have e : L.filterMap (fun x => some (f x)) = L.map f := by
      induction L with
      | nil => rfl
      | cons a r ih => simp
    rw [e]; exact q
theorem comp_filter {α : Type} {wi : TId} {m : List (Option Nat)} {g : TGd} {tc : TDb} {te : TD} {ρ : Ev} {Q : R → Prop} (L : List α) (φ f : α → D) (p : α → Bool) (hw : ∀ Q' : List D → Prop, Q' (L.map φ) → wi ρ Q') (hl : L.length ≤ sizeLine)
    (h : ∀ x ∈ L, ∀ (K1 : D → Prop) (K0 : Prop), (p x = true → K1 (f x)) → (p x = false → K0) → g (φ x) (innP m ρ) fun ρ2 => tc ρ2 fun b => if b = true then te ρ2 fun r => K1 r.val else K0)
    (q : Q (.ow ((L.filter p).map f))) : dComp wi m g tc te ρ Q := by
  refine comp_fm L φ (fun x => if p x = true then some (f x) else none) hw hl (fun x hx K1 K0 h1 h0 => h x hx K1 K0 (fun z => h1 _ (by simp [z])) (fun z => h0 (by simp [z]))) ?_
  have e : L.filterMap (fun x => if p x = true then some (f x) else none) = (L.filter p).map f := by
    clear h hl hw q
    induction L with
    | nil => rfl
    | cons a r ih => by_cases z : p a = true <;> simp [z, ih]
  rw [e]; exact q
theorem xfor_inv {wi : TId} {g : TGd} {tb : TX} {D : DE} {ρ : Ev} (ds : List L2.D) (hw : ∀ Q' : List L2.D → Prop, Q' ds → wi ρ Q') (Iv : Nat → Ev → Prop) (h0 : Iv 0 ρ)
    (turn : ∀ i d ρ', ds[i]? = some d → Iv i ρ' → g d ρ' fun ρ2 => tb { D with nx := Iv (i + 1), ct := Iv (i + 1), bk := D.nx } ρ2) (fin : ∀ ρ', Iv ds.length ρ' → D.nx ρ') : xFor wi g tb D ρ := hw _ ⟨Iv, h0, turn, fin⟩
theorem xfor_list {α : Type} {wi : TId} {g : TGd} {tb : TX} {D : DE} {ρ : Ev} (L : List α) (φ : α → L2.D) (hw : ∀ Q' : List L2.D → Prop, Q' (L.map φ) → wi ρ Q') (Iv : Nat → Ev → Prop) (h0 : Iv 0 ρ)
    (turn : ∀ i x ρ', L[i]? = some x → Iv i ρ' → g (φ x) ρ' fun ρ2 => tb { D with nx := Iv (i + 1), ct := Iv (i + 1), bk := D.nx } ρ2) (fin : ∀ ρ', Iv L.length ρ' → D.nx ρ') : xFor wi g tb D ρ := by
  refine xfor_inv (L.map φ) hw Iv h0 (fun i d ρ' hd iv => ?_) (fun ρ' iv => fin ρ' (by simpa using iv))
  rw [List.getElem?_map] at hd
  cases hx : L[i]? with
  | none => rw [hx] at hd; cases hd
  | some x => rw [hx] at hd; cases hd; exact turn i x ρ' hx iv
theorem xfor_range {g : TGd} {tb : TX} {D : DE} {ρ : Ev} {wi : TId} (n : Nat) (hw : ∀ Q' : List L2.D → Prop, Q' ((List.range n).map fun (i : Nat) => .int (0 + i)) → wi ρ Q') (Iv : Nat → Ev → Prop) (h0 : Iv 0 ρ)
    (turn : ∀ (i : Nat) ρ', i < n → Iv i ρ' → g (.int i) ρ' fun ρ2 => tb { D with nx := Iv (i + 1), ct := Iv (i + 1), bk := D.nx } ρ2) (fin : ∀ ρ', Iv n ρ' → D.nx ρ') : xFor wi g tb D ρ := by
  refine xfor_list (List.range n) (fun (i : Nat) => .int (0 + i)) hw Iv h0 (fun i x ρ' hx iv => ?_) (fun ρ' iv => fin ρ' (by simpa using iv))
  obtain ⟨h1, h2⟩ := List.getElem?_eq_some_iff.mp hx
  have h3 : i < n := by simpa using h1
  have h4 : x = i := by rw [← h2]; simp
  subst h4
  rw [Int.zero_add]
  exact turn x ρ' h3 iv
theorem p24 : (10 : Int) ^ Int.toNat 24 = 1000000000000000000000000 := by decide
theorem p30 : (10 : Int) ^ Int.toNat 30 = 1000000000000000000000000000000 := by decide
theorem cpow24 : CPow 10 24 = True := by simp only [CPow, eq_iff_iff, iff_true]; decide
theorem cpow30 : CPow 10 30 = True := by simp only [CPow, eq_iff_iff, iff_true]; decide
end L2
set_option Elab.async false
set_option linter.all false
set_option maxRecDepth 100000
set_option maxHeartbeats 1000000
namespace L2
open PySem PySem.Spec PyProof.Rows
section
variable {X : Cx} {pos : Pos} {e : Expr} {te : TD} {es : List Expr} {ts : TDa}
def dNeg (t : TD) : TD := fun ρ Q => t ρ fun r => match r.val with
  | .int i => Q (.fz (.int (-i)))
  | _ => False
theorem pd_neg (h : PD X e te) : PD X (.UnaryOp .USub e pos) (dNeg te) := by
  obtain ⟨t, p, q⟩ := h
  refine ⟨_, pe_un un_neg p, fun ρ σ G0 H0 G H Q P E h k => q ρ σ G0 H0 G H _ _ E h fun v H' r G' x rr hq => ?_⟩
  obtain ⟨G2, x2, rv, _⟩ := rr.freeze x
  split at hq
  · rename_i i e1
    rw [e1] at rv
    simp only [Rep] at rv
    exact ⟨i, rv, k _ _ _ G2 x2 (fzR (rep_int _ _ _)) hq⟩
  · exact hq.elim
def oList : SpD := fun ds Q => match ds with
  | [.lst es] => Q (.ow es)
  | [.tup es] => Q (.ow es)
  | _ => False
theorem c_list : CallP X (.type "list") oList := by
  refine ⟨_, call_list_of, fun G H vs ds Q P s rs h k => ?_⟩
  unfold oList at h
  split at h
  · obtain ⟨v, rfl, rv⟩ := reps1 rs
    simp only [Rep] at rv
    obtain ⟨a, xs, rfl, h1, h2⟩ := rv
    exact ⟨a, xs, rfl, .inl (s.rdl h1).sq, own_fin s h2 h k⟩
  · obtain ⟨v, rfl, rv⟩ := reps1 rs
    simp only [Rep] at rv
    obtain ⟨a, xs, rfl, h1, h2⟩ := rv
    exact ⟨a, xs, rfl, .inr (s.seqT h1), own_fin s h2 h k⟩
  · exact h.elim
def oInt : SpD := fun ds Q => match ds with
  | [.int i] => Q (.fz (.int i))
  | [.bl b] => Q (.fz (.int (if b then 1 else 0)))
  | _ => False
theorem c_int : CallP X (.type "int") oInt := by
  refine ⟨_, call_int1, fun G H vs ds Q P s rs h k => ?_⟩
  unfold oInt at h
  split at h
  · obtain ⟨v, rfl, rv⟩ := reps1 rs
    simp only [Rep] at rv
    subst rv
    exact .inl ⟨_, rfl, k _ _ _ G (.refl s) (fzR (rep_int _ _ _)) h⟩
  · obtain ⟨v, rfl, rv⟩ := reps1 rs
    simp only [Rep] at rv
    subst rv
    exact .inr ⟨_, rfl, k _ _ _ G (.refl s) (fzR (rep_int _ _ _)) h⟩
  · exact h.elim
def intsOf : List D → Option (List Int)
  | [] => some []
  | .int b :: r => (intsOf r).map (b :: ·)
  | _ => none
theorem intsOf_get : ∀ {ds : List D} {bs : List Int}, intsOf ds = some bs → ds = bs.map D.int
  | [], bs, h => by simp [intsOf] at h; subst h; rfl
  | .int b :: r, bs, h => by
    simp only [intsOf, Option.map_eq_some_iff] at h
    obtain ⟨bs', h1, rfl⟩ := h
    rw [intsOf_get h1]; rfl
  | .non :: r, bs, h => by simp [intsOf] at h
  | .bl _ :: r, bs, h => by simp [intsOf] at h
  | .str _ :: r, bs, h => by simp [intsOf] at h
  | .tup _ :: r, bs, h => by simp [intsOf] at h
  | .lst _ :: r, bs, h => by simp [intsOf] at h
  | .obj _ _ :: r, bs, h => by simp [intsOf] at h
  | .dic _ :: r, bs, h => by simp [intsOf] at h
  | .dit _ :: r, bs, h => by simp [intsOf] at h
theorem intsOf_map (bs : List Int) : intsOf (bs.map D.int) = some bs := by
  induction bs with
  | nil => rfl
  | cons b r ih => simp [intsOf, ih]
theorem reps_int {K : PySem.W.Frag} {G : Hp} : ∀ {bs : List Int} {vs : List V}, Reps K G vs (bs.map D.int) → vs = bs.map V.int
  | [], [], _ => rfl
  | b :: bs, v :: vs, h => by
    simp only [List.map_cons, Reps, Rep] at h
    rw [h.1, reps_int h.2]; rfl
  | [], _ :: _, h => by simp only [List.map_nil, Reps] at h
  | _ :: _, [], h => by simp only [List.map_cons, Reps] at h
theorem ints_items {vs : List Value} {ns : List Int} (hi : IntsAre vs ns) : ∃ xs : Array (Int × Tok), vs.toArray = intItems xs ∧ ns = xs.toList.map (·.1) := by
  obtain ⟨xs, e⟩ := hi.allInts.items
  exact ⟨xs, e, by rw [← hi.numsOf, ← nums_intItems, ← e]⟩
theorem call_sumL (hc : X.calm = true) : CallR X (.builtin "sum") (fun xs H Q => ∃ (p : Addr) (ns : List Int), xs = [.ref p] ∧ SqL X.K H p (ns.map V.int) ∧ Q (.int ns.sum) H) := by
  intro pins s σ H xs us Q I r h
  obtain ⟨p, ns, rfl, hq, q⟩ := h
  obtain ⟨u, rfl, ru⟩ := vals1 r
  cases ru
  obtain ⟨its, rv, pl, hz⟩ := I.list hq
  obtain ⟨ys, e, hns⟩ := ints_items (intsAre_of rv)
  have hl := pl.isList
  rw [e] at hl
  refine sum_intListG (I.ok.hd hc) hl fun h' tk t' hk => ?_
  have e2 : preSum (numAt ys) ys.size = ns.sum := by
    rw [preSum_eq, List.take_of_length_le (by simp), hns]
  rw [e2]
  exact ⟨.int _, H, I.kept hk, ⟨_, rfl⟩, q⟩
theorem call_minL (hc : X.calm = true) : CallR X (.builtin "min") (fun xs H Q => ∃ (p : Addr) (ns : List Int), xs = [.ref p] ∧ SqL X.K H p (ns.map V.int) ∧ ns ≠ [] ∧ ∀ M, M ∈ ns → (∀ a ∈ ns, M ≤ a) → Q (.int M) H) := by
  intro pins s σ H xs us Q I r h
  obtain ⟨p, ns, rfl, hq, hne, q⟩ := h
  obtain ⟨u, rfl, ru⟩ := vals1 r
  cases ru
  obtain ⟨its, rv, pl, hz⟩ := I.list hq
  obtain ⟨ys, e, hns⟩ := ints_items (intsAre_of rv)
  have hl := pl.isList
  rw [e] at hl
  have hsz : 0 < ys.size := by
    cases hys : ys.toList with
    | nil => rw [hns, hys] at hne; exact absurd rfl hne
    | cons a b => have : ys.toList.length = b.length + 1 := by rw [hys]; rfl
                  rw [Array.length_toList] at this; omega
  refine min_intList (I.ok.hd hc) hl hsz fun v h' tk hv hk => ?_
  obtain ⟨t, rfl⟩ := intItems_at hv
  obtain ⟨h1, h2⟩ := argBest_lt (numAt ys) (ys.size - 1)
  refine ⟨.int _, H, I.kept hk, ⟨_, rfl⟩, q _ ?_ fun a ha => ?_⟩
  · rw [hns, numAt_eq]; exact getD_mem (by rw [List.length_map, Array.length_toList]; omega)
  · rw [hns] at ha
    obtain ⟨j, hj, rfl⟩ := mem_getD ha
    rw [List.length_map, Array.length_toList] at hj
    rw [← numAt_eq]; exact h2 j (by omega)
def oSum : SpD := fun ds Q => match ds with
  | [.lst es] => match intsOf es with
    | some ns => Q (.fz (.int ns.sum))
    | none => False
  | _ => False
theorem c_sum (hc : X.calm = true) : CallP X (.builtin "sum") oSum := by
  refine ⟨_, call_sumL hc, fun G H vs ds Q P s rs h k => ?_⟩
  unfold oSum at h
  split at h
  · split at h
    · rename_i es bs hb
      obtain ⟨v, rfl, rv⟩ := reps1 rs
      simp only [Rep] at rv
      obtain ⟨a, xs, rfl, h1, h2⟩ := rv
      rw [intsOf_get hb] at h2
      rw [reps_int h2] at h1
      exact ⟨a, bs, rfl, (s.rdl h1).sq, k _ _ _ G (.refl s) (fzR (rep_int _ _ _)) h⟩
    · exact h.elim
  · exact h.elim
def oMin : SpD := fun ds Q => match ds with
  | [.lst es] => match intsOf es with
    | some ns => ns ≠ [] ∧ ∀ M, M ∈ ns → (∀ a ∈ ns, M ≤ a) → Q (.fz (.int M))
    | none => False
  | [.int i, .int j] => Q (.fz (.int (if j < i then j else i)))
  | _ => False
theorem c_min (hc : X.calm = true) : CallP X (.builtin "min") oMin := by
  refine ⟨_, (call_minL hc).or (call_min2 hc), fun G H vs ds Q P s rs h k => ?_⟩
  unfold oMin at h
  split at h
  · split at h
    · rename_i es bs hb
      obtain ⟨v, rfl, rv⟩ := reps1 rs
      simp only [Rep] at rv
      obtain ⟨a, xs, rfl, h1, h2⟩ := rv
      rw [intsOf_get hb] at h2
      rw [reps_int h2] at h1
      exact .inl ⟨a, bs, rfl, (s.rdl h1).sq, h.1, fun M h3 h4 => k _ _ _ G (.refl s) (fzR (rep_int _ _ _)) (h.2 M h3 h4)⟩
    · exact h.elim
  · obtain ⟨v, u, rfl, rv, ru⟩ := reps2 rs
    simp only [Rep] at rv ru
    subst rv ru
    exact .inr ⟨_, _, rfl, k _ _ _ G (.refl s) (fzR (rep_int _ _ _)) h⟩
  · exact h.elim
def strsOf : List D → Option (List Str)
  | [] => some []
  | .str b :: r => (strsOf r).map (b :: ·)
  | _ => none
theorem strsOf_map (bs : List Str) : strsOf (bs.map D.str) = some bs := by
  induction bs with
  | nil => rfl
  | cons b r ih => simp [strsOf, ih]
theorem ints_reps {K : PySem.W.Frag} {G : Hp} (bs : List Int) : Reps K G (bs.map V.int) (bs.map D.int) := by
  induction bs with
  | nil => exact Reps.nil
  | cons b r ih => exact Reps.cons (rep_int _ _ _) ih
def dM (T : String) (o : D → List D → (R → Prop) → Prop) (te : TD) (ts : TDa) : TD := fun ρ Q => te ρ fun r => tyD r.val = T ∧ ts ρ fun ds => o r.val ds Q
def cntD (d : D) (ds : List D) : Nat := ds.countP fun e => eqD e d
def oCount : D → List D → (R → Prop) → Prop := fun d ds Q => match d, ds with
  | .lst es, [x] => okE 8 x ∧ (∀ e ∈ es, okE 8 e) ∧ Q (.fz (.int (cntD x es)))
  | _, _ => False
end
end L2
set_option Elab.async false
set_option linter.all false
set_option maxRecDepth 100000
set_option maxHeartbeats 1000000
namespace L2
open PySem PySem.Spec PyProof.Rows
section
variable {X : Cx} {pos : Pos}
def yLst (n : Nat) (t : TGds) : TGd := fun d ρ Q => match d with
  | .lst ds => ds.length = n ∧ t ds ρ Q
  | _ => False
end
section
variable {X : Cx} {pos : Pos} {e : Expr} {te : TD} {es : List Expr} {ts : TDa}
theorem RepF.look {K : PySem.W.Frag} {H : Hp} {f : Str} : ∀ {gs : List (Str × V)} {fs : List (Str × D)} {d : D}, RepF K H gs fs → fs.lookup f = some d → ∃ v, gs.lookup f = some v ∧ Rep K H v d
  | [], [], d, _, h => by simp at h
  | (x, v) :: gs, (y, d') :: fs, d, r, h => by
    simp only [RepF] at r
    obtain ⟨⟨rfl, r1⟩, r2⟩ := r
    rw [List.lookup_cons] at h ⊢
    cases hb : f == x with
    | true => rw [hb] at h; cases h; exact ⟨v, rfl, r1⟩
    | false => rw [hb] at h; exact RepF.look r2 h
  | [], _ :: _, _, r, _ => by simp only [RepF] at r
  | _ :: _, [], _, r, _ => by simp only [RepF] at r
def dFld (f : Str) (te : TD) : TD := fun ρ Q => te ρ fun r => match r.val with
  | .obj _ fs => ∃ d, fs.lookup f = some d ∧ Q (.fz d)
  | _ => False
def putD (f : Str) (v : D) : List (Str × D) → List (Str × D)
  | [] => [(f, v)]
  | (g, x) :: r => if g = f then (g, v) :: r else (g, x) :: putD f v r
theorem RepF.put {K : PySem.W.Frag} {H : Hp} {f : Str} {v : V} {d : D} (rv : Rep K H v d) : ∀ {gs : List (Str × V)} {fs : List (Str × D)}, RepF K H gs fs → RepF K H (putF f v gs) (putD f d fs)
  | [], [], _ => by simp only [putF, putD, RepF, and_true, true_and]; exact rv
  | (x, u) :: gs, (y, d') :: fs, r => by
    simp only [RepF] at r
    obtain ⟨⟨rfl, r1⟩, r2⟩ := r
    simp only [putF, putD]
    split
    · simp only [RepF, true_and]; exact ⟨rv, r2⟩
    · simp only [RepF, true_and]; exact ⟨r1, RepF.put rv r2⟩
  | [], _ :: _, r => by simp only [RepF] at r
  | _ :: _, [], r => by simp only [RepF] at r
theorem RepF.length {K : PySem.W.Frag} {H : Hp} : ∀ {gs : List (Str × V)} {fs : List (Str × D)}, RepF K H gs fs → gs.length = fs.length
  | [], [], _ => rfl
  | (x, u) :: gs, (y, d') :: fs, r => by
    simp only [RepF] at r
    simp [RepF.length r.2]
  | [], _ :: _, r => by simp only [RepF] at r
  | _ :: _, [], r => by simp only [RepF] at r
structure Making (K : PySem.W.Frag) (C : Addr) (x dx : Addr) (G0 H0 : Hp) (ρ : Ev) (σ : St) (G H : Hp) (fs : List (Str × D)) (gs : List (Str × V)) : Prop where
  e : EOk K G0 H0 ρ σ G H
  sl : σ[0]? = some (some (.ref x))
  hx : H x = some (.ins C dx gs)
  hdx : H dx = some (.own x)
  gx : G x = none
  gdx : G dx = none
  r : RepF K G gs fs
theorem Making.ext {K : PySem.W.Frag} {C x dx : Addr} {G0 H0 : Hp} {ρ : Ev} {σ : St} {G H G' H' : Hp} {fs : List (Str × D)} {gs : List (Str × V)} (M : Making K C x dx G0 H0 ρ σ G H fs gs) (y : Ext G H G' H') : Making K C x dx G0 H0 ρ σ G' H' fs gs :=
  ⟨M.e.ext y, M.sl, y.h _ _ M.hx, y.h _ _ M.hdx, y.n _ M.gx (by rw [M.hx]; exact nofun), y.n _ M.gdx (by rw [M.hdx]; exact nofun), RepF.mono y.g _ _ M.r⟩
end
section
variable {P : Program} {w : World} {K : PySem.W.Frag} {mg : Str → Option Value} {base : Heap}
end
section
variable {X : Cx} {k k' n : Nat} {t : SpD} {x : Str} {p pos : Pos} {e : Expr} {es : List Expr} {ts : TDa}
end
end L2
set_option Elab.async false
set_option linter.all false
set_option maxRecDepth 100000
set_option maxHeartbeats 1000000
namespace L2
open PySem PySem.Spec PyProof.Rows
def NoAttrs (K : PySem.W.Frag) (C : Addr) : List Str → Prop
  | [] => True
  | x :: r => NoAttr K C x ∧ NoAttrs K C r
theorem NoAttrs.all {K : PySem.W.Frag} {C : Addr} : ∀ {l : List Str}, NoAttrs K C l → ∀ x ∈ l, NoAttr K C x
  | [], _, x, h => by cases h
  | y :: r, n, x, h => by
    rcases List.mem_cons.mp h with rfl | h
    · exact n.1
    · exact NoAttrs.all n.2 x h
end L2
set_option Elab.async false
set_option linter.all false
set_option maxRecDepth 100000
set_option maxHeartbeats 1000000
namespace L2
open PySem PySem.Spec PyProof.Rows
def scalD : D → Bool
  | .non => true
  | .bl _ => true
  | .int _ => true
  | .str _ => true
  | _ => false
def dLend (i : Nat) (te : TD) : TD := fun ρ Q => te (frz i ρ) fun r => match r with
  | .fz d => scalD d = true ∧ Q (.fz d)
  | _ => False
def bLend (i : Nat) (t : TDb) : TDb := fun ρ Q => t (frz i ρ) Q
theorem scal_rep {K : PySem.W.Frag} {G G' : Hp} {v : V} {d : D} (h : scalD d = true) (r : Rep K G v d) : Rep K G' v d := by
  cases d <;> first | (simp only [Rep] at r ⊢; exact r) | cases h
def less (G : Hp) (L : List Addr) : Hp := fun a => if a ∈ L then none else G a
theorem lend_ext {G H G' H' : Hp} {L : List Addr} (gp : ∀ q ∈ L, G q = none) (x : Ext (plus G H L) H G' H') : Ext G H (less G' L) H' := by
  refine ⟨fun b u e => ?_, x.h, fun b u e => ?_, fun q h1 h2 => ?_⟩
  · have hb : b ∉ L := fun z => by rw [gp b z] at e; cases e
    unfold less
    rw [if_neg hb]
    exact x.g b u (by rw [plus_out hb]; exact e)
  · unfold less at e
    split at e
    · cases e
    · exact x.s b u e
  · unfold less
    split
    · rfl
    · rename_i hq
      exact x.n q (by rw [plus_out hq]; exact h1) h2
section
variable {X : Cx} {e : Expr} {te : TD} {t : TDb}
theorem EOk.lent {K : PySem.W.Frag} {G0 H0 G H : Hp} {ρ : Ev} {σ : St} (i : Nat) (E : EOk K G0 H0 ρ σ G H) : ∃ G1, EOk K G0 H0 (frz i ρ) σ G1 H ∧ ∀ G' H', Ext G1 H G' H' → ∃ G2, Ext G H G2 H' :=
  let ⟨L, hL, E', _⟩ := E.freezeL i
  ⟨_, E', fun G' H' x => ⟨_, lend_ext hL x⟩⟩
theorem pd_lend (i : Nat) (h : PD X e te) : PD X e (dLend i te) := by
  obtain ⟨tt, p, q⟩ := h
  refine ⟨tt, p, fun ρ σ G0 H0 G H Q P E h k => ?_⟩
  obtain ⟨G1, E1, back⟩ := E.lent i
  refine q _ σ G0 H0 G1 H _ _ E1 h fun v H' r G' x rr hq => ?_
  split at hq
  · rename_i d
    obtain ⟨G2, x2⟩ := back G' H' x
    exact k v H' (.fz d) G2 x2 (scal_rep hq.1 rr) hq.2
  · exact hq.elim
end
end L2
set_option Elab.async false
set_option linter.all false
set_option maxRecDepth 100000
set_option maxHeartbeats 1000000
namespace L2
open PySem PySem.Spec PyProof.Rows
section
variable {prog : Program} {w : World} {A : Around} {E : Value → Shared → Prop} {s : Shared}
structure Marks (w : World) (es : Array (Int × Value)) (t : SetTable) : Prop where
  led : t.led = !(w.params.followText "set-order")
  plain : es.size = 0 ∨ t.plain = false
structure SetAt (prog : Program) (w : World) (h : Heap) (a : Addr) (es : Array (Int × Value)) (ep : Nat) (t : SetTable) : Prop where
  at_ : h.get? a = some { cls := .type "set", dict := none, data := .set es ep t, slots := #[] }
  el : ElemsOf (strKind prog w) es.toList
  small : es.size < scanBound
  fits : t.fits es.size = true
  marks : Marks w es t
def Mem (prog : Program) (w : World) (es : Array (Int × Value)) (k : Str) : Prop := ∃ e ∈ es.toList, (strKind prog w).is k e.2 = true
def keysOf (es : Array (Int × Value)) : List Str := es.toList.map fun e => strOf e.2
theorem mem_keys {es : Array (Int × Value)} (el : ElemsOf (strKind prog w) es.toList) (k : Str) : Mem prog w es k ↔ k ∈ keysOf es := by
  unfold Mem keysOf
  rw [List.mem_map]
  constructor
  · rintro ⟨e, he, hk⟩
    obtain ⟨t, ht⟩ := Value.isStrOf_shape hk
    exact ⟨e, he, by rw [ht]; rfl⟩
  · rintro ⟨e, he, rfl⟩
    obtain ⟨⟨k, hk, _⟩, _⟩ := el e he
    obtain ⟨t, ht⟩ := Value.isStrOf_shape hk
    refine ⟨e, he, ?_⟩
    rw [ht]
    show Value.isStrOf k (.str k t) = true
    simp [Value.isStrOf]
theorem keys_perm {es es' : Array (Int × Value)} {x : Str} {tk : Tok} {hs : Int} (p : List.Perm es'.toList (es.toList ++ [(hs, .str x tk)])) : List.Perm (keysOf es') (keysOf es ++ [x]) := by
  have := p.map fun e => strOf e.2
  rw [List.map_append] at this
  exact this
structure Holds (es : Array (Int × Value)) (xs : List Str) : Prop where
  nd : (keysOf es).Nodup
  mem : ∀ x, x ∈ keysOf es ↔ x ∈ xs
  len : es.size ≤ xs.length
theorem Holds.put {es es' : Array (Int × Value)} {xs : List Str} {x : Str} {tk : Tok} (H : Holds es xs) (el : ElemsOf (strKind prog w) es.toList)
    (h : (es' = es ∧ Mem prog w es x) ∨ (¬ Mem prog w es x ∧ List.Perm es'.toList (es.toList ++ [(hashStr w x, .str x tk)]))) : Holds es' (xs ++ [x]) := by
  rcases h with ⟨rfl, hm⟩ | ⟨hm, hp⟩
  · refine ⟨H.nd, fun y => ?_, by simp; have := H.len; omega⟩
    rw [List.mem_append, ← H.mem, List.mem_singleton]
    constructor
    · exact .inl
    · rintro (h | rfl)
      · exact h
      · exact (mem_keys el _).mp hm
  · have hk := keys_perm hp
    refine ⟨hk.nodup_iff.mpr ?_, fun y => ?_, ?_⟩
    · rw [List.nodup_append]
      refine ⟨H.nd, by simp, fun a ha b hb => ?_⟩
      rw [List.mem_singleton.mp hb]
      rintro rfl
      exact hm ((mem_keys el _).mpr ha)
    · rw [hk.mem_iff, List.mem_append, List.mem_append, H.mem]
    · have e1 := hk.length_eq
      have e2 : (keysOf es').length = es'.size := by simp [keysOf]
      have e3 : (keysOf es).length = es.size := by simp [keysOf]
      have := H.len
      simp only [List.length_append, List.length_cons, List.length_nil] at e1 ⊢
      omega
theorem SetAt.kept {h h' : Heap} {a : Addr} {es : Array (Int × Value)} {ep : Nat} {t : SetTable} (S : SetAt prog w h a es ep t) (k : ∀ o, h.get? a = some o → h'.get? a = some o) : SetAt prog w h' a es ep t := ⟨k _ S.at_, S.el, S.small, S.fits, S.marks⟩
end
section
variable {prog : Program} {w : World} {A : Around} {R : Result → Shared → Prop} {I : Addr} {fp wr : List Addr} {G : Array GenState → Array GenState → Prop} {n : Nat} {P : Nat → Value → Prop} {St : Nat → Shared → Prop}
end
end L2
set_option Elab.async false
set_option linter.all false
set_option maxRecDepth 100000
set_option maxHeartbeats 3200000
namespace L2
open PySem PySem.Spec PyProof.Rows
section
variable {prog : Program} {w : World} {A : Around} {E : Value → Shared → Prop} {s : Shared}
end
end L2
set_option Elab.async false
set_option linter.all false
set_option maxRecDepth 100000
set_option maxHeartbeats 1600000
namespace L2
open PySem PySem.Spec PyProof.Rows
section
variable {prog : Program} {w : World} {A : Around} {E : Value → Shared → Prop} {s : Shared}
end
end L2
set_option Elab.async false
set_option linter.all false
set_option maxRecDepth 100000
set_option maxHeartbeats 1600000
namespace L2
open PySem PySem.Spec PyProof.Rows
section
variable {prog : Program} {w : World} {A : Around} {E : Value → Shared → Prop} {s : Shared}
end
end L2
set_option Elab.async false
set_option linter.all false
set_option maxRecDepth 100000
set_option maxHeartbeats 1600000
namespace L2
open PySem PySem.Spec PyProof.Rows
section
variable {prog : Program} {w : World} {A : Around} {E : Value → Shared → Prop} {s : Shared}
end
end L2
set_option Elab.async false
set_option linter.all false
set_option maxRecDepth 100000
set_option maxHeartbeats 1600000
namespace L2
open PySem PySem.Spec PyProof.Rows
section
variable {prog : Program} {w : World} {A : Around} {E : Value → Shared → Prop} {s : Shared}
end
section
variable {X : Cx} {pos : Pos} {e : Expr} {te : TD} {ts : TDa} {t : TA}
end
end L2
set_option Elab.async false
set_option linter.all false
set_option maxRecDepth 100000
set_option maxHeartbeats 1000000
namespace L2
open PySem PySem.Spec PyProof.Rows
section
variable {X : Cx} {pos : Pos} {e i' : Expr} {te ti : TD}
def xSetIx (i : Nat) (ti te : TD) : TX := fun D ρ => match gt ρ i with
  | .ow ds => te ρ fun r => ti ρ fun rk => match rk.val with
    | .int k => ∃ j, ixN ds.length k = some j ∧ D.nx (ρ.set i (.ow (ds.set j r.val)))
    | _ => False
  | _ => False
theorem px_setIx (i : Nat) {x : Str} {p1 p2 : Pos} (hi : PD X i' ti) (he : PD X e te) (hN : X.N[i]? = some x := by rfl) (hv : Vis X.env.scope x := by first | exact Or.inl rfl | exact Or.inr (Or.inl rfl) | exact Or.inr (Or.inr rfl)) (hd : (x == ("__debug__" : Str)) = false := by decide) (hcd : (x == ("__classdict__" : Str)) = false := by decide)
    (ha : ∀ v, assign (.Subscript (.Name x p1) i' p2) X.env v = (do
      let ov ← holding [v] (eval (.Name x p1) X.env)
      let iv ← holding [v, ov] (eval i' X.env)
      standAt p2
      holding [v, ov, iv] (setItem ov iv v)
      release [v, ov, iv] []) := by intro _; rfl)
    (hs : swapsWithSole [.Subscript (.Name x p1) i' p2] e pos.line X.env = pure false := by rfl) (hw : swappedStores [.Subscript (.Name x p1) i' p2] e X.env = pure none := by rfl)
    (h1 : (assignEach [.Subscript (.Name x p1) i' p2] X.env).map (·.2) = [assign (.Subscript (.Name x p1) i' p2) X.env] := by rfl) :
    PX X (.Assign [.Subscript (.Name x p1) i' p2] e pos) (xSetIx i ti te) := by
  obtain ⟨t, p, q⟩ := he
  obtain ⟨t2, p2', q2⟩ := hi
  refine ⟨_, ps_asg p (pg_sub (pe_var hN hv hd hcd) p2' set_list ha) hs hw h1, fun ρ σ G0 H0 G H D E k h g => ?_⟩
  unfold xSetIx at h
  split at h
  · rename_i ds hg
    obtain ⟨a, xs, h1, h2, h3, h4, h5⟩ := k.ow i ds hg
    refine q ρ σ G0 H0 G H _ _ k h fun v H' r G' x1 rr hq => ?_
    obtain ⟨G2, x2, rv, _⟩ := rr.freeze x1
    refine ⟨_, h1, q2 ρ σ G0 H0 G2 H' _ _ (k.ext x2) hq fun u H3 rk G3 x3 rr3 hq3 => ?_⟩
    obtain ⟨G4, x4, rv4, _⟩ := rr3.freeze x3
    split at hq3
    · rename_i kk e1
      obtain ⟨j, hj, hq3⟩ := hq3
      rw [e1] at rv4
      simp only [Rep] at rv4
      have x24 := x2.trans x4
      refine ⟨a, xs, kk, j, rfl, rv4, x24.h _ _ h2, by rw [h5.length]; exact hj, ?_⟩
      exact g.nx _ _ G4 _ x24.g ((k.ext x24).change hg h1 ((h5.mono x24.g).set j (rv.mono x4.g))) hq3
    · exact hq3.elim
  · exact h.elim
end
end L2
set_option Elab.async false
set_option linter.all false
set_option maxRecDepth 100000
set_option maxHeartbeats 1000000
namespace L2
open PySem PySem.Spec PyProof.Rows
section
variable {κ : Type} [DecidableEq κ]
def valV (kvs : List (κ × V)) (k : κ) : Option V := (kvs.find? fun kv => decide (kv.1 = k)).map (·.2)
def putK (kvs : List (κ × V)) (k : κ) (v : V) : List (κ × V) :=
  if (kvs.any fun kv => decide (kv.1 = k)) = true then kvs.map (fun kv => if kv.1 = k then (kv.1, v) else kv) else kvs ++ [(k, v)]
def dropK (kvs : List (κ × V)) (k : κ) : List (κ × V) := kvs.filter fun kv => decide (kv.1 ≠ k)
theorem valV_pos {p : κ × V} {r : List (κ × V)} {k : κ} (e : p.1 = k) : valV (p :: r) k = some p.2 := by simp [valV, List.find?_cons, e]
theorem valV_neg {p : κ × V} {r : List (κ × V)} {k : κ} (e : ¬ p.1 = k) : valV (p :: r) k = valV r k := by simp [valV, List.find?_cons, e]
theorem valV_any (k : κ) : ∀ kvs : List (κ × V), (kvs.any fun kv => decide (kv.1 = k)) = (valV kvs k).isSome
  | [] => rfl
  | p :: r => by
    rw [List.any_cons]
    by_cases e : p.1 = k
    · simp only [valV_pos e, decide_eq_true e, Bool.true_or, Option.isSome_some]
    · rw [valV_neg e, decide_eq_false e, Bool.false_or]; exact valV_any k r
theorem RelO.isSome_eq {o : Option V} {u : Option Value} (r : RelO o u) : o.isSome = u.isSome := by
  cases o with
  | none => cases u with
    | none => rfl
    | some _ => exact (show False from r).elim
  | some _ => cases u with
    | none => exact (show False from r).elim
    | some _ => rfl
theorem RelO.getD {o : Option V} {u : Option Value} {d : V} {d' : Value} (r : RelO o u) (rd : RelV d d') : RelV (o.getD d) (u.getD d') := by
  cases o with
  | none => cases u with
    | none => exact rd
    | some _ => exact (show False from r).elim
  | some _ => cases u with
    | none => exact (show False from r).elim
    | some _ => exact r
theorem KV.val {kvs : List (κ × V)} {vs : List (κ × Value)} (r : KV kvs vs) (k : κ) : RelO (valV kvs k) (valueAt vs k) := by
  unfold KV at r
  induction r with
  | nil => exact True.intro
  | @cons p q ps qs h t ih =>
    obtain ⟨h1, h2⟩ := h
    by_cases e : p.1 = k
    · have e' : q.1 = k := h1.symm.trans e
      have b : valueAt (q :: qs) k = some q.2 := by simp [valueAt, List.find?_cons, e']
      rw [valV_pos e, b]; exact h2
    · have e' : ¬ q.1 = k := fun z => e (h1.trans z)
      have b : valueAt (q :: qs) k = valueAt qs k := by simp [valueAt, List.find?_cons, e']
      rw [valV_neg e, b]; exact ih
theorem KV.any {kvs : List (κ × V)} {vs : List (κ × Value)} (r : KV kvs vs) (k : κ) : (kvs.any fun kv => decide (kv.1 = k)) = vs.any fun kv => decide (kv.1 = k) := by
  unfold KV at r
  induction r with
  | nil => rfl
  | cons h t ih => rw [List.any_cons, List.any_cons, ih, h.1]
theorem KV.repl {kvs : List (κ × V)} {vs : List (κ × Value)} (r : KV kvs vs) (k : κ) {y : V} {u : Value} (ry : RelV y u) :
    KV (kvs.map fun kv => if kv.1 = k then (kv.1, y) else kv) (vs.map fun kv => if kv.1 = k then (kv.1, u) else kv) := by
  unfold KV at r ⊢
  induction r with
  | nil => exact .nil
  | @cons p q ps qs h t ih =>
    rw [List.map_cons, List.map_cons]
    refine .cons ?_ ih
    obtain ⟨h1, h2⟩ := h
    by_cases e : p.1 = k
    · rw [if_pos e, if_pos (h1.symm.trans e)]; exact ⟨h1, ry⟩
    · rw [if_neg e, if_neg (fun z => e (h1.trans z))]; exact ⟨h1, h2⟩
theorem KV.put {kvs : List (κ × V)} {vs : List (κ × Value)} (r : KV kvs vs) (k : κ) {y : V} {u : Value} (ry : RelV y u) : KV (putK kvs k y) (stored vs k u) := by
  unfold putK stored
  rw [r.any k]
  by_cases e : (vs.any fun kv => decide (kv.1 = k)) = true
  · rw [if_pos e, if_pos e]; exact r.repl k ry
  · rw [if_neg e, if_neg e]; exact Paired.snoc r ⟨rfl, ry⟩
theorem KV.drop {kvs : List (κ × V)} {vs : List (κ × Value)} (r : KV kvs vs) (k : κ) : KV (dropK kvs k) (without vs k) := by
  unfold KV at r ⊢
  unfold dropK without
  induction r with
  | nil => exact .nil
  | @cons p q ps qs h t ih =>
    obtain ⟨h1, h2⟩ := h
    rw [List.filter_cons, List.filter_cons]
    by_cases e : p.1 = k
    · have a : ¬ decide (p.1 ≠ k) = true := by simp [e]
      have b : ¬ decide (q.1 ≠ k) = true := by simp [h1.symm.trans e]
      rw [if_neg a, if_neg b]; exact ih
    · have e' : ¬ q.1 = k := fun z => e (h1.trans z)
      have a : decide (p.1 ≠ k) = true := by simp [e]
      have b : decide (q.1 ≠ k) = true := by simp [e']
      rw [if_pos a, if_pos b]; exact .cons ⟨h1, h2⟩ ih
theorem KV.keys {kvs : List (κ × V)} {vs : List (κ × Value)} (r : KV kvs vs) : kvs.map (·.1) = vs.map (·.1) := by
  unfold KV at r
  induction r with
  | nil => rfl
  | cons h t ih => rw [List.map_cons, List.map_cons, ih, h.1]
theorem KV.length {kvs : List (κ × V)} {vs : List (κ × Value)} (r : KV kvs vs) : kvs.length = vs.length := Paired.length r
end
theorem kV_is {P : Program} {w : World} {k : Key} {u : Value} (r : RelV (kV k) u) : (mixKind P w).is k u = true := by
  cases k with
  | inl i => obtain ⟨t, e⟩ := (show ∃ t, u = Value.int i t from r); subst e; exact mixKind_int P w i t
  | inr x => obtain ⟨t, e⟩ := (show ∃ t, u = Value.str x t from r); subst e; exact mixKind_str P w x t
def NoSl (i : Expr) : Prop := ∀ ov iv, subscripted i false ov iv = operate [ov, iv] (getItem ov iv)
theorem subD_of {prog : Program} {w : World} {A : Around} {E : Value → Shared → Prop} {s : Shared} {env : Env} {value slice : Expr} {pos : Pos} {T id : String} {Q : Value → Shared → Prop}
    (hl : typeLookup (.type T) "__getitem__" = pure (some (.builtin id))) (hs : NoSl slice)
    (h : wpAny (model prog w) A (eval value env) (fun o s₁ => wpAny (model prog w) A (eval slice env) (fun i s₂ => s₂.TypeIs o T ∧ wpAny (model prog w) A (getItem o i) Q E s₂) E s₁) E s) :
    wpAny (model prog w) A (eval (.Subscript value slice pos) env) Q E s := by
  refine Subscript_ (wpAny_mono h (fun o s₁ h₁ => wpAny_mono h₁ (fun i s₂ h₂ => ?_) fun _ _ x => x) fun _ _ x => x)
  obtain ⟨hT, h₂⟩ := h₂
  unfold subscriptTail
  refine wpAny_bind ?_
  rw [getitemInPython_of_ne hT.not_modules]
  refine wpAny_bind (wpAny_specialOf hT hl ?_)
  have fin : wpAny (model prog w) A (subscripted slice false o i) (fun r s₃ => wpAny (model prog w) A (letTemporaryGo value o r >>= fun _ => pure r) Q E s₃) E s₂ := by
    rw [hs o i]
    exact wpAny_operating (wpAny_mono h₂ (fun r s₃ h₃ => wpAny_bind (wpAny_letTemporaryGo (wpAny_pure h₃))) fun _ _ x => x)
  first
    | exact wpAny_pure (wpAny_bind fin)
    | exact wpAny_bind (wpAny_pure (wpAny_bind fin))
    | exact wpAny_bind fin
structure M2 (X : Cx) (o : Expr) (m : Str) (apos : Pos) (e f : Expr) (cpos : Pos) : Prop where
  base : attributeBase o m X.env (eval o X.env) = eval o X.env
  few : ((backTo cpos (starEach [e, f] X.env)).all (fun x => !x.1) && (backToKw cpos (keywordEach [] X.env)).all (fun x => x.1.isSome)
    && decide (([e, f] : List Expr).length + ([] : List Keyword).length + (if ([] : List Keyword).isEmpty then 0 else 1) < 30)) = true
  line : (apos.endLine == cpos.line) = true
  trees : backTo cpos (starEach [e, f] X.env) = [(false, eval e X.env), (false, eval f X.env)]
section
variable {κ : Type} [DecidableEq κ]
end
section
variable {P : Program} {w : World} {H : Hp} {h : Heap} {a : Addr}
end
def DGet (H : Hp) (a : Addr) (y : V) (r : Option V) : Prop := ∃ kvs ep k, Rd H a (.dK kvs ep) ∧ y = kV k ∧ r = valV kvs k
theorem DGet.k {H : Hp} {a : Addr} {kvs : List (Key × V)} {ep : Nat} {k : Key} (e : H a = some (.dK kvs ep)) : DGet H a (kV k) (valV kvs k) := ⟨kvs, ep, k, .inl e, rfl, rfl⟩
section
variable {X : Cx} {pins : List (Addr × Obj)} {σ : St} {H : Hp} {s : Shared} {a : Addr} {y v : V} {u r : Value} {o : Option V} {A : Around} {E : Value → Shared → Prop}
theorem Inv.big (I : Inv X pins σ H s) : sysModules < s.heap.objs.size := by
  have h : mainGlobals < s.heap.objs.size := (I.mod.glob.keeps I.bk).lt
  exact Nat.lt_trans (by decide) h
theorem d_write {h' : Heap} {t' : Nat} {ob : HO} (I : Inv X pins σ H s) (mu : Mut (H a)) (hs : Heap.SameBut a s.heap h') (he : ∃ q, h'.get? a = some q) (new : ObjOk X.prog X.w (upd H a ob) h' a ob) :
    Inv X pins σ (upd H a ob) { s with heap := h', toks := t' } :=
  I.write (x := a) (e := a) mu (.inl rfl) (fun b q hb z => (hs.2 b hb).trans z) he new
end
section
variable {X : Cx} {o i e value : Expr} {pos pos' tpos : Pos} {td ty tv : TE}
end
section
variable {X : Cx} {o e f : Expr} {apos cpos : Pos} {td ty tx : TE}
end
end L2
set_option Elab.async false
set_option linter.all false
set_option maxRecDepth 100000
set_option maxHeartbeats 4000000
namespace PySem
open Sem (wp)
end PySem
set_option Elab.async false
set_option linter.all false
set_option maxRecDepth 100000
set_option maxHeartbeats 4000000
namespace PySem
open Sem (wp)
section
variable {prog : Program} {w : World} {K : Type} [DecidableEq K] {knd : KeyKind prog w K} {A : Around} {R : Result → Shared → Prop} {I : Addr} {fp wr : List Addr} {G : Array GenState → Array GenState → Prop} {n : Nat} {P : Nat → Value → Prop} {St : Nat → Shared → Prop}
end
section
variable {prog : Program} {w : World} {K : Type} [DecidableEq K] {knd : KeyKind prog w K} {A : Around} {E : Value → Shared → Prop} {s : Shared}
end
end PySem
set_option Elab.async false
set_option linter.all false
set_option maxRecDepth 100000
set_option maxHeartbeats 4000000
namespace PySem
open Sem (wp)
section
variable {prog : Program} {w : World} {K : Type} [DecidableEq K] {knd : KeyKind prog w K} {A : Around} {E : Value → Shared → Prop} {s : Shared}
end
end PySem
set_option Elab.async false
set_option linter.all false
set_option maxRecDepth 100000
set_option maxHeartbeats 1000000
namespace L2
open PySem PySem.Spec PyProof.Rows
def keyD : D → Option Key
  | .int i => some (.inl i)
  | .str x => some (.inr x)
  | _ => none
theorem keyD_rep {K : PySem.W.Frag} {G : Hp} {v : V} {d : D} {k : Key} (r : Rep K G v d) (h : keyD d = some k) : v = kV k := by
  cases d <;> simp only [keyD, Option.some.injEq, reduceCtorEq] at h <;> subst h <;> simp only [Rep] at r <;> subst r <;> rfl
def look (kvs : List (Key × D)) (k : Key) : Option D := (kvs.find? fun kv => decide (kv.1 = k)).map (·.2)
def putM (kvs : List (Key × D)) (k : Key) (d : D) : List (Key × D) :=
  if (kvs.any fun kv => decide (kv.1 = k)) = true then kvs.map (fun kv => if kv.1 = k then (kv.1, d) else kv) else kvs ++ [(k, d)]
section
variable {K : PySem.W.Frag} {G : Hp}
theorem RepK.length : ∀ {ks : List (Key × V)} {kvs : List (Key × D)}, RepK K G ks kvs → ks.length = kvs.length
  | [], [], _ => rfl
  | a :: ks, b :: kvs, h => by
    simp only [RepK] at h
    simp only [List.length_cons, RepK.length h.2]
  | [], _ :: _, h => by simp only [RepK] at h
  | _ :: _, [], h => by simp only [RepK] at h
theorem RepK.nil : RepK K G [] [] := by simp only [RepK]
theorem RepK.any (k : Key) : ∀ {ks : List (Key × V)} {kvs : List (Key × D)}, RepK K G ks kvs → (ks.any fun kv => decide (kv.1 = k)) = kvs.any fun kv => decide (kv.1 = k)
  | [], [], _ => rfl
  | a :: ks, b :: kvs, h => by
    simp only [RepK] at h
    rw [List.any_cons, List.any_cons, h.1.1, RepK.any k h.2]
  | [], _ :: _, h => by simp only [RepK] at h
  | _ :: _, [], h => by simp only [RepK] at h
theorem RepK.snoc {k : Key} {v : V} {d : D} (r : Rep K G v d) : ∀ {ks : List (Key × V)} {kvs : List (Key × D)}, RepK K G ks kvs → RepK K G (ks ++ [(k, v)]) (kvs ++ [(k, d)])
  | [], [], _ => by simp only [List.nil_append, RepK]; exact ⟨⟨trivial, r⟩, trivial⟩
  | a :: ks, b :: kvs, h => by
    simp only [RepK] at h
    simp only [List.cons_append, RepK]
    exact ⟨h.1, RepK.snoc r h.2⟩
  | [], _ :: _, h => by simp only [RepK] at h
  | _ :: _, [], h => by simp only [RepK] at h
theorem RepK.repl {k : Key} {v : V} {d : D} (r : Rep K G v d) : ∀ {ks : List (Key × V)} {kvs : List (Key × D)}, RepK K G ks kvs → RepK K G (ks.map fun kv => if kv.1 = k then (kv.1, v) else kv) (kvs.map fun kv => if kv.1 = k then (kv.1, d) else kv)
  | [], [], _ => by simp only [List.map_nil, RepK]
  | a :: ks, b :: kvs, h => by
    simp only [RepK] at h
    simp only [List.map_cons, RepK]
    refine ⟨?_, RepK.repl r h.2⟩
    rw [h.1.1]
    split
    · exact ⟨rfl, r⟩
    · exact ⟨h.1.1, h.1.2⟩
  | [], _ :: _, h => by simp only [RepK] at h
  | _ :: _, [], h => by simp only [RepK] at h
theorem RepK.put {ks : List (Key × V)} {kvs : List (Key × D)} {k : Key} {v : V} {d : D} (h : RepK K G ks kvs) (r : Rep K G v d) : RepK K G (putK ks k v) (putM kvs k d) := by
  unfold putK putM
  rw [h.any k]
  split
  · exact h.repl r
  · exact h.snoc r
theorem RepK.look {k : Key} {d : D} : ∀ {ks : List (Key × V)} {kvs : List (Key × D)}, RepK K G ks kvs → look kvs k = some d → ∃ v, valV ks k = some v ∧ Rep K G v d
  | [], [], _, e => by simp [L2.look] at e
  | a :: ks, b :: kvs, h, e => by
    simp only [RepK] at h
    unfold L2.look at e
    unfold valV
    rw [List.find?_cons] at e ⊢
    rw [h.1.1]
    by_cases hk : b.1 = k
    · simp only [hk, decide_true, Option.map_some, Option.some.injEq] at e ⊢
      subst e
      exact ⟨_, rfl, h.1.2⟩
    · simp only [hk, decide_false] at e ⊢
      exact RepK.look h.2 e
  | [], _ :: _, h, _ => by simp only [RepK] at h
  | _ :: _, [], h, _ => by simp only [RepK] at h
theorem RepK.isSome (k : Key) : ∀ {ks : List (Key × V)} {kvs : List (Key × D)}, RepK K G ks kvs → (valV ks k).isSome = (L2.look kvs k).isSome
  | [], [], _ => rfl
  | a :: ks, b :: kvs, h => by
    simp only [RepK] at h
    unfold L2.look valV
    rw [List.find?_cons, List.find?_cons, h.1.1]
    by_cases hk : b.1 = k
    · simp only [hk, decide_true, Option.map_some, Option.isSome_some]
    · simp only [hk, decide_false]
      exact RepK.isSome k h.2
  | [], _ :: _, h => by simp only [RepK] at h
  | _ :: _, [], h => by simp only [RepK] at h
end
section
variable {X : Cx} {pos : Pos} {e i' : Expr} {te ti tv : TD}
def xRetV (i : Nat) : TX := fun D ρ => match gt ρ i with
  | .ov o => D.rt (.ov o)
  | _ => False
theorem px_retV (i : Nat) {x : Str} {p' : Pos} (hN : X.N[i]? = some x := by rfl) (hv : Vis X.env.scope x := by first | exact Or.inl rfl | exact Or.inr (Or.inl rfl) | exact Or.inr (Or.inr rfl)) (hd : (x == ("__debug__" : Str)) = false := by decide)
    (hcd : (x == ("__classdict__" : Str)) = false := by decide) : PX X (.Return (some (.Name x p')) pos) (xRetV i) := by
  refine ⟨_, ps_ret (pe_var hN hv hd hcd), fun ρ σ G0 H0 G H D E k h g => ?_⟩
  unfold xRetV at h
  split at h
  · rename_i o hg
    obtain ⟨own, o1, o2⟩ := k.on
    obtain ⟨a, fp, b1, b2, b3, b4⟩ := o2 i _ hg
    exact ⟨_, b1, g.rt _ H (.ov o) G k.e ⟨a, fp, rfl, b2, b3, fun q hq => ⟨(b4 q hq).2.1, (b4 q hq).1⟩⟩ h⟩
  · exact h.elim
end
end L2
set_option Elab.async false
set_option linter.all false
set_option maxRecDepth 100000
set_option maxHeartbeats 1000000
namespace L2
open PySem PySem.Spec PyProof.Rows
section
variable {K : PySem.W.Frag} {G H : Hp}
theorem RepL.length : ∀ {qs : List Addr} {dss : List (List D)}, RepL K G H qs dss → qs.length = dss.length
  | [], [], _ => rfl
  | q :: qs, ds :: dss, h => by
    simp only [RepL] at h
    simp only [List.length_cons, RepL.length h.2]
  | [], _ :: _, h => by simp only [RepL] at h
  | _ :: _, [], h => by simp only [RepL] at h
theorem RepL.snoc {p : Addr} {ds : List D} {zs : List V} : ∀ {qs : List Addr} {dss : List (List D)}, RepL K G H qs dss → H p = some (.lst zs) → Reps K G zs ds → RepL K G H (qs ++ [p]) (dss ++ [ds])
  | [], [], _, h1, h2 => by simp only [List.nil_append, RepL]; exact ⟨⟨zs, h1, h2⟩, trivial⟩
  | q :: qs, es :: dss, h, h1, h2 => by
    simp only [RepL] at h
    simp only [List.cons_append, RepL]
    exact ⟨h.1, RepL.snoc h.2 h1 h2⟩
  | [], _ :: _, h, _, _ => by simp only [RepL] at h
  | _ :: _, [], h, _, _ => by simp only [RepL] at h
theorem RepL.get : ∀ {qs : List Addr} {dss : List (List D)} {j : Nat} {ds : List D}, RepL K G H qs dss → dss[j]? = some ds → ∃ q xs, qs[j]? = some q ∧ H q = some (.lst xs) ∧ Reps K G xs ds
  | [], [], j, ds, _, e => by simp at e
  | q :: qs, es :: dss, 0, ds, h, e => by
    simp only [RepL] at h
    simp only [List.getElem?_cons_zero, Option.some.injEq] at e
    subst e
    obtain ⟨⟨xs, h1, h2⟩, _⟩ := h
    exact ⟨q, xs, rfl, h1, h2⟩
  | q :: qs, es :: dss, j + 1, ds, h, e => by
    simp only [RepL] at h
    simp only [List.getElem?_cons_succ] at e ⊢
    exact RepL.get h.2 e
  | [], _ :: _, _, _, h, _ => by simp only [RepL] at h
  | _ :: _, [], _, _, h, _ => by simp only [RepL] at h
theorem RepL.set {q : Addr} {ys : List V} {es : List D} (hy : Reps K G ys es) : ∀ {qs : List Addr} {dss : List (List D)} {j : Nat}, RepL K G H qs dss → qs.Nodup → qs[j]? = some q → RepL K G (upd H q (.lst ys)) qs (dss.set j es)
  | [], [], j, _, _, e => by simp at e
  | r :: qs, ds :: dss, 0, h, nd, e => by
    simp only [RepL] at h
    simp only [List.getElem?_cons_zero, Option.some.injEq] at e
    subst e
    simp only [List.set_cons_zero, RepL]
    refine ⟨⟨ys, upd_same, hy⟩, h.2.mono (Same.refl _) fun p hp xs e => ?_⟩
    rw [upd_ne (fun z : p = r => (List.nodup_cons.mp nd).1 (z ▸ hp))]
    exact e
  | r :: qs, ds :: dss, j + 1, h, nd, e => by
    simp only [RepL] at h
    simp only [List.getElem?_cons_succ] at e
    simp only [List.set_cons_succ, RepL]
    refine ⟨?_, RepL.set hy h.2 (List.nodup_cons.mp nd).2 e⟩
    obtain ⟨⟨xs, h1, h2⟩, _⟩ := h
    refine ⟨xs, ?_, h2⟩
    rw [upd_ne (fun z : r = q => (List.nodup_cons.mp nd).1 (z ▸ List.mem_of_getElem? e))]
    exact h1
  | [], _ :: _, _, h, _, _ => by simp only [RepL] at h
  | _ :: _, [], _, h, _, _ => by simp only [RepL] at h
end
section
variable {X : Cx} {elt iter tg : Expr} {ifs : List Expr} {scope : Scope} {pos : Pos} {N' : List Str} {m : List (Option Nat)} {wi : TId} {g : TGd} {tc : TDb} {te : TD}
end
section
variable {X : Cx} {pos : Pos} {e i' : Expr} {te ti : TD}
end
end L2
set_option Elab.async false
set_option linter.all false
set_option maxRecDepth 100000
set_option maxHeartbeats 1000000
namespace L2
open PySem PySem.Spec PyProof.Rows
def scalR : R → Bool
  | .fz d => scalD d
  | .ow ds => ds.all scalD
  | .ov (.dc kvs) => kvs.all fun p => scalD p.2
  | _ => false
def dLendW (i : Nat) (te : TD) : TD := fun ρ Q => te (frz i ρ) fun r => scalR r = true ∧ Q r
theorem scal_reps {K : PySem.W.Frag} {G G' : Hp} : ∀ {vs : List V} {ds : List D}, ds.all scalD = true → Reps K G vs ds → Reps K G' vs ds
  | [], [], _, _ => Reps.nil
  | v :: vs, d :: ds, h, r => by
    simp only [Reps] at r
    rw [List.all_cons, Bool.and_eq_true] at h
    exact Reps.cons (scal_rep h.1 r.1) (scal_reps h.2 r.2)
  | [], _ :: _, _, r => by simp only [Reps] at r
  | _ :: _, [], _, r => by simp only [Reps] at r
theorem scal_repK {K : PySem.W.Frag} {G G' : Hp} : ∀ {ks : List (Key × V)} {kvs : List (Key × D)}, (kvs.all fun p => scalD p.2) = true → RepK K G ks kvs → RepK K G' ks kvs
  | [], [], _, _ => RepK.nil
  | v :: vs, d :: ds, h, r => by
    simp only [RepK] at r ⊢
    rw [List.all_cons, Bool.and_eq_true] at h
    exact ⟨⟨r.1.1, scal_rep h.1 r.1.2⟩, scal_repK h.2 r.2⟩
  | [], _ :: _, _, r => by simp only [RepK] at r
  | _ :: _, [], _, r => by simp only [RepK] at r
theorem lend_rd {K : PySem.W.Frag} {te : TD} {tt : TE} (i : Nat) (q : Rdg K te tt) : Rdg K (dLendW i te) tt := by
  intro ρ σ G0 H0 G H Q P E h k
  obtain ⟨L, hL, E1, _⟩ := E.freezeL i
  refine q _ σ G0 H0 _ H _ _ E1 h fun v H' r G' x rr hq => ?_
  have x2 := lend_ext hL x
  refine k v H' r (less G' L) x2 ?_ hq.2
  have hs := hq.1
  cases r with
  | fz d => exact scal_rep hs rr
  | ow ds =>
    obtain ⟨p, xs, rfl, c1, c2, c3, c4⟩ := rr
    refine ⟨p, xs, rfl, c1, ?_, c3, scal_reps hs c4⟩
    unfold less
    split
    · rfl
    · exact c2
  | ov o =>
    cases o with
    | dc kvs =>
      obtain ⟨p, fp, rfl, c1, ⟨rfl, ks, ep, c2, c3⟩, c4⟩ := rr
      refine ⟨p, [], rfl, c1, ⟨rfl, ks, ep, c2, scal_repK hs c3⟩, fun q hq => ⟨(c4 q hq).1, ?_⟩⟩
      unfold less
      split
      · rfl
      · exact (c4 q hq).2
    | ll => cases hs
    | dl => cases hs
    | tl => cases hs
    | ld => cases hs
    | dt => cases hs
    | tp => cases hs
section
variable {X : Cx} {pos : Pos} {e i' : Expr} {te ti : TD}
end
section
variable {X : Cx} {elt iter tg : Expr} {ifs : List Expr} {scope : Scope} {pos : Pos} {N' : List Str} {m : List (Option Nat)} {wi : TId} {g : TGd} {tc : TDb} {te : TD}
theorem px_setCW (j i : Nat) {x : Str} {pos' posS : Pos} (hc : X.calm = true) (cs : CompScope X N' m scope) (hk : Keeps2 m g) (hi : PId X tg iter wi) (hg : ∀ s3 H3 ex, PGd (cxC X N' scope s3 H3 ex) tg g) (ht : ∀ s3 H3 ex, PTd (cxC X N' scope s3 H3 ex) ifs tc)
    (he : ∀ s3 H3 ex, PD (cxC X N' scope s3 H3 ex) elt te) (hN : X.N.Nodup := by assumption) (hix : X.N[i]? = some x := by rfl) (hx : Loc X.env.scope x := by first | exact Or.inl rfl | exact Or.inr rfl) (hs : ∀ x, foldedSetIterable iter X.env x = pure x := by intro _; rfl)
    (hsw : swapsWith (.ListComp elt [⟨tg, iter, ifs, 0⟩] scope pos) (some (.Name x pos')) posS.line X.env = pure true := by rfl)
    (hf : X.fn x = true ∨ X.env.scope.names.lookup x = some .local := by first | exact .inl rfl | exact .inr rfl | assumption) :
    PX X (.Assign [.Name x pos'] (.ListComp elt [⟨tg, iter, ifs, 0⟩] scope pos) posS) (xSet i (dLendW j (dComp wi m g tc te))) := by
  obtain ⟨ww, p1, q1⟩ := hi
  refine ⟨_, ps_setC (g := fun s3 H3 ex => (hg s3 H3 ex).choose) (tc := fun s3 H3 ex => (ht s3 H3 ex).choose) (te := fun s3 H3 ex => (he s3 H3 ex).choose) hN hix hx hc cs p1 (fun s3 H3 ex => (hg s3 H3 ex).choose_spec.1) (fun s3 H3 ex => (ht s3 H3 ex).choose_spec.1) (fun s3 H3 ex => (he s3 H3 ex).choose_spec.1) hs hsw hf, fun ρ σ G0 H0 G H D E k h gg => ?_⟩
  exact lend_rd j (comp_rd cs hk q1 (fun s3 H3 ex => (hg s3 H3 ex).choose_spec.2) (fun s3 H3 ex => (ht s3 H3 ex).choose_spec.2) (fun s3 H3 ex => (he s3 H3 ex).choose_spec.2)) ρ σ G0 H0 G H _ _ k h fun v H' r G' x rr hq => gg.nx _ _ G' H' x.g (k.put x rr) hq
end
section
variable {X : Cx} {pos : Pos} {e i' : Expr} {te ti : TD}
end
end L2
set_option Elab.async false
set_option linter.all false
set_option maxRecDepth 100000
set_option maxHeartbeats 1000000
namespace L2
open PySem PySem.Spec PyProof.Rows
section
variable {X : Cx} {pos : Pos} {e i' : Expr} {te ti : TD}
def pairsOf : List D → Option (List (Key × D))
  | [] => some []
  | .tup [k, v] :: r => match keyD k with
    | some key => (pairsOf r).map ((key, v) :: ·)
    | none => none
  | _ => none
def PairsV (K : PySem.W.Frag) (H : Hp) : List V → List (Key × V) → Prop
  | [], [] => True
  | y :: ys, p :: ps => (∃ b, y = .ref b ∧ SqT K H b [kV p.1, p.2]) ∧ PairsV K H ys ps
  | _, _ => False
theorem PairsV.at {K : PySem.W.Frag} {H : Hp} : ∀ {ys : List V} {ps : List (Key × V)} {i : Nat} {y : V}, PairsV K H ys ps → ys[i]? = some y → ∃ k v b, ps[i]? = some (k, v) ∧ y = .ref b ∧ SqT K H b [kV k, v]
  | [], [], i, y, _, e => by simp at e
  | y :: ys, p :: ps, 0, z, h, e => by
    simp only [PairsV] at h
    simp only [List.getElem?_cons_zero, Option.some.injEq] at e
    subst e
    obtain ⟨⟨b, h1, h2⟩, _⟩ := h
    exact ⟨p.1, p.2, b, rfl, h1, h2⟩
  | y :: ys, p :: ps, i + 1, z, h, e => by
    simp only [PairsV] at h
    simp only [List.getElem?_cons_succ] at e ⊢
    exact PairsV.at h.2 e
  | [], _ :: _, _, _, h, _ => by simp only [PairsV] at h
  | _ :: _, [], _, _, h, _ => by simp only [PairsV] at h
theorem PairsV.length {K : PySem.W.Frag} {H : Hp} : ∀ {ys : List V} {ps : List (Key × V)}, PairsV K H ys ps → ys.length = ps.length
  | [], [], _ => rfl
  | y :: ys, p :: ps, h => by
    simp only [PairsV] at h
    simp only [List.length_cons, PairsV.length h.2]
  | [], _ :: _, h => by simp only [PairsV] at h
  | _ :: _, [], h => by simp only [PairsV] at h
theorem PairsV.vals {pins : List (Addr × Obj)} {σ : St} {H : Hp} {s : Shared} (I : Inv X pins σ H s) : ∀ {ys : List V} {ps : List (Key × V)} {us : List Value}, PairsV X.K H ys ps → Vals ys us →
    ∃ vs : List (Key × Value), KV ps vs ∧ ∀ (i : Nat) (u : Value), us[i]? = some u → ∃ k y key a, vs[i]? = some (k, y) ∧ u = .ref a ∧ (mixKind X.prog X.w).is k key = true ∧ s.heap.IsTuple a #[key, y]
  | [], [], us, _, r => by
    cases r
    exact ⟨[], by unfold KV; exact .nil, fun i u e => by simp at e⟩
  | y :: ys, p :: ps, us, h, r => by
    simp only [PairsV] at h
    obtain ⟨⟨b, rfl, hb⟩, h2⟩ := h
    cases r with
    | cons r0 rr =>
      rename_i u0 us
      cases (show u0 = Value.ref b from r0)
      obtain ⟨vs, k1, k2⟩ := PairsV.vals I h2 rr
      obtain ⟨its, rv, ht, _⟩ := I.tuple hb
      obtain ⟨w1, w2, rfl, q1, q2⟩ := vals2 rv
      refine ⟨(p.1, w2) :: vs, ?_, fun i u e => ?_⟩
      · unfold KV at k1 ⊢
        exact .cons ⟨rfl, q2⟩ k1
      · cases i with
        | zero =>
          simp only [List.getElem?_cons_zero, Option.some.injEq] at e
          subst e
          exact ⟨p.1, w2, w1, b, rfl, rfl, kV_is q1, by simpa using (show s.heap.IsTuple b [w1, w2].toArray from ht)⟩
        | succ i =>
          simp only [List.getElem?_cons_succ] at e ⊢
          exact k2 i u e
  | [], _ :: _, _, h, _ => by simp only [PairsV] at h
  | _ :: _, [], _, h, _ => by simp only [PairsV] at h
theorem RepK.keys {K : PySem.W.Frag} {G : Hp} : ∀ {ks : List (Key × V)} {kvs : List (Key × D)}, RepK K G ks kvs → ks.map (·.1) = kvs.map (·.1)
  | [], [], _ => rfl
  | a :: ks, b :: kvs, h => by
    simp only [RepK] at h
    simp only [List.map_cons, h.1.1, RepK.keys h.2]
  | [], _ :: _, h => by simp only [RepK] at h
  | _ :: _, [], h => by simp only [RepK] at h
end
end L2
set_option Elab.async false
set_option linter.all false
set_option maxRecDepth 100000
set_option maxHeartbeats 1000000
namespace L2
open PySem PySem.Spec PyProof.Rows
section
variable {X : Cx} {tg : Expr}
end
end L2
set_option Elab.async false
set_option linter.all false
set_option maxRecDepth 100000
set_option maxHeartbeats 1000000
namespace HT
open PySem PyProof.Rows
def lexGt : List Int → List Int → Bool
  | [], [] => false
  | [], _ :: _ => false
  | _ :: _, [] => true
  | x :: xs, y :: ys => if x = y then lexGt xs ys else decide (y < x)
section
open PySem.SeqAt
open PySem.AutoSeq1 (wpAny_loadPart')
open PySem.MeetsSeq PySem.MeetsSeq2 PySem.MeetsSeq3
end
section
variable {prog : Program} {w : World} {A : Around} {E : Value → Shared → Prop} {s : Shared}
end
end HT
set_option Elab.async false
set_option linter.all false
set_option maxRecDepth 100000
set_option maxHeartbeats 1000000
namespace L2
open PySem PySem.Spec PyProof.Rows
section
variable {prog : Program} {w : World} {A : Around} {Rz : Result → Shared → Prop} {I : Addr} {fp wr : List Addr} {n : Nat} {P : Nat → Value → Prop} {St : Nat → Heap → Prop} {Hk : Heap → Prop}
end
section
variable {prog : Program} {w : World} {A : Around} {E : Value → Shared → Prop} {s : Shared}
end
end L2
set_option Elab.async false
set_option linter.all false
set_option maxRecDepth 100000
set_option maxHeartbeats 1000000
namespace HT
theorem lexGt_irr : ∀ t : List Int, lexGt t t = false
  | [] => rfl
  | a :: t => by unfold lexGt; simp [lexGt_irr t]
theorem lexGt_as : ∀ a b : List Int, lexGt a b = true → lexGt b a = false
  | [], [], h => rfl
  | [], _ :: _, h => by unfold lexGt at h; cases h
  | _ :: _, [], h => by unfold lexGt; rfl
  | x :: xs, y :: ys, h => by
    unfold lexGt at h ⊢
    by_cases e : x = y
    · subst e; simp only [if_true] at h ⊢; simpa using lexGt_as xs ys (by simpa using h)
    · have e2 : ¬ y = x := fun x => e x.symm
      simp [e, e2] at h ⊢; omega
theorem lexGt_tr : ∀ a b c : List Int, lexGt a b = false → lexGt b c = false → lexGt a c = false
  | [], [], c, h, h2 => h2
  | [], _ :: _, [], h, h2 => by unfold lexGt; rfl
  | [], _ :: _, _ :: _, h, h2 => by unfold lexGt; rfl
  | _ :: _, [], _, h, _ => by unfold lexGt at h; cases h
  | x :: xs, y :: ys, [], h, h2 => by unfold lexGt at h2; cases h2
  | x :: xs, y :: ys, z :: zs, h, h2 => by
    unfold lexGt at h h2 ⊢
    have ih := lexGt_tr xs ys zs
    by_cases e : x = y
    · subst e
      by_cases e2 : x = z
      · subst e2; simp at h h2 ⊢; exact ih h h2
      · simp [e2] at h h2 ⊢; omega
    · by_cases e2 : y = z
      · subst e2; simp [e] at h h2 ⊢; omega
      · simp [e, e2] at h h2
        have e3 : ¬ x = z := by omega
        simp [e3]; omega
end HT
namespace L2
open PySem PySem.Spec PyProof.Rows
section
variable {X : Cx} {pos p kp : Pos} {e e2 : Expr} {te te2 : TD}
def itups : List D → Option (List (List Int))
  | [] => some []
  | .tup es :: r => match intsOf es, itups r with
    | some a, some b => some (a :: b)
    | _, _ => none
  | _ => none
theorem itups_at {K : PySem.W.Frag} {G : Hp} : ∀ {es : List D} {tss : List (List Int)} {vs : List V}, itups es = some tss → Reps K G vs es → vs.length = tss.length ∧ ∀ (i : Nat) x t, vs[i]? = some x → tss[i]? = some t → Rep K G x (.tup (t.map D.int)) ∧ ∃ b, x = .ref b ∧ SqT K G b (t.map V.int)
  | [], tss, [], h, _ => by simp only [itups, Option.some.injEq] at h; subst h; exact ⟨rfl, fun i x t e => by simp at e⟩
  | .tup es :: r, tss, v :: vs, h, rs => by
    simp only [Reps] at rs
    simp only [itups] at h
    split at h
    · rename_i a b ha hb
      simp only [Option.some.injEq] at h
      subst h
      obtain ⟨h1, h2⟩ := itups_at hb rs.2
      refine ⟨by simp [h1], fun i x t e1 e2 => ?_⟩
      cases i with
      | zero =>
        simp only [List.getElem?_cons_zero, Option.some.injEq] at e1 e2
        subst e1 e2
        have r1 := rs.1
        rw [intsOf_get ha] at r1
        refine ⟨r1, ?_⟩
        simp only [Rep] at r1
        obtain ⟨p, xs, rfl, q1, q2⟩ := r1
        rw [reps_int q2] at q1
        exact ⟨p, rfl, q1⟩
      | succ i =>
        simp only [List.getElem?_cons_succ] at e1 e2
        exact h2 i x t e1 e2
    · cases h
  | [], _, _ :: _, _, rs => by simp only [Reps] at rs
  | _ :: _, _, [], _, rs => by simp only [Reps] at rs
  | .int _ :: _, _, _ :: _, h, _ => by simp [itups] at h
  | .str _ :: _, _, _ :: _, h, _ => by simp [itups] at h
  | .lst _ :: _, _, _ :: _, h, _ => by simp [itups] at h
  | .non :: _, _, _ :: _, h, _ => by simp [itups] at h
  | .bl _ :: _, _, _ :: _, h, _ => by simp [itups] at h
  | .obj _ _ :: _, _, _ :: _, h, _ => by simp [itups] at h
  | .dic _ :: _, _, _ :: _, h, _ => by simp [itups] at h
  | .dit _ :: _, _, _ :: _, h, _ => by simp [itups] at h
end
end L2
set_option Elab.async false
set_option linter.all false
set_option maxRecDepth 100000
set_option maxHeartbeats 1000000
namespace L2
open PySem PySem.Spec PyProof.Rows
section
variable {X : Cx} {pos : Pos} {e : Expr} {te : TD}
end
end L2
set_option Elab.async false
set_option linter.all false
set_option maxRecDepth 100000
set_option maxHeartbeats 1000000
namespace L2
open PySem PySem.Spec PyProof.Rows
section
variable {X : Cx} {pos : Pos} {e : Expr} {te : TD}
end
end L2
set_option Elab.async false
set_option linter.all false
set_option maxRecDepth 100000
set_option maxHeartbeats 1000000
namespace Ts
open PySem PyProof.Rows
variable {M : Model} {A : Around} {E : Value → Shared → Prop} {s : Shared}
structure Rk (M : Model) (A : Around) (E : Value → Shared → Prop) (s : Shared) (κ : SortKind) (ok : Keyed → Prop) (rk : Keyed → Int) : Prop where
  lt : ∀ x y (st : SortSt) (Q : Option Bool → SortSt → Prop), ok x → ok y → kindOf st = κ → Q (some (decide (rk x < rk y))) st → wpS M A E s (lt' x y) Q st
theorem wpS_elem {arr : Array Keyed} {i : Nat} {Q : Keyed → SortSt → Prop} {st : SortSt} (h : i < arr.size) (q : Q arr[i] st) : wpS M A E s (elem' arr i) Q st := by
  rw [elem'_eq, Array.getElem?_eq_getElem h]
  exact wpS_pure q
def Cut (b : Nat → Bool) (n k : Nat) : Prop := k ≤ n ∧ ∀ i, i < n → (b i = true ↔ i < k)
end Ts
set_option Elab.async false
set_option linter.all false
set_option maxRecDepth 100000
set_option maxHeartbeats 1000000
namespace Ts
open PySem PyProof.Rows
variable {α : Type} (rk : α → Int)
structure MI (a b out : List α) (ia ib : Nat) : Prop where
  la : ia ≤ a.length
  lb : ib ≤ b.length
  pm : out.Perm (a.take ia ++ b.take ib)
  so : out.Pairwise fun x y => rk x ≤ rk y
  ga : ∀ x ∈ out, ∀ y ∈ a.drop ia, rk x ≤ rk y
  gb : ∀ x ∈ out, ∀ y ∈ b.drop ib, rk x ≤ rk y
variable {rk}
theorem MI.len {a b out : List α} {ia ib : Nat} (h : MI rk a b out ia ib) : out.length = ia + ib := by
  have := h.pm.length_eq
  rw [List.length_append, List.length_take, List.length_take] at this
  have := h.la
  have := h.lb
  omega
theorem MI.swap {a b out : List α} {ia ib : Nat} (h : MI rk a b out ia ib) : MI rk b a out ib ia := ⟨h.lb, h.la, h.pm.trans List.perm_append_comm, h.so, h.gb, h.ga⟩
end Ts
set_option Elab.async false
set_option linter.all false
set_option maxRecDepth 100000
set_option maxHeartbeats 1000000
namespace Ts
open PySem PyProof.Rows
variable {M : Model} {A : Around} {E : Value → Shared → Prop} {s : Shared}
theorem wpS_rule {x : String} {Q : Unit → SortSt → Prop} {st : SortSt} (q : Q () st) : wpS M A E s (liftM (rule x) : StateT SortSt Sem Unit) Q st := wpS_lift (wpAny_rule ⟨rfl, q⟩)
def Srt (rk : Keyed → Int) (l : List Keyed) : Prop := l.Pairwise fun x y => rk x ≤ rk y
section
variable {rk : Keyed → Int} {a b out : Array Keyed} {ia ib : Nat}
end
theorem cut_of (p : Nat → Bool) : ∀ n, (∀ i j, i ≤ j → j < n → p j = true → p i = true) → ∃ k, Cut p n k
  | 0, _ => ⟨0, Nat.le_refl _, fun i hi => absurd hi (Nat.not_lt_zero i)⟩
  | n + 1, h => by
    obtain ⟨k, k1, k2⟩ := cut_of p n fun i j hij hj => h i j hij (by omega)
    cases hp : p n with
    | true =>
      refine ⟨n + 1, Nat.le_refl _, fun i hi => ⟨fun _ => hi, fun _ => ?_⟩⟩
      exact h i n (by omega) (by omega) hp
    | false =>
      refine ⟨k, by omega, fun i hi => ?_⟩
      by_cases e : i = n
      · subst e
        rw [hp]
        exact ⟨fun z => (by cases z), fun z => by omega⟩
      · exact k2 i (by omega)
abbrev dk : Keyed := (Value.none, Value.none)
theorem getD_at {a : Array Keyed} {i : Nat} (h : i < a.size) : a.getD i dk = a[i] := by simp [Array.getD, h]
end Ts
set_option Elab.async false
set_option linter.all false
set_option maxRecDepth 100000
set_option maxHeartbeats 1000000
namespace Ts
open PySem PyProof.Rows
section
variable {α : Type} (rk : α → Int)
structure MH (a b out : List α) (na nb : Nat) : Prop where
  la : na ≤ a.length
  lb : nb ≤ b.length
  pm : out.reverse.Perm (a.drop na ++ b.drop nb)
  so : out.reverse.Pairwise fun x y => rk x ≤ rk y
  ga : ∀ y ∈ a.take na, ∀ x ∈ out, rk y ≤ rk x
  gb : ∀ y ∈ b.take nb, ∀ x ∈ out, rk y ≤ rk x
variable {rk}
theorem MH.len {a b out : List α} {na nb : Nat} (h : MH rk a b out na nb) : out.length + na + nb = a.length + b.length := by
  have := h.pm.length_eq
  rw [List.length_append, List.length_drop, List.length_drop, List.length_reverse] at this
  have := h.la
  have := h.lb
  omega
theorem MH.swap {a b out : List α} {na nb : Nat} (h : MH rk a b out na nb) : MH rk b a out nb na := ⟨h.lb, h.la, h.pm.trans List.perm_append_comm, h.so, h.gb, h.ga⟩
end
section
variable {rk : Keyed → Int} {a b out : Array Keyed} {na nb : Nat}
end
end Ts
set_option Elab.async false
set_option linter.all false
set_option maxRecDepth 100000
set_option maxHeartbeats 1000000
namespace Ts
open PySem PyProof.Rows
variable {M : Model} {A : Around} {E : Value → Shared → Prop} {s : Shared}
end Ts
set_option Elab.async false
set_option linter.all false
set_option maxRecDepth 100000
set_option maxHeartbeats 1000000
namespace Ts
open PySem PyProof.Rows
variable {M : Model} {A : Around} {E : Value → Shared → Prop} {s : Shared}
end Ts
set_option Elab.async false
set_option linter.all false
set_option maxRecDepth 100000
set_option maxHeartbeats 1000000
namespace Ts
open PySem PyProof.Rows
def kr (rk : Keyed → Int) (xs : Array Keyed) (i : Nat) : Int := rk (xs.getD i dk)
def SrtI (rk : Keyed → Int) (xs : Array Keyed) (lo n : Nat) : Prop := ∀ i j, i ≤ j → j < n → kr rk xs (lo + i) ≤ kr rk xs (lo + j)
structure Sl (xs ys : Array Keyed) (lo n : Nat) : Prop where
  pm : ys.Perm xs
  out : ∀ j, j < lo ∨ lo + n ≤ j → ys[j]? = xs[j]?
theorem Sl.size {xs ys : Array Keyed} {lo n : Nat} (h : Sl xs ys lo n) : ys.size = xs.size := h.pm.size_eq
theorem Sl.refl (xs : Array Keyed) (lo n : Nat) : Sl xs xs lo n := ⟨Array.Perm.refl _, fun _ _ => rfl⟩
theorem Sl.trans {xs ys zs : Array Keyed} {lo n : Nat} (h : Sl xs ys lo n) (h' : Sl ys zs lo n) : Sl xs zs lo n := ⟨h'.pm.trans h.pm, fun j hj => (h'.out j hj).trans (h.out j hj)⟩
theorem kr_congr {rk : Keyed → Int} {xs ys : Array Keyed} {i j : Nat} (h : ys[i]? = xs[j]?) : kr rk ys i = kr rk xs j := by
  unfold kr
  rw [Array.getD_eq_getD_getElem?, Array.getD_eq_getD_getElem?, h]
variable {M : Model} {A : Around} {E : Value → Shared → Prop} {s : Shared}
theorem wpS_ltAtR {κ : SortKind} {ok : Keyed → Prop} {rk : Keyed → Int} (R : Rk M A E s κ ok rk) {i j : Nat} {Q : Option Bool → SortSt → Prop} {st : SortSt} (hk : kindOf st = κ) (oa : ∀ x ∈ arrOf st, ok x) (hi : i < (arrOf st).size) (hj : j < (arrOf st).size)
    (q : Q (some (decide (kr rk (arrOf st) i < kr rk (arrOf st) j))) st) : wpS M A E s (ltAt' i j) Q st := by
  rw [ltAt'_eq]
  refine wpS_bind (wpS_get (wpS_bind (wpS_elem hi (wpS_bind (wpS_elem hj ?_)))))
  refine R.lt _ _ _ _ (oa _ (Array.getElem_mem _)) (oa _ (Array.getElem_mem _)) hk ?_
  unfold kr at q
  rwa [getD_at hi, getD_at hj] at q
theorem Sl.ok {xs ys : Array Keyed} {lo n : Nat} (h : Sl xs ys lo n) {ok : Keyed → Prop} (oa : ∀ x ∈ xs, ok x) : ∀ x ∈ ys, ok x := fun x hx => oa x (h.pm.mem_iff.mp hx)
theorem wpS_binary {κ : SortKind} {ok : Keyed → Prop} {rk : Keyed → Int} (R : Rk M A E s κ ok rk) {lo n k0 : Nat} {Q : Bool → SortSt → Prop} {st : SortSt} (hk : kindOf st = κ) (oa : ∀ x ∈ arrOf st, ok x) (hn : lo + n ≤ (arrOf st).size) (hs : SrtI rk (arrOf st) lo k0) (hkn : k0 ≤ n)
    (q : ∀ ys, Sl (arrOf st) ys lo n → SrtI rk ys lo n → Q true (setArr st ys)) : wpS M A E s (binarySort' lo n k0) Q st := by
  rw [binarySort'_eq]
  refine wpS_bind (wpS_mono (wpS_forRange (I := fun k (c : Option Bool × Unit) st' => c.1 = none ∧ ∃ ys, st' = setArr st ys ∧ Sl (arrOf st) ys lo n ∧ SrtI rk ys lo (min k n))
    (Q := fun c st' => c.1 = none ∧ ∃ ys, st' = setArr st ys ∧ Sl (arrOf st) ys lo n ∧ SrtI rk ys lo n) ?step ?fin ?init) ?post)
  case post =>
    rintro ⟨c, ⟨⟩⟩ st' ⟨hc, ys, rfl, h1, h2⟩
    dsimp only at hc
    subst hc
    exact wpS_pure (q ys h1 h2)
  case init =>
    refine ⟨rfl, arrOf st, rfl, Sl.refl _ _ _, fun i j hij hj => ?_⟩
    by_cases h1 : k0 = 0
    · have : i = j := by omega
      subst this; exact Int.le_refl _
    · exact hs i j hij (by omega)
  case fin =>
    rintro c st' ⟨hc, ys, rfl, h1, h2⟩
    exact ⟨hc, ys, rfl, h1, by rwa [show min (max (max k0 1) n) n = n by omega] at h2⟩
  case step =>
    rintro k ⟨c, ⟨⟩⟩ st' hk1 hk2 ⟨hc, ys, rfl, h1, h2⟩
    dsimp only at hc ⊢
    subst hc
    rw [show min k n = k by omega] at h2
    have hsz := h1.size
    have oy := h1.ok oa
    obtain ⟨p, cp⟩ : ∃ p, Cut (fun m => !decide (kr rk ys (lo + k) < kr rk ys (lo + m))) k p := by
      refine cut_of _ _ fun i j hij hj h => ?_
      have := h2 i j hij hj
      simp only [Bool.not_eq_true', decide_eq_false_iff_not] at h ⊢
      omega
    have cpn := cp.1
    refine wpS_bind (wpS_mono (wpS_forRange (I := fun j (c : Option Bool × Nat × Nat) st' => st' = setArr st ys ∧ c.1 = none ∧ c.2.1 ≤ p ∧ p ≤ c.2.2 ∧ c.2.2 ≤ k ∧ c.2.2 - c.2.1 + j ≤ k)
      (Q := fun (c : Option Bool × Nat × Nat) st' => st' = setArr st ys ∧ c.1 = none ∧ c.2.1 = p) ?_ ?_ ⟨rfl, rfl, Nat.zero_le _, cpn, Nat.le_refl _, by show k - 0 + 0 ≤ k; omega⟩) ?_)
    · rintro j ⟨c, l, r⟩ st' _ hj ⟨rfl, hc, e1, e2, e3, e4⟩
      dsimp only at hc e1 e2 e3 e4 ⊢
      subst hc
      by_cases hd : l ≥ r
      · rw [if_pos hd]
        exact wpS_pure ⟨rfl, rfl, by dsimp only; omega⟩
      · rw [if_neg hd]
        refine wpS_bind (wpS_ltAtR R hk oy (show lo + k < ys.size by omega) (show lo + (l + r) / 2 < ys.size by omega) ?_)
        have hm := cp.2 ((l + r) / 2) (by omega)
        simp only [Bool.not_eq_true', decide_eq_false_iff_not] at hm
        dsimp only
        by_cases hlt : kr rk ys (lo + k) < kr rk ys (lo + (l + r) / 2)
        · have : ¬ (l + r) / 2 < p := fun z => hm.mpr z hlt
          rw [show decide (kr rk (arrOf (setArr st ys)) (lo + k) < kr rk (arrOf (setArr st ys)) (lo + (l + r) / 2)) = true from decide_eq_true hlt]
          simp only [if_true]
          exact wpS_pure ⟨rfl, rfl, e1, by dsimp only; omega, by dsimp only; omega, by dsimp only; omega⟩
        · have : (l + r) / 2 < p := hm.mp hlt
          rw [show decide (kr rk (arrOf (setArr st ys)) (lo + k) < kr rk (arrOf (setArr st ys)) (lo + (l + r) / 2)) = false from decide_eq_false hlt]
          simp only [Bool.false_eq_true, if_false]
          exact wpS_pure ⟨rfl, rfl, by dsimp only; omega, e2, e3, by dsimp only; omega⟩
    · rintro ⟨c, l, r⟩ st' ⟨rfl, hc, e1, e2, e3, e4⟩
      dsimp only at hc e1 e2 e3 e4 ⊢
      exact ⟨rfl, hc, by rw [Nat.max_eq_right (Nat.zero_le k)] at e4; omega⟩
    · rintro ⟨c, l, r⟩ st' ⟨rfl, hc, e1⟩
      dsimp only at hc e1 ⊢
      subst hc e1
      dsimp only
      rw [moveDown'_eq]
      refine wpS_bind (wpS_modify (wpS_pure ⟨rfl, bubble ys (lo + k) (lo + k - (lo + l)), rfl, h1.trans ⟨bubble_perm _ _ _, fun j hj => ?_⟩, ?_⟩))
      · rw [getElem?_bubble (by omega) _ (by omega), if_neg (by omega), if_neg (by omega)]
      · rw [show min (k + 1) n = k + 1 by omega]
        have kb : ∀ j, kr rk (bubble ys (lo + k) (lo + k - (lo + l))) (lo + j) = if j = l then kr rk ys (lo + k) else if l < j ∧ j ≤ k then kr rk ys (lo + (j - 1)) else kr rk ys (lo + j) := fun j => by
          have e := getElem?_bubble (xs := ys) (src := lo + k) (by omega) (lo + k - (lo + l)) (by omega) (lo + j)
          by_cases c1 : j = l
          · rw [if_pos (by omega)] at e
            rw [if_pos c1]
            exact kr_congr e
          · rw [if_neg (by omega)] at e
            rw [if_neg c1]
            by_cases c2 : l < j ∧ j ≤ k
            · rw [if_pos (by omega), show lo + j - 1 = lo + (j - 1) by omega] at e
              rw [if_pos c2]
              exact kr_congr e
            · rw [if_neg (by omega)] at e
              rw [if_neg c2]
              exact kr_congr e
        have below : ∀ m, m < l → kr rk ys (lo + m) ≤ kr rk ys (lo + k) := fun m hm => by
          have := (cp.2 m (by omega)).mpr hm
          simp only [Bool.not_eq_true', decide_eq_false_iff_not] at this
          omega
        have above : ∀ m, l ≤ m → m < k → kr rk ys (lo + k) ≤ kr rk ys (lo + m) := fun m hm hmk => by
          have := mt (cp.2 m hmk).mp (by omega)
          simp only [Bool.not_eq_true', decide_eq_false_iff_not] at this
          omega
        intro i j hij hj
        rw [kb, kb]
        by_cases a1 : i = l
        · rw [if_pos a1]
          by_cases b1 : j = l
          · rw [if_pos b1]; exact Int.le_refl _
          · rw [if_neg b1, if_pos (by omega)]
            exact above _ (by omega) (by omega)
        · rw [if_neg a1]
          by_cases a2 : l < i ∧ i ≤ k
          · rw [if_pos a2, if_neg (by omega), if_pos (by omega)]
            exact h2 _ _ (by omega) (by omega)
          · rw [if_neg a2]
            by_cases b1 : j = l
            · rw [if_pos b1]
              exact below i (by omega)
            · rw [if_neg b1]
              by_cases b2 : l < j ∧ j ≤ k
              · rw [if_pos b2]
                exact h2 _ _ (by omega) (by omega)
              · rw [if_neg b2]
                exact h2 _ _ hij (by omega)
end Ts
set_option Elab.async false
set_option linter.all false
set_option maxRecDepth 100000
set_option maxHeartbeats 1000000
namespace Ts
open PySem PyProof.Rows
theorem kr_mirror {rk : Keyed → Int} {xs : Array Keyed} {i j : Nat} (hj : j ≤ xs.size) (k : Nat) : kr rk (mirror xs i j ((j - i) / 2)) k = if i ≤ k ∧ k < j then kr rk xs (i + j - 1 - k) else kr rk xs k := by
  have e := getElem?_mirror_all (i := i) hj k
  by_cases h1 : i ≤ k ∧ k < j
  · rw [if_pos h1] at e ⊢; exact kr_congr e
  · rw [if_neg h1] at e ⊢; exact kr_congr e
theorem mirror_sl {xs : Array Keyed} {i j lo n : Nat} (hj : j ≤ xs.size) (hi : lo ≤ i) (hn : j ≤ lo + n) : Sl xs (mirror xs i j ((j - i) / 2)) lo n :=
  ⟨mirror_perm _ _ _ _, fun k hk => by rw [getElem?_mirror_all hj, if_neg (by omega)]⟩
theorem kr_mirror_eq {rk : Keyed → Int} {xs : Array Keyed} {i j : Nat} (hj : j ≤ xs.size) (heq : ∀ k, i ≤ k → k < j → kr rk xs k = kr rk xs (j - 1)) (k : Nat) : kr rk (mirror xs i j ((j - i) / 2)) k = kr rk xs k := by
  rw [kr_mirror hj]
  split
  · rw [heq _ (by omega) (by omega), heq k (by omega) (by omega)]
  · rfl
def Dec (rk : Keyed → Int) (xs : Array Keyed) (lo n : Nat) : Prop := ∀ i j, i ≤ j → j < n → kr rk xs (lo + j) ≤ kr rk xs (lo + i)
theorem SrtI.more {rk : Keyed → Int} {xs : Array Keyed} {lo n : Nat} (h : SrtI rk xs lo n) (hn : 1 ≤ n) (hl : kr rk xs (lo + n - 1) ≤ kr rk xs (lo + n)) : SrtI rk xs lo (n + 1) := fun i j hij hj => by
  by_cases e : j = n
  · subst e
    by_cases e2 : i = j
    · subst e2; exact Int.le_refl _
    · have := h i (j - 1) (by omega) (by omega)
      rw [show lo + (j - 1) = lo + j - 1 by omega] at this
      omega
  · exact h i j hij (by omega)
theorem Dec.more {rk : Keyed → Int} {xs : Array Keyed} {lo n : Nat} (h : Dec rk xs lo n) (hn : 1 ≤ n) (hl : kr rk xs (lo + n) ≤ kr rk xs (lo + n - 1)) : Dec rk xs lo (n + 1) := fun i j hij hj => by
  by_cases e : j = n
  · subst e
    by_cases e2 : i = j
    · subst e2; exact Int.le_refl _
    · have := h i (j - 1) (by omega) (by omega)
      rw [show lo + (j - 1) = lo + j - 1 by omega] at this
      omega
  · exact h i j hij (by omega)
theorem Dec.turn {rk : Keyed → Int} {xs : Array Keyed} {lo n : Nat} (h : Dec rk xs lo n) (hn : lo + n ≤ xs.size) : SrtI rk (mirror xs lo (lo + n) ((lo + n - lo) / 2)) lo n := fun i j hij hj => by
  rw [kr_mirror hn, kr_mirror hn, if_pos (by omega), if_pos (by omega)]
  have := h (n - 1 - j) (n - 1 - i) (by omega) (by omega)
  rw [show lo + (lo + n) - 1 - (lo + i) = lo + (n - 1 - i) by omega, show lo + (lo + n) - 1 - (lo + j) = lo + (n - 1 - j) by omega]
  exact this
variable {M : Model} {A : Around} {E : Value → Shared → Prop} {s : Shared}
theorem wpS_rev {i j : Nat} {Q : Unit → SortSt → Prop} {st : SortSt} (h : Q () (setArr st (mirror (arrOf st) i j ((j - i) / 2)))) : wpS M A E s (reverseSlice' i j) Q st := by
  rw [reverseSlice'_eq]
  exact wpS_modify h
theorem wpS_count {κ : SortKind} {ok : Keyed → Prop} {rk : Keyed → Int} (R : Rk M A E s κ ok rk) {lo nrem : Nat} {Q : Option Nat → SortSt → Prop} {st : SortSt} (hk : kindOf st = κ) (oa : ∀ x ∈ arrOf st, ok x) (hn : lo + nrem ≤ (arrOf st).size) (h1 : 1 ≤ nrem)
    (q : ∀ ys n, 1 ≤ n → n ≤ nrem → Sl (arrOf st) ys lo nrem → SrtI rk ys lo n → Q (some n) (setArr st ys)) : wpS M A E s (countRun' lo nrem) Q st := by
  rw [countRun'_eq]
  refine wpS_bind (wpS_mono (wpS_forRange (I := fun i (c : Option (Option Nat) × Nat) st' => st' = st ∧ c.1 = none ∧ c.2 = i ∧ SrtI rk (arrOf st) lo i)
    (Q := fun (c : Option (Option Nat) × Nat) st' => st' = st ∧ c.1 = none ∧ 1 ≤ c.2 ∧ c.2 ≤ nrem ∧ SrtI rk (arrOf st) lo c.2 ∧ (c.2 < nrem → kr rk (arrOf st) (lo + c.2) < kr rk (arrOf st) (lo + c.2 - 1))) ?_ ?_ ⟨rfl, rfl, rfl, fun i j hij hj => by rw [show i = j by omega]; exact Int.le_refl _⟩) ?_)
  · rintro i ⟨c, n⟩ st' h2 h3 ⟨rfl, hc, e, hs⟩
    dsimp only at hc e ⊢
    subst hc e
    refine wpS_bind (wpS_ltAtR R hk oa (by omega) (by omega) ?_)
    dsimp only
    by_cases hlt : kr rk (arrOf st') (lo + n) < kr rk (arrOf st') (lo + n - 1)
    · simp only [hlt, decide_true, if_true]
      exact wpS_pure ⟨rfl, rfl, h2, by dsimp only; omega, hs, fun _ => hlt⟩
    · simp only [hlt, decide_false, Bool.false_eq_true, if_false]
      exact wpS_pure ⟨rfl, rfl, rfl, hs.more h2 (by omega)⟩
  · rintro ⟨c, n⟩ st' ⟨rfl, hc, e, hs⟩
    dsimp only at hc e ⊢
    subst e
    exact ⟨rfl, hc, by omega, by omega, hs, fun z => by omega⟩
  · rintro ⟨c, n⟩ st' ⟨rfl, hc, n1, n2, hs, hd⟩
    dsimp only at hc n1 n2 hs hd ⊢
    subst hc
    dsimp only
    by_cases e1 : n = nrem
    · rw [if_pos (by simpa using e1)]
      exact wpS_pure (q (arrOf st') n n1 n2 (Sl.refl _ _ _) hs)
    rw [if_neg (by simpa using e1)]
    have hdn := hd (by omega)
    by_cases e2 : n > 1
    · rw [if_pos e2]
      refine wpS_bind (wpS_ltAtR R hk oa (by omega) (by omega) ?_)
      dsimp only
      by_cases hr : kr rk (arrOf st') lo < kr rk (arrOf st') (lo + n - 1)
      · simp only [hr, decide_true, if_true]
        exact wpS_pure (q (arrOf st') n n1 n2 (Sl.refl _ _ _) hs)
      · simp only [hr, decide_false, Bool.false_eq_true, if_false]
        have same : ∀ k, lo ≤ k → k < lo + n → kr rk (arrOf st') k = kr rk (arrOf st') (lo + n - 1) := fun k k1 k2 => by
          have a1 := hs 0 (k - lo) (by omega) (by omega)
          have a2 := hs (k - lo) (n - 1) (by omega) (by omega)
          rw [show lo + (k - lo) = k by omega] at a1 a2
          rw [show lo + (n - 1) = lo + n - 1 by omega] at a2
          simp only [Nat.add_zero] at a1
          omega
        have km := kr_mirror_eq (rk := rk) (xs := arrOf st') (i := lo) (j := lo + n) (by omega) same
        have l0 := mirror_sl (xs := arrOf st') (i := lo) (j := lo + n) (lo := lo) (n := nrem) (by omega) (by omega) (by omega)
        refine wpS_bind (wpS_rev ?_)
        generalize mirror (arrOf st') lo (lo + n) ((lo + n - lo) / 2) = y0 at km l0
        have d0 : Dec rk y0 lo (n + 1) := by
          have dd : Dec rk y0 lo n := fun i j hij hj => by
            rw [km, km, same _ (by omega) (by omega), same (lo + i) (by omega) (by omega)]
            exact Int.le_refl _
          refine dd.more n1 ?_
          rw [km, km]
          omega
        refine wpS_bind (wpS_rule ?_)
        refine wpS_bind (wpS_mono (wpS_forRange (I := fun i (c : Option (Option Nat) × Nat × Nat) st2 => ∃ ys, st2 = setArr st' ys ∧ Sl (arrOf st') ys lo nrem ∧ c.1 = none ∧ c.2.1 = i ∧ Dec rk ys lo i ∧ c.2.2 < i ∧ ∀ t, t ≤ c.2.2 → kr rk ys (lo + i - 1 - t) = kr rk ys (lo + i - 1))
          (Q := fun (c : Option (Option Nat) × Nat × Nat) st2 => ∃ ys, st2 = setArr st' ys ∧ Sl (arrOf st') ys lo nrem ∧ c.1 = none ∧ 1 ≤ c.2.1 ∧ c.2.1 ≤ nrem ∧ Dec rk ys lo c.2.1 ∧ c.2.2 < c.2.1 ∧ ∀ t, t ≤ c.2.2 → kr rk ys (lo + c.2.1 - 1 - t) = kr rk ys (lo + c.2.1 - 1)) ?_ ?_ ⟨y0, rfl, l0, rfl, rfl, d0, by dsimp only; omega, fun t ht => by rw [show t = 0 by dsimp only at ht; omega]; rfl⟩) ?_)
        · rintro i ⟨c, n, e⟩ st2 h2 h3 ⟨ys, rfl, ly, hc, ei, dy, en, eq⟩
          dsimp only at hc ei en eq ⊢
          subst hc ei
          have hsz := ly.size
          refine wpS_bind (wpS_ltAtR R hk (ly.ok oa) (show lo + n < ys.size by omega) (show lo + n - 1 < ys.size by omega) ?_)
          dsimp only
          by_cases hlt : kr rk ys (lo + n) < kr rk ys (lo + n - 1)
          · rw [show decide (kr rk (arrOf (setArr st' ys)) (lo + n) < kr rk (arrOf (setArr st' ys)) (lo + n - 1)) = true from decide_eq_true hlt]
            simp only [if_true]
            have dm := dy.more (by omega) (Int.le_of_lt hlt)
            by_cases ep : e > 0
            · rw [if_pos ep]
              have km := kr_mirror_eq (rk := rk) (xs := ys) (i := lo + n - (e + 1)) (j := lo + n) (by omega) (fun k k1 k2 => by
                have := eq (lo + n - 1 - k) (by omega)
                rwa [show lo + n - 1 - (lo + n - 1 - k) = k by omega] at this)
              refine wpS_bind (wpS_rev ?_)
              refine wpS_pure ⟨_, rfl, ly.trans (mirror_sl (by show lo + n ≤ ys.size; omega) (by omega) (by omega)), rfl, rfl, fun i j hij hj => ?_, by dsimp only; omega, fun t ht => by rw [show t = 0 by dsimp only at ht; omega]; rfl⟩
              have := dm i j hij hj
              rw [← km, ← km] at this
              exact this
            · rw [if_neg ep]
              exact wpS_pure ⟨ys, rfl, ly, rfl, rfl, dm, by dsimp only; omega, fun t ht => by rw [show t = 0 by dsimp only at ht; omega]; rfl⟩
          · rw [show decide (kr rk (arrOf (setArr st' ys)) (lo + n) < kr rk (arrOf (setArr st' ys)) (lo + n - 1)) = false from decide_eq_false hlt]
            simp only [Bool.false_eq_true, if_false]
            refine wpS_bind (wpS_ltAtR R hk (ly.ok oa) (show lo + n - 1 < ys.size by omega) (show lo + n < ys.size by omega) ?_)
            dsimp only
            by_cases hgt : kr rk ys (lo + n - 1) < kr rk ys (lo + n)
            · rw [show decide (kr rk (arrOf (setArr st' ys)) (lo + n - 1) < kr rk (arrOf (setArr st' ys)) (lo + n)) = true from decide_eq_true hgt]
              simp only [if_true]
              exact wpS_pure ⟨ys, rfl, ly, rfl, by dsimp only; omega, by dsimp only; omega, dy, en, eq⟩
            · rw [show decide (kr rk (arrOf (setArr st' ys)) (lo + n - 1) < kr rk (arrOf (setArr st' ys)) (lo + n)) = false from decide_eq_false hgt]
              simp only [Bool.false_eq_true, if_false]
              refine wpS_pure ⟨ys, rfl, ly, rfl, rfl, dy.more (by omega) (by omega), by dsimp only; omega, fun t ht => ?_⟩
              dsimp only at ht
              rw [show lo + (n + 1) - 1 = lo + n by omega]
              by_cases t0 : t = 0
              · subst t0; rfl
              · have := eq (t - 1) (by omega)
                rw [show lo + n - 1 - (t - 1) = lo + n - t by omega] at this
                omega
        · rintro ⟨c, n, e⟩ st2 ⟨ys, rfl, ly, hc, ei, dy, en, eq⟩
          dsimp only at hc ei en eq ⊢
          subst ei
          exact ⟨ys, rfl, ly, hc, by omega, by omega, dy, en, eq⟩
        · rintro ⟨c, n, e⟩ st2 ⟨ys, rfl, ly, hc, n1, n2, dy, en, eq⟩
          dsimp only at hc n1 n2 dy en eq ⊢
          subst hc
          dsimp only
          have hsz := ly.size
          by_cases ep : e > 0
          · rw [if_pos ep]
            have km := kr_mirror_eq (rk := rk) (xs := ys) (i := lo + n - (e + 1)) (j := lo + n) (by omega) (fun k k1 k2 => by
              have := eq (lo + n - 1 - k) (by omega)
              rwa [show lo + n - 1 - (lo + n - 1 - k) = k by omega] at this)
            refine wpS_bind (wpS_rev ?_)
            have lw := ly.trans (mirror_sl (xs := ys) (i := lo + n - (e + 1)) (j := lo + n) (lo := lo) (n := nrem) (by omega) (by omega) (by omega))
            show wpS M A E s _ Q (setArr st' (mirror ys (lo + n - (e + 1)) (lo + n) ((lo + n - (lo + n - (e + 1))) / 2)))
            generalize mirror ys (lo + n - (e + 1)) (lo + n) ((lo + n - (lo + n - (e + 1))) / 2) = ws at km lw
            have dw : Dec rk ws lo n := fun i j hij hj => by
              have := dy i j hij hj
              rw [← km, ← km] at this
              exact this
            have hw := lw.size
            refine wpS_bind (wpS_rev ?_)
            have lz := lw.trans (mirror_sl (xs := ws) (i := lo) (j := lo + n) (lo := lo) (n := nrem) (by omega) (by omega) (by omega))
            have hz := dw.turn (by omega)
            show wpS M A E s _ Q (setArr st' (mirror ws lo (lo + n) ((lo + n - lo) / 2)))
            generalize mirror ws lo (lo + n) ((lo + n - lo) / 2) = zs at lz hz
            refine wpS_bind (wpS_mono (wpS_forRange (I := fun i (c : Option (Option Nat) × Nat) st2 => st2 = setArr st' zs ∧ c.1 = none ∧ c.2 = i ∧ SrtI rk zs lo i)
              (Q := fun (c : Option (Option Nat) × Nat) st2 => st2 = setArr st' zs ∧ c.1 = none ∧ 1 ≤ c.2 ∧ c.2 ≤ nrem ∧ SrtI rk zs lo c.2) ?_ ?_ ⟨rfl, rfl, rfl, hz⟩) ?_)
            · rintro i ⟨c, n⟩ st2 h2 h3 ⟨rfl, hc, e, hs⟩
              dsimp only at hc e ⊢
              subst hc e
              refine wpS_bind (wpS_ltAtR R hk (lz.ok oa) (show lo + n < zs.size by have := lz.size; omega) (show lo + n - 1 < zs.size by have := lz.size; omega) ?_)
              dsimp only
              by_cases hlt : kr rk zs (lo + n) < kr rk zs (lo + n - 1)
              · rw [show decide (kr rk (arrOf (setArr st' zs)) (lo + n) < kr rk (arrOf (setArr st' zs)) (lo + n - 1)) = true from decide_eq_true hlt]
                simp only [if_true]
                exact wpS_pure ⟨rfl, rfl, by dsimp only; omega, by dsimp only; omega, hs⟩
              · rw [show decide (kr rk (arrOf (setArr st' zs)) (lo + n) < kr rk (arrOf (setArr st' zs)) (lo + n - 1)) = false from decide_eq_false hlt]
                simp only [Bool.false_eq_true, if_false]
                exact wpS_pure ⟨rfl, rfl, rfl, hs.more (by omega) (by omega)⟩
            · rintro ⟨c, n⟩ st2 ⟨rfl, hc, e, hs⟩
              dsimp only at hc e ⊢
              subst e
              exact ⟨rfl, hc, by omega, by omega, hs⟩
            · rintro ⟨c, n⟩ st2 ⟨rfl, hc, n1, n2, hs⟩
              dsimp only at hc n1 n2 hs ⊢
              subst hc
              exact wpS_pure (q zs n n1 n2 lz hs)
          · rw [if_neg ep]
            refine wpS_bind (wpS_rev ?_)
            have lz := ly.trans (mirror_sl (xs := ys) (i := lo) (j := lo + n) (lo := lo) (n := nrem) (by omega) (by omega) (by omega))
            have hz := dy.turn (by omega)
            show wpS M A E s _ Q (setArr st' (mirror ys lo (lo + n) ((lo + n - lo) / 2)))
            generalize mirror ys lo (lo + n) ((lo + n - lo) / 2) = zs at lz hz
            refine wpS_bind (wpS_mono (wpS_forRange (I := fun i (c : Option (Option Nat) × Nat) st2 => st2 = setArr st' zs ∧ c.1 = none ∧ c.2 = i ∧ SrtI rk zs lo i)
              (Q := fun (c : Option (Option Nat) × Nat) st2 => st2 = setArr st' zs ∧ c.1 = none ∧ 1 ≤ c.2 ∧ c.2 ≤ nrem ∧ SrtI rk zs lo c.2) ?_ ?_ ⟨rfl, rfl, rfl, hz⟩) ?_)
            · rintro i ⟨c, n⟩ st2 h2 h3 ⟨rfl, hc, e, hs⟩
              dsimp only at hc e ⊢
              subst hc e
              refine wpS_bind (wpS_ltAtR R hk (lz.ok oa) (show lo + n < zs.size by have := lz.size; omega) (show lo + n - 1 < zs.size by have := lz.size; omega) ?_)
              dsimp only
              by_cases hlt : kr rk zs (lo + n) < kr rk zs (lo + n - 1)
              · rw [show decide (kr rk (arrOf (setArr st' zs)) (lo + n) < kr rk (arrOf (setArr st' zs)) (lo + n - 1)) = true from decide_eq_true hlt]
                simp only [if_true]
                exact wpS_pure ⟨rfl, rfl, by dsimp only; omega, by dsimp only; omega, hs⟩
              · rw [show decide (kr rk (arrOf (setArr st' zs)) (lo + n) < kr rk (arrOf (setArr st' zs)) (lo + n - 1)) = false from decide_eq_false hlt]
                simp only [Bool.false_eq_true, if_false]
                exact wpS_pure ⟨rfl, rfl, rfl, hs.more (by omega) (by omega)⟩
            · rintro ⟨c, n⟩ st2 ⟨rfl, hc, e, hs⟩
              dsimp only at hc e ⊢
              subst e
              exact ⟨rfl, hc, by omega, by omega, hs⟩
            · rintro ⟨c, n⟩ st2 ⟨rfl, hc, n1, n2, hs⟩
              dsimp only at hc n1 n2 hs ⊢
              subst hc
              exact wpS_pure (q zs n n1 n2 lz hs)
    · rw [if_neg e2]
      have en1 : n = 1 := by omega
      have d0 : Dec rk (arrOf st') lo (n + 1) := by
        have dd : Dec rk (arrOf st') lo n := fun i j hij hj => by rw [show i = j by omega]; exact Int.le_refl _
        exact dd.more n1 (by omega)
      have l0 := Sl.refl (arrOf st') lo nrem
      obtain ⟨y0, hy0⟩ : ∃ y, y = arrOf st' := ⟨_, rfl⟩
      rw [show st' = setArr st' y0 by rw [hy0]]
      rw [← hy0] at d0
      have l0 : Sl (arrOf st') y0 lo nrem := by rw [hy0]; exact Sl.refl _ _ _
      refine wpS_bind (wpS_rule ?_)
      refine wpS_bind (wpS_mono (wpS_forRange (I := fun i (c : Option (Option Nat) × Nat × Nat) st2 => ∃ ys, st2 = setArr st' ys ∧ Sl (arrOf st') ys lo nrem ∧ c.1 = none ∧ c.2.1 = i ∧ Dec rk ys lo i ∧ c.2.2 < i ∧ ∀ t, t ≤ c.2.2 → kr rk ys (lo + i - 1 - t) = kr rk ys (lo + i - 1))
        (Q := fun (c : Option (Option Nat) × Nat × Nat) st2 => ∃ ys, st2 = setArr st' ys ∧ Sl (arrOf st') ys lo nrem ∧ c.1 = none ∧ 1 ≤ c.2.1 ∧ c.2.1 ≤ nrem ∧ Dec rk ys lo c.2.1 ∧ c.2.2 < c.2.1 ∧ ∀ t, t ≤ c.2.2 → kr rk ys (lo + c.2.1 - 1 - t) = kr rk ys (lo + c.2.1 - 1)) ?_ ?_ ⟨y0, rfl, l0, rfl, rfl, d0, by dsimp only; omega, fun t ht => by rw [show t = 0 by dsimp only at ht; omega]; rfl⟩) ?_)
      · rintro i ⟨c, n, e⟩ st2 h2 h3 ⟨ys, rfl, ly, hc, ei, dy, en, eq⟩
        dsimp only at hc ei en eq ⊢
        subst hc ei
        have hsz := ly.size
        refine wpS_bind (wpS_ltAtR R hk (ly.ok oa) (show lo + n < ys.size by omega) (show lo + n - 1 < ys.size by omega) ?_)
        dsimp only
        by_cases hlt : kr rk ys (lo + n) < kr rk ys (lo + n - 1)
        · rw [show decide (kr rk (arrOf (setArr st' ys)) (lo + n) < kr rk (arrOf (setArr st' ys)) (lo + n - 1)) = true from decide_eq_true hlt]
          simp only [if_true]
          have dm := dy.more (by omega) (Int.le_of_lt hlt)
          by_cases ep : e > 0
          · rw [if_pos ep]
            have km := kr_mirror_eq (rk := rk) (xs := ys) (i := lo + n - (e + 1)) (j := lo + n) (by omega) (fun k k1 k2 => by
              have := eq (lo + n - 1 - k) (by omega)
              rwa [show lo + n - 1 - (lo + n - 1 - k) = k by omega] at this)
            refine wpS_bind (wpS_rev ?_)
            refine wpS_pure ⟨_, rfl, ly.trans (mirror_sl (by show lo + n ≤ ys.size; omega) (by omega) (by omega)), rfl, rfl, fun i j hij hj => ?_, by dsimp only; omega, fun t ht => by rw [show t = 0 by dsimp only at ht; omega]; rfl⟩
            have := dm i j hij hj
            rw [← km, ← km] at this
            exact this
          · rw [if_neg ep]
            exact wpS_pure ⟨ys, rfl, ly, rfl, rfl, dm, by dsimp only; omega, fun t ht => by rw [show t = 0 by dsimp only at ht; omega]; rfl⟩
        · rw [show decide (kr rk (arrOf (setArr st' ys)) (lo + n) < kr rk (arrOf (setArr st' ys)) (lo + n - 1)) = false from decide_eq_false hlt]
          simp only [Bool.false_eq_true, if_false]
          refine wpS_bind (wpS_ltAtR R hk (ly.ok oa) (show lo + n - 1 < ys.size by omega) (show lo + n < ys.size by omega) ?_)
          dsimp only
          by_cases hgt : kr rk ys (lo + n - 1) < kr rk ys (lo + n)
          · rw [show decide (kr rk (arrOf (setArr st' ys)) (lo + n - 1) < kr rk (arrOf (setArr st' ys)) (lo + n)) = true from decide_eq_true hgt]
            simp only [if_true]
            exact wpS_pure ⟨ys, rfl, ly, rfl, by dsimp only; omega, by dsimp only; omega, dy, en, eq⟩
          · rw [show decide (kr rk (arrOf (setArr st' ys)) (lo + n - 1) < kr rk (arrOf (setArr st' ys)) (lo + n)) = false from decide_eq_false hgt]
            simp only [Bool.false_eq_true, if_false]
            refine wpS_pure ⟨ys, rfl, ly, rfl, rfl, dy.more (by omega) (by omega), by dsimp only; omega, fun t ht => ?_⟩
            dsimp only at ht
            rw [show lo + (n + 1) - 1 = lo + n by omega]
            by_cases t0 : t = 0
            · subst t0; rfl
            · have := eq (t - 1) (by omega)
              rw [show lo + n - 1 - (t - 1) = lo + n - t by omega] at this
              omega
      · rintro ⟨c, n, e⟩ st2 ⟨ys, rfl, ly, hc, ei, dy, en, eq⟩
        dsimp only at hc ei en eq ⊢
        subst ei
        exact ⟨ys, rfl, ly, hc, by omega, by omega, dy, en, eq⟩
      · rintro ⟨c, n, e⟩ st2 ⟨ys, rfl, ly, hc, n1, n2, dy, en, eq⟩
        dsimp only at hc n1 n2 dy en eq ⊢
        subst hc
        dsimp only
        have hsz := ly.size
        by_cases ep : e > 0
        · rw [if_pos ep]
          have km := kr_mirror_eq (rk := rk) (xs := ys) (i := lo + n - (e + 1)) (j := lo + n) (by omega) (fun k k1 k2 => by
            have := eq (lo + n - 1 - k) (by omega)
            rwa [show lo + n - 1 - (lo + n - 1 - k) = k by omega] at this)
          refine wpS_bind (wpS_rev ?_)
          have lw := ly.trans (mirror_sl (xs := ys) (i := lo + n - (e + 1)) (j := lo + n) (lo := lo) (n := nrem) (by omega) (by omega) (by omega))
          show wpS M A E s _ Q (setArr st' (mirror ys (lo + n - (e + 1)) (lo + n) ((lo + n - (lo + n - (e + 1))) / 2)))
          generalize mirror ys (lo + n - (e + 1)) (lo + n) ((lo + n - (lo + n - (e + 1))) / 2) = ws at km lw
          have dw : Dec rk ws lo n := fun i j hij hj => by
            have := dy i j hij hj
            rw [← km, ← km] at this
            exact this
          have hw := lw.size
          refine wpS_bind (wpS_rev ?_)
          have lz := lw.trans (mirror_sl (xs := ws) (i := lo) (j := lo + n) (lo := lo) (n := nrem) (by omega) (by omega) (by omega))
          have hz := dw.turn (by omega)
          show wpS M A E s _ Q (setArr st' (mirror ws lo (lo + n) ((lo + n - lo) / 2)))
          generalize mirror ws lo (lo + n) ((lo + n - lo) / 2) = zs at lz hz
          refine wpS_bind (wpS_mono (wpS_forRange (I := fun i (c : Option (Option Nat) × Nat) st2 => st2 = setArr st' zs ∧ c.1 = none ∧ c.2 = i ∧ SrtI rk zs lo i)
            (Q := fun (c : Option (Option Nat) × Nat) st2 => st2 = setArr st' zs ∧ c.1 = none ∧ 1 ≤ c.2 ∧ c.2 ≤ nrem ∧ SrtI rk zs lo c.2) ?_ ?_ ⟨rfl, rfl, rfl, hz⟩) ?_)
          · rintro i ⟨c, n⟩ st2 h2 h3 ⟨rfl, hc, e, hs⟩
            dsimp only at hc e ⊢
            subst hc e
            refine wpS_bind (wpS_ltAtR R hk (lz.ok oa) (show lo + n < zs.size by have := lz.size; omega) (show lo + n - 1 < zs.size by have := lz.size; omega) ?_)
            dsimp only
            by_cases hlt : kr rk zs (lo + n) < kr rk zs (lo + n - 1)
            · rw [show decide (kr rk (arrOf (setArr st' zs)) (lo + n) < kr rk (arrOf (setArr st' zs)) (lo + n - 1)) = true from decide_eq_true hlt]
              simp only [if_true]
              exact wpS_pure ⟨rfl, rfl, by dsimp only; omega, by dsimp only; omega, hs⟩
            · rw [show decide (kr rk (arrOf (setArr st' zs)) (lo + n) < kr rk (arrOf (setArr st' zs)) (lo + n - 1)) = false from decide_eq_false hlt]
              simp only [Bool.false_eq_true, if_false]
              exact wpS_pure ⟨rfl, rfl, rfl, hs.more (by omega) (by omega)⟩
          · rintro ⟨c, n⟩ st2 ⟨rfl, hc, e, hs⟩
            dsimp only at hc e ⊢
            subst e
            exact ⟨rfl, hc, by omega, by omega, hs⟩
          · rintro ⟨c, n⟩ st2 ⟨rfl, hc, n1, n2, hs⟩
            dsimp only at hc n1 n2 hs ⊢
            subst hc
            exact wpS_pure (q zs n n1 n2 lz hs)
        · rw [if_neg ep]
          refine wpS_bind (wpS_rev ?_)
          have lz := ly.trans (mirror_sl (xs := ys) (i := lo) (j := lo + n) (lo := lo) (n := nrem) (by omega) (by omega) (by omega))
          have hz := dy.turn (by omega)
          show wpS M A E s _ Q (setArr st' (mirror ys lo (lo + n) ((lo + n - lo) / 2)))
          generalize mirror ys lo (lo + n) ((lo + n - lo) / 2) = zs at lz hz
          refine wpS_bind (wpS_mono (wpS_forRange (I := fun i (c : Option (Option Nat) × Nat) st2 => st2 = setArr st' zs ∧ c.1 = none ∧ c.2 = i ∧ SrtI rk zs lo i)
            (Q := fun (c : Option (Option Nat) × Nat) st2 => st2 = setArr st' zs ∧ c.1 = none ∧ 1 ≤ c.2 ∧ c.2 ≤ nrem ∧ SrtI rk zs lo c.2) ?_ ?_ ⟨rfl, rfl, rfl, hz⟩) ?_)
          · rintro i ⟨c, n⟩ st2 h2 h3 ⟨rfl, hc, e, hs⟩
            dsimp only at hc e ⊢
            subst hc e
            refine wpS_bind (wpS_ltAtR R hk (lz.ok oa) (show lo + n < zs.size by have := lz.size; omega) (show lo + n - 1 < zs.size by have := lz.size; omega) ?_)
            dsimp only
            by_cases hlt : kr rk zs (lo + n) < kr rk zs (lo + n - 1)
            · rw [show decide (kr rk (arrOf (setArr st' zs)) (lo + n) < kr rk (arrOf (setArr st' zs)) (lo + n - 1)) = true from decide_eq_true hlt]
              simp only [if_true]
              exact wpS_pure ⟨rfl, rfl, by dsimp only; omega, by dsimp only; omega, hs⟩
            · rw [show decide (kr rk (arrOf (setArr st' zs)) (lo + n) < kr rk (arrOf (setArr st' zs)) (lo + n - 1)) = false from decide_eq_false hlt]
              simp only [Bool.false_eq_true, if_false]
              exact wpS_pure ⟨rfl, rfl, rfl, hs.more (by omega) (by omega)⟩
          · rintro ⟨c, n⟩ st2 ⟨rfl, hc, e, hs⟩
            dsimp only at hc e ⊢
            subst e
            exact ⟨rfl, hc, by omega, by omega, hs⟩
          · rintro ⟨c, n⟩ st2 ⟨rfl, hc, n1, n2, hs⟩
            dsimp only at hc n1 n2 hs ⊢
            subst hc
            exact wpS_pure (q zs n n1 n2 lz hs)
end Ts
set_option Elab.async false
set_option linter.all false
set_option maxRecDepth 100000
set_option maxHeartbeats 1000000
namespace Ts
open PySem PyProof.Rows
variable {M : Model} {A : Around} {E : Value → Shared → Prop} {s : Shared}
end Ts
set_option Elab.async false
set_option linter.all false
set_option maxRecDepth 100000
set_option maxHeartbeats 1000000
namespace Ts
open PySem PyProof.Rows
variable {M : Model} {A : Around} {E : Value → Shared → Prop} {s : Shared}
theorem Sl.wide {xs ys : Array Keyed} {lo n m : Nat} (h : Sl xs ys lo n) (hn : n ≤ m) : Sl xs ys lo m := ⟨h.pm, fun j hj => h.out j (by omega)⟩
end Ts
set_option Elab.async false
set_option linter.all false
set_option maxRecDepth 100000
set_option maxHeartbeats 1000000
namespace Ts
open PySem PyProof.Rows
section
variable {prog : Program} {w : World} {A : Around} {E : Value → Shared → Prop} {s : Shared}
def RunsOK (n : Nat) : Prop := ∀ {M : Model} {A : Around} {E : Value → Shared → Prop} {s : Shared} {κ : SortKind} {ok : Keyed → Prop} {rk : Keyed → Int} (R : Rk M A E s κ ok rk) {Q : Unit → SortSt → Prop} {st : SortSt}, kindOf st = κ → failedOf st = none → pendingOf st = #[] → (arrOf st).size = n → (∀ x ∈ arrOf st, ok x) →
  (∀ st', (arrOf st').toList.Perm (arrOf st).toList → Srt rk (arrOf st').toList → failedOf st' = none → Q () st') → wpS M A E s sortRuns' Q st
structure Ask (prog : Program) (w : World) (A : Around) (E : Value → Shared → Prop) (vs : List Value) (rk : Keyed → Int) (s : Shared) : Prop where
  ask : 2 ≤ vs.length → ∃ κ, (∀ Q' : SortKind → Shared → Prop, Q' κ s → wpAny (model prog w) A (keyKind' vs.toArray) Q' E s) ∧ Rk (model prog w) A E s κ (fun x => x ∈ pairsOf vs) rk
theorem list_sort_R {a : Addr} {vs : List Value} {n : Nat} {P : Fin → Shared → Prop} {rk : Keyed → Int} (ho : s.heap.get? a = some (seqObj "list" vs.toArray n)) (hl : vs.length ≤ sizeLine) (hr : 2 ≤ vs.length → RunsOK vs.length)
    (R : ∀ h', (∀ b o, b ≠ a → s.heap.get? b = some o → h'.get? b = some o) → Ask prog w A E vs rk { s with heap := h' })
    (h : ∀ st' : SortSt, (arrOf st').toList.Perm (pairsOf vs).toList → Srt rk (arrOf st').toList → P (.done (.ret .none)) { s with heap := sortedHeap s.heap a vs ((arrOf st').map (·.2)) }) :
    wpAny (model prog w) A (Builtin.«list.sort» ⟨[.ref a], []⟩) P E s := by
  rw [list_sort_plain]
  have ha : a < s.heap.objs.size := Heap.lt_size ho
  refine wpAny_bind (listItems_at ho rfl ?_)
  refine wpAny_bind (listUpdate_at ho rfl ?_ (by simpa using hl) (Nat.zero_le _))
  obtain ⟨e1, ho1⟩ : ∃ e1, (s.heap.update a (Obj.mapSeq fun _ => #[])).get? a = some (seqObj "list" #[] e1) := ⟨_, get?_update_seq ho (fun _ => #[])⟩
  refine wpAny_bind (seqEpoch_at ho1 rfl ?_)
  refine wpAny_bind (wpAny_newTuple ?_ (by show vs.length ≤ _; exact hl))
  refine wpAny_bind (wpAny_newList ?_ (Nat.zero_le _))
  refine wpAny_holding ?_
  have ho6 : (((s.heap.update a (Obj.mapSeq fun _ => #[])).push (seqObj "tuple" vs.toArray 0)).push (seqObj "list" #[] 0)).get? a = some (seqObj "list" #[] e1) := by
    rw [Heap.get?_push_ne _ _ _ (by rw [size_push', Heap.size_update]; exact Nat.ne_of_lt (Nat.lt_succ_of_lt ha)), Heap.get?_push_ne _ _ _ (by rw [Heap.size_update]; exact Nat.ne_of_lt ha)]
    exact ho1
  have ak := R (((s.heap.update a (Obj.mapSeq fun _ => #[])).push (seqObj "tuple" vs.toArray 0)).push (seqObj "list" #[] 0)) (fun b o hb e => Heap.get?_push_of_some _ (Heap.get?_push_of_some _ ((Heap.get?_update_other _ _ (Ne.symm hb)).trans e)))
  show wpAny (model prog w) A _ P E { s with heap := ((s.heap.update a (Obj.mapSeq fun _ => #[])).push (seqObj "tuple" vs.toArray 0)).push (seqObj "list" #[] 0) }
  dsimp only
  have hsz : vs.toArray.size = vs.length := by simp
  have fin := h
  by_cases h2 : vs.toArray.size < 2
  · rw [if_pos h2, if_pos h2]
    refine wpAny_bind (wpAny_pure ?_)
    rw [StateT.run_pure]
    refine wpAny_bind (wpAny_pure ?_)
    dsimp only
    refine wpAny_bind (seqEpoch_at ho6 rfl ?_)
    refine wpAny_bind (listUpdate_at ho6 rfl ?_ (Nat.zero_le _) (by rw [Array.size_map]; show (pairsOf vs).size ≤ _; rw [pairsOf_size]; exact Nat.le_succ_of_le hl))
    simp only [bne_self_eq_false, Bool.false_eq_true, if_false]
    refine wpAny_pure (fin (SortSt.mk' general' (vs.toArray.zip vs.toArray) #[] 7 none) (List.Perm.refl _) ?_)
    show Srt rk (pairsOf vs).toList
    have hl2 : (pairsOf vs).toList.length < 2 := by rw [Array.length_toList, pairsOf_size]; omega
    match hp : (pairsOf vs).toList, hl2 with
    | [], _ => exact .nil
    | [_], _ => exact List.pairwise_singleton _ _
  · rw [if_neg h2, if_neg h2]
    obtain ⟨κ, ka, kr⟩ := ak.ask (by omega)
    refine wpAny_bind (ka _ ?_)
    refine wpAny_bind (wpAny_mono (hr (by omega) kr (st := SortSt.mk' κ (vs.toArray.zip vs.toArray) #[] 7 none)
      (Q := fun _ st' => (arrOf st').toList.Perm (pairsOf vs).toList ∧ Srt rk (arrOf st').toList ∧ failedOf st' = none) rfl rfl rfl (by rw [← pairsOf_size vs]; rfl) (fun x hx => hx) fun st' a1 a2 a3 => ⟨a1, a2, a3⟩) ?_ fun _ _ e => e)
    rintro ⟨⟨⟩, st'⟩ s' ⟨rfl, hp, hs, hf⟩
    dsimp only
    refine wpAny_bind (seqEpoch_at ho6 rfl ?_)
    refine wpAny_bind (listUpdate_at ho6 rfl ?_ (Nat.zero_le _) (by
      rw [Array.size_map, ← Array.length_toList, hp.length_eq, Array.length_toList, pairsOf_size]; exact Nat.le_succ_of_le hl))
    rw [hf]
    simp only [bne_self_eq_false, Bool.false_eq_true, if_false]
    exact wpAny_pure (fin st' hp hs)
theorem sorted_R {l : Addr} {vs : List Value} {Q : Value → Shared → Prop} {rk : Keyed → Int} (hl : s.heap.IsList l vs.toArray) (hz : vs.length ≤ sizeLine) (hr : 2 ≤ vs.length → RunsOK vs.length)
    (R : ∀ h', (∀ b o, s.heap.get? b = some o → h'.get? b = some o) → Ask prog w A.in1.in1 E vs rk { s with heap := h' })
    (h : ∀ st' : SortSt, (arrOf st').toList.Perm (pairsOf vs).toList → Srt rk (arrOf st').toList → Q (.ref (s.heap.objs.size + 1)) { s with heap := sortedAll s.heap vs ((arrOf st').map (·.2)) }) :
    wpAny (model prog w) A (call (.builtin "sorted") [.ref l]) Q E s := by
  refine Calls.call_function_entry kind_sorted plain_sorted entry_sorted (args_sorted1 _) ?_
  unfold Builtin.«sorted»
  refine wpAny_bind (m := checkCount "sorted" 1 1 _) (wpAny_pure ?_)
  refine wpAny_bind (collect_list hl ?_ hz)
  refine wpAny_bind (wpAny_newList ?_ hz)
  have hsz : ((s.heap.push (seqObj "list" #[] 0)).update s.heap.objs.size (Obj.mapSeq (· ++ vs.toArray))).objs.size = s.heap.objs.size + 1 := by
    rw [Heap.size_update, size_push']
  have hoL : (((s.heap.push (seqObj "list" #[] 0)).update s.heap.objs.size (Obj.mapSeq (· ++ vs.toArray))).push (seqObj "list" vs.toArray 0)).get? (s.heap.objs.size + 1) = some (seqObj "list" vs.toArray 0) := by
    rw [← hsz]; exact Heap.get?_push_size _ rfl
  have keep : ∀ b o, s.heap.get? b = some o → (((s.heap.push (seqObj "list" #[] 0)).update s.heap.objs.size (Obj.mapSeq (· ++ vs.toArray))).push (seqObj "list" vs.toArray 0)).get? b = some o := fun b o q => by
    have hlt : b < s.heap.objs.size := Heap.lt_size q
    rw [Heap.get?_push_ne _ _ _ (by rw [hsz]; exact Nat.ne_of_lt (Nat.lt_succ_of_lt hlt)), Heap.get?_update_ne _ _ _ _ (Nat.ne_of_lt hlt), Heap.get?_push_ne _ _ _ (Nat.ne_of_lt hlt)]
    exact q
  show wpAny _ _ _ _ _ { s with heap := ((s.heap.push (seqObj "list" #[] 0)).update s.heap.objs.size (Obj.mapSeq (· ++ vs.toArray))).push (seqObj "list" vs.toArray 0) }
  rw [hsz]
  refine wpAny_bind (wpAny_holding (wpAny_call_entry slot_list_sort ⟨_, hoL, rfl⟩ entry_list_sort (list_sort_R (rk := rk) hoL hz hr (fun h' k => R h' fun b o e => k b o (Nat.ne_of_lt (Nat.lt_succ_of_lt (Heap.lt_size e))) (keep b o e)) fun st' a1 a2 => ⟨_, rfl, ?_⟩) (args_list_sort _)))
  exact wpAny_pure ⟨_, rfl, h st' a1 a2⟩
end
end Ts
set_option Elab.async false
set_option linter.all false
set_option maxRecDepth 100000
set_option maxHeartbeats 1000000
namespace HT
theorem lexLt_gt : ∀ a b : List Int, lexLt a b = lexGt b a
  | [], [] => rfl
  | [], _ :: _ => rfl
  | _ :: _, [] => rfl
  | x :: xs, y :: ys => by
    unfold lexLt lexGt
    rw [lexLt_gt xs ys]
    by_cases e : x = y
    · subst e; simp
    · have e2 : ¬ y = x := fun z => e z.symm
      simp [e, e2]
end HT
namespace Ts
open PySem PySem.W PyProof.Rows
section
variable {prog : Program} {w : World} {A : Around} {E : Value → Shared → Prop} {s : Shared} {fin : Bool} {Q : Bool → Shared → Prop}
theorem kat_ints : ∀ {vs ws : List Value} {ns ms : List Int}, IntsAre vs ns → IntsAre ws ms → ∀ i : Nat, fin = decide (ns.length < ms.length) → Q (HT.lexLt ns ms) s → KatLex prog w A true fin Q (vs.zip ws) i s
  | _, _, _, _, .nil, .nil, i, hf, q => by subst hf; exact kat_nil q
  | _, _, _, _, .nil, .cons b u hw, i, hf, q => by subst hf; exact kat_nil (by simpa [HT.lexLt] using q)
  | _, _, _, _, .cons a t hv, .nil, i, hf, q => by subst hf; exact kat_nil (by simpa [HT.lexLt] using q)
  | _, _, _, _, .cons a t hv, .cons b u hw, i, hf, q => by
    rw [List.zip_cons_cons]
    refine kat_cons (wpAny_eqBool_int ?_)
    rw [HT.lexLt_cons] at q
    by_cases e : a = b
    · rw [if_pos e] at q
      subst e
      simp only [BEq.rfl, decide_true]
      exact kat_yes (kat_ints hv hw (i + 1) (by rw [hf]; simp) q)
    · rw [if_neg e] at q
      simp only [beq_eq_false_iff_ne.mpr e, decide_eq_false e]
      refine kat_no ?_
      cases i with
      | zero => exact oneLt_int q
      | succ i => exact kat_one _ _ (HT.rcLt_int A s a t b u prog w _ _ q)
def tiOf (h : Heap) (v : Value) : List Int := match v with
  | .ref a => match h.get? a with
    | some o => match o.data with
      | .seq xs _ => numsOf xs.toList
      | _ => []
    | none => []
  | _ => []
def TupAt (h : Heap) (v : Value) : Prop := ∃ a o xs n, v = .ref a ∧ h.get? a = some o ∧ o.cls = .type "tuple" ∧ o.data = .seq xs n ∧ IntsAre xs.toList (tiOf h v) ∧ tiOf h v ≠ []
def rkT (h : Heap) (tss : List (List Int)) (x : Keyed) : Int := (tss.countP fun t => HT.lexGt (tiOf h x.1) t : Nat)
theorem rk_lt {tss : List (List Int)} {a b : List Int} (ha : a ∈ tss) : (tss.countP fun t => HT.lexGt a t) < (tss.countP fun t => HT.lexGt b t) ↔ HT.lexGt b a = true := by
  constructor
  · intro h
    cases hb : HT.lexGt b a with
    | true => rfl
    | false =>
      have : (tss.countP fun t => HT.lexGt b t) ≤ (tss.countP fun t => HT.lexGt a t) := by
        refine List.countP_mono_left fun t _ ht => ?_
        cases hc : HT.lexGt a t with
        | true => rfl
        | false =>
          have := HT.lexGt_tr b a t hb hc
          rw [this] at ht; cases ht
      omega
  · intro h
    have sub : ∀ t, HT.lexGt a t = true → HT.lexGt b t = true := fun t ht => by
      cases hc : HT.lexGt b t with
      | true => rfl
      | false =>
        have := HT.lexGt_tr b t a hc (HT.lexGt_as a t ht)
        rw [this] at h; cases h
    induction tss with
    | nil => cases ha
    | cons c r ih =>
      rw [List.countP_cons, List.countP_cons]
      rcases List.mem_cons.mp ha with rfl | ha
      · have le : (r.countP fun t => HT.lexGt a t) ≤ (r.countP fun t => HT.lexGt b t) := List.countP_mono_left fun t _ ht => sub t ht
        rw [HT.lexGt_irr, h]
        simp only [Bool.false_eq_true, if_false, if_true]
        omega
      · have := ih ha
        cases hc : HT.lexGt a c with
        | true => rw [sub c hc]; simp only [if_true]; omega
        | false => simp only [Bool.false_eq_true, if_false]; split <;> omega
theorem firsts_of {h h' : Heap} (k : ∀ b o, h.get? b = some o → h'.get? b = some o) : ∀ {its : List Value}, (∀ v ∈ its, TupAt h v) → ∃ fs, KatTups h' its fs ∧ fs.length = its.length ∧ ∀ v ∈ fs, ∃ n t, v = Value.int n t
  | [], _ => ⟨[], .nil, rfl, fun v hv => by cases hv⟩
  | v :: r, hv => by
    obtain ⟨fs, h1, h2, h3⟩ := firsts_of k (its := r) fun x hx => hv x (List.mem_cons_of_mem _ hx)
    obtain ⟨a, o, xs, n, rfl, ho, hc, hd, hi, hne⟩ := hv v List.mem_cons_self
    generalize tiOf h (.ref a) = t at hi hne
    generalize hx : xs.toList = l at hi
    cases hi with
    | nil => exact absurd rfl hne
    | cons m u hr =>
      have h0 : xs[0]? = some (.int m u) := by rw [← Array.getElem?_toList, hx]; rfl
      exact ⟨.int m u :: fs, KatTups.cons (k _ _ ho) hc hd h0 h1, by simp [h2], fun x hx => by
        rcases List.mem_cons.mp hx with rfl | hx
        · exact ⟨_, _, rfl⟩
        · exact h3 x hx⟩
theorem ask_tups {h h' : Heap} {its : List Value} (k : ∀ b o, h.get? b = some o → h'.get? b = some o) (hv : ∀ v ∈ its, TupAt h v) : Ask prog w A E its (rkT h (its.map (tiOf h))) { s with heap := h' } := by
  refine ⟨fun h2 => ⟨tuples' (Value.type "int" != Value.type "tuple"), fun Q' q => ?_, ⟨fun x y st Q ox oy hk q => ?_⟩⟩⟩
  · obtain ⟨fs, h1, h2', h3⟩ := firsts_of k hv
    refine kat_kind (s := { s with heap := h' }) (T := .type "int") h1 (by omega) (fun v hv => ?_) (by decide +kernel) q
    obtain ⟨n, t, rfl⟩ := h3 v hv
    exact Looks.of_pure rfl
  · have mem : ∀ z, z ∈ pairsOf its → TupAt h z.1 ∧ z.1 ∈ its := fun z hz => by
      have : z.1 ∈ its := by
        unfold pairsOf at hz
        have hz2 : z ∈ its.zip its := by simpa using hz
        exact (List.of_mem_zip hz2).1
      exact ⟨hv _ this, this⟩
    obtain ⟨⟨a, oa, xs, n, ea, ga, ca, da, ia, _⟩, ma⟩ := mem x ox
    obtain ⟨⟨b, ob, ys, m, eb, gb, cb, db, ib, _⟩, mb⟩ := mem y oy
    have e : decide (rkT h (its.map (tiOf h)) x < rkT h (its.map (tiOf h)) y) = HT.lexLt (tiOf h x.1) (tiOf h y.1) := by
      rw [HT.lexLt_gt, Bool.eq_iff_iff, decide_eq_true_eq]
      unfold rkT
      rw [Int.ofNat_lt]
      exact rk_lt (List.mem_map_of_mem ma)
    rw [e] at q
    rw [lt'_eq]
    refine wpS_bind (wpS_get ?_)
    rw [hk, ea, eb]
    rw [ea, eb] at q
    rw [ea] at ia
    rw [eb] at ib
    have e2 : (Value.type "int" != Value.type "tuple") = true := by decide +kernel
    rw [e2]
    refine wpS_bind (wpS_lift (wpAny_attempt (kat_lt (k _ _ ga) da (k _ _ gb) db (kat_ints ia ib 0 ?_ ⟨rfl, ?_⟩))))
    · rw [← ia.length, ← ib.length]; simp
    · exact wpS_pure q
end
end Ts
set_option Elab.async false
set_option linter.all false
set_option maxRecDepth 100000
set_option maxHeartbeats 1000000
namespace Ts
open PySem PyProof.Rows
theorem srt_all {rk : Keyed → Int} {ys : Array Keyed} (h : SrtI rk ys 0 ys.size) : Srt rk ys.toList := by
  refine List.pairwise_iff_getElem.mpr fun i j hi hj hij => ?_
  have hi2 : i < ys.size := by simpa using hi
  have hj2 : j < ys.size := by simpa using hj
  have := h i j (by omega) hj2
  unfold kr at this
  rw [getD_at (by omega), getD_at (by omega)] at this
  simpa using this
theorem runs_64 {n : Nat} (h1 : 1 ≤ n) (h64 : n < 64) : RunsOK n := by
  intro M A E s κ ok rk R Q st hk hf hp hn oa q
  rw [sortRuns'_eq]
  refine wpS_bind (wpS_get ?_)
  dsimp only
  have hm : minRun' n n 0 = n := by
    obtain ⟨f, e⟩ : ∃ f, n = f + 1 := ⟨n - 1, by omega⟩
    rw [show minRun' n n 0 = minRun' (f + 1) n 0 by rw [← e], minRun'_succ, if_pos h64]
    rfl
  rw [hn, hm]
  refine wpS_bind (wpS_mono (wpS_forRange (I := fun i (c : Option Unit × Nat) st' => c.1 = none ∧ ((i = 0 ∧ c.2 = 0 ∧ st' = st) ∨ (1 ≤ i ∧ c.2 = n ∧ failedOf st' = none ∧ (pendingOf st').size ≤ 1 ∧ (arrOf st').toList.Perm (arrOf st).toList ∧ Srt rk (arrOf st').toList)))
    (Q := fun (c : Option Unit × Nat) st' => c.1 = none ∧ failedOf st' = none ∧ (pendingOf st').size ≤ 1 ∧ (arrOf st').toList.Perm (arrOf st).toList ∧ Srt rk (arrOf st').toList) ?_ ?_ ⟨rfl, .inl ⟨rfl, rfl, rfl⟩⟩) ?_)
  · rintro i ⟨c, lo⟩ st' _ hi ⟨hc, h⟩
    dsimp only at hc h ⊢
    subst hc
    rcases h with ⟨rfl, rfl, rfl⟩ | ⟨i1, rfl, h⟩
    · rw [if_neg (by omega), Nat.sub_zero]
      have fin : ∀ zs : Array Keyed, Sl (arrOf st') zs 0 n → SrtI rk zs 0 n → (arrOf (setArr st' zs)).toList.Perm (arrOf st').toList ∧ Srt rk (arrOf (setArr st' zs)).toList := fun zs sl so => by
        have hz : zs.size = n := by rw [sl.size, hn]
        exact ⟨Array.perm_iff_toList_perm.mp sl.pm, srt_all (by rw [hz]; exact so)⟩
      have pb : ∀ zs : Array Keyed, (pendingOf (setArr st' zs)).back? = none := fun zs => by show (pendingOf st').back? = none; rw [hp]; rfl
      have ps : ∀ (zs : Array Keyed) (x : Nat × Nat × Nat), ((pendingOf (setArr st' zs)).push x).size ≤ 1 := fun zs x => by show ((pendingOf st').push x).size ≤ 1; rw [hp]; exact Nat.le_refl _
      refine wpS_bind (wpS_count R hk oa (by omega) (by omega) fun ys m m1 m2 sly soy => ?_)
      dsimp only
      split
      · refine wpS_bind (wpS_rule ?_)
        refine wpS_bind (wpS_binary R (st := setArr st' ys) hk (sly.ok oa) (show 0 + min n n ≤ ys.size by rw [sly.size, hn]; omega) soy (by omega) fun zs slz soz => ?_)
        rw [Nat.min_self] at slz soz ⊢
        simp only [Bool.not_true, Bool.false_eq_true, if_false]
        refine wpS_bind (wpS_get ?_)
        have f2 := fin zs (sly.trans slz) soz
        rw [show (pendingOf (setArr (setArr st' ys) zs)).back? = none from pb zs]
        dsimp only
        exact wpS_bind (wpS_modify (wpS_pure ⟨rfl, .inr ⟨Nat.le_add_left _ _, by dsimp only; omega, hf, ps zs _, f2.1, f2.2⟩⟩))
      · have hm2 : m = n := by omega
        subst hm2
        refine wpS_bind (wpS_get ?_)
        have f2 := fin ys sly soy
        rw [pb ys]
        dsimp only
        exact wpS_bind (wpS_modify (wpS_pure ⟨rfl, .inr ⟨Nat.le_add_left _ _, by dsimp only; omega, hf, ps ys _, f2.1, f2.2⟩⟩))
    · rw [if_pos (Nat.le_refl _)]
      exact wpS_pure ⟨rfl, h⟩
  · rintro ⟨c, lo⟩ st' ⟨hc, h⟩
    dsimp only at hc h ⊢
    rcases h with ⟨h, _⟩ | ⟨_, _, h⟩
    · omega
    · exact ⟨hc, h⟩
  · rintro ⟨c, lo⟩ st' ⟨hc, f', p', pm, so⟩
    dsimp only at hc ⊢
    subst hc
    dsimp only
    refine wpS_bind (wpS_mono (wpS_forRange (I := fun _ (c : Option Unit × Unit) st2 => c.1 = none ∧ st2 = st') (Q := fun (c : Option Unit × Unit) st2 => c.1 = none ∧ st2 = st') ?_ (fun c st2 h => h) ⟨rfl, rfl⟩) ?_)
    · rintro j ⟨c, ⟨⟩⟩ st2 _ hj ⟨hc, rfl⟩
      dsimp only at hc ⊢
      subst hc
      refine wpS_bind (wpS_get ?_)
      rw [if_pos p']
      exact wpS_pure ⟨rfl, rfl⟩
    · rintro ⟨c, ⟨⟩⟩ st2 ⟨hc, rfl⟩
      dsimp only at hc ⊢
      subst hc
      exact wpS_pure (q st2 pm so f')
end Ts
set_option Elab.async false
set_option linter.all false
set_option maxRecDepth 100000
set_option maxHeartbeats 1000000
namespace L2
open PySem PySem.Spec PyProof.Rows
theorem perm_lift {α β : Type} {f : α → β} {a b : List β} (h : a.Perm b) : ∀ {L : List α}, b = L.map f → ∃ L' : List α, L'.Perm L ∧ a = L'.map f := by
  induction h with
  | nil => intro L e; exact ⟨[], by rw [show L = [] from by simpa using e.symm], rfl⟩
  | cons x h ih =>
    intro L e
    cases L with
    | nil => cases e
    | cons y L =>
      rw [List.map_cons] at e
      injection e with e1 e2
      obtain ⟨L', h1, h2⟩ := ih e2
      exact ⟨y :: L', h1.cons y, by rw [List.map_cons, e1, h2]⟩
  | swap x y l =>
    intro L e
    match L, e with
    | [], e => cases e
    | [_], e => cases e
    | u :: v :: L, e =>
      simp only [List.map_cons, List.cons.injEq] at e
      exact ⟨v :: u :: L, List.Perm.swap u v L, by simp [e]⟩
  | trans h1 h2 ih1 ih2 =>
    intro L e
    obtain ⟨L2, a1, a2⟩ := ih2 e
    obtain ⟨L3, b1, b2⟩ := ih1 a2
    exact ⟨L3, b1.trans a1, b2⟩
section
variable {X : Cx} {pos : Pos} {e : Expr} {te : TD}
theorem vals_of {α : Type} {f : α → V} {g : α → Value} : ∀ {L : List α}, (∀ q ∈ L, RelV (f q) (g q)) → Vals (L.map f) (L.map g)
  | [], _ => .nil
  | q :: L, h => .cons (h q List.mem_cons_self) (vals_of fun x hx => h x (List.mem_cons_of_mem _ hx))
theorem call_sortT : CallR X (.builtin "sorted") (fun xs H Q => ∃ (p : Addr) (ps : List (V × List Int)), xs = [.ref p] ∧ SqL X.K H p (ps.map (·.1)) ∧ (∀ q ∈ ps, q.2 ≠ [] ∧ ∃ b, q.1 = .ref b ∧ SqT X.K H b (q.2.map V.int)) ∧ (2 ≤ ps.length → Ts.RunsOK ps.length) ∧
    ∀ ps' : List (V × List Int), ps'.Perm ps → ps'.Pairwise (fun x y => HT.lexGt x.2 y.2 = false) → ∀ l, H l = none → Q (.ref l) (upd H l (.lst (ps'.map (·.1))))) := by
  intro pins s σ H xs us Q I r h
  obtain ⟨p, ps, rfl, hq, hk, hr, q⟩ := h
  obtain ⟨u, rfl, ru⟩ := vals1 r
  cases ru
  obtain ⟨its, rv, pl, hz⟩ := I.list hq
  have hl : ps.length = its.length := by rw [← rv.length, List.length_map]
  obtain ⟨LL, e1, e2⟩ : ∃ LL : List ((V × List Int) × Value), ps = LL.map (·.1) ∧ its = LL.map (·.2) :=
    ⟨ps.zip its, (List.map_fst_zip (by omega)).symm, (List.map_snd_zip (by omega)).symm⟩
  have rel : ∀ z ∈ LL, RelV z.1.1 z.2 := fun z hz => by
    obtain ⟨i, hi⟩ := List.getElem?_of_mem hz
    have h1 : (ps.map (·.1))[i]? = some z.1.1 := by rw [e1]; simp [hi]
    obtain ⟨v', hv', rx⟩ := rv.get h1
    have h2 : its[i]? = some z.2 := by rw [e2]; simp [hi]
    rw [h2] at hv'; cases hv'
    exact rx
  have tup : ∀ z ∈ LL, Ts.TupAt s.heap z.2 ∧ Ts.tiOf s.heap z.2 = z.1.2 := fun z hz => by
    obtain ⟨hne, b, eb, sq⟩ := hk z.1 (by rw [e1]; exact List.mem_map_of_mem hz)
    have rz := rel z hz
    obtain ⟨i1, v1, p1, _⟩ := I.tuple sq
    obtain ⟨o1, g1, c1, n1, d1⟩ := p1
    obtain ⟨⟨zv, zt⟩, zw⟩ := z
    simp only at eb rz v1 hne ⊢
    subst eb
    cases rz
    have ia := intsAre_of v1
    have e : Ts.tiOf s.heap (.ref b) = zt := by
      unfold Ts.tiOf
      simp only [g1, d1]
      exact ia.numsOf
    exact ⟨⟨b, o1, _, n1, rfl, g1, c1, d1, by rw [e]; exact ia, by rw [e]; exact hne⟩, e⟩
  refine Ts.sorted_R (rk := Ts.rkT s.heap (its.map (Ts.tiOf s.heap))) pl.isList (by rw [← hl, ← List.length_map (f := (·.1))]; exact hz) (by rw [← hl]; exact hr) (fun h' k => Ts.ask_tups k fun v hv => ?_) fun st' hp hs => ?_
  · rw [e2] at hv
    obtain ⟨z, hz, rfl⟩ := List.mem_map.mp hv
    exact (tup z hz).1
  · have ep : (PyProof.Rows.pairsOf its).toList = LL.map fun z => ((z.2, z.2) : Keyed) := by
      unfold PyProof.Rows.pairsOf
      rw [e2]
      simp only [List.zip_toArray]
      clear e1 e2 rel tup hp hs
      induction LL with
      | nil => rfl
      | cons a r ih => simp at ih ⊢; exact ih
    obtain ⟨L', h1, h2⟩ := perm_lift (hp.trans (List.Perm.of_eq ep)) rfl
    have relp : ∀ z ∈ L', RelV z.1.1 z.2 := fun z hz => rel z (h1.subset hz)
    have out : ((arrOf st').map (·.2)).toList = L'.map (·.2) := by
      rw [Array.toList_map, h2, List.map_map]; rfl
    obtain ⟨en, he⟩ := sortedAll_at s.heap its ((arrOf st').map (·.2))
    have hf : H (s.heap.objs.size + 1) = none := I.hok.fresh (Nat.le_succ _)
    have q' := q (L'.map (·.1)) (by rw [e1]; exact h1.map _) (by
      rw [List.pairwise_map]
      unfold Ts.Srt at hs
      rw [h2, List.pairwise_map] at hs
      refine hs.imp_of_mem fun {a b} ha hb hab => ?_
      have ta := (tup a (h1.subset ha)).2
      have tb := (tup b (h1.subset hb)).2
      have mb : Ts.tiOf s.heap b.2 ∈ its.map (Ts.tiOf s.heap) := List.mem_map_of_mem (by rw [e2]; exact List.mem_map_of_mem (h1.subset hb))
      unfold Ts.rkT at hab
      cases hg : HT.lexGt a.1.2 b.1.2 with
      | false => rfl
      | true =>
        rw [← ta, ← tb] at hg
        have := (Ts.rk_lt mb).mpr hg
        simp only at hab
        omega) _ hf
    rw [List.map_map] at q'
    refine ⟨.ref (s.heap.objs.size + 1), _, I.laid (a := s.heap.objs.size + 1) (o := .lst (L'.map ((·.1) ∘ (·.1)))) (t' := s.toks) (fun b o e => sortedAll_old e) (Nat.le_succ _) ?_, rfl, q'⟩
    refine ⟨by rw [List.length_map, h1.length_eq]; have : LL.length = its.length := by rw [e2, List.length_map]
               rw [this, ← hl, ← List.length_map (f := (·.1))]; exact hz, ((arrOf st').map (·.2)).toList, en, ?_, ?_⟩
    · rw [out]; exact vals_of relp
    · rw [Array.toArray_toList]; exact he
theorem reps_of {α : Type} {K : PySem.W.Frag} {G : Hp} {f : α → V} {g : α → D} : ∀ {L : List α}, (∀ q ∈ L, Rep K G (f q) (g q)) → Reps K G (L.map f) (L.map g)
  | [], _ => Reps.nil
  | q :: L, h => Reps.cons (h q List.mem_cons_self) (reps_of fun x hx => h x (List.mem_cons_of_mem _ hx))
def oSorted64 : SpD := fun ds Q => match ds with
  | [.lst es] => match itups es with
    | some tss => tss.length < 64 ∧ (∀ t ∈ tss, t ≠ []) ∧ ∀ tss' : List (List Int), tss'.Perm tss → tss'.Pairwise (fun x y => HT.lexGt x y = false) → Q (.ow (tss'.map fun t => .tup (t.map D.int)))
    | none => False
  | _ => False
theorem sort_fin {G H : Hp} {vs : List V} {es : List D} {tss : List (List Int)} {Q : R → Prop} {P : VK} (s : Same G H) (rs : Reps X.K G vs [.lst es]) (ht : itups es = some tss) (hn : ∀ t ∈ tss, t ≠ []) (hr : 2 ≤ tss.length → Ts.RunsOK tss.length)
    (q : ∀ tss' : List (List Int), tss'.Perm tss → tss'.Pairwise (fun x y => HT.lexGt x y = false) → Q (.ow (tss'.map fun t => .tup (t.map D.int)))) (k : ∀ v H' r' G', Ext G H G' H' → RepR X.K G' H' H v r' → Q r' → P v H') :
    ∃ (p : Addr) (ps : List (V × List Int)), vs = [.ref p] ∧ SqL X.K H p (ps.map (·.1)) ∧ (∀ q ∈ ps, q.2 ≠ [] ∧ ∃ b, q.1 = .ref b ∧ SqT X.K H b (q.2.map V.int)) ∧ (2 ≤ ps.length → Ts.RunsOK ps.length) ∧
      ∀ ps' : List (V × List Int), ps'.Perm ps → ps'.Pairwise (fun x y => HT.lexGt x.2 y.2 = false) → ∀ l, H l = none → P (.ref l) (upd H l (.lst (ps'.map (·.1)))) := by
  obtain ⟨v, rfl, rv⟩ := reps1 rs
  simp only [Rep] at rv
  obtain ⟨a, xs, rfl, h1, h2⟩ := rv
  obtain ⟨h3, h4⟩ := itups_at ht h2
  have e1 : (xs.zip tss).map (·.1) = xs := List.map_fst_zip (by omega)
  have e2 : (xs.zip tss).map (·.2) = tss := List.map_snd_zip (by omega)
  have el : (xs.zip tss).length = tss.length := by rw [List.length_zip]; omega
  have hz : ∀ q ∈ xs.zip tss, Rep X.K G q.1 (.tup (q.2.map D.int)) ∧ ∃ b, q.1 = .ref b ∧ SqT X.K G b (q.2.map V.int) := fun q hq => by
    obtain ⟨i, hi⟩ := List.getElem?_of_mem hq
    have a1 : xs[i]? = some q.1 := by rw [← e1]; simp only [List.getElem?_map, hi]; rfl
    have a2 : tss[i]? = some q.2 := by rw [← e2]; simp only [List.getElem?_map, hi]; rfl
    exact h4 i _ _ a1 a2
  refine ⟨a, xs.zip tss, rfl, by rw [e1]; exact (s.rdl h1).sq, fun z hq => ⟨hn _ (by rw [← e2]; exact List.mem_map_of_mem hq), ?_⟩, by rw [el]; exact hr, fun ps' p1 p2 => ?_⟩
  · obtain ⟨_, b, e, sq⟩ := hz z hq
    exact ⟨b, e, s.seqT sq⟩
  · refine own_fin s (ds := (ps'.map (·.2)).map fun t => .tup (t.map D.int)) ?_ (q (ps'.map (·.2)) (by rw [← e2]; exact p1.map _) (by rw [List.pairwise_map]; exact p2)) k
    rw [List.map_map]
    exact reps_of fun q hq => (hz q (p1.subset hq)).1
theorem c_sorted64 (_ : X.calm = true) : CallP X (.builtin "sorted") oSorted64 := by
  refine ⟨_, call_sortT, fun G H vs ds Q P s rs h k => ?_⟩
  unfold oSorted64 at h
  split at h
  · split at h
    · rename_i es tss ht
      exact sort_fin s rs ht h.2.1 (fun h2 => Ts.runs_64 (by omega) h.1) h.2.2 k
    · exact h.elim
  · exact h.elim
end
end L2
set_option Elab.async false
set_option linter.all false
set_option maxRecDepth 100000
set_option maxHeartbeats 1000000
namespace L2
open PySem PySem.Spec PyProof.Rows
section
variable {K : PySem.W.Frag} {G H : Hp}
theorem RepE.length : ∀ {qs : List Addr} {dss : List (List (Key × D))}, RepE K G H qs dss → qs.length = dss.length
  | [], [], _ => rfl
  | q :: qs, ds :: dss, h => by
    simp only [RepE] at h
    simp only [List.length_cons, RepE.length h.2]
  | [], _ :: _, h => by simp only [RepE] at h
  | _ :: _, [], h => by simp only [RepE] at h
theorem RepE.snoc {p : Addr} {ds : List (Key × D)} {zs : List (Key × V)} {ep : Nat} : ∀ {qs : List Addr} {dss : List (List (Key × D))}, RepE K G H qs dss → H p = some (.dK zs ep) → RepK K G zs ds → RepE K G H (qs ++ [p]) (dss ++ [ds])
  | [], [], _, h1, h2 => by simp only [List.nil_append, RepE]; exact ⟨⟨zs, ep, h1, h2⟩, trivial⟩
  | q :: qs, es :: dss, h, h1, h2 => by
    simp only [RepE] at h
    simp only [List.cons_append, RepE]
    exact ⟨h.1, RepE.snoc h.2 h1 h2⟩
  | [], _ :: _, h, _, _ => by simp only [RepE] at h
  | _ :: _, [], h, _, _ => by simp only [RepE] at h
theorem RepE.get : ∀ {qs : List Addr} {dss : List (List (Key × D))} {j : Nat} {ds : List (Key × D)}, RepE K G H qs dss → dss[j]? = some ds → ∃ q ks ep, qs[j]? = some q ∧ H q = some (.dK ks ep) ∧ RepK K G ks ds
  | [], [], j, ds, _, e => by simp at e
  | q :: qs, es :: dss, 0, ds, h, e => by
    simp only [RepE] at h
    simp only [List.getElem?_cons_zero, Option.some.injEq] at e
    subst e
    obtain ⟨⟨ks, ep, h1, h2⟩, _⟩ := h
    exact ⟨q, ks, ep, rfl, h1, h2⟩
  | q :: qs, es :: dss, j + 1, ds, h, e => by
    simp only [RepE] at h
    simp only [List.getElem?_cons_succ] at e ⊢
    exact RepE.get h.2 e
  | [], _ :: _, _, _, h, _ => by simp only [RepE] at h
  | _ :: _, [], _, _, h, _ => by simp only [RepE] at h
theorem RepE.set {q : Addr} {ys : List (Key × V)} {ep : Nat} {es : List (Key × D)} (hy : RepK K G ys es) : ∀ {qs : List Addr} {dss : List (List (Key × D))} {j : Nat}, RepE K G H qs dss → qs.Nodup → qs[j]? = some q → RepE K G (upd H q (.dK ys ep)) qs (dss.set j es)
  | [], [], j, _, _, e => by simp at e
  | r :: qs, ds :: dss, 0, h, nd, e => by
    simp only [RepE] at h
    simp only [List.getElem?_cons_zero, Option.some.injEq] at e
    subst e
    simp only [List.set_cons_zero, RepE]
    refine ⟨⟨ys, ep, upd_same, hy⟩, h.2.mono (Same.refl _) fun p hp u e => ?_⟩
    rw [upd_ne (fun z : p = r => (List.nodup_cons.mp nd).1 (z ▸ hp))]
    exact e
  | r :: qs, ds :: dss, j + 1, h, nd, e => by
    simp only [RepE] at h
    simp only [List.getElem?_cons_succ] at e
    simp only [List.set_cons_succ, RepE]
    refine ⟨?_, RepE.set hy h.2 (List.nodup_cons.mp nd).2 e⟩
    obtain ⟨⟨ks, ep, h1, h2⟩, _⟩ := h
    refine ⟨ks, ep, ?_, h2⟩
    rw [upd_ne (fun z : r = q => (List.nodup_cons.mp nd).1 (z ▸ List.mem_of_getElem? e))]
    exact h1
  | [], _ :: _, _, h, _, _ => by simp only [RepE] at h
  | _ :: _, [], _, h, _, _ => by simp only [RepE] at h
end
section
variable {X : Cx} {elt iter tg : Expr} {ifs : List Expr} {scope : Scope} {pos : Pos} {N' : List Str} {m : List (Option Nat)} {wi : TId} {g : TGd} {tc : TDb} {te : TD}
end
section
variable {X : Cx} {pos : Pos} {e i' i2 : Expr} {te ti tk : TD}
end
end L2
set_option Elab.async false
set_option linter.all false
set_option maxRecDepth 100000
set_option maxHeartbeats 1000000
namespace L2
open PySem PySem.Spec PyProof.Rows
end L2
set_option Elab.async false
set_option linter.all false
set_option maxRecDepth 100000
set_option maxHeartbeats 1000000
namespace L2
open PySem PySem.Spec PyProof.Rows
theorem items_are {P : Program} {w : World} : ∀ {ks : List Key} {us : List Value}, Vals (ks.map kV) us → ItemsAre (mixKind P w) ks us
  | [], _, r => by rw [List.map_nil] at r; cases r; exact .nil
  | k :: ks, _, r => by
    rw [List.map_cons] at r
    cases r with
    | cons h t => exact .cons (kV_is h) (items_are t)
abbrev KT (H : Hp) : List (List Key × V) → List (List Key × Addr × Value) → Prop := Paired fun p q => p.1 = q.1 ∧ H q.2.1 = some (.tup (p.1.map kV)) ∧ RelV p.2 q.2.2
theorem KT.val {H : Hp} {kvs : List (List Key × V)} {xs : List (List Key × Addr × Value)} (r : KT H kvs xs) (k : List Key) : RelO (valV kvs k) ((atKey xs k).map (·.2)) := by
  induction r with
  | nil => exact True.intro
  | @cons p q ps qs h t ih =>
    obtain ⟨h1, _, h2⟩ := h
    by_cases e : p.1 = k
    · have e' : q.1 = k := h1.symm.trans e
      have b : atKey (q :: qs) k = some q.2 := by simp [atKey, List.find?_cons, e']
      rw [valV_pos e, b]; exact h2
    · have e' : ¬ q.1 = k := fun z => e (h1.trans z)
      have b : atKey (q :: qs) k = atKey qs k := by simp [atKey, List.find?_cons, e']
      rw [valV_neg e, b]; exact ih
theorem KT.repl {H : Hp} {kvs : List (List Key × V)} {xs : List (List Key × Addr × Value)} (r : KT H kvs xs) (k : List Key) {y : V} {u : Value} (ry : RelV y u) :
    KT H (kvs.map fun kv => if kv.1 = k then (kv.1, y) else kv) (xs.map (putAt k u)) := by
  induction r with
  | nil => exact .nil
  | @cons p q ps qs h t ih =>
    rw [List.map_cons, List.map_cons]
    refine .cons ?_ ih
    obtain ⟨h1, h2, h3⟩ := h
    unfold putAt
    by_cases e : p.1 = k
    · rw [if_pos e, if_pos (h1.symm.trans e)]; exact ⟨h1, h2, ry⟩
    · rw [if_neg e, if_neg (fun z => e (h1.trans z))]; exact ⟨h1, h2, h3⟩
theorem KT.put {H : Hp} {kvs : List (List Key × V)} {xs : List (List Key × Addr × Value)} (r : KT H kvs xs) (k : List Key) {b : Addr} {y : V} {u : Value} (hb : H b = some (.tup (k.map kV))) (ry : RelV y u) :
    KT H (putK kvs k y) (storedH xs k b u) := by
  have e : (kvs.any fun kv => decide (kv.1 = k)) = (atKey xs k).isSome := by
    rw [valV_any, (r.val k).isSome_eq, Option.isSome_map]
  unfold putK storedH
  rw [e]
  by_cases q : (atKey xs k).isSome = true
  · rw [if_pos q, if_pos q]; exact r.repl k ry
  · rw [if_neg q, if_neg q]; exact Paired.snoc r ⟨rfl, hb, ry⟩
theorem KT.keeps {H H' : Hp} {kvs : List (List Key × V)} {xs : List (List Key × Addr × Value)} (r : KT H kvs xs) (ht : ∀ b ys, H b = some (.tup ys) → H' b = some (.tup ys)) : KT H' kvs xs :=
  Paired.mapP r fun _ _ z => ⟨z.1, ht _ _ z.2.1, z.2.2⟩
section
variable {P : Program} {w : World} {H : Hp} {h : Heap} {a : Addr}
theorem rd_of {u : HO} (ok : HOk P w H h) (e : Rd H a u) : ObjOk P w H h a u := e.ok ok
theorem key_of {ks : List Key} (ok : HOk P w H h) (e : H a = some (.tup (ks.map kV))) : (tupleKind (mixKind P w)).is h ks a := by
  obtain ⟨_, its, r, o, h1, h2, n, h3⟩ := (show ObjOk P w H h a (.tup (ks.map kV)) from ok a _ e)
  exact ⟨o, its.toArray, n, h1, h2, h3, by simpa using items_are r⟩
end
end L2
set_option Elab.async false
set_option linter.all false
set_option maxRecDepth 100000
set_option maxHeartbeats 4000000
namespace PySem
open Sem (wp)
section
variable {prog : Program} {w : World} {K : Type} [DecidableEq K] {knd : HeapKind prog w K} {A : Around} {E : Value → Shared → Prop} {s : Shared}
theorem setDefault_heap {d a : Addr} {xs : List (K × Addr × Value)} {k : K} {dflt : Value} {Q : Value → Shared → Prop} (hu : knd.room A) (hkey : knd.is s.heap k a) (hm : s.heap.DictOfH knd d xs)
    (there : ∀ p, atKey xs k = some p → Q p.2 { s with toks := s.toks + knd.draws k })
    (new : atKey xs k = none → ∀ h', h'.DictOfH knd d (storedH xs k a dflt) → Heap.SameBut d s.heap h' → Q dflt { s with heap := h', toks := s.toks + knd.draws k })
    (hsz : xs.length ≤ sizeLine) : wpAny (model prog w) A (dictSetDefault d (.ref a) dflt) Q E s := by
  obtain ⟨o, es, ep, ho, hc, hd, he, his, hn⟩ := hm
  unfold dictSetDefault
  try with_reducible refine wpAny_holding ?_
  refine wpAny_bind (knd.pyHash hu hkey (wpAny_bind (wpAny_dictFind_heap (s := { s with toks := s.toks + knd.draws k }) hu hkey ho hd he his hn (fun hno => ?_) fun j p hj => ?_)))
  · have e := atKey_none_of_get hno
    have nw := new e
    rw [storedH_new e] at nw
    have hno' : k ∉ xs.map (·.1) := not_mem_keys_of_get hno
    have hzz : es.size ≤ sizeLine := by have := size_of_entries he; omega
    refine wpAny_bind (wpAny_rule (wpAny_bind (wpAny_updateDictKeys (hz := hzz) (s := { s with toks := s.toks + knd.draws k }) ho hd (wpAny_pure (nw _ ⟨_, _, ep + 1, Heap.get?_update_self _ ho (Obj.isFreed_of_dict (Obj.data_mapDictKeys hd _)),
      hc.mapDictKeys _, Obj.data_mapDictKeys hd _, by simp [he, entryOfKey], fun x hx => ?_, ?_⟩ (Heap.SameBut.update ..))))))
    · have keep : ∀ {k' : K} {a' : Addr}, knd.is s.heap k' a' → knd.is (s.heap.update d (Obj.mapDictKeys fun es => es.push ⟨knd.hash k, .ref a, dflt⟩)) k' a' := fun h => knd.keeps h ho hd (Heap.SameBut.update ..)
      rcases List.mem_append.mp hx with hx | hx
      · exact keep (his x hx)
      · rw [List.mem_singleton.mp hx]; exact keep hkey
    · rw [List.map_append, List.nodup_append]
      exact ⟨hn, by simp, fun x hx y hy z => hno' (by rw [List.map_singleton, List.mem_singleton] at hy; rw [← show x = k from z.trans hy]; exact hx)⟩
  · refine wpAny_bind (wpAny_dictEntries (s := { s with toks := s.toks + knd.draws k }) ho hd ?_)
    rw [entry_at he j, hj]
    exact wpAny_bind (wpAny_rule (wpAny_pure (there p (atKey_of_get hn hj))))
theorem meets_setdefault_heap {d a : Addr} (hd : (d == sysModules) = false) (dflt : Value) :
    MeetsIn prog w (Builtin.«dict.setdefault» ⟨[.ref d, .ref a, dflt], []⟩) (fun A R s => ∃ k xs, knd.room A.in1 ∧ knd.is s.heap k a ∧ s.heap.DictOfH knd d xs ∧ xs.length ≤ sizeLine ∧
      (∀ p, atKey xs k = some p → R (.ok (.ret p.2)) { s with toks := s.toks + knd.draws k }) ∧
      (atKey xs k = none → ∀ h', h'.DictOfH knd d (storedH xs k a dflt) → Heap.SameBut d s.heap h' → R (.ok (.ret dflt)) { s with heap := h', toks := s.toks + knd.draws k })) :=
  .of_wp fun A R s ⟨k, xs, hu, hk, hm, hz, h1, h2⟩ => by
    unfold Builtin.«dict.setdefault»
    refine wpAny_bind ?_
    unfold Builtin.Dict.keyAndDefault
    refine wpAny_bind (wpAny_notOrdered_dict hm.typeIs ?_)
    show wpAny _ _ (pure (d, Value.ref a, some dflt)) _ _ s
    refine wpAny_pure ?_
    show wpAny _ _ (if (d == sysModules) = true then _ else (dictSetDefault d (.ref a) dflt >>= _)) _ _ s
    rw [if_neg (by rw [hd]; exact Bool.false_ne_true)]
    exact wpAny_bind (setDefault_heap hu hk hm (fun p hp => wpAny_pure ⟨p.2, rfl, h1 p hp⟩) (fun hn h' hm' hs' => wpAny_pure ⟨dflt, rfl, h2 hn h' hm' hs'⟩) hz)
end
end PySem
set_option Elab.async false
set_option linter.all false
set_option maxRecDepth 100000
set_option maxHeartbeats 4000000
namespace PySem
open Sem (wp)
def RawAt (h : Heap) (d : Addr) (es : Array DictEntry) (ep : Nat) : Prop := ∃ o, h.get? d = some o ∧ o.ExactDict ∧ o.data = .dict es ep
theorem RawAt.kept {h h' : Heap} {d : Addr} {es : Array DictEntry} {ep : Nat} (x : RawAt h d es ep) (k : ∀ o, h.get? d = some o → h'.get? d = some o) : RawAt h' d es ep := let ⟨o, ho, r⟩ := x; ⟨o, k o ho, r⟩
section
variable {prog : Program} {w : World} {A : Around} {E : Value → Shared → Prop} {s : Shared} {d it : Addr} {es : Array DictEntry} {ep i : Nat}
theorem RawAt.ty (x : RawAt s.heap d es ep) : s.TypeIs (.ref d) "dict" := let ⟨o, ho, hc, _⟩ := x; ⟨o, ho, hc.1⟩
theorem raw_iter {Q : Value → Shared → Prop} (hd : (d == sysModules) = false) (x : RawAt s.heap d es ep)
    (q : Q (.ref s.heap.objs.size) { s with heap := s.heap.push { cls := .type "dict_keyiterator", data := .fields #[.ref d, .int 0 0, .int es.size 0, .int ep 0] } }) : wpAny (model prog w) A (pyIter (.ref d)) Q E s := by
  obtain ⟨od, god, _, eod⟩ := id x
  refine wpAny_pyIter_slot x.ty F.slot_dict_iter (wpAny_call_entry F.slot_dict_iter x.ty F.entry_dict_iter ?_ (F.args_dict_iter_1 _))
  unfold Builtin.«dict.__iter__»
  refine wpAny_bind (m := Builtin.Dict.dictSlotNone _ _) ?_
  unfold Builtin.Dict.dictSlotNone
  refine wpAny_bind (wpAny_notOrdered_dict x.ty (show wpAny _ _ (pure (Value.ref d)) _ _ s from wpAny_pure ?_))
  show wpAny _ _ (Builtin.Dict.showsAll d >>= _) _ _ s
  unfold Builtin.Dict.showsAll
  rw [if_neg (by rw [hd]; exact Bool.false_ne_true)]
  refine wpAny_bind (wpAny_pure (wpAny_bind (wpAny_dictEntries god eod (wpAny_bind (wpAny_dictEpoch god eod (wpAny_bind (wpAny_newObj_type (wpAny_pure ⟨_, rfl, "dict_keyiterator", _, ⟨_, Heap.get?_push_size _ rfl, rfl⟩, F.slot_dict_keyiterator_next.lookup, ?_⟩))))))))
  simpa [rawInt] using q
theorem raw_item {Q : Option Value → Shared → Prop} (t : s.heap.IsKeyIter it d i es.size ep) (x : RawAt s.heap d es ep) (hi : i < es.size)
    (q : ∀ h', h'.IsKeyIter it d (i + 1) es.size ep → Heap.SameBut it s.heap h' → Q (some es[i].key) { s with heap := h' }) : wpAny (model prog w) A (pyNext (.ref it)) Q E s := by
  obtain ⟨oi, goi, coi, doi⟩ := id t
  obtain ⟨od, god, _, eod⟩ := id x
  unfold pyNext
  refine wpAny_bind (wpAny_attempt (wpAny_callSpecial?_slot (name := Str.ofString "__next__") t.typeIs F.slot_dict_keyiterator_next
    (wpAny_call_entry F.slot_dict_keyiterator_next t.typeIs F.entry_dict_keyiterator_next ?_ (F.args_dict_keyiterator_next_1 _))))
  refine wpAny_bind (wpAny_pure (wpAny_bind (wpAny_bind ?_)))
  refine wpAny_bind (wpAny_typeNameOfWhole_keyiter t.typeIs (wpAny_pure (wpAny_bind (wpAny_fieldsOf goi doi ?_))))
  simp only [show Builtin.Dict_items.ownsTuple "dict_keyiterator" = false by decide, Bool.false_eq_true, if_false]
  show wpAny _ _ (if (Value.ref d == Value.none) = true then _ else _) _ _ s
  rw [if_neg (show ¬ ((Value.ref d == Value.none) = true) from Bool.false_ne_true)]
  refine wpAny_bind (wpAny_pure (wpAny_bind (wpAny_dictEntries god eod ?_)))
  rw [if_neg (by simp)]
  refine wpAny_bind (wpAny_pure (wpAny_bind (wpAny_dictEpoch god eod ?_)))
  rw [if_neg (by simp)]
  refine wpAny_pure ?_
  simp only [show ¬ ((i : Int) < 0) from by omega, if_false, Int.toNat_natCast, Array.getElem?_eq_getElem hi]
  refine wpAny_bind (wpAny_bind (wpAny_typeNameOfWhole_keyiter t.typeIs (wpAny_pure (wpAny_bind (wpAny_isOneOf_keyiter t.typeIs ?_)))))
  show wpAny _ _ (setField (.ref it) 1 (rawInt ((i : Int) + 1)) >>= _) _ _ s
  refine wpAny_bind (wpAny_setField goi doi (by simp) ?_)
  have t' : (s.heap.update it (Obj.mapFields (·.setIfInBounds 1 (rawInt ((i : Int) + 1))))).IsKeyIter it d (i + 1) es.size ep :=
    ⟨_, Heap.get?_update_self _ goi (Obj.isFreed_of_fields (Obj.data_mapFields doi _)), (Obj.cls_mapFields ..).trans coi, by rw [Obj.data_mapFields doi]; simp [rawInt]⟩
  refine wpAny_bind (wpAny_holding (wpAny_bind (wpAny_isOneOf_keyiter (s := { s with heap := s.heap.update it (Obj.mapFields (·.setIfInBounds 1 (rawInt ((i : Int) + 1)))) }) t'.typeIs ?_)))
  show wpAny _ _ (pure es[i].key) _ _ _
  exact wpAny_pure (wpAny_pure ⟨_, rfl, wpAny_pure (q _ t' (Heap.SameBut.update ..))⟩)
theorem raw_end {Q : Option Value → Shared → Prop} (hh : A.handled = none) (t : s.heap.IsKeyIter it d i es.size ep) (x : RawAt s.heap d es ep) (hi : es.size ≤ i)
    (q : ∀ h', Heap.ExtBut it s.heap h' → Q none { s with heap := h' }) : wpAny (model prog w) A (pyNext (.ref it)) Q E s := by
  obtain ⟨oi, goi, coi, doi⟩ := id t
  obtain ⟨od, god, _, eod⟩ := id x
  unfold pyNext
  refine wpAny_bind (wpAny_attempt (wpAny_callSpecial?_slot (name := Str.ofString "__next__") t.typeIs F.slot_dict_keyiterator_next
    (wpAny_call_entry F.slot_dict_keyiterator_next t.typeIs F.entry_dict_keyiterator_next ?_ (F.args_dict_keyiterator_next_1 _))))
  refine wpAny_bind (wpAny_pure (wpAny_bind (wpAny_bind ?_)))
  refine wpAny_bind (wpAny_typeNameOfWhole_keyiter t.typeIs (wpAny_pure (wpAny_bind (wpAny_fieldsOf goi doi ?_))))
  simp only [show Builtin.Dict_items.ownsTuple "dict_keyiterator" = false by decide, Bool.false_eq_true, if_false]
  show wpAny _ _ (if (Value.ref d == Value.none) = true then _ else _) _ _ s
  rw [if_neg (show ¬ ((Value.ref d == Value.none) = true) from Bool.false_ne_true)]
  refine wpAny_bind (wpAny_pure (wpAny_bind (wpAny_dictEntries god eod ?_)))
  rw [if_neg (by simp)]
  refine wpAny_bind (wpAny_pure (wpAny_bind (wpAny_dictEpoch god eod ?_)))
  rw [if_neg (by simp)]
  refine wpAny_pure ?_
  simp only [show ¬ ((i : Int) < 0) from by omega, if_false, Int.toNat_natCast, Array.getElem?_eq_none hi]
  refine wpAny_bind (wpAny_bind (wpAny_typeNameOfWhole_keyiter t.typeIs (wpAny_pure ?_)))
  show wpAny _ _ (setField (.ref it) 0 .none >>= _) _ _ s
  refine wpAny_bind (wpAny_setField goi doi (by simp) ?_)
  show wpAny _ _ (newExc (.type "StopIteration") [] >>= _) _ _ _
  refine wpAny_bind ?_
  simp only [newExc, newTuple]
  refine wpAny_bind (wpAny_newObj_type (wpAny_bind (m := firstArgMember _ _) (wpAny_of_eq (a := Value.none) (by first | rfl | (simp only [firstArgMember]; rfl)) (wpAny_newObj_type ?_ (by size_fits)))) (by size_fits))
  simp only [raiseNew]
  refine wpAny_bind (wpAny_handled ?_)
  rw [show A.in1.handled = none from hh]
  refine wpAny_bind (wpAny_pure (wpAny_throw ?_))
  refine wpAny_bind (wpAny_isInstance (T := "StopIteration") (b := true) ⟨_, Heap.get?_push_size _ rfl, rfl⟩ isSubtype_stop ?_)
  exact wpAny_pure (q _ (((Heap.SameBut.update ..).extBut.push _).push _))
theorem raw_walks (hh : A.handled = none) (I d : Addr) (hne : d ≠ I) (es : Array DictEntry) (ep : Nat) :
    Walks prog w A I [I, d] [I] es.size (fun i v => ∃ h : i < es.size, v = es[i].key) (fun i h => h.IsKeyIter I d i es.size ep ∧ RawAt h d es ep) where
  sub := fun b hb => by simp at hb; simp [hb]
  frame := fun _ _ _ st hk => ⟨st.1.at fun o e => hk I (by simp) o e, st.2.kept fun o e => hk d (by simp) o e⟩
  item := fun i s Q E hi st hQ => raw_item st.1 st.2 hi fun h' t' hs' => hQ _ h' s.toks ⟨hi, rfl⟩ ⟨t', st.2.kept fun o e => hs'.extBut _ _ hne e⟩ fun b o hb e => hs'.extBut b o (fun h => hb (by simp [h])) e
  done := fun s Q E st hQ => raw_end hh st.1 st.2 (Nat.le_refl _) fun h' he' => hQ h' s.toks fun b o hb e => he' b o (fun h => hb (by simp [h])) e
  self := fun _ _ _ _ st hQ => wpAny_pyIter_keyiter st.1 hQ
end
end PySem
set_option Elab.async false
set_option linter.all false
set_option maxRecDepth 100000
set_option maxHeartbeats 1000000
namespace L2
open PySem PySem.Spec PyProof.Rows
def IsT (H : Hp) (a : Addr) : Prop := ∃ kvs bs, Rd H a (.dT kvs bs)
section
variable {P : Program} {w : World} {H : Hp} {h : Heap} {a : Addr}
theorem dt_at {kvs : List (List Key × V)} {bs : List Addr} (ok : HOk P w H h) (e : Rd H a (.dT kvs bs)) : kvs.length ≤ sizeLine ∧ (a == sysModules) = false ∧
    ∃ xs, xs.map (fun x => x.2.1) = bs ∧ KT H kvs xs ∧ h.DictOfH (tupleKind (mixKind P w)) a xs := by
  obtain ⟨z, y, xs, bq, r, o, es, ep, h1, h2, h3, h4, h5⟩ := (show ObjOk P w H h a (.dT kvs bs) from rd_of ok e)
  have all : ∀ {l : List (List Key × V)} {m : List (List Key × Addr × Value)}, KT H l m → ∀ x ∈ m, (tupleKind (mixKind P w)).is h x.1 x.2.1 := fun {l m} q => by
    induction q with
    | nil => exact fun x hx => nomatch hx
    | @cons p q ps qs hq t ih =>
      intro x hx
      cases hx with
      | head => exact key_of ok (by rw [← hq.1]; exact hq.2.1)
      | tail _ hx => exact ih x hx
  exact ⟨z, y, xs, bq, r, o, es, ep, h1, h2, h3, h4, all r, h5⟩
end
def tNewT : TE := fun _ H Q => ∀ p, H p = none → Q (.ref p) (upd H p (.dT [] []))
section
variable {X : Cx} {pos : Pos} {e i' : Expr} {te ti : TD}
theorem pe_newT : PE X (.Dict [] [] pos) tNewT := fun pins s σ H Q I h => by
  have ok : ObjOk X.prog X.w (upd H s.heap.objs.size (.dT [] [])) (s.heap.push { cls := .type "dict", data := .dict #[] }) s.heap.objs.size (.dT [] []) :=
    ⟨Nat.zero_le _, beq_eq_false_iff_ne.mpr (Ne.symm (Nat.ne_of_lt I.big)), [], rfl, .nil, _, #[], 0, Heap.get?_push_size _ rfl, ⟨rfl, rfl, rfl⟩, rfl, rfl, List.nodup_nil⟩
  exact wpAny_Dict_empty ⟨.ref s.heap.objs.size, _, I.laid (a := s.heap.objs.size) (o := .dT [] []) (t' := s.toks) (fun _ _ q => Heap.get?_push_of_some _ q) (Nat.le_refl _) ok, rfl, h _ (I.hok.fresh (Nat.le_refl _))⟩
theorem isT_at {pins : List (Addr × Obj)} {σ : St} {H : Hp} {s : Shared} {a : Addr} (I : Inv X pins σ H s) (d : IsT H a) :
    s.TypeIs (.ref a) "dict" ∧ (∀ b, Value.ref a = .ref b → ∃ ob, s.heap.get? b = some ob ∧ ob.dict = none) ∧ (a == sysModules) = false := by
  obtain ⟨kvs, bs, e⟩ := d
  obtain ⟨_, hd, xs, _, _, dd⟩ := dt_at I.hok e
  refine ⟨dd.typeIs, fun b q => ?_, hd⟩
  cases q
  obtain ⟨ob, _, _, h1, h2, _⟩ := dd
  exact ⟨ob, h1, h2.2.1⟩
def tDSdT (td ty tx : TE) : TE := fun σ H Q => td σ H fun x H1 => ∃ a, x = .ref a ∧ IsT H1 a ∧ ty σ H1 fun y H2 => tx σ H2 fun z H3 => ∃ kvs bs k b, H3 a = some (.dT kvs bs) ∧ y = .ref b ∧ H3 b = some (.tup (k.map kV)) ∧ kvs.length < sizeLine ∧
  (∀ v, valV kvs k = some v → Q v H3) ∧ (valV kvs k = none → Q z (upd H3 a (.dT (kvs ++ [(k, z)]) (bs ++ [b]))))
theorem pe_dsdT {o e f : Expr} {apos cpos : Pos} {td ty tx : TE} (hu : X.A.units + 64 < cLine) (ho : PE X o td) (he : PE X e ty) (hf : PE X f tx) (m : M2 X o "setdefault" apos e f cpos) : PE X (.Call (.Attribute o "setdefault" apos) [e, f] [] cpos) (tDSdT td ty tx) := by
  intro pins s σ H Q I h
  refine wpAny_Call_method m.base m.few m.line PySem.F.plainAttrs_dict PySem.F.slot_dict_setdefault PySem.F.type_dict_setdefault (thn (ho pins s σ H _ I h) fun u s1 ⟨x, H1, I1, rx, a, ex, d, q1⟩ => ?_)
  subst ex
  obtain rfl : u = Value.ref a := rx
  obtain ⟨t1, t2, _⟩ := isT_at I1 d
  refine ⟨t1, t2, ?_⟩
  rw [m.trees]
  refine Calls.callWith_builtin rfl (Calls.evalArgs_plain (Calls.spliced_cons (thn (he pins s1 σ H1 _ I1 q1) fun iv s2 ⟨y, H2, I2, ry, q2⟩ =>
    Calls.spliced_cons (thn (hf pins s2 σ H2 _ I2 q2) fun fv s3 ⟨z, H3, I3, rz, kvs, bs, k, b, hk, ey, hb, hl, q3, q4⟩ => Calls.spliced_nil ?_))))
  subst ey
  obtain rfl : iv = Value.ref b := ry
  obtain ⟨hz, hd, xs, bq, rel, dd⟩ := dt_at I3.hok (.inl hk)
  have hlen : kvs.length = xs.length := Paired.length rel
  refine call_meetsIn PySem.F.slot_dict_setdefault dd.typeIs PySem.F.entry_dict_setdefault (PySem.F.args_dict_setdefault_3 _ _ _) (meets_setdefault_heap (knd := tupleKind (mixKind X.prog X.w)) hd fv)
    ⟨k, xs, tupleKind_room_in1 (by show X.A.units + 1 < cLine; omega), key_of I3.hok hb, dd, by rw [← hlen]; exact hz, fun p hp => ?_, fun hn h' dd' hs => ?_⟩
  · have r := rel.val k
    rw [hp] at r
    cases hx : valV kvs k with
    | none => rw [hx] at r; exact r.elim
    | some x =>
      rw [hx] at r
      exact ⟨x, H3, I3.tok _, r, q3 x hx⟩
  · have r := rel.val k
    rw [hn] at r
    cases hx : valV kvs k with
    | some => rw [hx] at r; exact r.elim
    | none =>
      obtain ⟨q, es, ep, hq, h2, h3, h4, _, h5⟩ := dd'
      rw [storedH_new hn] at h4 h5
      have rel' : KT H3 (kvs ++ [(k, z)]) (xs ++ [(k, b, fv)]) := Paired.snoc rel ⟨rfl, hb, rz⟩
      have ok : ObjOk X.prog X.w (upd H3 a (.dT (kvs ++ [(k, z)]) (bs ++ [b]))) h' a (.dT (kvs ++ [(k, z)]) (bs ++ [b])) := by
        refine ⟨by rw [List.length_append]; simp; omega, hd, _, by rw [List.map_append, bq]; rfl, rel'.keeps fun c ys ec => ?_, q, es, ep, hq, h2, h3, h4, h5⟩
        rw [upd_ne (ne_of ec hk (fun z => nomatch z))]
        exact ec
      exact ⟨z, _, d_write I3 (by rw [hk]; exact True.intro) hs ⟨q, hq⟩ ok, rz, q4 hx⟩
def dNewT : TD := fun _ Q => Q (.ov (.dt []))
theorem pd_dnewT : PD X (.Dict [] [] pos) dNewT := by
  refine ⟨_, pe_newT, fun ρ σ G0 H0 G H Q P E h k => fun d hd => ?_⟩
  refine k _ _ (.ov (.dt [])) G (.own E.e.s hd) ⟨d, [], rfl, by simp, ⟨[], [], upd_same, trivial, rfl, rfl, by simp only [List.map_nil, RepL]⟩, fun q hq => ?_⟩ h
  simp only [List.mem_singleton] at hq
  subst hq
  exact ⟨hd, E.e.s.free hd⟩
def dTupO (ts : TDa) : TD := fun ρ Q => ts ρ fun ds => ds.length ≤ sizeLine ∧ Q (.ov (.tp ds))
theorem pd_tupO {es : List Expr} {ts : TDa} {x1} (h : PDa X es ts) : PD X (.Tuple es x1 pos) (dTupO ts) := by
  obtain ⟨t, p, q⟩ := h
  refine ⟨_, pe_tup p, fun ρ σ G0 H0 G H Q P E h k => q ρ σ G0 H0 G H _ _ E h fun vs H' ds G' x rs hq => ⟨by rw [rs.length]; exact hq.1, fun p hp => ?_⟩⟩
  have hg : G' p = none := x.s.free hp
  refine k _ _ (.ov (.tp ds)) G' (x.trans (.own x.s hp)) ⟨p, [], rfl, by simp, ⟨rfl, vs, upd_same, rs⟩, fun q hq => ?_⟩ hq.2
  simp only [List.mem_singleton] at hq
  subst hq
  exact ⟨x.h.free hp, hg⟩
theorem valT_first {ks : List (List Key × V)} {k : List Key} {j : Nat} {v : V} (h : ks[j]? = some (k, v)) (hf : ∀ j' < j, ∀ p, ks[j']? = some p → p.1 ≠ k) : valV ks k = some v := by
  induction ks generalizing j with
  | nil => simp at h
  | cons a ks ih =>
    unfold valV
    rw [List.find?_cons]
    cases j with
    | zero =>
      simp only [List.getElem?_cons_zero, Option.some.injEq] at h
      subst h
      simp
    | succ j =>
      have ha : a.1 ≠ k := hf 0 (Nat.succ_pos _) a rfl
      simp only [ha, decide_false]
      simp only [List.getElem?_cons_succ] at h
      exact ih h fun j' hj p hp => hf (j' + 1) (Nat.succ_lt_succ hj) p (by simpa using hp)
theorem any_iff_valT {ks : List (List Key × V)} {k : List Key} : (ks.any fun kv => decide (kv.1 = k)) = (valV ks k).isSome := by
  induction ks with
  | nil => rfl
  | cons a ks ih =>
    unfold valV
    rw [List.any_cons, List.find?_cons]
    by_cases h : a.1 = k
    · simp [h]
    · simp only [h, decide_false, Bool.false_or]
      exact ih
theorem any_keysT {α β : Type} {ks : List (List Key × α)} {kvs : List (List Key × β)} (h : ks.map (·.1) = kvs.map (·.1)) (k : List Key) : (ks.any fun kv => decide (kv.1 = k)) = kvs.any fun kv => decide (kv.1 = k) := by
  have e1 : (ks.any fun kv => decide (kv.1 = k)) = (ks.map (·.1)).any fun x => decide (x = k) := by rw [List.any_map]; rfl
  have e2 : (kvs.any fun kv => decide (kv.1 = k)) = (kvs.map (·.1)).any fun x => decide (x = k) := by rw [List.any_map]; rfl
  rw [e1, e2, h]
theorem KeyIn.snoc {H : Hp} {k : List Key} {v : V} {b : Addr} (hb : H b = some (.tup (k.map kV))) : ∀ {ps : List (List Key × V)} {bs : List Addr}, KeyIn H ps bs → KeyIn H (ps ++ [(k, v)]) (bs ++ [b])
  | [], [], _ => ⟨hb, trivial⟩
  | p :: ps, c :: bs, h => ⟨h.1, KeyIn.snoc hb h.2⟩
  | [], _ :: _, h => h.elim
  | _ :: _, [], h => h.elim
theorem valT_snoc {ks : List (List Key × V)} {k : List Key} {v : V} (h : valV ks k = none) : valV (ks ++ [(k, v)]) k = some v := by
  unfold valV at h ⊢
  rw [List.find?_append]
  rw [Option.map_eq_none_iff] at h
  rw [h]
  simp
def keysD : List D → Option (List Key)
  | [] => some []
  | d :: r => match keyD d, keysD r with
    | some k, some ks => some (k :: ks)
    | _, _ => none
theorem keysD_rep {K : PySem.W.Frag} {G : Hp} : ∀ {ds : List D} {vs : List V} {ks : List Key}, Reps K G vs ds → keysD ds = some ks → vs = ks.map kV
  | [], [], ks, _, h => by simp only [keysD, Option.some.injEq] at h; subst h; rfl
  | d :: ds, v :: vs, ks, r, h => by
    simp only [Reps] at r
    simp only [keysD] at h
    split at h
    · rename_i k ks' h1 h2
      simp only [Option.some.injEq] at h
      subst h
      rw [keyD_rep r.1 h1, keysD_rep r.2 h2]
      rfl
    · cases h
  | [], _ :: _, _, r, _ => by simp only [Reps] at r
  | _ :: _, [], _, r, _ => by simp only [Reps] at r
def touchT (kvs : List (List Key × List D)) (k : List Key) : List (List Key × List D) := if (kvs.any fun kv => decide (kv.1 = k)) = true then kvs else kvs ++ [(k, [])]
def xSdT (i j : Nat) (te : TD) : TX := fun D ρ => match gt ρ i, gt ρ j with
  | .ov (.dt kvs), .ov (.tp es) => ∃ k n ds, keysD es = some k ∧ kvs.length < sizeLine ∧ (touchT kvs k)[n]? = some (k, ds) ∧ (∀ j' < n, ∀ p, (touchT kvs k)[j']? = some p → p.1 ≠ k) ∧
    te ((ρ.set j (.fz (.tup es))).set i (.ov (.dt (touchT kvs k)))) fun r => ds.length < sizeLine ∧ D.nx ((ρ.set j (.fz (.tup es))).set i (.ov (.dt ((touchT kvs k).set n (k, ds ++ [r.val])))))
  | _, _ => False
theorem px_sdT (hu : X.A.units + 64 < cLine) (i j : Nat) {x y : Str} {p1 p2 p3 p4 p5 p6 pos' : Pos} (he : PD X e te) (hN : X.N[i]? = some x := by rfl) (hv : Vis X.env.scope x := by first | exact Or.inl rfl | exact Or.inr (Or.inl rfl) | exact Or.inr (Or.inr rfl)) (hd : (x == ("__debug__" : Str)) = false := by decide) (hcd : (x == ("__classdict__" : Str)) = false := by decide)
    (hN2 : X.N[j]? = some y := by rfl) (hv2 : Vis X.env.scope y := by first | exact Or.inl rfl | exact Or.inr (Or.inl rfl) | exact Or.inr (Or.inr rfl)) (hd2 : (y == ("__debug__" : Str)) = false := by decide) (hcd2 : (y == ("__classdict__" : Str)) = false := by decide)
    (hst : starEach [e] X.env = (false, eval e X.env) :: starEach [] X.env := by rfl) (m : M2 X (.Name x p1) "setdefault" p2 (.Name y p6) (.List [] p3) p4 := by exact ⟨rfl, rfl, rfl, rfl⟩)
    (hb : ∀ {ta : TE} {t : TA}, PE X (.Call (.Attribute (.Name x p1) "setdefault" p2) [.Name y p6, .List [] p3] [] p4) ta → PA X [e] t → PE X (.Call (.Attribute (.Call (.Attribute (.Name x p1) "setdefault" p2) [.Name y p6, .List [] p3] [] p4) "append" p5) [e] [] pos') (tBM X.K "list" rAppend ta t) := by intro ta t h1 h2; exact pe_bm PySem.F.plainAttrs_list PySem.F.slot_list_append PySem.F.type_list_append mt_append h1 h2) :
    PX X (.Expr (.Call (.Attribute (.Call (.Attribute (.Name x p1) "setdefault" p2) [.Name y p6, .List [] p3] [] p4) "append" p5) [e] [] pos') pos) (xSdT i j te) := by
  obtain ⟨t, p, q⟩ := he
  refine ⟨_, ps_expr (hb (pe_dsdT hu (pe_var hN hv hd hcd) (pe_var hN2 hv2 hd2 hcd2) (pe_lst pa_nil) m) (pa_cons p pa_nil hst)), fun ρ σ G0 H0 G H D E k h g => ?_⟩
  unfold xSdT at h
  split at h
  · rename_i kvs es hg hgj
    obtain ⟨own, o1, o2⟩ := k.on
    obtain ⟨a, fp, b1, b2, ⟨ks, bs, ha, hki, hkk, hkv, hr⟩, b4⟩ := o2 i _ hg
    obtain ⟨bb, fpj, c1, c2, ⟨_, vs, hb, rvs⟩, c4⟩ := o2 j _ hgj
    obtain ⟨key, n, ds, hk1, hlen, hj, hfirst, hq1⟩ := h
    obtain ⟨L, hL, k2, _, hin⟩ := k.freezeL2 j
    have s2 : Same G (plus G H L) := plus_same hL
    have gbb : plus G H L bb = some (.tup vs) := by rw [plus_in (hin _ _ hgj c1)]; exact hb
    generalize plus G H L = G2 at k2 s2 gbb
    have efrz : frz j ρ = ρ.set j (.fz (.tup es)) := by unfold frz; rw [hgj]; rfl
    rw [efrz] at k2
    have hij : j ≠ i := fun z => by rw [z, hg] at hgj; cases hgj
    have hlt : i < ρ.length := gt_lt hg (by simp)
    have hg2 : gt (ρ.set j (.fz (.tup es))) i = .ov (.dt kvs) := by rw [gt_set, if_neg (fun z => hij z.1)]; exact hg
    have hlt' : i < (ρ.set j (.fz (.tup es))).length := by rw [List.length_set]; exact hlt
    have evs := keysD_rep rvs hk1
    have hks : ks.length = kvs.length := by have := congrArg List.length hkk; simpa using this
    generalize hρ : ρ.set j (.fz (.tup es)) = ρ' at k2 hg2 hlt' hq1
    have E2 := k2
    refine ⟨_, b1, a, rfl, ⟨ks, bs, .inl ha⟩, _, c1, ?_⟩
    -- behind setdefault
    have fin : ∀ (H5 : Hp) (v : V) (Q5 : VK), EOk X.K G0 H0 (ρ'.set i (.ov (.dt (touchT kvs key)))) σ G2 H5 → (∀ ks5 bs5, H5 a = some (.dT ks5 bs5) → valV ks5 key = some v) → (∀ H', E.nx σ H' → Q5 .non H') →
        tyV X.K "list" v H5 ∧ t σ H5 fun w H6 => rAppend v [w] H6 Q5 := by
      intro H5 v Q5 E5 hv5 hQ5
      have hg5 : gt (ρ'.set i (.ov (.dt (touchT kvs key)))) i = .ov (.dt (touchT kvs key)) := by rw [gt_set, if_pos ⟨rfl, hlt'⟩]
      obtain ⟨own5, _, o5⟩ := E5.on
      obtain ⟨a', fp5, c1, c2, ⟨ks5, bs5, d1, dk, d2, d3, d4⟩, c4⟩ := o5 i _ hg5
      rw [b1] at c1
      cases c1
      obtain ⟨qa, xs, f1, f2, f3⟩ := d4.get (j := n) (ds := ds) (by rw [List.getElem?_map, hj]; rfl)
      have hk5 : ks5[n]? = some (key, .ref qa) := by
        have e1 := congrArg (fun l => l[n]?) d2
        have e2 := congrArg (fun l => l[n]?) d3
        simp only [List.getElem?_map, hj, f1, Option.map_some] at e1 e2
        cases hks : ks5[n]? with
        | none => rw [hks] at e1; cases e1
        | some p =>
          rw [hks] at e1 e2
          simp only [Option.map_some, Option.some.injEq] at e1 e2
          obtain ⟨p1, p2⟩ := p
          simp only at e1 e2
          rw [e1, e2]
      have hv : v = .ref qa := by
        have e1 := valT_first hk5 fun j' hj' p hp z => by
          have e1 := congrArg (fun l => l[j']?) d2
          simp only [List.getElem?_map, hp, Option.map_some] at e1
          cases ht : (touchT kvs key)[j']? with
          | none => rw [ht] at e1; cases e1
          | some p' =>
            rw [ht] at e1
            simp only [Option.map_some, Option.some.injEq] at e1
            exact hfirst j' hj' p' ht (by rw [← e1]; exact z)
        rw [hv5 ks5 bs5 d1] at e1
        injection e1
      subst hv
      refine ⟨.inl ⟨rfl, xs, SqL.of f2⟩, q _ σ G0 H0 G2 H5 _ _ E5 hq1 fun w H7 r G7 x7 rr7 hq7 => ?_⟩
      obtain ⟨G8, x8, rv8, _⟩ := rr7.freeze x7
      refine ⟨qa, xs, w, rfl, rfl, x8.h _ _ f2, by rw [f3.length]; exact hq7.1, hQ5 _ (g.nx _ _ G8 _ (s2.trans x8.g) ?_ hq7.2)⟩
      have E9 := (E5.ext x8).changeO (o' := .dt ((touchT kvs key).set n (key, ds ++ [r.val]))) (H' := upd H7 qa (.lst (xs ++ [w]))) hg5 b1 fun fp' nd ow => ?_
      · rw [List.set_set] at E9
        exact E9
      · obtain ⟨ks', bs', e1, ek, e2, e3, e4⟩ := ow
        have eks : ks' = ks5 := by
          have := (x8.h _ _ d1).symm.trans e1
          injection this with this
          injection this with this
          exact this.symm
        subst eks
        have efp : fp' = fp5 := (List.map_inj_right fun a b h => by cases h; rfl).mp (e3.symm.trans d3)
        subst efp
        have nd' := List.nodup_cons.mp nd
        have hqm : qa ∈ fp' := List.mem_of_getElem? f1
        refine ⟨fp', nd, ⟨ks', bs', ?_, ek, ?_, e3, ?_⟩, fun q hq => .inl hq, fun b hb _ => upd_ne fun z => hb (by rw [z]; exact List.mem_cons_of_mem _ hqm)⟩
        · rw [upd_ne (fun z : a = qa => nd'.1 (z ▸ hqm))]; exact e1
        · rw [e2, List.map_set]
          apply List.ext_getElem?
          intro m
          rw [List.getElem?_set]
          split
          · rename_i hn
            subst hn
            rw [List.getElem?_map, hj]
            simp only [Option.map_some, List.length_map]
            rw [if_pos (List.getElem?_eq_some_iff.mp hj).1]
          · rfl
        · rw [List.map_set]
          exact e4.set ((f3.mono x8.g).append (Reps.cons rv8 Reps.nil)) nd'.2 f1
    refine ⟨Nat.zero_le _, fun l hl => ?_⟩
    have hla : a ≠ l := fun z => by rw [← z, ha] at hl; cases hl
    have hlb : bb ≠ l := fun z => by rw [← z, hb] at hl; cases hl
    refine ⟨ks, bs, key, bb, by rw [upd_ne hla]; exact ha, rfl, by rw [upd_ne hlb, ← evs]; exact hb, by rw [hks]; exact hlen, fun v hv => ?_, fun hn => ?_⟩
    · have ht : touchT kvs key = kvs := by
        unfold touchT
        rw [if_pos]
        rw [← any_keysT hkk, any_iff_valT, hv]; rfl
      have E3 := E2.ext (.own E2.e.s hl (o := .lst []))
      have E4 : EOk X.K G0 H0 (ρ'.set i (.ov (.dt (touchT kvs key)))) σ G2 (upd H l (.lst [])) := by
        rw [ht]
        exact E3.changeO hg2 b1 fun fp' nd ow => ⟨fp', nd, ow, fun q hq => .inl hq, fun _ _ _ => rfl⟩
      refine fin _ v (fun _ H' => E.nx σ H') E4 (fun ks5 bs5 h5 => ?_) fun H' h' => h'
      rw [upd_ne hla, ha] at h5
      cases h5
      exact hv
    · have hany : (kvs.any fun kv => decide (kv.1 = key)) = false := by rw [← any_keysT hkk, any_iff_valT, hn]; rfl
      have hany2 : (ks.any fun kv => decide (kv.1 = key)) = false := by rw [any_iff_valT, hn]; rfl
      have ht : touchT kvs key = kvs ++ [(key, [])] := by
        unfold touchT
        rw [hany]; rfl
      have E4 : EOk X.K G0 H0 (ρ'.set i (.ov (.dt (touchT kvs key)))) σ G2 (upd (upd H l (.lst [])) a (.dT (ks ++ [(key, .ref l)]) (bs ++ [bb]))) := by
        rw [ht]
        refine E2.changeO hg2 b1 fun fp' nd ow => ?_
        obtain ⟨ks', bs', e1, ek, e2, e3, e4⟩ := ow
        have eks : ks' = ks ∧ bs' = bs := by
          have := ha.symm.trans e1
          injection this with this
          injection this with this1 this2
          exact ⟨this1.symm, this2.symm⟩
        obtain ⟨rfl, rfl⟩ := eks
        have hlf : l ∉ a :: fp' := fun z => by
          rcases List.mem_cons.mp z with z | z
          · exact hla z.symm
          · exact e4.here l z hl
        have haf : a ∉ fp' := (List.nodup_cons.mp nd).1
        refine ⟨fp' ++ [l], ?_, ⟨_, _, upd_same, ?_, by simp [e2], by simp [e3], ?_⟩, fun q hq => ?_, fun b hb hn => ?_⟩
        · rw [List.nodup_cons] at nd ⊢
          refine ⟨fun z => ?_, ?_⟩
          · rcases List.mem_append.mp z with z | z
            · exact nd.1 z
            · simp at z; exact hla z
          · rw [List.nodup_append]
            refine ⟨nd.2, by simp, fun x hx y hy => ?_⟩
            simp at hy
            subst hy
            exact fun z => hlf (List.mem_cons_of_mem _ (z ▸ hx))
        · exact KeyIn.snoc (by rw [← evs]; exact gbb) ek
        · rw [List.map_append]
          refine RepL.snoc (zs := []) (e4.mono (Same.refl _) fun q hq xs e => ?_) ?_ Reps.nil
          · rw [upd_ne (fun z : q = a => haf (z ▸ hq)), upd_ne (fun z : q = l => hlf (List.mem_cons_of_mem _ (z ▸ hq)))]; exact e
          · rw [upd_ne hla.symm]; exact upd_same
        · rcases List.mem_cons.mp hq with rfl | hq
          · exact .inl (by simp)
          · rcases List.mem_append.mp hq with hq | hq
            · exact .inl (List.mem_cons_of_mem _ hq)
            · simp at hq
              subst hq
              exact .inr hl
        · rw [upd_ne (fun z : b = a => hb (by rw [z]; simp)), upd_ne (fun z : b = l => hn (by rw [z]; exact hl))]
      refine fin _ _ (fun _ H' => E.nx σ H') E4 (fun ks5 bs5 h5 => ?_) fun H' h' => h'
      rw [upd_same] at h5
      cases h5
      have := any_iff_valT (ks := ks) (k := key)
      exact valT_snoc hn
  · exact h.elim
end
end L2
set_option Elab.async false
set_option linter.all false
set_option maxRecDepth 100000
set_option maxHeartbeats 1600000
namespace L2
open PySem PySem.Spec PyProof.Rows
section
variable {prog : Program} {w : World} {A : Around} {E : Value → Shared → Prop} {s : Shared}
theorem extend_raw {R : Result → Shared → Prop} {a : Addr} {es : Array DictEntry} {ep : Nat} (T : RawAt s.heap a es ep) (ha : (a == sysModules) = false) (hz : es.size ≤ sizeLine) (hh : A.handled = none) (S : Addr) (hSa : S ≠ a) (res : Value) (c0 : Nat) (hS : s.heap.get? S = some { cls := .type "list", data := .seq #[] c0 })
    (hR : ∀ h' tk (acc : Array Value) c', (∀ b o, b ≠ S → s.heap.get? b = some o → h'.get? b = some o) → h'.get? S = some { cls := .type "list", dict := none, data := .seq acc c', slots := #[] } → acc.toList = es.toList.map (·.key) → R (.ok (.ret res)) { s with heap := h', toks := tk }) :
    wpAny (model prog w) A.in1 (Builtin.List.listExtendWith (.ref S) (.ref a) res) (fun fin s' => match fin with | .done f => R (.ok f) s' | .again c' => c'.quiet = true ∧ codeAny (model prog w) A c' R s') (fun e s' => R (.error e) s') s := by
  have hSl : S < s.heap.objs.size := Heap.lt_size hS
  have hal : a < s.heap.objs.size := by obtain ⟨o, e, _⟩ := T; exact Heap.lt_size e
  unfold Builtin.List.listExtendWith
  refine wpAny_bind (wpAny_typeOf (T := "dict") T.ty ?_)
  have h1 : Builtin.List.listSameRef (.ref S) (.ref a) = false := by simp [Builtin.List.listSameRef, hSa]
  have h2 : (Value.type "dict" == Value.type "list") = false := by decide
  have h3 : (Value.type "dict" == Value.type "tuple") = false := by decide
  simp only [h1, h2, h3, Bool.or_false, Bool.false_eq_true, if_false]
  refine wpAny_bind (raw_iter ha T ?_)
  generalize hI : s.heap.objs.size = I at hSl hal
  generalize hh0 : s.heap.push { cls := .type "dict_keyiterator", data := .fields #[.ref a, .int 0 0, .int es.size 0, .int ep 0] } = h0
  have old : ∀ b o, s.heap.get? b = some o → h0.get? b = some o := fun b o e => by rw [← hh0]; exact Heap.get?_push_of_some _ e
  have itr : h0.IsKeyIter I a 0 es.size ep := by rw [← hh0, ← hI]; exact ⟨_, Heap.get?_push_size _ rfl, rfl, rfl⟩
  have st : h0.IsKeyIter I a 0 es.size ep ∧ RawAt h0 a es ep := ⟨itr, T.kept fun o e => old _ _ e⟩
  have W := raw_walks (prog := prog) (w := w) (A := A.in1.in1) hh I a (Nat.ne_of_lt hal) es ep
  have hSf : S ∉ [I, a] := fun z => by
    simp only [List.mem_cons, List.not_mem_nil, or_false] at z
    rcases z with z | z
    · exact Nat.ne_of_lt hSl z
    · exact hSa z
  have go : ∀ (h : Heap) (c1 tk : Nat), (h.IsKeyIter I a 0 es.size ep ∧ RawAt h a es ep) → (∀ b o, b ≠ S → s.heap.get? b = some o → h.get? b = some o) → h.get? S = some { cls := .type "list", data := .seq #[] c1 } →
      codeAny (model prog w) A (.builtin "list.extend.loop" ⟨[.ref S, .ref I, res], []⟩) R { s with heap := h, toks := tk } := by
    intro h c1 tk hst hk hS1
    refine codeAny_extend_loopS (raw_walks (A := A.in1) hh I a (Nat.ne_of_lt hal) es ep).toS hz S hSf res es.size 0 _ #[] c1 rfl (Nat.zero_le _) hst hS1 (ItemsOf.nil _) fun s' acc' c' hm hS' hacc => ?_
    rw [Moved.eq_with hm]
    refine hR s'.heap s'.toks acc' c' (fun b o hb e => hm.heap b o (fun hmem => ?_) (hk b o hb e)) hS' ?_
    · rcases List.mem_cons.mp hmem with e' | hmem
      · exact hb e'
      · have := Heap.lt_size e
        rw [hI] at this
        exact Nat.ne_of_lt this (List.mem_singleton.mp hmem)
    · apply List.ext_getElem?
      intro j
      rw [List.getElem?_map, Array.getElem?_toList, Array.getElem?_toList]
      by_cases hj : j < acc'.size
      · obtain ⟨h5, e5⟩ := hacc.2 j acc'[j] (by simp [hj])
        rw [Array.getElem?_eq_getElem hj, Array.getElem?_eq_getElem h5, e5]
        rfl
      · have := hacc.1
        rw [Array.getElem?_eq_none (by omega), Array.getElem?_eq_none (by omega)]
        rfl
  have hS0 := old _ _ hS
  refine wpAny_bind (wpAny_holding (PySem.W.kdl_hint_dict (s := { s with heap := h0 }) (RawAt.ty (s := { s with heap := h0 }) st.2) ?_))
  refine wpAny_ite_split (fun _ => ?_) (fun _ => wpAny_pure ⟨plainId_quiet PySem.F.plain_extend_loop _, go _ c0 _ st (fun b o _ e => old b o e) hS0⟩)
  refine wpAny_bind (wpAny_rule (wpAny_bind ?_))
  show wpAny _ _ (updateSeq S (·.push .none) >>= fun _ => updateSeq S (·.pop)) _ _ _
  refine wpAny_bind (wpAny_updateSeq hS0 rfl ?_)
  have hS2 := Heap.get?_update_self (Obj.mapSeq (·.push Value.none)) hS0 rfl
  refine wpAny_updateSeq (hz := by seq_fits) hS2 rfl ?_
  have hS3 := Heap.get?_update_self (Obj.mapSeq (·.pop)) hS2 rfl
  refine wpAny_pure ⟨plainId_quiet PySem.F.plain_extend_loop _, go _ _ _ ?_ (fun b o hb e => ?_) hS3⟩
  · refine (raw_walks (prog := prog) (w := w) (A := A.in1) hh I a (Nat.ne_of_lt hal) es ep).frame 0 _ _ st fun b hb o e => ?_
    have hbS : b ≠ S := fun h => hSf (h ▸ hb)
    exact (Heap.get?_update_other _ _ (Ne.symm hbS)).trans ((Heap.get?_update_other _ _ (Ne.symm hbS)).trans e)
  · exact (Heap.get?_update_other _ _ (Ne.symm hb)).trans ((Heap.get?_update_other _ _ (Ne.symm hb)).trans (old _ _ e))
theorem collect_raw {R : List Value → Shared → Prop} {a : Addr} {es : Array DictEntry} {ep : Nat} (T : RawAt s.heap a es ep) (ha : (a == sysModules) = false) (hz : es.size ≤ sizeLine) (hh : A.handled = none)
    (h : ∀ (h' : Heap) (tk : Nat), s.heap.objs.size < h'.objs.size → (∀ b o, s.heap.get? b = some o → h'.get? b = some o) → R (es.toList.map (·.key)) { s with heap := h', toks := tk }) : wpAny (model prog w) A (collect (.ref a)) R E s := by
  have hlt : a < s.heap.objs.size := by obtain ⟨o, e, _⟩ := T; exact Heap.lt_size e
  unfold collect
  refine wpAny_bind (wpAny_runValue (codeAny_builtin entry_proto_collect' ?_))
  rw [Around.under_plainId PySem.F.plain_proto_collect _]
  show wpAny _ A.in1 (newList [] >>= fun l => again (.builtin "list.__iadd__" ⟨[l, .ref a], []⟩)) _ _ s
  refine wpAny_bind (wpAny_newObj_type (wpAny_pure ⟨plainId_quiet PySem.F.plain_list_iadd _, codeAny_builtin entry_list_iadd' ?_⟩))
  rw [Around.under_plainId PySem.F.plain_list_iadd _]
  have hS1 : (s.heap.push { cls := .type "list", data := .seq ([] : List Value).toArray }).get? s.heap.objs.size = some { cls := .type "list", data := .seq #[] } := Heap.get?_push_size _ rfl
  show wpAny _ A.in1 (Builtin.List.listExtendWith (.ref s.heap.objs.size) (.ref a) (.ref s.heap.objs.size)) _ _ _
  have key := extend_raw (prog := prog) (w := w) (A := A) (s := { s with heap := s.heap.push { cls := .type "list", data := .seq ([] : List Value).toArray } })
    (R := fun (q : Result) (s' : Shared) => ∃ (h' : Heap) (tk : Nat) (acc : Array Value) (c' : Nat), q = .ok (.ret (.ref s.heap.objs.size)) ∧ s' = { s with heap := h', toks := tk } ∧
      (∀ b o, s.heap.get? b = some o → h'.get? b = some o) ∧ h'.get? s.heap.objs.size = some { cls := .type "list", dict := none, data := .seq acc c', slots := #[] } ∧ acc.toList = es.toList.map (·.key))
    (T.kept fun o e => Heap.get?_push_of_some _ e) ha hz hh s.heap.objs.size (Nat.ne_of_gt hlt) (.ref s.heap.objs.size) 0 hS1
    (fun h' tk acc c' hk hS' hacc => ⟨h', tk, acc, c', rfl, rfl, fun b o e => hk b o (Nat.ne_of_lt (Heap.lt_size e)) (Heap.get?_push_of_some _ e), hS', hacc⟩)
  refine wpAny_mono key (fun fin s' x => ?_) fun e s' x => ?_
  · cases fin with
    | done f =>
      obtain ⟨h', tk, acc, c', e, rfl, hk, hS', hacc⟩ := x
      cases e
      show wpAny _ A (load s.heap.objs.size >>= _) _ _ _
      refine wpAny_bind (wpAny_load hS' (wpAny_pure ?_))
      show R acc.toList _
      rw [hacc]
      exact h h' tk (Heap.lt_size hS') hk
    | again c1 =>
      refine ⟨x.1, codeAny_mono x.2 fun q s2 y => ?_⟩
      obtain ⟨h', tk, acc, c', rfl, rfl, hk, hS', hacc⟩ := y
      show wpAny _ A (load s.heap.objs.size >>= _) _ _ _
      refine wpAny_bind (wpAny_load hS' (wpAny_pure ?_))
      show R acc.toList _
      rw [hacc]
      exact h h' tk (Heap.lt_size hS') hk
  · obtain ⟨_, _, _, _, e', _⟩ := x
    cases e'
theorem sorted_raw {a : Addr} {es : Array DictEntry} {ep : Nat} {Q : Value → Shared → Prop} {rk : Keyed → Int} (T : RawAt s.heap a es ep) (ha : (a == sysModules) = false) (hz : es.size ≤ sizeLine) (hh : A.handled = none) (hr : 2 ≤ es.size → Ts.RunsOK es.size)
    (R : ∀ h' tk, (∀ b o, s.heap.get? b = some o → h'.get? b = some o) → Ts.Ask prog w A.in1.in1 E (es.toList.map (·.key)) rk { s with heap := h', toks := tk })
    (h : ∀ (p : Addr) (h' : Heap) (tk : Nat) (arr : Array Keyed) (e : Nat), s.heap.objs.size ≤ p → (∀ b o, s.heap.get? b = some o → h'.get? b = some o) → arr.toList.Perm (PyProof.Rows.pairsOf (es.toList.map (·.key))).toList → Ts.Srt rk arr.toList → h'.get? p = some (seqObj "list" (arr.map (·.2)) e) → Q (.ref p) { s with heap := h', toks := tk }) :
    wpAny (model prog w) A (call (.builtin "sorted") [.ref a]) Q E s := by
  refine Calls.call_function_entry kind_sorted plain_sorted entry_sorted (args_sorted1 _) ?_
  unfold Builtin.«sorted»
  refine wpAny_bind (m := checkCount "sorted" 1 1 _) (wpAny_pure (wpAny_bind (collect_raw (A := A.in1) T ha hz hh fun h' tk hlt hk => ?_)))
  have hvl : (es.toList.map (·.key)).length = es.size := by simp
  generalize es.toList.map (·.key) = vs at R h hvl
  refine wpAny_bind (wpAny_newList ?_ (by rw [hvl]; exact hz))
  have hoL : (h'.push (seqObj "list" vs.toArray 0)).get? h'.objs.size = some (seqObj "list" vs.toArray 0) := Heap.get?_push_size _ rfl
  have old : ∀ b o, s.heap.get? b = some o → b ≠ h'.objs.size ∧ (h'.push (seqObj "list" vs.toArray 0)).get? b = some o := fun b o e => ⟨Nat.ne_of_lt (Heap.lt_size (hk b o e)), Heap.get?_push_of_some _ (hk b o e)⟩
  refine wpAny_bind (wpAny_holding (wpAny_call_entry slot_list_sort ⟨_, hoL, rfl⟩ entry_list_sort (Ts.list_sort_R (s := { s with heap := h'.push (seqObj "list" vs.toArray 0), toks := tk }) (rk := rk) hoL (by rw [hvl]; exact hz) (by rw [hvl]; exact hr) (fun h2 k2 => R h2 tk fun b o e => k2 b o (old b o e).1 (old b o e).2) fun st' a1 a2 => ⟨_, rfl, ?_⟩) (args_list_sort _)))
  obtain ⟨en, hen⟩ := sortedHeap_at (out := (arrOf st').map (·.2)) hoL
  refine wpAny_pure ⟨_, rfl, h _ _ tk (arrOf st') en (Nat.le_of_lt hlt) (fun b o e => ?_) a1 a2 hen⟩
  have hb : b < h'.objs.size := Heap.lt_size (hk b o e)
  rw [sortedHeap_old (Nat.ne_of_lt hb) (by rw [size_push']; exact Nat.lt_succ_of_lt hb)]
  exact (old b o e).2
end
theorem sort_pick {h : Heap} {LL : List ((V × List Int) × Value)} {arr : List Keyed} (tup : ∀ z ∈ LL, Ts.tiOf h z.2 = z.1.2) (hp : arr.Perm (PyProof.Rows.pairsOf (LL.map (·.2))).toList) (hs : Ts.Srt (Ts.rkT h ((LL.map (·.2)).map (Ts.tiOf h))) arr) :
    ∃ L' : List ((V × List Int) × Value), L'.Perm LL ∧ arr.map (·.2) = L'.map (·.2) ∧ (L'.map (·.1)).Pairwise (fun x y => HT.lexGt x.2 y.2 = false) := by
  have ep : (PyProof.Rows.pairsOf (LL.map (·.2))).toList = LL.map fun z => ((z.2, z.2) : Keyed) := by
    unfold PyProof.Rows.pairsOf
    simp only [List.zip_toArray]
    clear tup hp hs
    induction LL with
    | nil => rfl
    | cons a r ih => simp at ih ⊢; exact ih
  obtain ⟨L', h1, h2⟩ := perm_lift (hp.trans (List.Perm.of_eq ep)) rfl
  refine ⟨L', h1, by rw [h2, List.map_map]; rfl, ?_⟩
  rw [List.pairwise_map]
  unfold Ts.Srt at hs
  rw [h2, List.pairwise_map] at hs
  refine hs.imp_of_mem fun {a b} ha hb hab => ?_
  have ta := tup a (h1.subset ha)
  have tb := tup b (h1.subset hb)
  have mb : Ts.tiOf h b.2 ∈ (LL.map (·.2)).map (Ts.tiOf h) := List.mem_map_of_mem (List.mem_map_of_mem (h1.subset hb))
  unfold Ts.rkT at hab
  cases hg : HT.lexGt a.1.2 b.1.2 with
  | false => rfl
  | true =>
    rw [← ta, ← tb] at hg
    have := (Ts.rk_lt mb).mpr hg
    simp only at hab
    omega
section
variable {X : Cx} {pos : Pos} {e i' : Expr} {te ti : TD}
theorem pair_nth {α β : Type} {F : α → β → Prop} : ∀ {l₁ : List α} {l₂ : List β}, Paired F l₁ l₂ → ∀ {i : Nat} {a : α} {b : β}, l₁[i]? = some a → l₂[i]? = some b → F a b
  | _, _, .nil, i, a, b, e, _ => by simp at e
  | _, _, .cons r t, 0, a, b, e1, e2 => by
    simp only [List.getElem?_cons_zero, Option.some.injEq] at e1 e2
    subst e1 e2
    exact r
  | _, _, .cons r t, i + 1, a, b, e1, e2 => by
    simp only [List.getElem?_cons_succ] at e1 e2
    exact pair_nth t e1 e2
theorem kv_int (t : List Int) : (t.map (fun i => (Sum.inl i : Key))).map kV = t.map V.int := by rw [List.map_map]; rfl
theorem call_sortDT (hc : X.calm = true) : CallR X (.builtin "sorted") (fun xs H Q => ∃ (p : Addr) (kvs : List (List Key × V)) (bs : List Addr) (tss : List (List Int)), xs = [.ref p] ∧ Rd H p (.dT kvs bs) ∧ kvs.map (·.1) = tss.map (fun t => t.map Sum.inl) ∧ (∀ t ∈ tss, t ≠ []) ∧
    (2 ≤ tss.length → Ts.RunsOK tss.length) ∧ ∀ L' : List (Addr × List Int), L'.Perm (bs.zip tss) → L'.Pairwise (fun x y => HT.lexGt x.2 y.2 = false) → ∀ l, H l = none → Q (.ref l) (upd H l (.lst (L'.map fun q => V.ref q.1)))) := by
  intro pins s σ H xs us Q I r h
  obtain ⟨p, kvs, bs, tss, rfl, hq, hkt, hne, hr, q⟩ := h
  obtain ⟨u, rfl, ru⟩ := vals1 r
  cases ru
  obtain ⟨hz, hd, ws, bq, rel, o, es, ep, h1, h2, h3, h4, h5, h6⟩ := dt_at I.hok hq
  have l1 : kvs.length = ws.length := Paired.length rel
  have l2 : kvs.length = tss.length := by have := congrArg List.length hkt; simpa using this
  have l3 : bs.length = ws.length := by rw [← bq, List.length_map]
  have esz : es.size = tss.length := by rw [← Array.length_toList, h4, List.length_map]; omega
  have ekey : es.toList.map (·.key) = bs.map Value.ref := by rw [h4, ← bq, List.map_map, List.map_map]; rfl
  have T : RawAt s.heap p es ep := ⟨o, h1, h2, h3⟩
  -- each key's tuple
  have at_ : ∀ (b : Addr) (t : List Int), (b, t) ∈ bs.zip tss → H b = some (.tup (t.map V.int)) := fun b t hm => by
    obtain ⟨i, hi⟩ := List.getElem?_of_mem hm
    rw [List.getElem?_zip_eq_some] at hi
    obtain ⟨hb, ht⟩ := hi
    have hi1 : i < ws.length := by rw [← l3]; exact (List.getElem?_eq_some_iff.mp hb).1
    have hw : ws[i]? = some ws[i] := List.getElem?_eq_getElem hi1
    have hkv : kvs[i]? = some (kvs[i]'(by omega)) := List.getElem?_eq_getElem (by omega)
    have pr : (kvs[i]'(by omega)).1 = ws[i].1 ∧ H ws[i].2.1 = some (.tup ((kvs[i]'(by omega)).1.map kV)) ∧ RelV (kvs[i]'(by omega)).2 ws[i].2.2 := pair_nth rel hkv hw
    have eb : ws[i].2.1 = b := by
      have := congrArg (fun l => l[i]?) bq
      simp only [List.getElem?_map, hw, hb, Option.map_some, Option.some.injEq] at this
      exact this
    have et : (kvs[i]'(by omega)).1 = t.map Sum.inl := by
      have := congrArg (fun l => l[i]?) hkt
      simp only [List.getElem?_map, hkv, ht, Option.map_some, Option.some.injEq] at this
      exact this
    rw [← eb, pr.2.1, et, kv_int]
  obtain ⟨LL, hLL⟩ : ∃ LL : List ((V × List Int) × Value), LL = (bs.zip tss).map fun q => ((V.ref q.1, q.2), Value.ref q.1) := ⟨_, rfl⟩
  have e2 : bs.map Value.ref = LL.map (·.2) := by
    rw [hLL, List.map_map]
    have : (bs.zip tss).map (·.1) = bs := List.map_fst_zip (by omega)
    conv => lhs; rw [← this]
    rw [List.map_map]
    rfl
  have tup : ∀ z ∈ LL, Ts.TupAt s.heap z.2 ∧ Ts.tiOf s.heap z.2 = z.1.2 := fun z hz => by
    rw [hLL] at hz
    obtain ⟨⟨b, t⟩, hm, rfl⟩ := List.mem_map.mp hz
    obtain ⟨i1, v1, p1, _⟩ := I.tuple (SqT.of (at_ b t hm))
    obtain ⟨o1, g1, c1, n1, d1⟩ := p1
    have ia := intsAre_of v1
    have e : Ts.tiOf s.heap (.ref b) = t := by
      unfold Ts.tiOf
      simp only [g1, d1]
      exact ia.numsOf
    exact ⟨⟨b, o1, _, n1, rfl, g1, c1, d1, by rw [e]; exact ia, by rw [e]; exact hne t (List.of_mem_zip hm).2⟩, e⟩
  refine sorted_raw (rk := Ts.rkT s.heap ((es.toList.map (·.key)).map (Ts.tiOf s.heap))) T hd (by omega) (I.ok.hd hc) (by rw [esz]; exact hr) (fun h' tk k => Ts.ask_tups (s := { s with toks := tk }) k fun v hv => ?_) fun a h' tk arr en hle hk hp hs hen => ?_
  · rw [ekey, e2] at hv
    obtain ⟨z, hz, rfl⟩ := List.mem_map.mp hv
    exact (tup z hz).1
  · rw [ekey, e2] at hp hs
    obtain ⟨L1, g1, g2, g3⟩ := sort_pick (fun z hz => (tup z hz).2) hp hs
    obtain ⟨L2, f1, rfl⟩ := perm_lift g1 hLL
    have out : (arr.map (·.2)).toList = L2.map fun q => Value.ref q.1 := by rw [Array.toList_map, g2, List.map_map]; rfl
    have hf : H a = none := I.hok.fresh hle
    have q' := q L2 f1 (by rw [List.map_map, List.pairwise_map] at g3; exact g3) a hf
    refine ⟨.ref a, _, I.laid (a := a) (o := .lst (L2.map fun q => V.ref q.1)) (t' := tk) hk hle ?_, rfl, q'⟩
    refine ⟨by rw [List.length_map, f1.length_eq, List.length_zip]; omega, (arr.map (·.2)).toList, en, ?_, ?_⟩
    · rw [out]; exact vals_of (f := fun q : Addr × List Int => V.ref q.1) fun q _ => rfl
    · rw [Array.toArray_toList]; exact hen
def oSortDT : SpD := fun ds Q => match ds with
  | [.dit kvs] => ∃ tss : List (List Int), kvs.map (·.1) = tss.map (fun t => t.map Sum.inl) ∧ tss.length < 64 ∧ (∀ t ∈ tss, t ≠ []) ∧ ∀ tss' : List (List Int), tss'.Perm tss → tss'.Pairwise (fun x y => HT.lexGt x y = false) → Q (.ow (tss'.map fun t => .tup (t.map D.int)))
  | _ => False
theorem RepT.keys {K : PySem.W.Frag} {G : Hp} : ∀ {ks : List (List Key × V)} {kvs : List (List Key × D)}, RepT K G ks kvs → ks.map (·.1) = kvs.map (·.1)
  | [], [], _ => rfl
  | a :: ks, b :: kvs, h => by
    simp only [RepT] at h
    rw [List.map_cons, List.map_cons, h.1.1, RepT.keys h.2]
  | [], _ :: _, h => by simp only [RepT] at h
  | _ :: _, [], h => by simp only [RepT] at h
theorem KeyIn.at {H : Hp} : ∀ {ps : List (List Key × V)} {bs : List Addr} {i : Nat} {b : Addr} {k : List Key}, KeyIn H ps bs → bs[i]? = some b → (ps.map (·.1))[i]? = some k → H b = some (.tup (k.map kV))
  | p :: ps, c :: bs, 0, b, k, h, e1, e2 => by
    simp only [List.getElem?_cons_zero, Option.some.injEq, List.map_cons] at e1 e2
    subst e1 e2
    exact h.1
  | p :: ps, c :: bs, i + 1, b, k, h, e1, e2 => by
    simp only [List.getElem?_cons_succ, List.map_cons] at e1 e2
    exact KeyIn.at h.2 e1 e2
  | [], [], _, _, _, _, e1, _ => by simp at e1
  | [], _ :: _, _, _, _, h, _, _ => h.elim
  | _ :: _, [], _, _, _, h, _, _ => h.elim
theorem c_sortDT (hc : X.calm = true) : CallP X (.builtin "sorted") oSortDT := by
  refine ⟨_, call_sortDT hc, fun G H vs ds Q P s rs h k => ?_⟩
  unfold oSortDT at h
  split at h
  · rename_i kvs
    obtain ⟨tss, h1, h64, h2, h3⟩ := h
    obtain ⟨v, rfl, rv⟩ := reps1 rs
    simp only [Rep] at rv
    obtain ⟨a, ks, bs, rfl, ha, hki, rt⟩ := rv
    have hkt : ks.map (·.1) = tss.map (fun t => t.map Sum.inl) := by rw [rt.keys]; exact h1
    refine ⟨a, ks, bs, tss, rfl, .inl (s _ _ ha), hkt, h2, fun z => Ts.runs_64 (by omega) h64, fun L' p1 p2 => ?_⟩
    have lb : bs.length = tss.length := by
      have e1 : ks.length = tss.length := by have := congrArg List.length hkt; simpa using this
      have e2 : ∀ {ps : List (List Key × V)} {bs : List Addr}, KeyIn G ps bs → ps.length = bs.length := fun {ps bs} => by
        induction ps generalizing bs with
        | nil => cases bs with
          | nil => exact fun _ => rfl
          | cons => exact fun h => h.elim
        | cons p ps ih => cases bs with
          | nil => exact fun h => h.elim
          | cons b bs => exact fun h => by rw [List.length_cons, List.length_cons, ih h.2]
      rw [← e2 hki, e1]
    refine own_fin s (ds := (L'.map (·.2)).map fun t => .tup (t.map D.int)) ?_ (h3 (L'.map (·.2)) ?_ (by rw [List.pairwise_map]; exact p2)) k
    · rw [List.map_map]
      refine reps_of (f := fun q : Addr × List Int => V.ref q.1) fun q hq => ?_
      obtain ⟨i, hi⟩ := List.getElem?_of_mem (p1.subset hq)
      rw [List.getElem?_zip_eq_some] at hi
      have := hki.at hi.1 (k := q.2.map Sum.inl) (by rw [hkt, List.getElem?_map, hi.2]; rfl)
      rw [kv_int] at this
      simp only [Function.comp_apply, Rep]
      exact ⟨q.1, _, rfl, SqT.of this, ints_reps q.2⟩
    · have := p1.map (·.2)
      rwa [List.map_snd_zip (by omega)] at this
  · exact h.elim
def tDGetT (K : PySem.W.Frag) (td ty : TE) : TE := fun σ H Q => td σ H fun x H1 => ty σ H1 fun y H2 => ∃ a b kvs bs k v, x = .ref a ∧ y = .ref b ∧ Rd H2 a (.dT kvs bs) ∧ SqT K H2 b (k.map kV) ∧ valV kvs k = some v ∧ Q v H2
theorem pe_dgetT {o i : Expr} {td ty : TE} (hu : X.A.units + 64 < cLine) (ho : PE X o td) (hi : PE X i ty) (hs : NoSl i) : PE X (.Subscript o i pos) (tDGetT X.K td ty) := by
  intro pins s σ H Q I h
  refine subD_of PySem.F.slot_dict_getitem.lookup hs (thn (ho pins s σ H _ I h) fun u s1 ⟨x, H1, I1, rx, q1⟩ => thn (hi pins s1 σ H1 _ I1 q1) fun iv s2 ⟨y, H2, I2, ry, a, b, kvs, bs, k, v, ex, ey, ha, hb, hv, q2⟩ => ?_)
  subst ex ey
  obtain rfl : u = Value.ref a := rx
  obtain rfl : iv = Value.ref b := ry
  obtain ⟨_, hd, xs, _, rel, dd⟩ := dt_at I2.hok ha
  obtain ⟨its, rv, ⟨o1, g1, c1, n1, d1⟩, _⟩ := I2.tuple hb
  have key : (tupleKind (mixKind X.prog X.w)).is s2.heap k b := ⟨o1, its.toArray, n1, g1, c1, d1, by simpa using items_are rv⟩
  obtain ⟨w', hw, rw'⟩ := RelO.some_of (v := v) (o := (atKey xs k).map (·.2)) (by rw [← hv]; exact rel.val k)
  obtain ⟨p, hp, hp2⟩ := Option.map_eq_some_iff.mp hw
  refine ⟨dd.typeIs, wpAny_getItem_heap (tupleKind_room_in1 (by show X.A.units + 1 < cLine; omega)) key dd hp ?_⟩
  rw [hp2]
  exact ⟨v, H2, I2.tok _, rw', q2⟩
def lookT (kvs : List (List Key × D)) (k : List Key) : Option D := (kvs.find? fun kv => decide (kv.1 = k)).map (·.2)
def dGetT (te ti : TD) : TD := fun ρ Q => te ρ fun r => ti ρ fun rk => match r.val, rk.val with
  | .dit kvs, .tup es => ∃ k d, keysD es = some k ∧ lookT kvs k = some d ∧ Q (.fz d)
  | _, _ => False
theorem RepT.look {K : PySem.W.Frag} {G : Hp} {k : List Key} {d : D} : ∀ {ks : List (List Key × V)} {kvs : List (List Key × D)}, RepT K G ks kvs → lookT kvs k = some d → ∃ v, valV ks k = some v ∧ Rep K G v d
  | [], [], _, e => by simp [lookT] at e
  | a :: ks, b :: kvs, h, e => by
    simp only [RepT] at h
    unfold lookT at e
    unfold valV
    rw [List.find?_cons] at e ⊢
    rw [h.1.1]
    by_cases hk : b.1 = k
    · simp only [hk, decide_true, Option.map_some, Option.some.injEq] at e ⊢
      subst e
      exact ⟨_, rfl, h.1.2⟩
    · simp only [hk, decide_false] at e ⊢
      exact RepT.look h.2 e
  | [], _ :: _, h, _ => by simp only [RepT] at h
  | _ :: _, [], h, _ => by simp only [RepT] at h
theorem pd_getT (hu : X.A.units + 64 < cLine) (he : PD X e te) (hi : PD X i' ti) (hs : NoSl i' := by intro _ _; rfl) : PD X (.Subscript e i' pos) (dGetT te ti) := by
  obtain ⟨t, p, q⟩ := he
  obtain ⟨t2, p2, q2⟩ := hi
  refine ⟨_, pe_dgetT hu p p2 hs, fun ρ σ G0 H0 G H Q P E h k => q ρ σ G0 H0 G H _ _ E h fun v H1 r G1 x1 rr hq => ?_⟩
  obtain ⟨G2, x2, rv, _⟩ := rr.freeze x1
  refine q2 ρ σ G0 H0 G2 H1 _ _ (E.ext x2) hq fun u H3 rk G3 x3 rr3 hq3 => ?_
  obtain ⟨G4, x4, rv4, _⟩ := rr3.freeze x3
  split at hq3
  · rename_i kvs es e1 e2
    obtain ⟨key, d, hk, hl, hq3⟩ := hq3
    rw [e1] at rv
    rw [e2] at rv4
    simp only [Rep] at rv rv4
    obtain ⟨a, ks, bs, rfl, ha, hki, rks⟩ := rv
    obtain ⟨b, ys, rfl, hb, rys⟩ := rv4
    obtain ⟨w, hw, rw'⟩ := (RepT.mono x4.g _ _ rks).look hl
    exact ⟨a, b, ks, bs, key, w, rfl, rfl, .inl (x4.s _ _ (x4.g _ _ ha)), by rw [← keysD_rep rys hk]; exact x4.s.seqT hb, hw, k w H3 (.fz d) G4 (x2.trans x4) rw' hq3⟩
  · exact hq3.elim
end
end L2
set_option Elab.async false
set_option linter.all false
set_option maxRecDepth 100000
set_option maxHeartbeats 1000000
namespace L2
open PySem PySem.Spec PyProof.Rows
section
variable {K : PySem.W.Frag} {G0 H0 G H G' H' G2 H2 : Hp} {ρ : Ev} {σ : St} {v : V}
theorem EOk.unset {i : Nat} {u : Option V} (E : EOk K G0 H0 ρ σ G H) : EOk K G0 H0 (ρ.set i .un) (σ.set i u) G H := by
  have gs : ∀ j s, gt (ρ.set i .un) j = s → s ≠ .un → i ≠ j ∧ gt ρ j = s := fun j s e hs => by
    rw [gt_set] at e
    by_cases h : i = j ∧ j < ρ.length
    · rw [if_pos h] at e; exact absurd e.symm hs
    · rw [if_neg h] at e
      exact ⟨fun z => h ⟨z, gt_lt e hs⟩, e⟩
  have ss : ∀ j, i ≠ j → (σ.set i u)[j]? = σ[j]? := fun j h => by rw [List.getElem?_set, if_neg h]
  obtain ⟨own, o1, o2⟩ := E.on
  refine ⟨E.e, by simp [E.len], fun j d h => ?_, fun j ds h => ?_, fun j k ds es hjk h1 h2 => ?_, own, fun j ds p h hp => ?_, fun j o h => ?_⟩
  · obtain ⟨n, h⟩ := gs j _ h (by simp)
    rw [ss j n]; exact E.fz j d h
  · obtain ⟨n, h⟩ := gs j _ h (by simp)
    rw [ss j n]; exact E.ow j ds h
  · obtain ⟨n, h1⟩ := gs j _ h1 (by simp)
    obtain ⟨n2, h2⟩ := gs k _ h2 (by simp)
    rw [ss j n, ss k n2]; exact E.dj j k ds es hjk h1 h2
  · obtain ⟨n, h⟩ := gs j _ h (by simp)
    rw [ss j n] at hp; exact o1 j ds p h hp
  · obtain ⟨n, h⟩ := gs j _ h (by simp)
    rw [ss j n]; exact o2 j o h
end
def pick (f : List D → Bool) (l : List (Addr × List D)) : List V := (l.filter fun p => f p.2).map fun p => .ref p.1
theorem pick_first (f : List D → Bool) : ∀ (fp : List Addr) (dss : List (List D)) (j : Nat), fp.length = dss.length → dss.findIdx? f = some j → ∃ q, fp[j]? = some q ∧ (pick f (fp.zip dss))[0]? = some (.ref q)
  | [], [], j, _, h => by simp at h
  | q :: fp, ds :: dss, j, hl, h => by
    rw [List.findIdx?_cons] at h
    by_cases hf : f ds = true
    · rw [if_pos hf] at h
      cases h
      exact ⟨q, rfl, by simp [pick, hf]⟩
    · rw [if_neg hf] at h
      obtain ⟨k, hk, rfl⟩ := Option.map_eq_some_iff.mp h
      obtain ⟨r, h1, h2⟩ := pick_first f fp dss k (by simpa using hl) hk
      exact ⟨r, by simpa using h1, by simpa [pick, hf] using h2⟩
  | [], _ :: _, _, hl, _ => by simp at hl
  | _ :: _, [], _, hl, _ => by simp at hl
theorem find_filter (f : List D → Bool) : ∀ dss : List (List D), (dss.findIdx? f = none ↔ dss.filter f = [])
  | [] => by simp
  | ds :: dss => by
    rw [List.findIdx?_cons]
    by_cases hf : f ds = true
    · simp [hf]
    · simp only [hf, Bool.false_eq_true, if_false, Option.map_eq_none_iff, List.filter_cons]
      exact find_filter f dss
section
variable {X : Cx} {pos : Pos} {scope : Scope} {N' : List Str} {m : List (Option Nat)}
theorem fit_comp {iS : Nat} {tc : TDb} {tcc : TIn TT} {f : List D → Bool} (hm : m[0]? = some none)
    (q3 : ∀ s3 H3 ex (ρ : Ev) (σ : St) (G0 H0 G H : Hp) (Q : Bool → Prop) (P : Bool → Hp → Prop), EOk X.K G0 H0 ρ σ G H → tc ρ Q → (∀ b H' G', Ext G H G' H' → Q b → P b H') → tcc s3 H3 ex σ H P)
    {ρ : Ev} {σ : St} {G0 H0 G H : Hp} {P : VK} {a : Addr} {fp : List Addr} {dss : List (List D)} (E : EOk X.K G0 H0 ρ σ G H) (hσ : σ[iS]? = some (some (.ref a))) (hH : H a = some (.lst (fp.map V.ref))) (hr : Rep X.K G (.ref a) (.lst (dss.map .lst)))
    (hl : fp.length = dss.length) (hz : dss.length ≤ sizeLine) (hf : ∀ ds ∈ dss, tc ((innP m ρ).set 0 (.fz (.lst ds))) fun b => b = f ds)
    (k : ∀ D H' G', Ext G H G' H' → H D = none → G' D = none → H' D = some (.lst (pick f (fp.zip dss))) → Reps X.K G' (pick f (fp.zip dss)) ((dss.filter f).map .lst) → P (.ref D) H') :
    tComp (iSeq X.K (tVar iS)) m (fun _ _ _ => gName 0) tcc (fun _ _ _ => tVar 0) σ H P := by
  simp only [Rep] at hr
  obtain ⟨a', ys, e0, hrd, hrs⟩ := hr
  cases e0
  refine ⟨_, hσ, .inl ⟨a, rfl, ⟨_, (E.e.s.rdl hrd).sq⟩, ?_⟩⟩
  have wk := walk_list hrd hrs
  intro D hD s3 ex
  have hGD : G D = none := E.e.s.free hD
  have noow : ∀ {i : Nat} {es : List L2.D}, gt (innP m ρ) i = .ow es → False := fun {i es} h => by
    unfold innP at h
    rw [gt_map] at h
    split at h
    · rename_i o _
      unfold innS at h
      split at h
      · cases h
      · split at h <;> cases h
    · cases h
  have noov : ∀ {i : Nat} {o : OV}, gt (innP m ρ) i = .ov o → False := fun {i o} h => by
    unfold innP at h
    rw [gt_map] at h
    split at h
    · rename_i o _
      unfold innS at h
      split at h
      · cases h
      · split at h <;> cases h
    · cases h
  have start : EOk X.K G H (innP m ρ) (inn m σ) G (upd H D (.lst [])) := by
    refine ⟨.own E.e.s hD, by simp [inn, innP], fun i d h => ?_, fun i es h => (noow h).elim, fun i j es fs _ h => (noow h).elim, fun _ => none, fun i es _ h => (noow h).elim, fun i o h => (noov h).elim⟩
    unfold innP at h
    rw [gt_map] at h
    split at h
    · rename_i o ho
      unfold innS at h
      split at h
      · cases h
      · rename_i j
        split at h
        · rename_i d' hd'
          cases h
          obtain ⟨v, hv, rv⟩ := E.fz j d hd'
          refine ⟨v, ?_, rv⟩
          unfold inn
          rw [List.getElem?_map, ho]
          simp [hv]
        · cases h
    · cases h
  have lm : 0 < (innP m ρ).length := by
    unfold innP
    rw [List.length_map]
    exact (List.getElem?_eq_some_iff.mp hm).1
  have hld : (dss.map L2.D.lst).length = dss.length := by simp
  refine ⟨fun i n σ' H' => n = dss.length - i ∧ i ≤ dss.length ∧ ∃ xs G', EOk X.K G H (innP m ρ) σ' G' H' ∧ H' D = some (.lst xs) ∧ G' D = none ∧ Reps X.K G' xs (((dss.take i).filter f).map .lst) ∧ xs = pick f ((fp.zip dss).take i),
    ⟨dss.length, by simp, Nat.zero_le _, [], G, start, upd_same, hGD, by simpa using Reps.nil, by simp [pick]⟩, ?_⟩
  rintro i n σ' H' ⟨rfl, hi, xs, G', E', hx, hg', rx, exs⟩
  by_cases hlt : i < dss.length
  · obtain ⟨w1, w2⟩ := wk
    have hds : (dss.map L2.D.lst)[i]? = some (.lst dss[i]) := by rw [List.getElem?_map, List.getElem?_eq_getElem hlt]; rfl
    obtain ⟨go, yl⟩ := w1 i _ G' H' hds E'.e.g E'.e.s
    refine .inr ⟨go, fun σ2 H2 => ∃ xs G', EOk X.K G H (innP m ρ) σ2 G' H2 ∧ H2 D = some (.lst xs) ∧ G' D = none ∧ Reps X.K G' xs (((dss.take (i + 1)).filter f).map .lst) ∧ xs = pick f ((fp.zip dss).take (i + 1)), fun σ2 H2 h2 => ⟨dss.length - (i + 1), by omega, rfl, hlt, h2⟩, fun v H2 hy => ?_⟩
    have ev : v = .ref (fp[i]'(by omega)) := by
      have := hy.2 _ (SqL.of (E'.e.h _ _ hH))
      rw [List.getElem?_map, List.getElem?_eq_getElem (by omega)] at this
      cases this
      rfl
    obtain ⟨G2, x2, rv⟩ := yl v H2 hy
    have E2 := E'.ext x2
    show tcc s3 _ ex (σ'.set 0 (some v)) H2 _
    have E3 : EOk X.K G H ((innP m ρ).set 0 (.fz (.lst dss[i]))) (σ'.set 0 (some v)) G2 H2 := E2.put (.refl E2.e.s) (r := .fz (.lst dss[i])) rv
    refine q3 _ _ _ _ _ G H G2 H2 _ _ E3 (hf dss[i] (List.getElem_mem hlt)) fun b H4 G4 x4 hq4 => ?_
    have x24 := x2.trans x4
    have weak : ∀ j, gt (innP m ρ) j = .un ∨ gt (innP m ρ) j = gt ((innP m ρ).set 0 (.fz (.lst dss[i]))) j := fun j => by
      cases j with
      | zero => left; unfold innP; rw [gt_map, hm]; rfl
      | succ j => right; rw [gt_set, if_neg (by omega)]
    have E4 := (E3.ext x4).weak (ρ' := innP m ρ) (by simp) weak
    have hx4 : H4 D = some (.lst xs) := x24.h _ _ hx
    have hg4 : G4 D = none := x24.n D hg' (by rw [hx]; exact nofun)
    have tz : (fp.zip dss).take (i + 1) = (fp.zip dss).take i ++ [(fp[i]'(by omega), dss[i])] := by
      rw [List.take_add_one, List.getElem?_eq_getElem (by rw [List.length_zip]; omega), List.getElem_zip]; rfl
    have td : dss.take (i + 1) = dss.take i ++ [dss[i]] := by rw [List.take_add_one, List.getElem?_eq_getElem hlt]; rfl
    subst hq4
    cases hb : f dss[i] with
    | false =>
      rw [if_neg Bool.false_ne_true]
      exact ⟨xs, G4, E4, hx4, hg4, by rw [td, List.filter_append]; simpa [hb] using rx.mono x24.g, by rw [tz, exs]; simp [pick, hb]⟩
    | true =>
      rw [if_pos rfl]
      have l0 : 0 < σ'.length := by rw [E'.len]; exact lm
      refine ⟨v, by rw [List.getElem?_set, if_pos rfl, if_pos l0], xs, hx4, ?_, xs ++ [v], G4, ?_, upd_same, hg4, ?_, ?_⟩
      · rw [exs]
        unfold pick
        rw [List.length_map]
        refine Nat.lt_of_le_of_lt (List.length_filter_le _ _) ?_
        rw [List.length_take, List.length_zip]
        omega
      · refine ⟨⟨E4.e.g, fun b o e => by rw [upd_ne (ne_of_none e hD)]; exact E4.e.h b o e, fun b o e => by rw [upd_ne (ne_of_none e hg4)]; exact E4.e.s b o e, E4.e.n⟩, E4.len, E4.fz, fun i es h => (noow h).elim, fun i j es fs _ h => (noow h).elim, fun _ => none, fun i es _ h => (noow h).elim, fun i o h => (noov h).elim⟩
      · rw [td, List.filter_append, List.map_append]
        refine (rx.mono x24.g).append ?_
        simpa [hb] using Reps.cons (rv.mono x4.g) Reps.nil
      · rw [tz, exs, ev]; simp [pick, hb]
  · have e : i = dss.length := by omega
    subst e
    have tz : (fp.zip dss).take dss.length = fp.zip dss := List.take_of_length_le (by rw [List.length_zip]; omega)
    rw [tz] at exs
    rw [List.take_length] at rx
    subst exs
    refine .inl ⟨by have := wk.2 G' H' E'.e.g E'.e.s; rwa [hld] at this, k D H' G' E'.e hD hg' hx rx⟩
def xFit (iF iS iN : Nat) (m : List (Option Nat)) (tc tcnd : TDb) (ta : TX) : TX := fun D ρ => iF < ρ.length ∧ iF ≠ iS ∧ iF ≠ iN ∧ match gt ρ iS, gt ρ iN with
  | .ov (.ll dss), .fz d => dss.length ≤ sizeLine ∧ ∃ f : List L2.D → Bool, (∀ ds ∈ dss, tc ((innP m (ρ.set iS (.fz (.lst (dss.map .lst))))).set 0 (.fz (.lst ds))) fun b => b = f ds) ∧
      tcnd ((ρ.set iS (.fz (.lst (dss.map .lst)))).set iF (.ow ((dss.filter f).map .lst))) (fun b => b = true ↔ dss.filter f = []) ∧
      (dss.findIdx? f = none → ta D (ρ.set iF .un)) ∧
      ∀ j ds, dss.findIdx? f = some j → dss[j]? = some ds → ds.length < sizeLine ∧ D.nx ((ρ.set iF .un).set iS (.ov (.ll (dss.set j (ds ++ [d])))))
  | _, _ => False
theorem pxs_fit (iF iS iN : Nat) {x y z t : Str} {c : Expr} {ifs : List Expr} {ab : List Stmt} {tc tcnd : TDb} {ta : TX} {c4 : Nat} {p1 p2 p3 p4 p5 p6 p7 p8 p9 pos' posS posI posE : Pos} (hc : X.calm = true) (cs : CompScope X N' m scope)
    (ht : ∀ s3 H3 ex, PTd (cxC X N' scope s3 H3 ex) ifs tc) (hcn : PB X c tcnd) (hab : PXs X ab ta)
    (ht0 : ∀ s3 H3 ex, PG (cxC X N' scope s3 H3 ex) (.Name t p2) (gName 0)) (he0 : ∀ s3 H3 ex, PE (cxC X N' scope s3 H3 ex) (.Name t p1) (tVar 0))
    (hm : m[0]? = some none := by rfl) (hN : X.N.Nodup := by assumption) (hix : X.N[iF]? = some x := by rfl) (hx : Loc X.env.scope x := by first | exact Or.inl rfl | exact Or.inr rfl)
    (hs : ∀ u, foldedSetIterable (.Name y p3) X.env u = pure u := by intro _; rfl)
    (hsw : swapsWith (.ListComp (.Name t p1) [⟨.Name t p2, .Name y p3, ifs, 0⟩] scope pos) (some (.Name x pos')) posS.line X.env = pure true := by rfl)
    (hf : X.fn x = true ∨ X.env.scope.names.lookup x = some .local := by first | exact .inl rfl | exact .inr rfl | assumption)
    (hNy : X.N[iS]? = some y := by rfl) (hvy : Vis X.env.scope y := by first | exact Or.inl rfl | exact Or.inr (Or.inl rfl) | exact Or.inr (Or.inr rfl)) (hdy : (y == ("__debug__" : Str)) = false := by decide) (hcdy : (y == ("__classdict__" : Str)) = false := by decide)
    (hNz : X.N[iN]? = some z := by rfl) (hvz : Vis X.env.scope z := by first | exact Or.inl rfl | exact Or.inr (Or.inl rfl) | exact Or.inr (Or.inr rfl)) (hdz : (z == ("__debug__" : Str)) = false := by decide) (hcdz : (z == ("__classdict__" : Str)) = false := by decide)
    (hvx : Vis X.env.scope x := by first | exact Or.inl rfl | exact Or.inr (Or.inl rfl) | exact Or.inr (Or.inr rfl)) (hdx : (x == ("__debug__" : Str)) = false := by decide) (hcdx : (x == ("__classdict__" : Str)) = false := by decide)
    (hst : starEach [.Name z p9] X.env = (false, eval (.Name z p9) X.env) :: starEach [] X.env := by rfl)
    (hb : ∀ {ta : TE} {u : TA}, PE X (.Subscript (.Name x p4) (.Constant (.int 0) c4 p5) p6) ta → PA X [.Name z p9] u → PE X (.Call (.Attribute (.Subscript (.Name x p4) (.Constant (.int 0) c4 p5) p6) "append" p7) [.Name z p9] [] p8) (tBM X.K "list" rAppend ta u) := by intro ta t h1 h2; exact pe_bm PySem.F.plainAttrs_list PySem.F.slot_list_append PySem.F.type_list_append mt_append h1 h2) :
    PXs X [.Assign [.Name x pos'] (.ListComp (.Name t p1) [⟨.Name t p2, .Name y p3, ifs, 0⟩] scope pos) posS, .If c ab [.Expr (.Call (.Attribute (.Subscript (.Name x p4) (.Constant (.int 0) c4 p5) p6) "append" p7) [.Name z p9] [] p8) posE] posI] (xFit iF iS iN m tc tcnd ta) := by
  obtain ⟨t0, p0, q0⟩ := hcn
  obtain ⟨t1, pa, qa⟩ := hab
  refine ⟨_, pss_cons (ps_setC (g := fun _ _ _ => gName 0) (tc := fun s3 H3 ex => (ht s3 H3 ex).choose) (te := fun _ _ _ => tVar 0) hN hix hx hc cs (pi_seq (pe_var hNy hvy hdy hcdy)) ht0 (fun s3 H3 ex => (ht s3 H3 ex).choose_spec.1) he0 hs hsw hf)
    (pss_one (ps_if p0 pa (pss_one (ps_expr (hb (pe_ix ix_list (pe_var hix hvx hdx hcdx) pe_int (fun _ _ => rfl)) (pa_cons (pe_var hNz hvz hdz hcdz) pa_nil hst)))))), fun ρ σ G0 H0 G H D E k h g => ?_⟩
  obtain ⟨hlt, hn1, hn2, h⟩ := h
  split at h
  · rename_i dss d hgS hgN
    obtain ⟨hz, f, hf1, hf2, hf3, hf4⟩ := h
    obtain ⟨own, o1, o2⟩ := k.on
    obtain ⟨a, fp, b1, b2, ⟨ha, hr⟩, b4⟩ := o2 iS _ hgS
    have efr : frz iS ρ = ρ.set iS (.fz (.lst (dss.map .lst))) := by unfold frz; rw [hgS]; rfl
    have hlS : iS < ρ.length := gt_lt hgS (by simp)
    obtain ⟨L, hL, E1, _⟩ := k.freezeL iS
    rw [efr] at E1
    obtain ⟨va, hva, rva⟩ := E1.fz iS (.lst (dss.map .lst)) (by rw [gt_set, if_pos ⟨rfl, hlS⟩])
    rw [b1] at hva
    cases hva
    unfold tSeq tAsg
    refine fit_comp (f := f) (dss := dss) (fp := fp) hm (fun s3 H3 ex => (ht s3 H3 ex).choose_spec.2) E1 b1 ha rva hr.length hz hf1 fun Dq H1 G1 x1 hD hG1 hH1 hrp => ?_
    have E2 : EOk X.K G0 H0 ((ρ.set iS (.fz (.lst (dss.map .lst)))).set iF (.ow ((dss.filter f).map .lst))) (σ.set iF (some (.ref Dq))) G1 H1 := E1.put x1 (r := .ow ((dss.filter f).map .lst)) ⟨Dq, _, rfl, hD, hG1, hH1, hrp⟩
    refine q0 _ _ G0 H0 G1 H1 _ _ E2 hf2 fun b H3 G3 x3 hq3 => ?_
    have x13 := x1.trans x3
    have xL := lend_ext hL x13
    have kk : EOk X.K G0 H0 (ρ.set iF .un) (σ.set iF (some (.ref Dq))) (less G3 L) H3 := (k.ext xL).unset
    cases b with
    | true =>
      rw [if_pos rfl]
      exact qa _ _ G0 H0 _ H3 D E kk (hf3 ((find_filter f dss).mpr (hq3.mp rfl))) (g.shift xL.g)
    | false =>
      rw [if_neg Bool.false_ne_true]
      cases hj : dss.findIdx? f with
      | none => exact absurd (hq3.mpr ((find_filter f dss).mp hj)) Bool.false_ne_true
      | some j =>
        obtain ⟨qa', hqa, hpk⟩ := pick_first f fp dss j hr.length hj
        have hjl : j < dss.length := by rw [← hr.length]; exact (List.getElem?_eq_some_iff.mp hqa).1
        obtain ⟨hsz, hnx⟩ := hf4 j dss[j] hj (List.getElem?_eq_getElem hjl)
        obtain ⟨qb, xs, c1, c2, c3⟩ := hr.get (List.getElem?_eq_getElem hjl)
        rw [hqa] at c1
        cases c1
        have hlσ : iF < σ.length := by rw [k.len]; exact hlt
        obtain ⟨vn, hvn, rvn⟩ := k.fz iN d hgN
        have hat : atI (pick f (fp.zip dss)) 0 = some (.ref qa') := atI_nat (j := 0) hpk
        refine ⟨_, by rw [List.getElem?_set, if_pos rfl, if_pos hlσ], Dq, _, 0, _, rfl, rfl, SqL.of (x3.h _ _ hH1), hat, .inl ⟨rfl, xs, SqL.of (xL.h _ _ c2)⟩, vn, by rw [List.getElem?_set, if_neg hn2]; exact hvn, ?_⟩
        refine ⟨qa', xs, vn, rfl, rfl, xL.h _ _ c2, by rw [c3.length]; exact hsz, ?_⟩
        refine g.nx _ _ (less G3 L) _ xL.g (kk.changeO (o := .ll dss) (by rw [gt_set, if_neg (fun z => hn1 z.1)]; exact hgS) (p := a) (by rw [List.getElem?_set, if_neg hn1]; exact b1) fun fp' nd ow => ?_) hnx
        obtain ⟨ha', hr'⟩ := ow
        have e3 : fp' = fp := by
          have := (xL.h _ _ ha).symm.trans ha'
          injection this with this
          injection this with this
          exact ((List.map_inj_right fun a b h => by cases h; rfl).mp this).symm
        subst e3
        have nd' := List.nodup_cons.mp nd
        refine ⟨fp', nd, ⟨?_, hr'.set ((c3.mono xL.g).append (Reps.cons (rvn.mono xL.g) Reps.nil)) nd'.2 hqa⟩, fun q hq => .inl hq, fun b hb _ => upd_ne fun z => hb (by rw [z]; exact List.mem_cons_of_mem _ (List.mem_of_getElem? hqa))⟩
        rw [upd_ne (fun z : a = qa' => nd'.1 (z ▸ List.mem_of_getElem? hqa))]
        exact ha'
  · exact h.elim
def dNilL : TD := fun _ Q => Q (.ov (.ll []))
theorem pd_nilL {e : Expr} (h : PD X e (dLst aNil)) : PD X e dNilL := by
  obtain ⟨tt, p, q⟩ := h
  refine ⟨tt, p, fun ρ σ G0 H0 G H Q P E h k => q ρ σ G0 H0 G H (fun r => r = .ow []) _ E ⟨by decide, rfl⟩ fun v H' r G' x rr hq => ?_⟩
  subst hq
  obtain ⟨p, xs, rfl, c1, c2, c3, c4⟩ := rr
  cases xs with
  | cons => simp only [Reps] at c4
  | nil => exact k _ H' (.ov (.ll [])) G' x ⟨p, [], rfl, by simp, ⟨c3, by simp only [RepL]⟩, fun q hq => by simp at hq; subst hq; exact ⟨c1, c2⟩⟩ h
def xAppN (i : Nat) (te : TD) : TX := fun D ρ => match gt ρ i with
  | .ov (.ll dss) => te ρ fun r => match r with
    | .ow ds => dss.length < sizeLine ∧ D.nx (ρ.set i (.ov (.ll (dss ++ [ds]))))
    | _ => False
  | _ => False
theorem px_appN (i : Nat) {x : Str} {e : Expr} {te : TD} {p1 p2 pos' : Pos} (he : PD X e te) (hN : X.N[i]? = some x := by rfl) (hv : Vis X.env.scope x := by first | exact Or.inl rfl | exact Or.inr (Or.inl rfl) | exact Or.inr (Or.inr rfl)) (hd : (x == ("__debug__" : Str)) = false := by decide)
    (hcd : (x == ("__classdict__" : Str)) = false := by decide) (hst : starEach [e] X.env = (false, eval e X.env) :: starEach [] X.env := by rfl)
    (hb : ∀ {ta : TE} {t : TA}, PE X (.Name x p1) ta → PA X [e] t → PE X (.Call (.Attribute (.Name x p1) "append" p2) [e] [] pos') (tBM X.K "list" rAppend ta t) := by intro ta t h1 h2; exact pe_bm PySem.F.plainAttrs_list PySem.F.slot_list_append PySem.F.type_list_append mt_append h1 h2) :
    PX X (.Expr (.Call (.Attribute (.Name x p1) "append" p2) [e] [] pos') pos) (xAppN i te) := by
  obtain ⟨t, p, q⟩ := he
  refine ⟨_, ps_expr (hb (pe_var hN hv hd hcd) (pa_cons p pa_nil hst)), fun ρ σ G0 H0 G H D E k h g => ?_⟩
  unfold xAppN at h
  split at h
  · rename_i dss hg
    obtain ⟨own, o1, o2⟩ := k.on
    obtain ⟨a, fp, b1, b2, ⟨ha, hr⟩, b4⟩ := o2 i _ hg
    refine ⟨_, b1, .inl ⟨rfl, _, SqL.of ha⟩, ?_⟩
    refine q ρ σ G0 H0 G H _ _ k h fun v H' r G' x1 rr hq => ?_
    split at hq
    · rename_i ds
      obtain ⟨qn, xs, rfl, c1, c2, c3, c4⟩ := rr
      have hna : qn ≠ a := fun z => by rw [z, ha] at c1; cases c1
      refine ⟨a, fp.map V.ref, .ref qn, rfl, rfl, x1.h _ _ ha, by rw [List.length_map, hr.length]; exact hq.1, ?_⟩
      let H2 : Hp := fun b => if b = qn then none else H' b
      have h2n : ∀ b, b ≠ qn → H2 b = H' b := fun b h => if_neg h
      have x2 : Ext G H G' H2 := ⟨x1.g, fun b u e => by rw [h2n b (ne_of_none e c1)]; exact x1.h b u e, fun b u e => by rw [h2n b (ne_of_none e c2)]; exact x1.s b u e, x1.n⟩
      refine g.nx _ _ G' _ x1.g ((k.ext x2).changeO hg b1 fun fp' nd ow => ?_) hq.2
      obtain ⟨ha', hr'⟩ := ow
      have e3 : fp' = fp := by
        have := (x2.h _ _ ha).symm.trans ha'
        injection this with this
        injection this with this
        exact ((List.map_inj_right fun a b h => by cases h; rfl).mp this).symm
      subst e3
      have nd' := List.nodup_cons.mp nd
      have hnf : qn ∉ fp' := fun z => hr.here qn z c1
      refine ⟨fp' ++ [qn], ?_, ⟨by rw [upd_same]; simp, RepL.snoc (hr.mono x1.g fun q hq zs e => ?_) (by rw [upd_ne hna]; exact c3) c4⟩, fun q hq => ?_, fun b hb hb2 => ?_⟩
      · rw [List.nodup_cons, List.nodup_append]
        refine ⟨fun z => ?_, nd'.2, by simp, fun u hu w hw => ?_⟩
        · rcases List.mem_append.mp z with z | z
          · exact nd'.1 z
          · simp at z; exact hna z.symm
        · simp at hw
          subst hw
          exact fun z => hnf (z ▸ hu)
      · rw [upd_ne (fun z : q = a => nd'.1 (z ▸ hq))]; exact x1.h _ _ e
      · rcases List.mem_cons.mp hq with rfl | hq
        · exact .inl (by simp)
        · rcases List.mem_append.mp hq with hq | hq
          · exact .inl (by simp [hq])
          · simp at hq
            subst hq
            exact .inr (if_pos rfl)
      · have hbq : b ≠ qn := fun z => hb2 (by rw [z]; exact if_pos rfl)
        rw [upd_ne (fun z => hb (by simp [z])), h2n b hbq]
    · exact hq.elim
  · exact h.elim
end
end L2
set_option Elab.async false
set_option linter.all false
set_option maxRecDepth 100000
set_option maxHeartbeats 2000000
namespace Wc
open PySem L2
def mkS (l : List Nat) : Str := ⟨l.toArray⟩
theorem mkS_cps (l : List Nat) : (mkS l).cps.toList = l := by simp [mkS]
theorem mkS_len (l : List Nat) : (mkS l).length = l.length := by simp [mkS, Str.length]
theorem mkS_add (a b : List Nat) : mkS a ++ mkS b = mkS (a ++ b) := by
  show (⟨(mkS a).cps ++ (mkS b).cps⟩ : Str) = _
  simp [mkS]
theorem mkS_inj {a b : List Nat} : mkS a = mkS b ↔ a = b := by
  constructor
  · intro h
    have : (mkS a).cps.toList = (mkS b).cps.toList := by rw [h]
    simpa [mkS] using this
  · rintro rfl; rfl
theorem mk1 (c : Nat) : (⟨#[c]⟩ : Str) = mkS [c] := rfl
theorem atI_map {α β : Type} (f : α → β) (l : List α) (i : Int) : atI (l.map f) i = (atI l i).map f := by
  unfold atI
  rw [List.length_map]
  cases ixN l.length i with
  | none => rfl
  | some j => simp
theorem ex_map {α β : Type} {f : α → β} {o : Option α} {p : β → Prop} : (∃ d, o.map f = some d ∧ p d) ↔ ∃ x, o = some x ∧ p (f x) := by
  cases o with
  | none => simp
  | some x => simp
theorem ex_atI {α β : Type} {f : α → β} {l : List α} {i : Int} {p : β → Prop} : (∃ d, atI (l.map f) i = some d ∧ p d) ↔ ∃ x, atI l i = some x ∧ p (f x) := by rw [atI_map]; exact ex_map
theorem atI_get {α : Type} {l : List α} {i : Int} (h0 : 0 ≤ i) (h1 : i < l.length) : ∃ h : i.toNat < l.length, atI l i = some (l[i.toNat]'h) := by
  refine ⟨by omega, ?_⟩
  unfold atI ixN
  rw [if_pos h0, if_pos h1]
  simp only [Option.bind_some]
  exact List.getElem?_eq_getElem _
theorem at_some {α : Type} {l : List α} {i : Int} (h0 : 0 ≤ i) (h1 : i < l.length) : ∃ z, atI l i = some z ∧ z ∈ l := by
  obtain ⟨h, e⟩ := atI_get h0 h1
  exact ⟨_, e, List.getElem_mem h⟩
theorem at_mod {α : Type} {l : List α} {n : Nat} (i : Int) (hl : n ≤ l.length) (h : 0 < n) : ∃ z, atI l (i % (n : Int)) = some z ∧ z ∈ l :=
  at_some (Int.emod_nonneg _ (by omega)) (by have := Int.emod_lt_of_pos i (show (0 : Int) < n by omega); omega)
theorem atI_nat' {α : Type} {l : List α} {j : Nat} (h : j < l.length) : atI l (j : Int) = some l[j] := by
  obtain ⟨h', e⟩ := atI_get (l := l) (i := (j : Int)) (by omega) (by omega)
  simpa using e
theorem sIx_pos {n d : Nat} {j : Int} (h : 0 ≤ j) : HT.sIx n d (some j) = min j.toNat n := by show (if j < 0 then _ else _) = _; rw [if_neg (by omega)]
theorem cutL_to {α : Type} (l : List α) {j : Int} (h : 0 ≤ j) : cutL l none (some j) = l.take j.toNat := by
  unfold cutL
  rw [sIx_pos h]
  show ((l.drop 0).take (min j.toNat l.length - 0)) = _
  rw [List.drop_zero, Nat.sub_zero, Nat.min_comm]
  by_cases hl : l.length ≤ j.toNat
  · rw [Nat.min_eq_left hl, List.take_of_length_le hl, List.take_of_length_le (Nat.le_refl _)]
  · rw [Nat.min_eq_right (by omega)]
theorem cutL_from {α : Type} (l : List α) {j : Int} (h : 0 ≤ j) : cutL l (some j) none = l.drop j.toNat := by
  unfold cutL
  rw [sIx_pos h]
  show ((l.drop (min j.toNat l.length)).take (l.length - _)) = _
  by_cases hl : l.length ≤ j.toNat
  · rw [Nat.min_eq_right hl, List.drop_of_length_le hl, List.drop_of_length_le (Nat.le_refl _)]; simp
  · rw [Nat.min_eq_left (by omega), List.take_of_length_le (by simp)]
theorem cutL_mid {α : Type} (l : List α) {i j : Int} (hi : 0 ≤ i) (h : 0 ≤ j) : cutL l (some i) (some j) = (l.drop i.toNat).take (j.toNat - i.toNat) := by
  unfold cutL
  rw [sIx_pos h, sIx_pos hi]
  by_cases hl : l.length ≤ i.toNat
  · rw [Nat.min_eq_right hl, List.drop_of_length_le hl, List.drop_of_length_le (Nat.le_refl _)]; simp
  · rw [Nat.min_eq_left (a := i.toNat) (by omega)]
    by_cases hj : l.length ≤ j.toNat
    · rw [Nat.min_eq_right hj, List.take_of_length_le (by simp), List.take_of_length_le (by simp; omega)]
    · rw [Nat.min_eq_left (by omega)]
theorem cutS_to (l : List Nat) {j : Int} (h : 0 ≤ j) : cutS (mkS l) none (some j) = mkS (l.take j.toNat) := by unfold cutS; rw [mkS_cps, cutL_to _ h]; rfl
theorem cutS_from (l : List Nat) {j : Int} (h : 0 ≤ j) : cutS (mkS l) (some j) none = mkS (l.drop j.toNat) := by unfold cutS; rw [mkS_cps, cutL_from _ h]; rfl
theorem cutS_mid (l : List Nat) {i j : Int} (hi : 0 ≤ i) (h : 0 ≤ j) : cutS (mkS l) (some i) (some j) = mkS ((l.drop i.toNat).take (j.toNat - i.toNat)) := by unfold cutS; rw [mkS_cps, cutL_mid _ hi h]; rfl
theorem cutL_map {α β : Type} (f : α → β) (l : List α) (lo hi : Option Int) : cutL (l.map f) lo hi = (cutL l lo hi).map f := by unfold cutL; rw [List.length_map, List.map_take, List.map_drop]
theorem okE_int (n : Nat) (i : Int) : okE n (.int i) = True := by cases n <;> exact eq_true trivial
theorem okE_str (n : Nat) (i : Str) : okE n (.str i) = True := by cases n <;> exact eq_true trivial
theorem okE_bl (n : Nat) (i : Bool) : okE n (.bl i) = True := by cases n <;> exact eq_true trivial
theorem okE_non (n : Nat) : okE n .non = True := by cases n <;> exact eq_true trivial
theorem beq_dec {α : Type} [BEq α] [LawfulBEq α] [DecidableEq α] (a b : α) : (a == b) = decide (a = b) := by rw [Bool.eq_iff_iff]; simp
theorem eqD_str (a b : Str) : eqD (.str a) (.str b) = decide (a = b) := by simp only [eqD, beq_dec]
theorem eqD_int (a b : Int) : eqD (.int a) (.int b) = decide (a = b) := by simp only [eqD, beq_dec]
theorem line_eq : sizeLine = 16777216 := by decide
@[irreducible] def hold (u : TX) (D : DE) : Ev → Prop := u D
theorem xSeq_h (t u : TX) (D : DE) (ρ : Ev) : xSeq t u D ρ = t { nx := hold u D, rt := D.rt, bk := D.bk, ct := D.ct } ρ := by unfold hold; rfl
local macro_rules | `(tactic| walk_at "all") => `(tactic| simp only [xSeq, xIf, bNot, bAnd, bOr, dTst, dChain, dC, val_fz, val_ow, sl_fz, sl_ow, dCB, aCons, aNil, dVar, List.map_cons, List.map_nil, List.cons_append, List.nil_append, List.set, gt, oLen, oI0, oI, dOp, oAdd, xRet, xNil, xSet, xSetF, dLst, dTup, innP, innS, yName, yNil, yCons, yTup, yLst, oInB, oEq, oNe, oIx, dSl, oNo, oSome, dCall, dAnd, dOr, dNot, dIsi, dIf, dIxO, dLenO, dNeg, dM, oCount, xApp, xRetO, xRetN, xDrop, xAsg, xFrz, frz, dFld, oIsB, isNon, bYes, zSeq, itemsD, zRng1, zEnum, oSum, oInt, oList, cpow24, cpow30, p24, p30, CDiv, CMul, Int.reduceLT, Int.reduceLE, Int.reduceAdd, Int.reduceSub, Int.reduceMul, Int.reduceNeg, Int.reducePow, Int.reduceToNat, decide_true, decide_false, true_and, and_true, and_self, or_true, true_or, okE_int, okE_str, okE_bl, okE_non, ex_atI, Bool.false_eq_true, if_false, if_true, Bool.not_true, Bool.not_false, List.length_cons, List.length_nil, Nat.reduceAdd, decide_eq_true_eq, eqD_int, eqD_str, cutL_map, intsOf_map, strsOf_map, dLend, bLend])
local macro_rules | `(tactic| walk_at "px") => `(tactic| simp only [xSeq_h, xIf, bNot, bAnd, bOr, dTst, dChain, dC, val_fz, val_ow, sl_fz, sl_ow, dCB, aCons, aNil, dVar, List.map_cons, List.map_nil, List.cons_append, List.nil_append, List.set, gt, oLen, oI0, oI, dOp, oAdd, xRet, xNil, xSet, xSetF, dLst, dTup, innP, innS, yName, yNil, yCons, yTup, yLst, oInB, oEq, oNe, oIx, dSl, oNo, oSome, dCall, dAnd, dOr, dNot, dIsi, dIf, dIxO, dLenO, dNeg, dM, oCount, xApp, xRetO, xRetN, xDrop, xAsg, xFrz, frz, dFld, oIsB, isNon, bYes, zSeq, itemsD, zRng1, zEnum, oSum, oInt, oList, cpow24, cpow30, p24, p30, CDiv, CMul, Int.reduceLT, Int.reduceLE, Int.reduceAdd, Int.reduceSub, Int.reduceMul, Int.reduceNeg, Int.reducePow, Int.reduceToNat, decide_true, decide_false, true_and, and_true, and_self, or_true, true_or, okE_int, okE_str, okE_bl, okE_non, ex_atI, Bool.false_eq_true, if_false, if_true, Bool.not_true, Bool.not_false, List.length_cons, List.length_nil, Nat.reduceAdd, decide_eq_true_eq, eqD_int, eqD_str, cutL_map, intsOf_map, strsOf_map, dLend, bLend])
local macro_rules | `(tactic| walk_at "go") => `(tactic| (simp only [hold]; walk_at "px"))
def mixF (c k : Int) : Int := (c % 1000000000000000000000000000000 * (k * k + 48271) + 7919 * k * k * k + 11) % 2147483647 / 7
theorem mix_nn (c k : Int) : 0 ≤ mixF c k := Int.ediv_nonneg (Int.emod_nonneg _ (by decide)) (by decide)
def sp__law_mix : SpD := fun ds Q => ∃ c k : Int, ds = [.int c, .int k] ∧ 0 ≤ k ∧ k ≤ 1000000 ∧ Q (.fz (.int (mixF c k)))
def T__law_mix : TX := (xRet (dOp (oI CDiv fun i j => .int (i / j)) (dOp (oI (fun _ j => 0 < j) fun i j => .int (i % j)) (dOp oAdd (dOp oAdd (dOp (oI CMul fun i j => .int (i * j)) (dOp (oI (fun _ j => 0 < j) fun i j => .int (i % j)) (dVar 0) (dOp (oI CPow fun i j => .int (i ^ j.toNat)) (dC (.int 10)) (dC (.int 30)))) (dOp oAdd (dOp (oI CMul fun i j => .int (i * j)) (dVar 1) (dVar 1)) (dC (.int 48271)))) (dOp (oI CMul fun i j => .int (i * j)) (dOp (oI CMul fun i j => .int (i * j)) (dOp (oI CMul fun i j => .int (i * j)) (dC (.int 7919)) (dVar 1)) (dVar 1)) (dVar 1))) (dC (.int 11))) (dC (.int 2147483647))) (dC (.int 7))))
theorem spec__law_mix (ds : List D) (Qr : R → Prop) (hl : ds.length = 2) (h : sp__law_mix ds Qr) : T__law_mix { nx := fun _ => Qr (.fz .non), rt := Qr } (startP ["_law_cell", "_law_k"] ds) := by
  obtain ⟨c, k, rfl, h0, h1, q⟩ := h
  show T__law_mix _ [.fz (.int c), .fz (.int k)]
  unfold T__law_mix
  walk_at "all"
  have hk : k * k ≤ 1000000 * 1000000 := Int.mul_le_mul h1 h1 h0 (by decide)
  have hk0 : 0 ≤ k * k := Int.mul_nonneg h0 h0
  refine ⟨.inl ⟨by omega, by omega⟩, .inr ⟨by omega, by omega⟩, .inr ⟨by omega, by omega⟩, .inr ⟨by omega, by omega⟩, ?_⟩
  exact q
end Wc
set_option Elab.async false
set_option linter.all false
set_option maxRecDepth 100000
set_option maxHeartbeats 2000000
namespace Wc
open PySem L2 PyProof.Rows
local macro_rules | `(tactic| walk_at "all") => `(tactic| simp only [xSeq, xIf, bNot, bAnd, bOr, dTst, dChain, dC, val_fz, val_ow, sl_fz, sl_ow, dCB, aCons, aNil, dVar, List.map_cons, List.map_nil, List.cons_append, List.nil_append, List.set, gt, oLen, oI0, oI, dOp, oAdd, xRet, xNil, xSet, xSetF, dLst, dTup, innP, innS, yName, yNil, yCons, yTup, yLst, oInB, oEq, oNe, oIx, dSl, oNo, oSome, dCall, dAnd, dOr, dNot, dIsi, dIf, dIxO, dLenO, dNeg, dM, oCount, xApp, xRetO, xRetN, xDrop, xAsg, xFrz, frz, dFld, oIsB, isNon, bYes, zSeq, itemsD, zRng1, zEnum, oSum, oInt, oList, cpow24, cpow30, p24, p30, CDiv, CMul, Int.reduceLT, Int.reduceLE, Int.reduceAdd, Int.reduceSub, Int.reduceMul, Int.reduceNeg, Int.reducePow, Int.reduceToNat, decide_true, decide_false, true_and, and_true, and_self, or_true, true_or, okE_int, okE_str, okE_bl, okE_non, ex_atI, Bool.false_eq_true, if_false, if_true, Bool.not_true, Bool.not_false, List.length_cons, List.length_nil, Nat.reduceAdd, decide_eq_true_eq, eqD_int, eqD_str, cutL_map, intsOf_map, strsOf_map, dLend, bLend])
local macro_rules | `(tactic| walk_at "px") => `(tactic| simp only [xSeq_h, xIf, bNot, bAnd, bOr, dTst, dChain, dC, val_fz, val_ow, sl_fz, sl_ow, dCB, aCons, aNil, dVar, List.map_cons, List.map_nil, List.cons_append, List.nil_append, List.set, gt, oLen, oI0, oI, dOp, oAdd, xRet, xNil, xSet, xSetF, dLst, dTup, innP, innS, yName, yNil, yCons, yTup, yLst, oInB, oEq, oNe, oIx, dSl, oNo, oSome, dCall, dAnd, dOr, dNot, dIsi, dIf, dIxO, dLenO, dNeg, dM, oCount, xApp, xRetO, xRetN, xDrop, xAsg, xFrz, frz, dFld, oIsB, isNon, bYes, zSeq, itemsD, zRng1, zEnum, oSum, oInt, oList, cpow24, cpow30, p24, p30, CDiv, CMul, Int.reduceLT, Int.reduceLE, Int.reduceAdd, Int.reduceSub, Int.reduceMul, Int.reduceNeg, Int.reducePow, Int.reduceToNat, decide_true, decide_false, true_and, and_true, and_self, or_true, true_or, okE_int, okE_str, okE_bl, okE_non, ex_atI, Bool.false_eq_true, if_false, if_true, Bool.not_true, Bool.not_false, List.length_cons, List.length_nil, Nat.reduceAdd, decide_eq_true_eq, eqD_int, eqD_str, cutL_map, intsOf_map, strsOf_map, dLend, bLend])
local macro_rules | `(tactic| walk_at "go") => `(tactic| (simp only [hold]; walk_at "px"))
def dO : Option Str → D
  | none => .non
  | some s => .str s
def dP (l : List (Option Str)) : D := .lst (l.map dO)
def dS (l : List Str) : D := .lst (l.map .str)
def dI (l : List Int) : D := .lst (l.map .int)
def dWp (p : Str × Int) : D := .tup [.str p.1, .int p.2]
def dBp (p : Int × Str) : D := .tup [.int p.1, .str p.2]
def dKp (p : Int × Int × Int) : D := .tup [.int p.1, .int p.2.1, .int p.2.2]
def dW (l : List (Str × Int)) : D := .lst (l.map dWp)
def dB (l : List (Int × Str)) : D := .lst (l.map dBp)
def dK (l : List (Int × Int × Int)) : D := .lst (l.map dKp)
structure Chan where
  top : List (Option Str)
  bottom : List (Option Str)
  left : List Str
  right : List Str
  wide : List (Str × Int)
  bends : List (Int × Str)
  keeps : List (Int × Int × Int)
def Chan.obj (c : Chan) : D := .obj "Channel" [("top", dP c.top), ("bottom", dP c.bottom), ("left", dS c.left), ("right", dS c.right), ("wide", dW c.wide), ("bends", dB c.bends), ("keeps", dK c.keeps)]
theorem okE_dO (n : Nat) (o : Option Str) : okE n (dO o) = True := by
  cases o with
  | none => exact okE_non n
  | some s => exact okE_str n s
theorem eqD_dO (a b : Option Str) : eqD (dO a) (dO b) = decide (a = b) := by
  cases a <;> cases b <;> simp only [dO, eqD, beq_dec, Option.some.injEq, reduceCtorEq, decide_true, decide_false]
theorem eqD_dO_str (a : Option Str) (b : Str) : eqD (dO a) (.str b) = decide (a = some b) := eqD_dO a (some b)
theorem eqD_str_dO (a : Str) (b : Option Str) : eqD (.str a) (dO b) = decide (some a = b) := eqD_dO (some a) b
theorem xfor_enum {α : Type} {wi : TId} {g : TGd} {tb : TX} {D : DE} {ρ : Ev} (L : List α) (φ : α → L2.D) (hw : ∀ Q' : List L2.D → Prop, Q' (enumD (L.map φ)) → wi ρ Q') (Iv : Nat → Ev → Prop) (h0 : Iv 0 ρ)
    (turn : ∀ (i : Nat) x ρ', L[i]? = some x → Iv i ρ' → g (.tup [.int i, φ x]) ρ' fun ρ2 => tb { D with nx := Iv (i + 1), ct := Iv (i + 1), bk := D.nx } ρ2) (fin : ∀ ρ', Iv L.length ρ' → D.nx ρ') : xFor wi g tb D ρ := by
  refine xfor_inv (enumD (L.map φ)) hw Iv h0 (fun i d ρ' hd iv => ?_) (fun ρ' iv => fin ρ' (by simpa [enumD] using iv))
  unfold enumD at hd
  rw [List.getElem?_mapIdx, List.getElem?_map] at hd
  cases hx : L[i]? with
  | none => rw [hx] at hd; cases hd
  | some x => rw [hx] at hd; cases hd; exact turn i x ρ' hx iv
def xForB (g : TGd) (tb : TX) (D : DE) (ρ : Ev) (ds : List L2.D) : Prop := ∃ Iv : Nat → Ev → Prop, Iv 0 ρ ∧
  (∀ i d ρ', ds[i]? = some d → Iv i ρ' → g d ρ' fun ρ2 => tb { D with nx := Iv (i + 1), ct := Iv (i + 1), bk := D.nx } ρ2) ∧ ∀ ρ', Iv ds.length ρ' → D.nx ρ'
theorem xforB_list {α : Type} {g : TGd} {tb : TX} {D : DE} {ρ : Ev} (L : List α) (φ : α → L2.D) (Iv : Nat → Ev → Prop) (h0 : Iv 0 ρ)
    (turn : ∀ i x ρ', L[i]? = some x → Iv i ρ' → g (φ x) ρ' fun ρ2 => tb { D with nx := Iv (i + 1), ct := Iv (i + 1), bk := D.nx } ρ2) (fin : ∀ ρ', Iv L.length ρ' → D.nx ρ') : xForB g tb D ρ (L.map φ) := by
  refine ⟨Iv, h0, fun i d ρ' hd iv => ?_, fun ρ' iv => fin ρ' (by simpa using iv)⟩
  rw [List.getElem?_map] at hd
  cases hx : L[i]? with
  | none => rw [hx] at hd; cases hd
  | some x => rw [hx] at hd; cases hd; exact turn i x ρ' hx iv
theorem okE_lst {n : Nat} {α : Type} (f : α → D) (l : List α) (h : ∀ x ∈ l, okE n (f x)) : okE (n + 1) (.lst (l.map f)) := by
  intro d hd
  rw [List.mem_map] at hd
  obtain ⟨x, hx, rfl⟩ := hd
  exact h x hx
theorem isi_ll (l : List D) : isTy (tyD (.lst l)) "list" = true := by show isTy "list" "list" = true; decide
theorem isi_ib (z : Int) : isTy (tyD (.int z)) "bool" = false := by show isTy "int" "bool" = false; decide
theorem isi_ii (z : Int) : isTy (tyD (.int z)) "int" = true := by show isTy "int" "int" = true; decide
theorem enumD_eq {α : Type} (l : List α) (φ : α → D) : enumD (l.map φ) = l.zipIdx.map fun p => .tup [.int (p.2 : Nat), φ p.1] := by
  unfold enumD
  apply List.ext_getElem
  · simp
  · intro i h1 h2
    simp
theorem atI_last {α : Type} (l : List α) (h : l ≠ []) : atI l (-1) = some (l.getLast h) := by
  have hl : 0 < l.length := List.length_pos_iff.mpr h
  unfold atI ixN
  rw [if_neg (by decide), if_pos (by omega)]
  simp only [Option.bind_some]
  rw [List.getLast_eq_getElem, show (-1 + (l.length : Int)).toNat = l.length - 1 by omega]
  exact List.getElem?_eq_getElem _
theorem sl_ov (o : OV) : (R.ov o).sl = .ov o := rfl
theorem val_ov (o : OV) : (R.ov o).val = o.val := rfl
end Wc
set_option Elab.async false
set_option linter.all false
set_option maxRecDepth 100000
set_option maxHeartbeats 2000000
namespace Wc
open PySem L2
local macro_rules | `(tactic| walk_at "all") => `(tactic| simp only [xSeq, xIf, bNot, bAnd, bOr, dTst, dChain, dC, val_fz, val_ow, sl_fz, sl_ow, dCB, aCons, aNil, dVar, List.map_cons, List.map_nil, List.cons_append, List.nil_append, List.set, gt, oLen, oI0, oI, dOp, oAdd, xRet, xNil, xSet, xSetF, dLst, dTup, innP, innS, yName, yNil, yCons, yTup, yLst, oInB, oEq, oNe, oIx, dSl, oNo, oSome, dCall, dAnd, dOr, dNot, dIsi, dIf, dIxO, dLenO, dNeg, dM, oCount, xApp, xRetO, xRetN, xDrop, xAsg, xFrz, frz, dFld, oIsB, isNon, bYes, zSeq, itemsD, zRng1, zEnum, oSum, oInt, oList, cpow24, cpow30, p24, p30, CDiv, CMul, Int.reduceLT, Int.reduceLE, Int.reduceAdd, Int.reduceSub, Int.reduceMul, Int.reduceNeg, Int.reducePow, Int.reduceToNat, decide_true, decide_false, true_and, and_true, and_self, or_true, true_or, okE_int, okE_str, okE_bl, okE_non, ex_atI, Bool.false_eq_true, if_false, if_true, Bool.not_true, Bool.not_false, List.length_cons, List.length_nil, Nat.reduceAdd, decide_eq_true_eq, eqD_int, eqD_str, cutL_map, intsOf_map, strsOf_map, dLend, bLend])
local macro_rules | `(tactic| walk_at "px") => `(tactic| simp only [xSeq_h, xIf, bNot, bAnd, bOr, dTst, dChain, dC, val_fz, val_ow, sl_fz, sl_ow, dCB, aCons, aNil, dVar, List.map_cons, List.map_nil, List.cons_append, List.nil_append, List.set, gt, oLen, oI0, oI, dOp, oAdd, xRet, xNil, xSet, xSetF, dLst, dTup, innP, innS, yName, yNil, yCons, yTup, yLst, oInB, oEq, oNe, oIx, dSl, oNo, oSome, dCall, dAnd, dOr, dNot, dIsi, dIf, dIxO, dLenO, dNeg, dM, oCount, xApp, xRetO, xRetN, xDrop, xAsg, xFrz, frz, dFld, oIsB, isNon, bYes, zSeq, itemsD, zRng1, zEnum, oSum, oInt, oList, cpow24, cpow30, p24, p30, CDiv, CMul, Int.reduceLT, Int.reduceLE, Int.reduceAdd, Int.reduceSub, Int.reduceMul, Int.reduceNeg, Int.reducePow, Int.reduceToNat, decide_true, decide_false, true_and, and_true, and_self, or_true, true_or, okE_int, okE_str, okE_bl, okE_non, ex_atI, Bool.false_eq_true, if_false, if_true, Bool.not_true, Bool.not_false, List.length_cons, List.length_nil, Nat.reduceAdd, decide_eq_true_eq, eqD_int, eqD_str, cutL_map, intsOf_map, strsOf_map, dLend, bLend])
local macro_rules | `(tactic| walk_at "go") => `(tactic| (simp only [hold]; walk_at "px"))
def stemL : Nat → Int → List Nat
  | 0, _ => []
  | n + 1, c => (97 + (c % 26).toNat) :: stemL n (c / 26)
theorem stemL_len (n : Nat) (c : Int) : (stemL n c).length = n := by
  induction n generalizing c with
  | zero => rfl
  | succ n ih => simp [stemL, ih]
theorem stemL_ok (n : Nat) (c : Int) : ∀ x ∈ stemL n c, 97 ≤ x ∧ x ≤ 122 := by
  induction n generalizing c with
  | zero => intro x hx; cases hx
  | succ n ih =>
    intro x hx
    rcases List.mem_cons.mp hx with rfl | h
    · have h0 := Int.emod_nonneg c (show (26 : Int) ≠ 0 by decide)
      have h1 := Int.emod_lt_of_pos c (show (0 : Int) < 26 by decide)
      omega
    · exact ih _ x h
def abc : Str := "abcdefghijklmnopqrstuvwxyz"
theorem abc_at : ∀ k : Fin 26, atI abc.cps.toList (k.val : Int) = some (97 + k.val) := by decide +kernel
theorem abc_mod (c : Int) : atI abc.cps.toList (c % 26) = some (97 + (c % 26).toNat) := by
  have h0 := Int.emod_nonneg c (show (26 : Int) ≠ 0 by decide)
  have h1 := Int.emod_lt_of_pos c (show (0 : Int) < 26 by decide)
  have := abc_at ⟨(c % 26).toNat, by omega⟩
  simp only at this
  rwa [Int.toNat_of_nonneg h0] at this
def sp__law_stem : SpD := fun ds Q => ∃ (c : Int) (n : Nat), ds = [.int c, .int n] ∧ n ≤ 1000 ∧ Q (.fz (.str (mkS (stemL n c))))
def T__law_stem : TX := (xSeq (xSetF 2 (dC (.str "abcdefghijklmnopqrstuvwxyz")))
  (xSeq (xSetF 3 (dC (.str "")))
  (xSeq (xFor (zRng1 (aCons (dVar 1) aNil)) (yName 4) (xSeq (xSetF 3 (dOp oAdd (dVar 3) (dOp oIx (dVar 2) (dOp (oI (fun _ j => 0 < j) fun i j => .int (i % j)) (dVar 0) (dC (.int 26))))))
  (xSetF 0 (dOp (oI CDiv fun i j => .int (i / j)) (dVar 0) (dC (.int 26))))))
  (xRet (dVar 3)))))
theorem spec__law_stem (ds : List D) (Qr : R → Prop) (hl : ds.length = 2) (h : sp__law_stem ds Qr) : T__law_stem { nx := fun _ => Qr (.fz .non), rt := Qr } (startP ["_law_cell", "_law_size", "_law_signs", "_law_stem_here", "_law_k"] ds) := by
  obtain ⟨c, n, rfl, hn, q⟩ := h
  show T__law_stem _ [.fz (.int c), .fz (.int n), .un, .un, .un]
  unfold T__law_stem
  walk_at "all"
  refine xfor_range n (fun Q' h => ?_) (fun i ρ => ∃ (c' : Int) (acc : List Nat) (k : Sl), ρ = [.fz (.int c'), .fz (.int n), .fz (.str abc), .fz (.str (mkS acc)), k] ∧ acc.length = i ∧ acc ++ stemL (n - i) c' = stemL n c) ⟨_, [], _, rfl, rfl, rfl⟩ ?_ ?_
  · walk_at "all"
    exact ⟨by omega, by omega, by simpa using h⟩
  · rintro i ρ hi ⟨c', acc, k, rfl, hac, he⟩
    walk_at "all"
    refine ⟨by decide, _, abc_mod c', ?_, _, acc ++ [97 + (c' % 26).toNat], _, by rw [mk1, mkS_add], by simp [hac], ?_⟩
    · rw [mkS_len, mk1, mkS_len, line_eq]; simp; omega
    · rw [← he, show n - i = (n - (i + 1)) + 1 by omega, stemL]; simp
  · rintro ρ ⟨c', acc, k, rfl, hac, he⟩
    walk_at "all"
    rw [Nat.sub_self] at he
    simp only [stemL, List.append_nil] at he
    rw [he]; exact q
end Wc
set_option Elab.async false
set_option linter.all false
set_option maxRecDepth 100000
set_option maxHeartbeats 2000000
namespace Wc
open PySem L2
local macro_rules | `(tactic| walk_at "all") => `(tactic| simp only [xSeq, xIf, bNot, bAnd, bOr, dTst, dChain, dC, val_fz, val_ow, sl_fz, sl_ow, dCB, aCons, aNil, dVar, List.map_cons, List.map_nil, List.cons_append, List.nil_append, List.set, gt, oLen, oI0, oI, dOp, oAdd, xRet, xNil, xSet, xSetF, dLst, dTup, innP, innS, yName, yNil, yCons, yTup, yLst, oInB, oEq, oNe, oIx, dSl, oNo, oSome, dCall, dAnd, dOr, dNot, dIsi, dIf, dIxO, dLenO, dNeg, dM, oCount, xApp, xRetO, xRetN, xDrop, xAsg, xFrz, frz, dFld, oIsB, isNon, bYes, zSeq, itemsD, zRng1, zEnum, oSum, oInt, oList, cpow24, cpow30, p24, p30, CDiv, CMul, Int.reduceLT, Int.reduceLE, Int.reduceAdd, Int.reduceSub, Int.reduceMul, Int.reduceNeg, Int.reducePow, Int.reduceToNat, decide_true, decide_false, true_and, and_true, and_self, or_true, true_or, okE_int, okE_str, okE_bl, okE_non, ex_atI, Bool.false_eq_true, if_false, if_true, Bool.not_true, Bool.not_false, List.length_cons, List.length_nil, Nat.reduceAdd, decide_eq_true_eq, eqD_int, eqD_str, cutL_map, intsOf_map, strsOf_map, dLend, bLend])
local macro_rules | `(tactic| walk_at "px") => `(tactic| simp only [xSeq_h, xIf, bNot, bAnd, bOr, dTst, dChain, dC, val_fz, val_ow, sl_fz, sl_ow, dCB, aCons, aNil, dVar, List.map_cons, List.map_nil, List.cons_append, List.nil_append, List.set, gt, oLen, oI0, oI, dOp, oAdd, xRet, xNil, xSet, xSetF, dLst, dTup, innP, innS, yName, yNil, yCons, yTup, yLst, oInB, oEq, oNe, oIx, dSl, oNo, oSome, dCall, dAnd, dOr, dNot, dIsi, dIf, dIxO, dLenO, dNeg, dM, oCount, xApp, xRetO, xRetN, xDrop, xAsg, xFrz, frz, dFld, oIsB, isNon, bYes, zSeq, itemsD, zRng1, zEnum, oSum, oInt, oList, cpow24, cpow30, p24, p30, CDiv, CMul, Int.reduceLT, Int.reduceLE, Int.reduceAdd, Int.reduceSub, Int.reduceMul, Int.reduceNeg, Int.reducePow, Int.reduceToNat, decide_true, decide_false, true_and, and_true, and_self, or_true, true_or, okE_int, okE_str, okE_bl, okE_non, ex_atI, Bool.false_eq_true, if_false, if_true, Bool.not_true, Bool.not_false, List.length_cons, List.length_nil, Nat.reduceAdd, decide_eq_true_eq, eqD_int, eqD_str, cutL_map, intsOf_map, strsOf_map, dLend, bLend])
local macro_rules | `(tactic| walk_at "go") => `(tactic| (simp only [hold]; walk_at "px"))
def wordsL (c : Int) : List (List Nat) :=
  if c / 64 % 3 = 0 then [104, 103, 102, 101, 100, 99, 98, 97].map fun s => (stemL 6 (c / 512)).take (c / 8 % (c % 6 + 1)).toNat ++ [s] ++ ((stemL 6 (c / 512)).drop (c / 8 % (c % 6 + 1)).toNat).take ((c % 6).toNat - (c / 8 % (c % 6 + 1)).toNat)
  else if c / 64 % 3 = 1 then (List.range 8).map fun k => (stemL 6 (c / 512)).take (c % 6 % 4).toNat ++ [if k / 4 = 0 then 109 else 116] ++ [if k / 2 % 2 = 0 then 110 else 117] ++ [if k % 2 = 0 then 111 else 118]
  else (List.range 6).map (fun k => (stemL 6 (c / 512)).take (k + 1)) ++ [([if (stemL 6 (c / 512)).headD 0 = 97 then 98 else 97] ++ (stemL 6 (c / 512)).drop 1).take 1, ([if (stemL 6 (c / 512)).headD 0 = 97 then 98 else 97] ++ (stemL 6 (c / 512)).drop 1).take 3]
def seedW (i : Int) : Int := (i % 1000000000000000000000000 + 5) * 7046029254386353131 % 1000000000000000000000007
def wordsF (i : Int) : List Str := (wordsL (seedW i)).map mkS
structure Words (ws : List Str) : Prop where
  len : ws.length = 8
  sz : ∀ w ∈ ws, 1 ≤ w.length ∧ w.length ≤ 6
  abc : ∀ w ∈ ws, ∀ x ∈ w.cps.toList, 97 ≤ x ∧ x ≤ 122
  nd : ws.Nodup
theorem stem6 (x : Int) : ∃ a b c d e f : Nat, stemL 6 x = [a, b, c, d, e, f] ∧ (97 ≤ a ∧ a ≤ 122) ∧ (97 ≤ b ∧ b ≤ 122) ∧ (97 ≤ c ∧ c ≤ 122) ∧ (97 ≤ d ∧ d ≤ 122) ∧ (97 ≤ e ∧ e ≤ 122) ∧ (97 ≤ f ∧ f ≤ 122) := by
  have h := stemL_ok 6 x
  simp only [stemL, List.mem_cons, List.not_mem_nil, or_false, forall_eq_or_imp, forall_eq] at h
  exact ⟨_, _, _, _, _, _, by simp only [stemL], h.1, h.2.1, h.2.2.1, h.2.2.2.1, h.2.2.2.2.1, h.2.2.2.2.2⟩
theorem nodup_mk {l : List (List Nat)} (h : l.Nodup) : (l.map mkS).Nodup := by
  unfold List.Nodup at *
  rw [List.pairwise_map]
  exact h.imp fun hab e => hab (mkS_inj.mp e)
theorem wordsL_ok (c : Int) : (wordsL c).length = 8 ∧ (∀ w ∈ wordsL c, (1 ≤ w.length ∧ w.length ≤ 6) ∧ ∀ x ∈ w, 97 ≤ x ∧ x ≤ 122) ∧ (wordsL c).Nodup := by
  have hst := stemL_ok 6 (c / 512)
  have hln := stemL_len 6 (c / 512)
  have s0 : 0 ≤ c % 6 := Int.emod_nonneg _ (by decide)
  have s1 : c % 6 < 6 := Int.emod_lt_of_pos _ (by decide)
  unfold wordsL
  by_cases h0 : c / 64 % 3 = 0
  · rw [if_pos h0]
    have t0 : 0 ≤ c / 8 % (c % 6 + 1) := Int.emod_nonneg _ (by omega)
    have t1 : c / 8 % (c % 6 + 1) < c % 6 + 1 := Int.emod_lt_of_pos _ (by omega)
    generalize c / 8 % (c % 6 + 1) = at' at *
    generalize stemL 6 (c / 512) = st at *
    refine ⟨rfl, fun w hw => ?_, ?_⟩
    · rw [List.mem_map] at hw
      obtain ⟨s, hs, rfl⟩ := hw
      have hs' : 97 ≤ s ∧ s ≤ 122 := by
        simp only [List.mem_cons, List.not_mem_nil, or_false] at hs
        omega
      refine ⟨?_, fun x hx => ?_⟩
      · simp only [List.length_append, List.length_take, List.length_drop, List.length_cons, List.length_nil, hln]
        omega
      · simp only [List.mem_append, List.mem_singleton] at hx
        rcases hx with (hx | rfl) | hx
        · exact hst x (List.mem_of_mem_take hx)
        · exact hs'
        · exact hst x (List.mem_of_mem_drop (List.mem_of_mem_take hx))
    · simp [List.append_assoc]
  · rw [if_neg h0]
    by_cases h1 : c / 64 % 3 = 1
    · rw [if_pos h1]
      have u0 : 0 ≤ c % 6 % 4 := Int.emod_nonneg _ (by decide)
      have u1 : c % 6 % 4 < 4 := Int.emod_lt_of_pos _ (by decide)
      generalize c % 6 % 4 = m at *
      generalize stemL 6 (c / 512) = st at *
      refine ⟨by simp, fun w hw => ?_, ?_⟩
      · rw [List.mem_map] at hw
        obtain ⟨s, hs, rfl⟩ := hw
        refine ⟨?_, fun x hx => ?_⟩
        · simp only [List.length_append, List.length_take, List.length_drop, List.length_cons, List.length_nil, hln]
          omega
        · simp only [List.mem_append, List.mem_singleton] at hx
          rcases hx with ((hx | rfl) | rfl) | rfl
          · exact hst x (List.mem_of_mem_take hx)
          · split <;> omega
          · split <;> omega
          · split <;> omega
      · simp [List.range, List.range.loop, List.append_assoc]
    · rw [if_neg h1]
      obtain ⟨a, b, c', d, e, f, hs, ha, hb, hc, hd, he, hf⟩ := stem6 (c / 512)
      rw [hs]
      have ho : 97 ≤ (if a = 97 then 98 else 97) ∧ (if a = 97 then 98 else 97) ≤ 122 ∧ (if a = 97 then 98 else 97) ≠ a := by split <;> omega
      generalize (if a = 97 then 98 else 97) = o at ho
      refine ⟨by simp, ?_, ?_⟩
      · intro w hw
        simp [List.range, List.range.loop] at hw
        rcases hw with rfl | rfl | rfl | rfl | rfl | rfl | rfl | rfl <;> (refine ⟨by simp, fun x hx => ?_⟩) <;> simp at hx <;> (try split at hx) <;> omega
      · have : ¬ a = o := fun z => ho.2.2 z.symm
        simp [List.range, List.range.loop]
        split <;> omega
theorem wordsF_ok (i : Int) : Words (wordsF i) := by
  obtain ⟨h1, h2, h3⟩ := wordsL_ok (seedW i)
  refine ⟨by simp [wordsF, h1], fun w hw => ?_, fun w hw => ?_, nodup_mk h3⟩
  · unfold wordsF at hw
    rw [List.mem_map] at hw
    obtain ⟨l, hl, rfl⟩ := hw
    rw [mkS_len]; exact (h2 l hl).1
  · unfold wordsF at hw
    rw [List.mem_map] at hw
    obtain ⟨l, hl, rfl⟩ := hw
    rw [mkS_cps]; exact (h2 l hl).2
def sp__law_named : SpD := fun ds Q => ∃ i : Int, ds = [.int i] ∧ Q (.ow ((wordsF i).map .str))
def T__law_named : TX := (xSeq (xSetF 0 (dOp (oI (fun _ j => 0 < j) fun i j => .int (i % j)) (dOp (oI CMul fun i j => .int (i * j)) (dOp oAdd (dOp (oI (fun _ j => 0 < j) fun i j => .int (i % j)) (dVar 0) (dOp (oI CPow fun i j => .int (i ^ j.toNat)) (dC (.int 10)) (dC (.int 24)))) (dC (.int 5))) (dC (.int 7046029254386353131))) (dOp oAdd (dOp (oI CPow fun i j => .int (i ^ j.toNat)) (dC (.int 10)) (dC (.int 24))) (dC (.int 7)))))
  (xSeq (xSetF 1 (dOp (oI (fun _ j => 0 < j) fun i j => .int (i % j)) (dVar 0) (dC (.int 6))))
  (xSeq (xSetF 2 (dCall 2 sp__law_stem (aCons (dOp (oI CDiv fun i j => .int (i / j)) (dVar 0) (dC (.int 512))) (aCons (dC (.int 6)) aNil))))
  (xSeq (xSetF 3 (dOp (oI (fun _ j => 0 < j) fun i j => .int (i % j)) (dOp (oI CDiv fun i j => .int (i / j)) (dVar 0) (dC (.int 8))) (dOp oAdd (dVar 1) (dC (.int 1)))))
  (xSeq (xIf (dTst (dOp oEq (dOp (oI (fun _ j => 0 < j) fun i j => .int (i % j)) (dOp (oI CDiv fun i j => .int (i / j)) (dVar 0) (dC (.int 64))) (dC (.int 3))) (dC (.int 0)))) (xRet (dComp (zSeq (dC (.str "hgfedcba"))) [none, some 2, some 3, some 1] (yName 0) bYes (dOp oAdd (dOp oAdd (dSl (dVar 1) oNo (oSome (dVar 2))) (dVar 0)) (dSl (dVar 1) (oSome (dVar 2)) (oSome (dVar 3)))))) xNil)
  (xSeq (xIf (dTst (dOp oEq (dOp (oI (fun _ j => 0 < j) fun i j => .int (i % j)) (dOp (oI CDiv fun i j => .int (i / j)) (dVar 0) (dC (.int 64))) (dC (.int 3))) (dC (.int 1)))) (xRet (dComp (zRng1 (aCons (dC (.int 8)) aNil)) [none, some 2, some 1] (yName 0) bYes (dOp oAdd (dOp oAdd (dOp oAdd (dSl (dVar 1) oNo (oSome (dOp (oI (fun _ j => 0 < j) fun i j => .int (i % j)) (dVar 2) (dC (.int 4))))) (dOp oIx (dC (.str "mt")) (dOp (oI CDiv fun i j => .int (i / j)) (dVar 0) (dC (.int 4))))) (dOp oIx (dC (.str "nu")) (dOp (oI (fun _ j => 0 < j) fun i j => .int (i % j)) (dOp (oI CDiv fun i j => .int (i / j)) (dVar 0) (dC (.int 2))) (dC (.int 2))))) (dOp oIx (dC (.str "ov")) (dOp (oI (fun _ j => 0 < j) fun i j => .int (i % j)) (dVar 0) (dC (.int 2))))))) xNil)
  (xSeq (xSetF 4 (dOp oAdd (dOp oIx (dC (.str "ab")) (dCB oInt (aCons (dOp oEq (dOp oIx (dVar 2) (dC (.int 0))) (dC (.str "a"))) aNil))) (dSl (dVar 2) (oSome (dC (.int 1))) oNo)))
  (xRet (dOp oAdd (dComp (zRng1 (aCons (dC (.int 6)) aNil)) [none, some 2] (yName 0) bYes (dSl (dVar 1) oNo (oSome (dOp oAdd (dVar 0) (dC (.int 1)))))) (dLst (aCons (dSl (dVar 4) oNo (oSome (dC (.int 1)))) (aCons (dSl (dVar 4) oNo (oSome (dC (.int 3)))) aNil))))))))))))
theorem signs8 : (Str.ofString "hgfedcba").cps.toList = [104, 103, 102, 101, 100, 99, 98, 97] := by decide +kernel
theorem mt_at (k : Nat) (h : k < 8) : atI (Str.ofString "mt").cps.toList ((k : Int) / 4) = some (if k / 4 = 0 then 109 else 116) := by
  have : ∀ k : Fin 8, atI (Str.ofString "mt").cps.toList ((k.val : Int) / 4) = some (if k.val / 4 = 0 then 109 else 116) := by decide +kernel
  exact this ⟨k, h⟩
theorem nu_at (k : Nat) (h : k < 8) : atI (Str.ofString "nu").cps.toList ((k : Int) / 2 % 2) = some (if k / 2 % 2 = 0 then 110 else 117) := by
  have : ∀ k : Fin 8, atI (Str.ofString "nu").cps.toList ((k.val : Int) / 2 % 2) = some (if k.val / 2 % 2 = 0 then 110 else 117) := by decide +kernel
  exact this ⟨k, h⟩
theorem ov_at (k : Nat) (h : k < 8) : atI (Str.ofString "ov").cps.toList ((k : Int) % 2) = some (if k % 2 = 0 then 111 else 118) := by
  have : ∀ k : Fin 8, atI (Str.ofString "ov").cps.toList ((k.val : Int) % 2) = some (if k.val % 2 = 0 then 111 else 118) := by decide +kernel
  exact this ⟨k, h⟩
theorem spec__law_named (ds : List D) (Qr : R → Prop) (hl : ds.length = 1) (h : sp__law_named ds Qr) : T__law_named { nx := fun _ => Qr (.fz .non), rt := Qr } (startP ["_law_cell", "_law_size", "_law_stem_here", "_law_at", "_law_other"] ds) := by
  obtain ⟨i, rfl, q⟩ := h
  show T__law_named _ [.fz (.int i), .un, .un, .un, .un]
  unfold T__law_named
  walk_at "all"
  unfold wordsF wordsL seedW at q
  generalize (i % 1000000000000000000000000 + 5) * 7046029254386353131 % 1000000000000000000000007 = c at q ⊢
  have s0 : 0 ≤ c % 6 := Int.emod_nonneg _ (by decide)
  have s1 : c % 6 < 6 := Int.emod_lt_of_pos _ (by decide)
  refine ⟨c / 512, 6, rfl, by decide, by omega, ?_⟩
  have t0 : 0 ≤ c / 8 % (c % 6 + 1) := Int.emod_nonneg _ (by omega)
  have t1 : c / 8 % (c % 6 + 1) < c % 6 + 1 := Int.emod_lt_of_pos _ (by omega)
  have hln := stemL_len 6 (c / 512)
  have big := line_eq
  by_cases h0 : c / 64 % 3 = 0
  · rw [if_pos h0] at q
    rw [if_pos h0]
    refine comp_map [104, 103, 102, 101, 100, 99, 98, 97] (fun c => .str ⟨#[c]⟩) (fun s => .str (mkS ((stemL 6 (c / 512)).take (c / 8 % (c % 6 + 1)).toNat ++ [s] ++ ((stemL 6 (c / 512)).drop (c / 8 % (c % 6 + 1)).toNat).take ((c % 6).toNat - (c / 8 % (c % 6 + 1)).toNat)))) (fun Q' h => ?_) (by decide) (fun s hs K1 k => ?_) ?_
    · walk_at "all"
      rw [signs8]; exact h
    · walk_at "all"
      rw [cutS_to _ t0, cutS_mid _ t0 s0, mk1, mkS_add, mkS_add]
      refine ⟨by rw [mkS_len]; omega, ?_, by rw [mkS_len]; omega, ?_, k⟩
      · simp only [mkS_len, List.length_take, List.length_cons, List.length_nil]; omega
      · simp only [mkS_len, List.length_append, List.length_take, List.length_drop, List.length_cons, List.length_nil]; omega
    · exact q
  · rw [if_neg h0] at q
    rw [if_neg h0]
    by_cases h1 : c / 64 % 3 = 1
    · rw [if_pos h1] at q
      rw [if_pos h1]
      have u0 : 0 ≤ c % 6 % 4 := Int.emod_nonneg _ (by decide)
      refine comp_map (List.range 8) (fun (i : Nat) => .int (0 + i)) (fun k => .str (mkS ((stemL 6 (c / 512)).take (c % 6 % 4).toNat ++ [if k / 4 = 0 then 109 else 116] ++ [if k / 2 % 2 = 0 then 110 else 117] ++ [if k % 2 = 0 then 111 else 118]))) (fun Q' h => ?_) (by decide) (fun s hs K1 k => ?_) ?_
      · walk_at "all"
        exact h
      · have hs8 : s < 8 := by simpa using hs
        rw [Int.zero_add]
        walk_at "all"
        rw [cutS_to _ u0]
        refine ⟨by rw [mkS_len]; omega, by decide, _, mt_at s hs8, ?_, by decide, _, nu_at s hs8, ?_, by decide, _, ov_at s hs8, ?_, ?_⟩
        · simp only [mkS_len, mk1, List.length_take, List.length_cons, List.length_nil]; omega
        · simp only [mkS_len, mk1, mkS_add, List.length_append, List.length_take, List.length_cons, List.length_nil]; omega
        · simp only [mkS_len, mk1, mkS_add, List.length_append, List.length_take, List.length_cons, List.length_nil]; omega
        · simp only [mk1, mkS_add]; exact k
      · rw [List.map_map] at q
        exact q
    · rw [if_neg h1] at q
      rw [if_neg h1]
      obtain ⟨a, b, c', d, e, f, hs, ha, hb, hc, hd, he, hf⟩ := stem6 (c / 512)
      rw [hs] at q ⊢
      have hat : atI (mkS [a, b, c', d, e, f]).cps.toList 0 = some a := by rw [mkS_cps]; rfl
      refine ⟨by rw [mkS_len]; simp; omega, a, hat, ?_⟩
      have ho : atI (Str.ofString "ab").cps.toList (if (⟨#[a]⟩ : Str) = Str.ofString "a" then 1 else 0) = some (if a = 97 then 98 else 97) := by
        by_cases h97 : a = 97
        · subst h97; decide +kernel
        · have : ¬ ((⟨#[a]⟩ : Str) = Str.ofString "a") := by
            intro z
            have z2 : (⟨#[a]⟩ : Str).cps.toList = (Str.ofString "a").cps.toList := by rw [z]
            have z3 : (Str.ofString "a").cps.toList = [97] := by decide +kernel
            rw [z3] at z2
            simp at z2
            exact h97 z2
          rw [if_neg this, if_neg h97]
          decide +kernel
      refine ⟨by decide, _, ho, ?_⟩
      walk_at "all"
      rw [cutS_from _ (by decide), mk1, mkS_add]
      refine ⟨by rw [mkS_len]; simp; omega, by simp only [mkS_len]; simp; omega, ?_⟩
      refine comp_map (List.range 6) (fun (i : Nat) => .int (0 + i)) (fun k => .str (mkS ([a, b, c', d, e, f].take (k + 1)))) (fun Q' h => ?_) (by decide) (fun s hs K1 k => ?_) ?_
      · walk_at "all"
        exact h
      · walk_at "all"
        rw [cutS_to _ (by omega), show (0 + (s : Int) + 1).toNat = s + 1 by omega]
        exact ⟨by rw [mkS_len]; simp; omega, k⟩
      · walk_at "all"
        rw [cutS_to _ (by decide), cutS_to _ (by decide)]
        refine ⟨by rw [mkS_len]; simp; omega, by rw [mkS_len]; simp; omega, by decide, by simp; omega, ?_⟩
        simp only [List.map_append, List.map_map, List.map_cons, List.map_nil] at q
        exact q
end Wc
set_option Elab.async false
set_option linter.all false
set_option maxRecDepth 100000
set_option maxHeartbeats 2000000
namespace Wc
open PySem L2 PyProof.Rows
local macro_rules | `(tactic| walk_at "all") => `(tactic| simp only [xSeq, xIf, bNot, bAnd, bOr, dTst, dChain, dC, val_fz, val_ow, sl_fz, sl_ow, dCB, aCons, aNil, dVar, List.map_cons, List.map_nil, List.cons_append, List.nil_append, List.set, gt, oLen, oI0, oI, dOp, oAdd, xRet, xNil, xSet, xSetF, dLst, dTup, innP, innS, yName, yNil, yCons, yTup, yLst, oInB, oEq, oNe, oIx, dSl, oNo, oSome, dCall, dAnd, dOr, dNot, dIsi, dIf, dIxO, dLenO, dNeg, dM, oCount, xApp, xRetO, xRetN, xDrop, xAsg, xFrz, frz, dFld, oIsB, isNon, bYes, zSeq, itemsD, zRng1, zEnum, oSum, oInt, oList, cpow24, cpow30, p24, p30, CDiv, CMul, Int.reduceLT, Int.reduceLE, Int.reduceAdd, Int.reduceSub, Int.reduceMul, Int.reduceNeg, Int.reducePow, Int.reduceToNat, decide_true, decide_false, true_and, and_true, and_self, or_true, true_or, okE_int, okE_str, okE_bl, okE_non, ex_atI, Bool.false_eq_true, if_false, if_true, Bool.not_true, Bool.not_false, List.length_cons, List.length_nil, Nat.reduceAdd, decide_eq_true_eq, eqD_int, eqD_str, cutL_map, intsOf_map, strsOf_map, dLend, bLend, eqD_dO_str, eqD_str_dO, eqD_dO, okE_dO])
local macro_rules | `(tactic| walk_at "px") => `(tactic| simp only [xSeq_h, xIf, bNot, bAnd, bOr, dTst, dChain, dC, val_fz, val_ow, sl_fz, sl_ow, dCB, aCons, aNil, dVar, List.map_cons, List.map_nil, List.cons_append, List.nil_append, List.set, gt, oLen, oI0, oI, dOp, oAdd, xRet, xNil, xSet, xSetF, dLst, dTup, innP, innS, yName, yNil, yCons, yTup, yLst, oInB, oEq, oNe, oIx, dSl, oNo, oSome, dCall, dAnd, dOr, dNot, dIsi, dIf, dIxO, dLenO, dNeg, dM, oCount, xApp, xRetO, xRetN, xDrop, xAsg, xFrz, frz, dFld, oIsB, isNon, bYes, zSeq, itemsD, zRng1, zEnum, oSum, oInt, oList, cpow24, cpow30, p24, p30, CDiv, CMul, Int.reduceLT, Int.reduceLE, Int.reduceAdd, Int.reduceSub, Int.reduceMul, Int.reduceNeg, Int.reducePow, Int.reduceToNat, decide_true, decide_false, true_and, and_true, and_self, or_true, true_or, okE_int, okE_str, okE_bl, okE_non, ex_atI, Bool.false_eq_true, if_false, if_true, Bool.not_true, Bool.not_false, List.length_cons, List.length_nil, Nat.reduceAdd, decide_eq_true_eq, eqD_int, eqD_str, cutL_map, intsOf_map, strsOf_map, dLend, bLend, eqD_dO_str, eqD_str_dO, eqD_dO, okE_dO])
local macro_rules | `(tactic| walk_at "go") => `(tactic| (simp only [hold]; walk_at "px"))
structure Pc where
  n : Option Str
  l : Int
  r : Int
  k : Int
  deriving DecidableEq
def dPc (p : Pc) : D := .tup [dO p.n, .int p.l, .int p.r, .int p.k]
def dPs (ps : List Pc) : D := .lst (ps.map dPc)
theorem okE_dPc (n : Nat) (p : Pc) : okE (n + 1) (dPc p) := by
  intro d hd
  simp only [List.mem_cons, List.not_mem_nil, or_false] at hd
  rcases hd with rfl | rfl | rfl | rfl
  · rw [okE_dO]; trivial
  all_goals (rw [okE_int]; trivial)
theorem okE_dPs (n : Nat) (ps : List Pc) : okE (n + 2) (dPs ps) := okE_lst dPc ps fun p _ => okE_dPc n p
end Wc
set_option Elab.async false
set_option linter.all false
set_option maxRecDepth 100000
set_option maxHeartbeats 2000000
namespace Wc
open PySem L2 PyProof.Rows
local macro_rules | `(tactic| walk_at "all") => `(tactic| simp only [xSeq, xIf, bNot, bAnd, bOr, dTst, dChain, dC, val_fz, val_ow, sl_fz, sl_ow, dCB, aCons, aNil, dVar, List.map_cons, List.map_nil, List.cons_append, List.nil_append, List.set, gt, oLen, oI0, oI, dOp, oAdd, xRet, xNil, xSet, xSetF, dLst, dTup, innP, innS, yName, yNil, yCons, yTup, yLst, oInB, oEq, oNe, oIx, dSl, oNo, oSome, dCall, dAnd, dOr, dNot, dIsi, dIf, dIxO, dLenO, dNeg, dM, oCount, xApp, xRetO, xRetN, xDrop, xAsg, xFrz, frz, dFld, oIsB, isNon, bYes, zSeq, itemsD, zRng1, zEnum, oSum, oInt, oList, cpow24, cpow30, p24, p30, CDiv, CMul, Int.reduceLT, Int.reduceLE, Int.reduceAdd, Int.reduceSub, Int.reduceMul, Int.reduceNeg, Int.reducePow, Int.reduceToNat, decide_true, decide_false, true_and, and_true, and_self, or_true, true_or, okE_int, okE_str, okE_bl, okE_non, ex_atI, Bool.false_eq_true, if_false, if_true, Bool.not_true, Bool.not_false, List.length_cons, List.length_nil, Nat.reduceAdd, decide_eq_true_eq, eqD_int, eqD_str, cutL_map, intsOf_map, strsOf_map, dLend, bLend, oMin])
local macro_rules | `(tactic| walk_at "px") => `(tactic| simp only [xSeq_h, xIf, bNot, bAnd, bOr, dTst, dChain, dC, val_fz, val_ow, sl_fz, sl_ow, dCB, aCons, aNil, dVar, List.map_cons, List.map_nil, List.cons_append, List.nil_append, List.set, gt, oLen, oI0, oI, dOp, oAdd, xRet, xNil, xSet, xSetF, dLst, dTup, innP, innS, yName, yNil, yCons, yTup, yLst, oInB, oEq, oNe, oIx, dSl, oNo, oSome, dCall, dAnd, dOr, dNot, dIsi, dIf, dIxO, dLenO, dNeg, dM, oCount, xApp, xRetO, xRetN, xDrop, xAsg, xFrz, frz, dFld, oIsB, isNon, bYes, zSeq, itemsD, zRng1, zEnum, oSum, oInt, oList, cpow24, cpow30, p24, p30, CDiv, CMul, Int.reduceLT, Int.reduceLE, Int.reduceAdd, Int.reduceSub, Int.reduceMul, Int.reduceNeg, Int.reducePow, Int.reduceToNat, decide_true, decide_false, true_and, and_true, and_self, or_true, true_or, okE_int, okE_str, okE_bl, okE_non, ex_atI, Bool.false_eq_true, if_false, if_true, Bool.not_true, Bool.not_false, List.length_cons, List.length_nil, Nat.reduceAdd, decide_eq_true_eq, eqD_int, eqD_str, cutL_map, intsOf_map, strsOf_map, dLend, bLend, oMin])
local macro_rules | `(tactic| walk_at "go") => `(tactic| (simp only [hold]; walk_at "px"))
structure PcOK (ws : List Str) (p : Pc) : Prop where
  nm : p.n = none ∨ ∃ w ∈ ws, p.n = some w
  l0 : -1 ≤ p.l
  lr : p.l ≤ p.r
  r1 : p.r ≤ 40
  k0 : 1 ≤ p.k
  k1 : p.k ≤ 3
def sp__law_some : SpD := fun ds Q => ∃ (ws : List Str) (s : Int) (cells : List Int) (pl : Bool), ds = [dS ws, .int s, dI cells, .bl pl] ∧ ws.length = 8 ∧ cells.length ≤ 5000 ∧ ∀ ps : List Pc, ps.length = cells.length → (∀ p ∈ ps, PcOK ws p) → Q (.ow (ps.map dPc))
def T__law_some : TX := (xSeq (xSet 4 (dLst aNil))
  (xSeq (xFor (zEnum (aCons (dVar 2) aNil)) (yTup 2 (yCons (yName 5) (yCons (yName 6) yNil))) (xSeq (xSetF 7 (dCall 2 sp__law_mix (aCons (dVar 6) (aCons (dVar 5) aNil))))
  (xSeq (xSetF 8 (dOp (oI (fun _ j => 0 < j) fun i j => .int (i % j)) (dVar 7) (dC (.int 9))))
  (xSeq (xSetF 9 (dOp (oI (fun _ j => 0 < j) fun i j => .int (i % j)) (dOp (oI CDiv fun i j => .int (i / j)) (dVar 7) (dC (.int 9))) (dOp oIx (dLst (aCons (dC (.int 12)) (aCons (dC (.int 41)) aNil))) (dOp (oI (fun _ j => 0 < j) fun i j => .int (i % j)) (dOp (oI CDiv fun i j => .int (i / j)) (dVar 7) (dC (.int 500))) (dC (.int 2))))))
  (xSeq (xSetF 10 (dCB oMin (aCons (dC (.int 40)) (aCons (dOp oAdd (dVar 9) (dOp (oI (fun _ j => 0 < j) fun i j => .int (i % j)) (dCall 2 sp__law_mix (aCons (dVar 6) (aCons (dOp oAdd (dVar 5) (dC (.int 80))) aNil))) (dOp oIx (dLst (aCons (dC (.int 2)) (aCons (dC (.int 6)) (aCons (dC (.int 41)) aNil)))) (dOp (oI (fun _ j => 0 < j) fun i j => .int (i % j)) (dOp (oI CDiv fun i j => .int (i / j)) (dVar 7) (dC (.int 1000))) (dC (.int 3)))))) aNil))))
  (xSeq (xSetF 11 (dC (.int 1)))
  (xSeq (xIf (bNot (dTst (dVar 3))) (xSetF 11 (dOp oAdd (dC (.int 1)) (dOp (oI (fun _ j => 0 < j) fun i j => .int (i % j)) (dCall 2 sp__law_mix (aCons (dOp oAdd (dVar 1) (dOp (oI CMul fun i j => .int (i * j)) (dOp (oI CDiv fun i j => .int (i / j)) (dVar 8) (dC (.int 8))) (dVar 5))) (aCons (dOp oAdd (dVar 8) (dC (.int 7))) aNil))) (dC (.int 3))))) xNil)
  (xIf (dTst (dOp oEq (dVar 8) (dC (.int 8)))) (xApp 4 (dTup (aCons (dC .non) (aCons (dVar 9) (aCons (dVar 10) (aCons (dVar 11) aNil)))))) (xApp 4 (dTup (aCons (dOp oIx (dVar 0) (dVar 8)) (aCons (dOp (oI0 fun i j => .int (i - j)) (dVar 9) (dOp (oI (fun _ j => 0 < j) fun i j => .int (i % j)) (dOp (oI CDiv fun i j => .int (i / j)) (dVar 7) (dC (.int 3000))) (dC (.int 2)))) (aCons (dVar 10) (aCons (dVar 11) aNil))))))))))))))
  (xRetO 4)))
theorem app_dPc (ps : List Pc) (n : Option Str) (l r k : Int) : ps.map dPc ++ [.tup [dO n, .int l, .int r, .int k]] = (ps ++ [Pc.mk n l r k]).map dPc := by rw [List.map_append]; rfl
theorem spec__law_some (ds : List D) (Qr : R → Prop) (hl : ds.length = 4) (h : sp__law_some ds Qr) : T__law_some { nx := fun _ => Qr (.fz .non), rt := Qr } (startP ["_law_words", "_law_seed", "_law_cells", "_law_plain", "_law_pieces", "_law_k", "_law_cell", "_law_one", "_law_net", "_law_first", "_law_last", "_law_wide"] ds) := by
  obtain ⟨ws, s, cells, pl, rfl, hw, hc, q⟩ := h
  show T__law_some _ [.fz (dS ws), .fz (.int s), .fz (dI cells), .fz (.bl pl), .un, .un, .un, .un, .un, .un, .un, .un]
  unfold T__law_some dI dS
  have big := line_eq
  walk_at "px"
  refine ⟨Nat.zero_le _, ?_⟩
  walk_at "go"
  refine xfor_enum cells D.int (fun Q' h => ?_) (fun i ρ => ∃ (ps : List Pc) (a b c d e f g : Sl), ρ = [.fz (.lst (ws.map .str)), .fz (.int s), .fz (.lst (cells.map .int)), .fz (.bl pl), .ow (ps.map dPc), a, b, c, d, e, f, g] ∧ ps.length = i ∧ ∀ p ∈ ps, PcOK ws p) ⟨[], _, _, _, _, _, _, _, rfl, rfl, fun p hp => (by cases hp)⟩ ?_ ?_
  · walk_at "px"
    exact h
  · rintro i cell ρ hi ⟨ps, a, b, c, d, e, f, g, rfl, hl, ok⟩
    have hil : i < cells.length := (List.getElem?_eq_some_iff.mp hi).1
    walk_at "px"
    refine ⟨cell, (i : Int), rfl, by omega, by omega, ?_⟩
    have o0 := mix_nn cell (i : Int)
    generalize mixF cell (i : Int) = one at o0
    walk_at "go"
    have n0 := Int.emod_nonneg one (show (9 : Int) ≠ 0 by decide)
    have n1 := Int.emod_lt_of_pos one (show (0 : Int) < 9 by decide)
    generalize hnet : one % 9 = net at n0 n1
    walk_at "go"
    obtain ⟨z, hz, hzm⟩ := at_mod (n := 2) (l := ([12, 41] : List Int)) (one / 500) (by simp) (by decide)
    have hz2 : atI ([12, 41] : List Int) (one / 500 % 2) = some z := hz
    have hz3 : atI (([12, 41] : List Int).map D.int) (one / 500 % 2) = some (.int z) := by rw [atI_map, hz2]; rfl
    refine ⟨by omega, .int z, hz3, ?_⟩
    have hz1 : z = 12 ∨ z = 41 := by simpa using hzm
    simp only []
    refine ⟨by omega, ?_⟩
    have f0 := Int.emod_nonneg (one / 9) (show z ≠ 0 by omega)
    have f1 := Int.emod_lt_of_pos (one / 9) (show (0 : Int) < z by omega)
    generalize one / 9 % z = first at f0 f1
    walk_at "go"
    obtain ⟨y, hy, hym⟩ := at_mod (n := 3) (l := ([2, 6, 41] : List Int)) (one / 1000) (by simp) (by decide)
    have hy2 : atI ([2, 6, 41] : List Int) (one / 1000 % 3) = some y := hy
    have hy3 : atI (([2, 6, 41] : List Int).map D.int) (one / 1000 % 3) = some (.int y) := by rw [atI_map, hy2]; rfl
    have hy1 : y = 2 ∨ y = 6 ∨ y = 41 := by simpa using hym
    refine ⟨cell, (i : Int) + 80, rfl, by omega, by omega, by omega, .int y, hy3, ?_⟩
    simp only [val_fz]
    refine ⟨by omega, ?_⟩
    have m0 := Int.emod_nonneg (mixF cell ((i : Int) + 80)) (show y ≠ 0 by omega)
    generalize mixF cell ((i : Int) + 80) % y = m at m0
    have la0 : first ≤ (if first + m < 40 then first + m else 40) := by split <;> omega
    have la1 : (if first + m < 40 then first + m else 40) ≤ 40 := by split <;> omega
    generalize (if first + m < 40 then first + m else 40) = last at la0 la1
    have key : ∀ (wide : Int), 1 ≤ wide → wide ≤ 3 → hold (xIf (dTst (dOp oEq (dVar 8) (dC (D.int 8))))
                      (xApp 4 (dTup (aCons (dC D.non) (aCons (dVar 9) (aCons (dVar 10) (aCons (dVar 11) aNil))))))
                      (xApp 4
                        (dTup
                          (aCons (dOp oIx (dVar 0) (dVar 8))
                            (aCons
                              (dOp (oI0 fun i j => D.int (i - j)) (dVar 9)
                                (dOp (oI (fun x j => 0 < j) fun i j => D.int (i % j))
                                  (dOp (oI CDiv fun i j => D.int (i / j)) (dVar 7) (dC (D.int 3000))) (dC (D.int 2))))
                              (aCons (dVar 10) (aCons (dVar 11) aNil))))))) {
                  nx := fun ρ =>
                    ∃ (ps : List Pc) (a b c d e f g : Sl),
                      ρ =
                          [Sl.fz (D.lst (List.map D.str ws)), Sl.fz (D.int s), Sl.fz (D.lst (List.map D.int cells)),
                            Sl.fz (D.bl pl), Sl.ow (List.map dPc ps), a, b, c, d, e, f, g] ∧
                        ps.length = i + 1 ∧ ∀ (p : Pc), p ∈ ps → PcOK ws p,
                  rt := Qr, bk := xRetO 4 { nx := fun x => Qr (R.fz D.non), rt := Qr },
                  ct := fun ρ =>
                    ∃ (ps : List Pc) (a b c d e f g : Sl),
                      ρ =
                          [Sl.fz (D.lst (List.map D.str ws)), Sl.fz (D.int s), Sl.fz (D.lst (List.map D.int cells)),
                            Sl.fz (D.bl pl), Sl.ow (List.map dPc ps), a, b, c, d, e, f, g] ∧
                        ps.length = i + 1 ∧ ∀ (p : Pc), p ∈ ps → PcOK ws p }
                [Sl.fz (D.lst (List.map D.str ws)), Sl.fz (D.int s), Sl.fz (D.lst (List.map D.int cells)),
                  Sl.fz (D.bl pl), Sl.ow (List.map dPc ps), Sl.fz (D.int ↑i), Sl.fz (D.int cell), Sl.fz (D.int one),
                  Sl.fz (D.int net), Sl.fz (D.int first), Sl.fz (D.int last), Sl.fz (.int wide)] := by
      intro wide w0 w1
      have more : ∀ p, PcOK ws p → ∃ (ps2 : List Pc) (a b c d e f g : Sl), [Sl.fz (D.lst (List.map D.str ws)), Sl.fz (D.int s), Sl.fz (D.lst (List.map D.int cells)),
                  Sl.fz (D.bl pl), Sl.ow (List.map dPc (ps ++ [p])), Sl.fz (D.int ↑i), Sl.fz (D.int cell), Sl.fz (D.int one),
                  Sl.fz (D.int net), Sl.fz (D.int first), Sl.fz (D.int last), Sl.fz (.int wide)] = [Sl.fz (D.lst (List.map D.str ws)), Sl.fz (D.int s), Sl.fz (D.lst (List.map D.int cells)),
                            Sl.fz (D.bl pl), Sl.ow (List.map dPc ps2), a, b, c, d, e, f, g] ∧
                        ps2.length = i + 1 ∧ ∀ (p : Pc), p ∈ ps2 → PcOK ws p := fun p hp => by
        refine ⟨ps ++ [p], _, _, _, _, _, _, _, rfl, by rw [List.length_append, hl]; rfl, fun x hx => ?_⟩
        rcases List.mem_append.mp hx with hx | hx
        · exact ok x hx
        · simp at hx; subst hx; exact hp
      walk_at "go"
      by_cases h8 : net = 8
      · rw [if_pos h8]
        refine ⟨by omega, by rw [List.length_map]; omega, ?_⟩
        rw [show [D.tup [D.non, D.int first, D.int last, D.int wide]] = [D.tup [dO none, D.int first, D.int last, D.int wide]] from rfl, app_dPc]
        exact more _ ⟨.inl rfl, by show -1 ≤ first; omega, la0, la1, w0, w1⟩
      · rw [if_neg h8]
        obtain ⟨hj, hw2⟩ := atI_get (l := ws) (i := net) n0 (by omega)
        refine ⟨_, hw2, by omega, by rw [List.length_map]; omega, ?_⟩
        rw [show ∀ (x : Str) (l : Int), [D.tup [D.str x, D.int l, D.int last, D.int wide]] = [D.tup [dO (some x), D.int l, D.int last, D.int wide]] from fun _ _ => rfl, app_dPc]
        exact more _ ⟨.inr ⟨_, List.getElem_mem hj, rfl⟩, by show -1 ≤ first - one / 3000 % 2; omega, by show first - one / 3000 % 2 ≤ last; omega, la1, w0, w1⟩
    walk_at "go"
    walk_at "go"
    cases pl with
    | true =>
      simp only [Bool.not_true, Bool.false_eq_true, if_false]
      exact key 1 (by decide) (by decide)
    | false =>
      simp only [Bool.not_false, if_true]
      refine ⟨.inl (by omega), _, _, rfl, by omega, by omega, ?_⟩
      simp only [val_fz]
      refine ⟨by decide, ?_⟩
      have t0 := Int.emod_nonneg (mixF (s + net / 8 * (i : Int)) (net + 7)) (show (3 : Int) ≠ 0 by decide)
      have t1 := Int.emod_lt_of_pos (mixF (s + net / 8 * (i : Int)) (net + 7)) (show (0 : Int) < 3 by decide)
      exact key _ (by omega) (by omega)
  · rintro ρ ⟨ps, a, b, c, d, e, f, g, rfl, hl, ok⟩
    walk_at "go"
    exact q ps hl ok
def sp__law_whole : SpD := fun ds Q => ∃ i : Int, ds = [.int i] ∧ Q (.fz (.bl true))
def T__law_whole : TX := (xRet (dAnd (dIsi "int" (dVar 0)) (dNot (dIsi "bool" (dVar 0)))))
theorem spec__law_whole (ds : List D) (Qr : R → Prop) (hl : ds.length = 1) (h : sp__law_whole ds Qr) : T__law_whole { nx := fun _ => Qr (.fz .non), rt := Qr } (startP ["_law_found"] ds) := by
  obtain ⟨i, rfl, q⟩ := h
  show T__law_whole _ [.fz (.int i)]
  unfold T__law_whole
  walk_at "px"
  simp only [isi_ii, isi_ib, noObj, true_and, Bool.not_false, if_true]
  exact q
end Wc
set_option Elab.async false
set_option linter.all false
set_option maxRecDepth 100000
set_option maxHeartbeats 2000000
namespace Wc
open PySem L2 PyProof.Rows
def pcA (ps : List Pc) (q : Nat) : Pc := ps[q]?.getD ⟨none, 0, 0, 1⟩
def trA (tr : List Int) (q : Nat) : Int := tr[q]?.getD 0
theorem pcA_at {ps : List Pc} {q : Nat} (h : q < ps.length) : pcA ps q = ps[q] := by unfold pcA; rw [List.getElem?_eq_getElem h]; rfl
theorem trA_at {tr : List Int} {q : Nat} (h : q < tr.length) : trA tr q = tr[q] := by unfold trA; rw [List.getElem?_eq_getElem h]; rfl
end Wc
set_option Elab.async false
set_option linter.all false
set_option maxRecDepth 100000
set_option maxHeartbeats 2000000
namespace Wc
open PySem L2 PyProof.Rows
def fK (ps : List Pc) (q : Nat) : List Int := [(pcA ps q).l, (pcA ps q).r, (q : Int)]
theorem lex_tri : ∀ a b : List Int, HT.lexGt a b = false → a ≠ b → HT.lexGt b a = true
  | [], [], _, h => absurd rfl h
  | [], _ :: _, _, _ => rfl
  | _ :: _, [], h, _ => by cases h
  | x :: xs, y :: ys, h, hne => by
    unfold HT.lexGt at h ⊢
    by_cases e : x = y
    · subst e
      simp only [if_true] at h ⊢
      exact lex_tri xs ys h fun z => hne (by rw [z])
    · have e2 : ¬ y = x := fun z => e z.symm
      simp [e] at h
      simp [e2]; omega
theorem lex_cons (a b : Int) (xs ys : List Int) : HT.lexGt (a :: xs) (b :: ys) = if a = b then HT.lexGt xs ys else decide (b < a) := by
  rfl
end Wc
set_option Elab.async false
set_option linter.all false
set_option maxRecDepth 100000
set_option maxHeartbeats 2000000
namespace Wc
open PySem L2 PyProof.Rows
local macro_rules | `(tactic| walk_at "all") => `(tactic| simp only [xSeq, xIf, bNot, bAnd, bOr, dTst, dChain, dC, val_fz, val_ow, sl_fz, sl_ow, dCB, aCons, aNil, dVar, List.map_cons, List.map_nil, List.cons_append, List.nil_append, List.set, gt, oLen, oI0, oI, dOp, oAdd, xRet, xNil, xSet, xSetF, dLst, dTup, innP, innS, yName, yNil, yCons, yTup, yLst, oInB, oEq, oNe, oIx, dSl, oNo, oSome, dCall, dAnd, dOr, dNot, dIsi, dIf, dIxO, dLenO, dNeg, dM, oCount, xApp, xRetO, xRetN, xDrop, xAsg, xFrz, frz, dFld, oIsB, isNon, bYes, zSeq, itemsD, zRng1, zEnum, oSum, oInt, oList, cpow24, cpow30, p24, p30, CDiv, CMul, Int.reduceLT, Int.reduceLE, Int.reduceAdd, Int.reduceSub, Int.reduceMul, Int.reduceNeg, Int.reducePow, Int.reduceToNat, decide_true, decide_false, true_and, and_true, and_self, or_true, true_or, okE_int, okE_str, okE_bl, okE_non, ex_atI, Bool.false_eq_true, if_false, if_true, Bool.not_true, Bool.not_false, List.length_cons, List.length_nil, Nat.reduceAdd, decide_eq_true_eq, eqD_int, eqD_str, cutL_map, intsOf_map, strsOf_map, dLend, bLend, sl_ov, val_ov])
local macro_rules | `(tactic| walk_at "px") => `(tactic| simp only [xSeq_h, xIf, bNot, bAnd, bOr, dTst, dChain, dC, val_fz, val_ow, sl_fz, sl_ow, dCB, aCons, aNil, dVar, List.map_cons, List.map_nil, List.cons_append, List.nil_append, List.set, gt, oLen, oI0, oI, dOp, oAdd, xRet, xNil, xSet, xSetF, dLst, dTup, innP, innS, yName, yNil, yCons, yTup, yLst, oInB, oEq, oNe, oIx, dSl, oNo, oSome, dCall, dAnd, dOr, dNot, dIsi, dIf, dIxO, dLenO, dNeg, dM, oCount, xApp, xRetO, xRetN, xDrop, xAsg, xFrz, frz, dFld, oIsB, isNon, bYes, zSeq, itemsD, zRng1, zEnum, oSum, oInt, oList, cpow24, cpow30, p24, p30, CDiv, CMul, Int.reduceLT, Int.reduceLE, Int.reduceAdd, Int.reduceSub, Int.reduceMul, Int.reduceNeg, Int.reducePow, Int.reduceToNat, decide_true, decide_false, true_and, and_true, and_self, or_true, true_or, okE_int, okE_str, okE_bl, okE_non, ex_atI, Bool.false_eq_true, if_false, if_true, Bool.not_true, Bool.not_false, List.length_cons, List.length_nil, Nat.reduceAdd, decide_eq_true_eq, eqD_int, eqD_str, cutL_map, intsOf_map, strsOf_map, dLend, bLend, sl_ov, val_ov])
local macro_rules | `(tactic| walk_at "go") => `(tactic| (simp only [hold]; walk_at "px"))
structure InOrd (ps : List Pc) (ord : List Nat) : Prop where
  pm : ord.Perm (List.range ps.length)
  srt : ord.Pairwise fun x y => HT.lexGt (fK ps y) (fK ps x) = true
theorem InOrd.nd {ps : List Pc} {ord : List Nat} (h : InOrd ps ord) : ord.Nodup := h.pm.nodup_iff.mpr List.nodup_range
theorem InOrd.mem {ps : List Pc} {ord : List Nat} (h : InOrd ps ord) (q : Nat) : q ∈ ord ↔ q < ps.length := by rw [h.pm.mem_iff, List.mem_range]
theorem InOrd.len {ps : List Pc} {ord : List Nat} (h : InOrd ps ord) : ord.length = ps.length := by rw [h.pm.length_eq, List.length_range]
def dNs (l : List Nat) : List D := l.map fun (q : Nat) => D.int (q : Int)
def sp_in_order : SpD := fun ds Q => ∃ ps : List Pc, ds = [dPs ps] ∧ ps.length ≤ 63 ∧ ∀ ord, InOrd ps ord → Q (.ow (dNs ord))
def T_in_order : TX := (xSeq (xSetF 1 (dCB oSorted64 (aCons (dComp (zEnum (aCons (dVar 0) aNil)) [none, none] (yTup 2 (yCons (yName 0) (yCons (yName 1) yNil))) bYes (dTup (aCons (dOp oIx (dVar 1) (dC (.int 1))) (aCons (dOp oIx (dVar 1) (dC (.int 2))) (aCons (dVar 0) aNil))))) aNil)))
  (xRet (dComp (zSeq (dVar 1)) [none, none, none] (yTup 3 (yCons (yName 0) (yCons (yName 1) (yCons (yName 2) yNil)))) bYes (dVar 2))))
theorem itups_map {α : Type} (f : α → List Int) : ∀ L : List α, itups (L.map fun a => D.tup ((f a).map D.int)) = some (L.map f)
  | [] => rfl
  | a :: L => by
    rw [List.map_cons, List.map_cons]
    unfold itups
    rw [intsOf_map, itups_map f L]
theorem spec_in_order (ds : List D) (Qr : R → Prop) (hl : ds.length = 1) (h : sp_in_order ds Qr) : T_in_order { nx := fun _ => Qr (.fz .non), rt := Qr } (startP ["pieces", "keys"] ds) := by
  obtain ⟨ps, rfl, hn, q⟩ := h
  show T_in_order _ [.fz (dPs ps), .un]
  unfold T_in_order
  have big := line_eq
  walk_at "px"
  refine comp_map (List.range ps.length) (fun i => .tup [.int (i : Nat), dPc (pcA ps i)]) (fun i => .tup ((fK ps i).map D.int)) (fun Q' h => ?_) (by simp; omega) (fun x hx K1 k => ?_) ?_
  · unfold dPs
    walk_at "px"
    have e : enumD (ps.map dPc) = (List.range ps.length).map fun i => D.tup [.int (i : Nat), dPc (pcA ps i)] := by
      unfold enumD
      apply List.ext_getElem
      · simp
      · intro i h1 h2
        have hi : i < ps.length := by simpa using h1
        simp [pcA_at hi]
    rw [e]
    exact h
  · rw [show dPc (pcA ps x) = .tup [dO (pcA ps x).n, .int (pcA ps x).l, .int (pcA ps x).r, .int (pcA ps x).k] from rfl]
    walk_at "px"
    refine ⟨_, rfl, _, rfl, by omega, ?_⟩
    exact k
  · simp only [val_ow, oSorted64, itups_map]
    refine ⟨by simp; omega, fun t ht => ?_, fun tss' hp hs => ?_⟩
    · obtain ⟨i, _, rfl⟩ := List.mem_map.mp ht
      simp [fK]
    · obtain ⟨ord, h1, rfl⟩ := perm_lift hp rfl
      have nd : ord.Nodup := h1.nodup_iff.mpr List.nodup_range
      have inj : ∀ x y, fK ps x = fK ps y → x = y := fun x y e => by unfold fK at e; simp at e; omega
      have io : InOrd ps ord := by
        refine ⟨h1, ?_⟩
        rw [List.pairwise_map] at hs
        exact (hs.and nd).imp fun {a b} h => lex_tri _ _ h.1 fun z => h.2 (inj _ _ z)
      walk_at "go"
      rw [List.map_map]
      refine comp_map ord (fun q => .tup ((fK ps q).map D.int)) (fun (q : Nat) => .int (q : Int)) (fun Q' h => ?_) (by rw [io.len]; omega) (fun x hx K1 k => ?_) ?_
      · walk_at "px"
        exact h
      · unfold fK
        walk_at "px"
        exact k
      · exact q ord io
end Wc
set_option Elab.async false
set_option linter.all false
set_option maxRecDepth 100000
set_option maxHeartbeats 2000000
namespace Wc
open PySem L2 PyProof.Rows
local macro_rules | `(tactic| walk_at "all") => `(tactic| simp only [xSeq, xIf, bNot, bAnd, bOr, dTst, dChain, dC, val_fz, val_ow, sl_fz, sl_ow, dCB, aCons, aNil, dVar, List.map_cons, List.map_nil, List.cons_append, List.nil_append, List.set, gt, oLen, oI0, oI, dOp, oAdd, xRet, xNil, xSet, xSetF, dLst, dTup, innP, innS, yName, yNil, yCons, yTup, yLst, oInB, oEq, oNe, oIx, dSl, oNo, oSome, dCall, dAnd, dOr, dNot, dIsi, dIf, dIxO, dLenO, dNeg, dM, oCount, xApp, xRetO, xRetN, xDrop, xAsg, xFrz, frz, dFld, oIsB, isNon, bYes, zSeq, itemsD, zRng1, zEnum, oSum, oInt, oList, cpow24, cpow30, p24, p30, CDiv, CMul, Int.reduceLT, Int.reduceLE, Int.reduceAdd, Int.reduceSub, Int.reduceMul, Int.reduceNeg, Int.reducePow, Int.reduceToNat, decide_true, decide_false, true_and, and_true, and_self, or_true, true_or, okE_int, okE_str, okE_bl, okE_non, ex_atI, Bool.false_eq_true, if_false, if_true, Bool.not_true, Bool.not_false, List.length_cons, List.length_nil, Nat.reduceAdd, decide_eq_true_eq, eqD_int, eqD_str, cutL_map, intsOf_map, strsOf_map, dLend, bLend, sl_ov, val_ov, dNewT, dTupO, gt])
local macro_rules | `(tactic| walk_at "px") => `(tactic| simp only [xSeq_h, xIf, bNot, bAnd, bOr, dTst, dChain, dC, val_fz, val_ow, sl_fz, sl_ow, dCB, aCons, aNil, dVar, List.map_cons, List.map_nil, List.cons_append, List.nil_append, List.set, gt, oLen, oI0, oI, dOp, oAdd, xRet, xNil, xSet, xSetF, dLst, dTup, innP, innS, yName, yNil, yCons, yTup, yLst, oInB, oEq, oNe, oIx, dSl, oNo, oSome, dCall, dAnd, dOr, dNot, dIsi, dIf, dIxO, dLenO, dNeg, dM, oCount, xApp, xRetO, xRetN, xDrop, xAsg, xFrz, frz, dFld, oIsB, isNon, bYes, zSeq, itemsD, zRng1, zEnum, oSum, oInt, oList, cpow24, cpow30, p24, p30, CDiv, CMul, Int.reduceLT, Int.reduceLE, Int.reduceAdd, Int.reduceSub, Int.reduceMul, Int.reduceNeg, Int.reducePow, Int.reduceToNat, decide_true, decide_false, true_and, and_true, and_self, or_true, true_or, okE_int, okE_str, okE_bl, okE_non, ex_atI, Bool.false_eq_true, if_false, if_true, Bool.not_true, Bool.not_false, List.length_cons, List.length_nil, Nat.reduceAdd, decide_eq_true_eq, eqD_int, eqD_str, cutL_map, intsOf_map, strsOf_map, dLend, bLend, sl_ov, val_ov, dNewT, dTupO, gt])
local macro_rules | `(tactic| walk_at "go") => `(tactic| (simp only [hold]; walk_at "px"))
def gk (ps : List Pc) (lv : List Int) (q : Nat) : List Int := [trA lv q, -(pcA ps q).k]
def grp (ps : List Pc) (lv : List Int) (ord : List Nat) (t : List Int) : List Nat := ord.filter fun q => decide (gk ps lv q = t)
structure Grps (ps : List Pc) (lv : List Int) (ord : List Nat) (ks : List (List Int)) : Prop where
  srt : ks.Pairwise fun x y => HT.lexGt y x = true
  mem : ∀ t, t ∈ ks ↔ ∃ q ∈ ord, gk ps lv q = t
def dGs (gs : List (List Nat)) : List D := gs.map fun g => .lst (dNs g)
def sp_level_groups : SpD := fun ds Q => ∃ (ps : List Pc) (lv : List Int), ds = [dPs ps, dI lv] ∧ lv.length = ps.length ∧ ps.length ≤ 63 ∧ ∀ ord ks, InOrd ps ord → Grps ps lv ord ks → Q (.ow (dGs (ks.map (grp ps lv ord))))
def T_level_groups : TX := (xSeq (xSet 2 dNewT)
  (xSeq (xFor (zSeq (dCall 1 sp_in_order (aCons (dVar 0) aNil))) (yName 3) (xSeq (xSet 4 (dTupO (aCons (dOp oIx (dVar 1) (dVar 3)) (aCons (dNeg (dOp oIx (dOp oIx (dVar 0) (dVar 3)) (dC (.int 3)))) aNil))))
  (xSdT 2 4 (dVar 3))))
  (xFrz 2 (xRet (dComp (zSeq (dCB oSortDT (aCons (dVar 2) aNil))) [none, some 2] (yName 0) bYes (dGetT (dVar 1) (dVar 0)))))))
abbrev Tb := List Int × List Nat
def enT (p : Tb) : List Key × List D := (p.1.map Sum.inl, dNs p.2)
structure TabOK (ps : List Pc) (lv : List Int) (o : List Nat) (tab : List Tb) : Prop where
  nd : (tab.map (·.1)).Nodup
  mem : ∀ t, t ∈ tab.map (·.1) ↔ ∃ q ∈ o, gk ps lv q = t
  val : ∀ p ∈ tab, p.2 = grp ps lv o p.1
  len : tab.length ≤ o.length
theorem inl_inj {a b : List Int} (h : a.map (fun i => (Sum.inl i : Key)) = b.map Sum.inl) : a = b := by
  refine (List.map_inj_right fun x y z => ?_).mp h
  injection z
theorem any_enT (tab : List Tb) (t : List Int) : ((tab.map enT).any fun kv => decide (kv.1 = t.map Sum.inl)) = decide (t ∈ tab.map (·.1)) := by
  rw [List.any_map, Bool.eq_iff_iff, List.any_eq_true, decide_eq_true_eq, List.mem_map]
  constructor
  · rintro ⟨p, hp, e⟩
    simp only [Function.comp_apply, enT] at e
    exact ⟨p, hp, inl_inj (of_decide_eq_true e)⟩
  · rintro ⟨p, hp, rfl⟩
    exact ⟨p, hp, by simp [enT]⟩
theorem grp_snoc (ps : List Pc) (lv : List Int) (o : List Nat) (q : Nat) (t : List Int) : grp ps lv (o ++ [q]) t = if gk ps lv q = t then grp ps lv o t ++ [q] else grp ps lv o t := by
  unfold grp
  rw [List.filter_append]
  by_cases h : gk ps lv q = t
  · simp [h]
  · simp [h]
theorem keysD_ints : ∀ t : List Int, keysD (t.map D.int) = some (t.map Sum.inl)
  | [] => rfl
  | a :: t => by
    rw [List.map_cons]
    unfold keysD
    rw [keysD_ints t]
    rfl
theorem comp_seqT {te te' : TD} {m : List (Option Nat)} {g : TGd} {tc : TDb} {ρ : Ev} {Q : R → Prop} (h : te ρ fun r => itemsD r.val fun ds => dComp (fun _ Q' => Q' ds) m g tc te' ρ Q) : dComp (zSeq te) m g tc te' ρ Q := h
theorem xforS_def (te : TD) (g : TGd) (tb : TX) (De : DE) (ρ : Ev) : xFor (zSeq te) g tb De ρ = te ρ fun r => itemsD r.val fun ds => ∃ Iv : Nat → Ev → Prop, Iv 0 ρ ∧ (∀ i d ρ', ds[i]? = some d → Iv i ρ' → g d ρ' fun ρ2 => tb { De with nx := Iv (i + 1), ct := Iv (i + 1), bk := De.nx } ρ2) ∧ ∀ ρ', Iv ds.length ρ' → De.nx ρ' := rfl
theorem spec_level_groups (ds : List D) (Qr : R → Prop) (hl : ds.length = 2) (h : sp_level_groups ds Qr) : T_level_groups { nx := fun _ => Qr (.fz .non), rt := Qr } (startP ["pieces", "levels", "groups", "number", "key"] ds) := by
  obtain ⟨ps, lv, rfl, hlv, hn, Q⟩ := h
  show T_level_groups _ [.fz (dPs ps), .fz (dI lv), .un, .un, .un]
  unfold T_level_groups
  have big := line_eq
  have gl : ∀ q, q < ps.length → atI lv (q : Int) = some (trA lv q) := fun q hq => by rw [trA_at (by omega)]; exact atI_nat' (by omega)
  have gp : ∀ q, q < ps.length → atI ps (q : Int) = some (pcA ps q) := fun q hq => by rw [pcA_at hq]; exact atI_nat' hq
  walk_at "px"
  walk_at "go"
  rw [xforS_def]
  walk_at "px"
  refine ⟨ps, rfl, by omega, fun ord io => ?_⟩
  have hol : ord.length = ps.length := io.len
  show ∃ Iv : Nat → Ev → Prop, _
  refine ⟨fun i ρ => ∃ (tab : List Tb) (a b : Sl), ρ = [.fz (dPs ps), .fz (dI lv), .ov (.dt (tab.map enT)), a, b] ∧ TabOK ps lv (ord.take i) tab, ⟨[], _, _, rfl, ⟨List.nodup_nil, fun t => by simp, fun p hp => (by cases hp), Nat.le_refl _⟩⟩, ?_, ?_⟩
  · rintro i d ρ hd ⟨tab, a, b, rfl, ok⟩
    unfold dNs at hd
    rw [List.getElem?_map] at hd
    cases hq : ord[i]? with
    | none => rw [hq] at hd; cases hd
    | some q =>
      rw [hq] at hd
      cases hd
      have hqn : q < ps.length := (io.mem q).mp (List.mem_of_getElem? hq)
      have hil : i < ord.length := (List.getElem?_eq_some_iff.mp hq).1
      have e1 : ord.take (i + 1) = ord.take i ++ [q] := by rw [List.take_add_one, hq]; rfl
      have tl : tab.length ≤ 63 := by have := ok.len; rw [List.length_take] at this; omega
      unfold dI dPs
      walk_at "px"
      refine ⟨_, gl q hqn, _, gp q hqn, ?_⟩
      rw [show dPc (pcA ps q) = .tup [dO (pcA ps q).n, .int (pcA ps q).l, .int (pcA ps q).r, .int (pcA ps q).k] from rfl]
      refine ⟨_, rfl, by omega, ?_⟩
      simp only [hold]
      unfold xSdT
      simp only [gt]
      have ek : keysD [D.int (trA lv q), D.int (-(pcA ps q).k)] = some ((gk ps lv q).map Sum.inl) := keysD_ints (gk ps lv q)
      have ht : touchT (tab.map enT) ((gk ps lv q).map Sum.inl) = if gk ps lv q ∈ tab.map (·.1) then tab.map enT else (tab ++ [(gk ps lv q, [])]).map enT := by
        unfold touchT
        rw [any_enT]
        by_cases h : gk ps lv q ∈ tab.map (·.1)
        · simp [h]
        · rw [if_neg (by simp [h]), if_neg h, List.map_append]; rfl
      by_cases h : gk ps lv q ∈ tab.map (·.1)
      · rw [if_pos h] at ht
        obtain ⟨p, hp, hpk⟩ := List.mem_map.mp h
        obtain ⟨n, hn⟩ := List.getElem?_of_mem hp
        have hnl : n < tab.length := (List.getElem?_eq_some_iff.mp hn).1
        have first : ∀ j, j < n → ∀ x, tab[j]? = some x → x.1 ≠ gk ps lv q := fun j hj x hx z => by
          obtain ⟨hj1, hj2⟩ := List.getElem?_eq_some_iff.mp hx
          have := List.pairwise_iff_getElem.mp ok.nd j n (by rw [List.length_map]; exact hj1) (by rw [List.length_map]; exact hnl) hj
          rw [List.getElem_map, List.getElem_map, hj2, (List.getElem?_eq_some_iff.mp hn).2] at this
          exact this (z.trans hpk.symm)
        refine ⟨_, n, dNs p.2, ek, by rw [List.length_map]; omega, ?_, fun j hj x hx => ?_, ?_⟩
        · rw [ht, List.getElem?_map, hn, ← hpk]; rfl
        · rw [ht, List.getElem?_map] at hx
          cases hx2 : tab[j]? with
          | none => rw [hx2] at hx; cases hx
          | some y =>
            rw [hx2] at hx
            cases hx
            exact fun z => first j hj y hx2 (inl_inj z)
        · rw [ht]
          walk_at "px"
          refine ⟨?_, tab.set n (p.1, p.2 ++ [q]), .fz (.int (q : Nat)), .fz (.tup [.int (trA lv q), .int (-(pcA ps q).k)]), ?_, ⟨?_, fun t => ?_, fun y hy => ?_, ?_⟩⟩
          · have := ok.val p hp
            unfold dNs
            rw [List.length_map, this]
            have := List.length_filter_le (fun q' => decide (gk ps lv q' = p.1)) (ord.take i)
            unfold grp
            rw [List.length_take] at this
            omega
          · rw [List.map_set]
            have : enT (p.1, p.2 ++ [q]) = ((gk ps lv q).map Sum.inl, dNs p.2 ++ [D.int (q : Int)]) := by
              unfold enT dNs
              rw [List.map_append, hpk]; rfl
            rw [this]
          · have : (tab.set n (p.1, p.2 ++ [q])).map (·.1) = tab.map (·.1) := by
              rw [List.map_set]
              apply List.ext_getElem?
              intro j
              rw [List.getElem?_set]
              split
              · rename_i e
                subst e
                rw [List.getElem?_map, hn]
                simp [hnl]
              · rfl
            rw [this]; exact ok.nd
          · have : (tab.set n (p.1, p.2 ++ [q])).map (·.1) = tab.map (·.1) := by
              rw [List.map_set]
              apply List.ext_getElem?
              intro j
              rw [List.getElem?_set]
              split
              · rename_i e
                subst e
                rw [List.getElem?_map, hn]
                simp [hnl]
              · rfl
            rw [this, ok.mem t, e1]
            constructor
            · rintro ⟨x, hx, e⟩; exact ⟨x, List.mem_append_left _ hx, e⟩
            · rintro ⟨x, hx, e⟩
              rcases List.mem_append.mp hx with hx | hx
              · exact ⟨x, hx, e⟩
              · simp at hx; subst hx
                rw [e] at h
                exact (ok.mem t).mp h
          · rw [e1, grp_snoc]
            obtain ⟨j, hj⟩ := List.getElem?_of_mem hy
            rw [List.getElem?_set] at hj
            split at hj
            · rename_i ej
              cases hj
              rw [if_pos hpk.symm, ok.val p hp]
            · rename_i ej
              have hym : y ∈ tab := List.mem_of_getElem? hj
              have hne : ¬ gk ps lv q = y.1 := fun z => by
                obtain ⟨hj1, hj2⟩ := List.getElem?_eq_some_iff.mp hj
                have nd := ok.nd
                have e3 : (tab.map (·.1))[j]'(by rw [List.length_map]; exact hj1) = (tab.map (·.1))[n]'(by rw [List.length_map]; exact hnl) := by
                  rw [List.getElem_map, List.getElem_map, hj2, (List.getElem?_eq_some_iff.mp hn).2, hpk, ← z]
                have := (List.getElem_inj nd).mp e3
                omega
              rw [if_neg hne]
              exact ok.val y hym
          · rw [List.length_set, e1, List.length_append]; have := ok.len; omega
      · rw [if_neg h] at ht
        refine ⟨_, tab.length, [], ek, by rw [List.length_map]; omega, ?_, fun j hj x hx => ?_, ?_⟩
        · rw [ht, List.getElem?_map, List.getElem?_append_right (Nat.le_refl _)]; simp [enT, dNs]
        · rw [ht, List.getElem?_map, List.getElem?_append_left hj] at hx
          cases hx2 : tab[j]? with
          | none => rw [hx2] at hx; cases hx
          | some y =>
            rw [hx2] at hx
            cases hx
            exact fun z => h (List.mem_map.mpr ⟨y, List.mem_of_getElem? hx2, inl_inj z⟩)
        · rw [ht]
          walk_at "px"
          have gno : grp ps lv (ord.take i) (gk ps lv q) = [] := by
            unfold grp
            rw [List.filter_eq_nil_iff]
            intro x hx z
            exact h ((ok.mem _).mpr ⟨x, hx, of_decide_eq_true z⟩)
          refine ⟨by rw [big]; decide, tab ++ [(gk ps lv q, [q])], .fz (.int (q : Nat)), .fz (.tup [.int (trA lv q), .int (-(pcA ps q).k)]), ?_, ⟨?_, fun t => ?_, fun y hy => ?_, ?_⟩⟩
          · have : ((tab ++ [(gk ps lv q, [])]).map enT).set tab.length ((gk ps lv q).map Sum.inl, [D.int (q : Int)]) = (tab ++ [(gk ps lv q, [q])]).map enT := by
              rw [List.map_append, List.map_append, List.set_append_right _ _ (by simp)]
              simp [enT, dNs]
            rw [this]
          · rw [List.map_append, List.nodup_append]
            exact ⟨ok.nd, by simp, fun x hx y hy => by simp at hy; subst hy; exact fun z => h (z ▸ hx)⟩
          · rw [List.map_append, List.mem_append, ok.mem t, e1]
            constructor
            · rintro (⟨x, hx, e⟩ | hx)
              · exact ⟨x, List.mem_append_left _ hx, e⟩
              · simp at hx
                exact ⟨q, by simp, hx.symm⟩
            · rintro ⟨x, hx, e⟩
              rcases List.mem_append.mp hx with hx | hx
              · exact .inl ⟨x, hx, e⟩
              · simp at hx; subst hx
                exact .inr (by simp [e])
          · rw [e1, grp_snoc]
            rcases List.mem_append.mp hy with hy | hy
            · have hne : ¬ gk ps lv q = y.1 := fun z => h (z ▸ List.mem_map_of_mem hy)
              rw [if_neg hne]
              exact ok.val y hy
            · simp at hy
              subst hy
              rw [if_pos rfl, gno]; rfl
          · rw [List.length_append, e1, List.length_append]; have := ok.len; simp only [List.length_singleton]; omega
  · rintro ρ ⟨tab, a, b, rfl, ok⟩
    have ed : (dNs ord).length = ord.length := by unfold dNs; simp
    rw [ed, List.take_length] at ok
    have tl : tab.length ≤ 63 := by have := ok.len; omega
    walk_at "go"
    simp only [OV.val]
    have ek : ((tab.map enT).map fun p => (p.1, D.lst p.2)) = tab.map fun p => (p.1.map Sum.inl, D.lst (dNs p.2)) := by rw [List.map_map]; rfl
    rw [ek]
    have ekk : (tab.map fun p : Tb => ((p.1.map Sum.inl : List Key), D.lst (dNs p.2))).map (·.1) = (tab.map (·.1)).map (fun t => t.map Sum.inl) := by rw [List.map_map, List.map_map]; rfl
    have nonil : ∀ t ∈ tab.map (·.1), t ≠ [] := fun t ht => by
      obtain ⟨x, _, e⟩ := (ok.mem t).mp ht
      rw [← e]
      simp [gk]
    refine comp_seqT ?_
    walk_at "px"
    refine ⟨tab.map (·.1), ekk, by rw [List.length_map]; omega, nonil, fun tss' hp hs => ?_⟩
    have nd' : tss'.Nodup := hp.nodup_iff.mpr ok.nd
    refine comp_map tss' (fun t => D.tup (t.map D.int)) (fun t => .lst (dNs (grp ps lv ord t))) (fun Q' h => h) (by rw [hp.length_eq, List.length_map]; omega) (fun t ht K1 k => ?_) ?_
    · unfold dGetT
      walk_at "px"
      obtain ⟨p, hpm, hpk⟩ := List.mem_map.mp (hp.subset ht)
      refine ⟨_, D.lst (dNs (grp ps lv ord t)), keysD_ints t, ?_, k⟩
      have hv := ok.val p hpm
      unfold lookT
      cases hf : (tab.map fun p : Tb => ((p.1.map Sum.inl : List Key), D.lst (dNs p.2))).find? fun kv => decide (kv.1 = t.map Sum.inl) with
      | none =>
        have := List.find?_eq_none.mp hf _ (List.mem_map_of_mem hpm)
        simp [hpk] at this
      | some x =>
        have h1 := List.mem_of_find?_eq_some hf
        have h2 := List.find?_some hf
        simp only [decide_eq_true_eq] at h2
        obtain ⟨y, hy, rfl⟩ := List.mem_map.mp h1
        have hy2 : y.1 = t := inl_inj h2
        rw [Option.map_some, ok.val y hy, hy2]
    · have : (tss'.map fun t => D.lst (dNs (grp ps lv ord t))) = dGs (tss'.map (grp ps lv ord)) := by unfold dGs; rw [List.map_map]; rfl
      rw [this]
      exact Q ord tss' io ⟨(hs.and nd').imp fun {a b} h => lex_tri _ _ h.1 h.2, fun t => by rw [hp.mem_iff]; exact ok.mem t⟩
end Wc
set_option Elab.async false
set_option linter.all false
set_option maxRecDepth 100000
set_option maxHeartbeats 2000000
namespace Wc
open PySem L2 PyProof.Rows
local macro_rules | `(tactic| walk_at "all") => `(tactic| simp only [xSeq, xIf, bNot, bAnd, bOr, dTst, dChain, dC, val_fz, val_ow, sl_fz, sl_ow, dCB, aCons, aNil, dVar, List.map_cons, List.map_nil, List.cons_append, List.nil_append, List.set, gt, oLen, oI0, oI, dOp, oAdd, xRet, xNil, xSet, xSetF, dLst, dTup, innP, innS, yName, yNil, yCons, yTup, yLst, oInB, oEq, oNe, oIx, dSl, oNo, oSome, dCall, dAnd, dOr, dNot, dIsi, dIf, dIxO, dLenO, dNeg, dM, oCount, xApp, xRetO, xRetN, xDrop, xAsg, xFrz, frz, dFld, oIsB, isNon, bYes, zSeq, itemsD, zRng1, zEnum, oSum, oInt, oList, cpow24, cpow30, p24, p30, CDiv, CMul, Int.reduceLT, Int.reduceLE, Int.reduceAdd, Int.reduceSub, Int.reduceMul, Int.reduceNeg, Int.reducePow, Int.reduceToNat, decide_true, decide_false, true_and, and_true, and_self, or_true, true_or, okE_int, okE_str, okE_bl, okE_non, ex_atI, Bool.false_eq_true, if_false, if_true, Bool.not_true, Bool.not_false, List.length_cons, List.length_nil, Nat.reduceAdd, decide_eq_true_eq, eqD_int, eqD_str, cutL_map, intsOf_map, strsOf_map, dLend, bLend, sl_ov, val_ov, dNilL, gt])
local macro_rules | `(tactic| walk_at "px") => `(tactic| simp only [xSeq_h, xIf, bNot, bAnd, bOr, dTst, dChain, dC, val_fz, val_ow, sl_fz, sl_ow, dCB, aCons, aNil, dVar, List.map_cons, List.map_nil, List.cons_append, List.nil_append, List.set, gt, oLen, oI0, oI, dOp, oAdd, xRet, xNil, xSet, xSetF, dLst, dTup, innP, innS, yName, yNil, yCons, yTup, yLst, oInB, oEq, oNe, oIx, dSl, oNo, oSome, dCall, dAnd, dOr, dNot, dIsi, dIf, dIxO, dLenO, dNeg, dM, oCount, xApp, xRetO, xRetN, xDrop, xAsg, xFrz, frz, dFld, oIsB, isNon, bYes, zSeq, itemsD, zRng1, zEnum, oSum, oInt, oList, cpow24, cpow30, p24, p30, CDiv, CMul, Int.reduceLT, Int.reduceLE, Int.reduceAdd, Int.reduceSub, Int.reduceMul, Int.reduceNeg, Int.reducePow, Int.reduceToNat, decide_true, decide_false, true_and, and_true, and_self, or_true, true_or, okE_int, okE_str, okE_bl, okE_non, ex_atI, Bool.false_eq_true, if_false, if_true, Bool.not_true, Bool.not_false, List.length_cons, List.length_nil, Nat.reduceAdd, decide_eq_true_eq, eqD_int, eqD_str, cutL_map, intsOf_map, strsOf_map, dLend, bLend, sl_ov, val_ov, dNilL, gt])
local macro_rules | `(tactic| walk_at "go") => `(tactic| (simp only [hold]; walk_at "px"))
def fitF (ps : List Pc) (q : Nat) (s : List Nat) : Bool := decide ((pcA ps (s.getLastD 0)).r < (pcA ps q).l)
def fit1 (ps : List Pc) (S : List (List Nat)) (q : Nat) : List (List Nat) := match S.findIdx? (fitF ps q) with
  | none => S ++ [[q]]
  | some j => S.set j (S.getD j [] ++ [q])
def strips (ps : List Pc) (g : List Nat) : List (List Nat) := g.foldl (fit1 ps) []
structure StOK (ps : List Pc) (g : List Nat) (S : List (List Nat)) : Prop where
  ne : ∀ s ∈ S, s ≠ []
  mem : ∀ s ∈ S, ∀ q ∈ s, q ∈ g
  cnt : S.flatten.Perm g
theorem fit1_ok {ps : List Pc} {g : List Nat} {S : List (List Nat)} (q : Nat) (h : StOK ps g S) : StOK ps (g ++ [q]) (fit1 ps S q) := by
  unfold fit1
  cases hj : S.findIdx? (fitF ps q) with
  | none =>
    refine ⟨fun s hs => ?_, fun s hs x hx => ?_, ?_⟩
    · rcases List.mem_append.mp hs with hs | hs
      · exact h.ne s hs
      · simp at hs; subst hs; simp
    · rcases List.mem_append.mp hs with hs | hs
      · exact List.mem_append_left _ (h.mem s hs x hx)
      · simp at hs; subst hs
        exact List.mem_append_right _ hx
    · show (S ++ [[q]]).flatten.Perm _
      rw [List.flatten_append]
      simpa using h.cnt.append_right [q]
  | some j =>
    have hjl : j < S.length := (List.findIdx?_eq_some_iff_getElem.mp hj).1
    have e : S.getD j [] = S[j] := by rw [List.getD_eq_getElem?_getD, List.getElem?_eq_getElem hjl]; rfl
    refine ⟨fun s hs => ?_, fun s hs x hx => ?_, ?_⟩
    · rcases List.mem_or_eq_of_mem_set hs with hs | rfl
      · exact h.ne s hs
      · simp
    · rcases List.mem_or_eq_of_mem_set hs with hs | rfl
      · exact List.mem_append_left _ (h.mem s hs x hx)
      · rcases List.mem_append.mp hx with hx | hx
        · rw [e] at hx
          exact List.mem_append_left _ (h.mem _ (List.getElem_mem hjl) x hx)
        · exact List.mem_append_right _ hx
    · show (S.set j (S.getD j [] ++ [q])).flatten.Perm _
      have e2 : S = S.take j ++ S[j] :: S.drop (j + 1) := by rw [List.getElem_cons_drop, List.take_append_drop]
      have e3 : S.set j (S.getD j [] ++ [q]) = S.take j ++ (S[j] ++ [q]) :: S.drop (j + 1) := by
        rw [e, List.set_eq_take_append_cons_drop, if_pos hjl]
      rw [e3]
      have p1 : (S.take j ++ (S[j] ++ [q]) :: S.drop (j + 1)).flatten.Perm (S.flatten ++ [q]) := by
        conv => rhs; rw [e2]
        simp only [List.flatten_append, List.flatten_cons, List.append_assoc]
        refine List.Perm.append_left _ (List.Perm.append_left _ ?_)
        exact List.perm_append_comm
      exact p1.trans (h.cnt.append_right [q])
theorem strips_ok (ps : List Pc) : ∀ (g : List Nat), StOK ps g (strips ps g) := by
  intro g
  have : ∀ (r g0 : List Nat) (S : List (List Nat)), StOK ps g0 S → StOK ps (g0 ++ r) (r.foldl (fit1 ps) S) := by
    intro r
    induction r with
    | nil => intro g0 S h; simpa using h
    | cons q r ih =>
      intro g0 S h
      have := ih (g0 ++ [q]) _ (fit1_ok q h)
      simpa using this
  simpa [strips] using this g [] [] ⟨fun s hs => (by cases hs), fun s hs => (by cases hs), by simp⟩
theorem strips_take {ps : List Pc} {g : List Nat} {i q : Nat} (h : g[i]? = some q) : strips ps (g.take (i + 1)) = fit1 ps (strips ps (g.take i)) q := by
  have e1 : g.take (i + 1) = g.take i ++ [q] := by rw [List.take_add_one, h]; rfl
  unfold strips
  rw [e1, List.foldl_append]; rfl
def sp_strips_of : SpD := fun ds Q => ∃ (ps : List Pc) (g : List Nat), ds = [dPs ps, .lst (dNs g)] ∧ (∀ q ∈ g, q < ps.length) ∧ g.length ≤ 63 ∧ Q (.ov (.ll ((strips ps g).map dNs)))
def T_strips_of : TX := (xSeq (xSet 2 dNilL)
  (xSeq (xFor (zSeq (dVar 1)) (yName 3) (xFit 4 2 3 [none, some 0, some 3] (dTst (dOp (oI0 fun i j => .bl (decide (i < j))) (dOp oIx (dOp oIx (dVar 1) (dOp oIx (dVar 0) (dNeg (dC (.int 1))))) (dC (.int 2))) (dOp oIx (dOp oIx (dVar 1) (dVar 2)) (dC (.int 1))))) (dTst (dOp oEq (dLenO 4) (dC (.int 0)))) (xAppN 2 (dLst (aCons (dVar 3) aNil)))))
  (xRetV 2)))
def fD (ps : List Pc) (q : Nat) (ds : List D) : Bool := match ds.getLast? with
  | some (.int i) => decide ((pcA ps i.toNat).r < (pcA ps q).l)
  | _ => false
theorem fD_ns (ps : List Pc) (q : Nat) {s : List Nat} (h : s ≠ []) : fD ps q (dNs s) = fitF ps q s := by
  unfold fD fitF dNs
  rw [List.getLast?_map]
  cases hl : s.getLast? with
  | none => exact absurd (List.getLast?_eq_none_iff.mp hl) h
  | some x =>
    have : s.getLastD 0 = x := by rw [List.getLastD_eq_getLast?, hl]; rfl
    rw [this]; rfl
theorem find_congr {α β : Type} {f : β → α} {p : α → Bool} {q : β → Bool} : ∀ {l : List β}, (∀ x ∈ l, p (f x) = q x) → (l.map f).findIdx? p = l.findIdx? q
  | [], _ => rfl
  | x :: l, h => by
    rw [List.map_cons, List.findIdx?_cons, List.findIdx?_cons, h x (by simp), find_congr fun y hy => h y (by simp [hy])]
theorem spec_strips_of (ds : List D) (Qr : R → Prop) (hl : ds.length = 2) (h : sp_strips_of ds Qr) : T_strips_of { nx := fun _ => Qr (.fz .non), rt := Qr } (startP ["pieces", "group", "strips", "number", "free"] ds) := by
  obtain ⟨ps, g, rfl, hq, hn, Q⟩ := h
  show T_strips_of _ [.fz (dPs ps), .fz (.lst (dNs g)), .un, .un, .un]
  unfold T_strips_of
  have big := line_eq
  have gp : ∀ q, q < ps.length → atI ps (q : Int) = some (pcA ps q) := fun q hq => by rw [pcA_at hq]; exact atI_nat' hq
  walk_at "px"
  walk_at "go"
  refine xfor_list g (fun (q : Nat) => .int (q : Int)) (fun Q' h => ?_) (fun i ρ => ∃ a : Sl, ρ = [.fz (dPs ps), .fz (.lst (dNs g)), .ov (.ll ((strips ps (g.take i)).map dNs)), a, .un]) ⟨_, rfl⟩ ?_ ?_
  · walk_at "px"
    exact h
  · rintro i q ρ hqi ⟨a, rfl⟩
    have hqm : q ∈ g := List.mem_of_getElem? hqi
    have hqn := hq q hqm
    have ok := strips_ok ps (g.take i)
    have hil : i < g.length := (List.getElem?_eq_some_iff.mp hqi).1
    have hln : (strips ps (g.take i)).length ≤ 62 := by
      have h1 := ok.cnt.length_eq
      rw [List.length_take] at h1
      have h2 : ∀ S : List (List Nat), (∀ s ∈ S, s ≠ []) → S.length ≤ S.flatten.length := by
        intro S
        induction S with
        | nil => intro _; simp
        | cons s S ih =>
          intro h
          have h3 := ih fun x hx => h x (by simp [hx])
          have h4 : 0 < s.length := List.length_pos_iff.mpr (h s (by simp))
          rw [List.flatten_cons, List.length_append, List.length_cons]; omega
      have := h2 _ ok.ne
      omega
    show xFit 4 2 3 _ _ _ _ _ [.fz (dPs ps), .fz (.lst (dNs g)), .ov (.ll ((strips ps (g.take i)).map dNs)), .fz (.int (q : Int)), .un]
    refine ⟨by simp, by decide, by decide, ?_⟩
    have fc : ((strips ps (g.take i)).map dNs).findIdx? (fD ps q) = (strips ps (g.take i)).findIdx? (fitF ps q) := find_congr fun s hs => fD_ns ps q (ok.ne s hs)
    refine ⟨by rw [List.length_map, big]; omega, fD ps q, fun ds hds => ?_, ?_, fun hnone => ?_, fun j ds hj hds => ?_⟩
    · obtain ⟨s, hs, rfl⟩ := List.mem_map.mp hds
      rw [fD_ns ps q (ok.ne s hs)]
      have hne := ok.ne s hs
      have hx : s.getLast hne ∈ g := List.mem_of_mem_take (ok.mem s hs _ (List.getLast_mem hne))
      have hpos : 0 < s.length := List.length_pos_iff.mpr hne
      have elast : atI (dNs s) (-1) = some (.int (s.getLast hne : Nat)) := by
        unfold dNs
        rw [atI_map]
        have : atI s (-1) = some (s.getLast hne) := atI_last s hne
        rw [this]; rfl
      unfold dPs
      show dTst _ [.fz (.lst (dNs s)), .fz (.lst (ps.map dPc)), .fz (.int (q : Int))] _
      walk_at "px"
      refine ⟨_, elast, ?_⟩
      show ∃ d, atI (ps.map dPc) ((s.getLast hne : Nat) : Int) = some d ∧ _
      refine ⟨dPc (pcA ps (s.getLast hne)), by rw [atI_map, gp _ (hq _ hx)]; rfl, ?_⟩
      show ∃ d, atI [dO (pcA ps (s.getLast hne)).n, .int (pcA ps (s.getLast hne)).l, .int (pcA ps (s.getLast hne)).r, .int (pcA ps (s.getLast hne)).k] 2 = some d ∧ _
      refine ⟨.int (pcA ps (s.getLast hne)).r, rfl, _, gp q hqn, ?_⟩
      show ∃ d, atI [dO (pcA ps q).n, .int (pcA ps q).l, .int (pcA ps q).r, .int (pcA ps q).k] 1 = some d ∧ _
      refine ⟨.int (pcA ps q).l, rfl, ?_⟩
      show decide _ = fitF ps q s
      unfold fitF
      rw [List.getLastD_eq_getLast?, List.getLast?_eq_some_getLast hne]; rfl
    · simp only [List.set_cons_succ, List.set_cons_zero]
      walk_at "px"
      rw [List.length_map]
      constructor
      · intro h
        exact List.eq_nil_of_length_eq_zero (by omega)
      · intro h
        rw [h]; rfl
    · unfold xAppN
      simp only [List.set_cons_succ, List.set_cons_zero, gt]
      walk_at "px"
      refine ⟨by rw [big]; decide, by rw [List.length_map, big]; omega, .fz (.int (q : Int)), ?_⟩
      rw [strips_take hqi]
      unfold fit1
      rw [← fc, hnone, List.map_append]; rfl
    · rw [List.getElem?_map] at hds
      cases hs : (strips ps (g.take i))[j]? with
      | none => rw [hs] at hds; cases hds
      | some s =>
        rw [hs] at hds
        cases hds
        have hsm := List.mem_of_getElem? hs
        have hsl : s.length ≤ g.length := by
          have h1 := ok.cnt.length_eq
          rw [List.length_take] at h1
          have h2 : s.length ≤ (strips ps (g.take i)).flatten.length := (List.sublist_flatten_of_mem hsm).length_le
          omega
        refine ⟨by unfold dNs; rw [List.length_map, big]; omega, .fz (.int (q : Int)), ?_⟩
        rw [strips_take hqi]
        unfold fit1
        rw [fc] at hj
        rw [hj]
        simp only [List.set_cons_succ, List.set_cons_zero, List.getD_eq_getElem?_getD, hs, Option.getD_some, List.map_set]
        unfold dNs
        rw [List.map_append]; rfl
  · rintro ρ ⟨a, rfl⟩
    rw [List.take_length]
    simp only [hold, xRetV, gt]
    exact Q
end Wc
set_option Elab.async false
set_option linter.all false
set_option maxRecDepth 100000
set_option maxHeartbeats 2000000
namespace Wc
open PySem L2 PyProof.Rows
local macro_rules | `(tactic| walk_at "all") => `(tactic| simp only [xSeq, xIf, bNot, bAnd, bOr, dTst, dChain, dC, val_fz, val_ow, sl_fz, sl_ow, dCB, aCons, aNil, dVar, List.map_cons, List.map_nil, List.cons_append, List.nil_append, List.set, gt, oLen, oI0, oI, dOp, oAdd, xRet, xNil, xSet, xSetF, dLst, dTup, innP, innS, yName, yNil, yCons, yTup, yLst, oInB, oEq, oNe, oIx, dSl, oNo, oSome, dCall, dAnd, dOr, dNot, dIsi, dIf, dIxO, dLenO, dNeg, dM, oCount, xApp, xRetO, xRetN, xDrop, xAsg, xFrz, frz, dFld, oIsB, isNon, bYes, zSeq, itemsD, zRng1, zEnum, oSum, oInt, oList, cpow24, cpow30, p24, p30, CDiv, CMul, Int.reduceLT, Int.reduceLE, Int.reduceAdd, Int.reduceSub, Int.reduceMul, Int.reduceNeg, Int.reducePow, Int.reduceToNat, decide_true, decide_false, true_and, and_true, and_self, or_true, true_or, okE_int, okE_str, okE_bl, okE_non, ex_atI, Bool.false_eq_true, if_false, if_true, Bool.not_true, Bool.not_false, List.length_cons, List.length_nil, Nat.reduceAdd, decide_eq_true_eq, eqD_int, eqD_str, cutL_map, intsOf_map, strsOf_map, dLend, bLend, sl_ov, val_ov, gt])
local macro_rules | `(tactic| walk_at "px") => `(tactic| simp only [xSeq_h, xIf, bNot, bAnd, bOr, dTst, dChain, dC, val_fz, val_ow, sl_fz, sl_ow, dCB, aCons, aNil, dVar, List.map_cons, List.map_nil, List.cons_append, List.nil_append, List.set, gt, oLen, oI0, oI, dOp, oAdd, xRet, xNil, xSet, xSetF, dLst, dTup, innP, innS, yName, yNil, yCons, yTup, yLst, oInB, oEq, oNe, oIx, dSl, oNo, oSome, dCall, dAnd, dOr, dNot, dIsi, dIf, dIxO, dLenO, dNeg, dM, oCount, xApp, xRetO, xRetN, xDrop, xAsg, xFrz, frz, dFld, oIsB, isNon, bYes, zSeq, itemsD, zRng1, zEnum, oSum, oInt, oList, cpow24, cpow30, p24, p30, CDiv, CMul, Int.reduceLT, Int.reduceLE, Int.reduceAdd, Int.reduceSub, Int.reduceMul, Int.reduceNeg, Int.reducePow, Int.reduceToNat, decide_true, decide_false, true_and, and_true, and_self, or_true, true_or, okE_int, okE_str, okE_bl, okE_non, ex_atI, Bool.false_eq_true, if_false, if_true, Bool.not_true, Bool.not_false, List.length_cons, List.length_nil, Nat.reduceAdd, decide_eq_true_eq, eqD_int, eqD_str, cutL_map, intsOf_map, strsOf_map, dLend, bLend, sl_ov, val_ov, gt])
local macro_rules | `(tactic| walk_at "go") => `(tactic| (simp only [hold]; walk_at "px"))
abbrev La := List Int × Int
def layS (ps : List Pc) (st : La) (s : List Nat) : La := (s.foldl (fun tr q => tr.set q st.2) st.1, st.2 + (pcA ps (s.headD 0)).k)
def layG (ps : List Pc) (st : La) (g : List Nat) : La := (strips ps g).foldl (layS ps) st
def layA (ps : List Pc) (gs : List (List Nat)) : La := gs.foldl (layG ps) (List.replicate ps.length 0, 0)
theorem sets_len (x : Int) : ∀ (s : List Nat) (tr : List Int), (s.foldl (fun tr q => tr.set q x) tr).length = tr.length
  | [], tr => rfl
  | q :: s, tr => by rw [List.foldl_cons, sets_len x s, List.length_set]
theorem layS_len (ps : List Pc) (st : La) (s : List Nat) : (layS ps st s).1.length = st.1.length := sets_len _ _ _
theorem layS_lens (ps : List Pc) : ∀ (S : List (List Nat)) (st : La), (S.foldl (layS ps) st).1.length = st.1.length
  | [], st => rfl
  | s :: S, st => by rw [List.foldl_cons, layS_lens ps S, layS_len]
theorem layG_len (ps : List Pc) (st : La) (g : List Nat) : (layG ps st g).1.length = st.1.length := layS_lens ps _ st
theorem layG_lens (ps : List Pc) : ∀ (gs : List (List Nat)) (st : La), (gs.foldl (layG ps) st).1.length = st.1.length
  | [], st => rfl
  | s :: S, st => by rw [List.foldl_cons, layG_lens ps S, layG_len]
def sp_by_levels : SpD := fun ds Q => ∃ (ps : List Pc) (lv : List Int), ds = [dPs ps, dI lv] ∧ lv.length = ps.length ∧ ps.length ≤ 63 ∧ ∀ ord ks, InOrd ps ord → Grps ps lv ord ks → Q (.ow ((layA ps (ks.map (grp ps lv ord))).1.map D.int))
def T_by_levels : TX := (xSeq (xSet 2 (dComp (zSeq (dVar 0)) [none] (yName 0) bYes (dC (.int 0))))
  (xSeq (xSetF 3 (dC (.int 0)))
  (xSeq (xFor (zSeq (dCall 2 sp_level_groups (aCons (dVar 0) (aCons (dVar 1) aNil)))) (yName 4) (xFor (zSeq (dCall 2 sp_strips_of (aCons (dVar 0) (aCons (dVar 4) aNil)))) (yName 5) (xSeq (xFor (zSeq (dVar 5)) (yName 6) (xSetIx 2 (dVar 6) (dVar 3)))
  (xSetF 3 (dOp oAdd (dVar 3) (dOp oIx (dOp oIx (dVar 0) (dOp oIx (dVar 5) (dC (.int 0)))) (dC (.int 3))))))))
  (xRetO 2))))
theorem ixN_of {n k : Nat} (h : k < n) : ixN n (k : Int) = some k := by
  unfold ixN
  rw [if_pos (by omega), if_pos (by omega)]
  simp
theorem xforS_B {te : TD} {g : TGd} {tb : TX} {De : DE} {ρ : Ev} (h : te ρ fun r => itemsD r.val fun ds => xForB g tb De ρ ds) : xFor (zSeq te) g tb De ρ := h
theorem foldl_take {α β : Type} (f : β → α → β) (b : β) {l : List α} {i : Nat} {x : α} (h : l[i]? = some x) : (l.take (i + 1)).foldl f b = f ((l.take i).foldl f b) x := by
  have e1 : l.take (i + 1) = l.take i ++ [x] := by rw [List.take_add_one, h]; rfl
  rw [e1, List.foldl_append]; rfl
theorem spec_by_levels (ds : List D) (Qr : R → Prop) (hl : ds.length = 2) (h : sp_by_levels ds Qr) : T_by_levels { nx := fun _ => Qr (.fz .non), rt := Qr } (startP ["pieces", "levels", "tracks", "track", "group", "strip", "number"] ds) := by
  obtain ⟨ps, lv, rfl, hlv, hn, Q⟩ := h
  show T_by_levels _ [.fz (dPs ps), .fz (dI lv), .un, .un, .un, .un, .un]
  unfold T_by_levels
  have big := line_eq
  have gp : ∀ q, q < ps.length → atI ps (q : Int) = some (pcA ps q) := fun q hq => by rw [pcA_at hq]; exact atI_nat' hq
  walk_at "px"
  refine comp_map ps dPc (fun _ => .int 0) (fun Q' h => ?_) (by rw [big]; omega) (fun p hp K1 k => ?_) ?_
  · walk_at "px"
    exact h
  · walk_at "px"
    exact k
  have e0 : (ps.map fun _ => D.int 0) = (List.replicate ps.length (0 : Int)).map D.int := by
    rw [List.map_replicate]
    exact List.map_const'
  rw [e0]
  walk_at "go"
  walk_at "go"
  refine xforS_B ?_
  walk_at "px"
  refine ⟨ps, lv, rfl, hlv, hn, fun ord ks io gr => ?_⟩
  have hgq : ∀ t, ∀ q ∈ grp ps lv ord t, q < ps.length := fun t q hq => (io.mem q).mp ((List.mem_filter.mp hq).1)
  have hgl : ∀ t, (grp ps lv ord t).length ≤ 63 := fun t => by
    have := List.length_filter_le (fun q => decide (gk ps lv q = t)) ord
    have := io.len
    unfold grp; omega
  generalize hgs : ks.map (grp ps lv ord) = gs
  have Qg := Q ord ks io gr
  rw [hgs] at Qg
  have gq : ∀ g ∈ gs, (∀ q ∈ g, q < ps.length) ∧ g.length ≤ 63 := fun g hg => by
    rw [← hgs] at hg
    obtain ⟨t, _, rfl⟩ := List.mem_map.mp hg
    exact ⟨hgq t, hgl t⟩
  show xForB _ _ _ _ (gs.map fun g => D.lst (dNs g))
  refine xforB_list gs (fun g => D.lst (dNs g)) (fun i ρ => ∃ (st : La) (a b c : Sl), ρ = [.fz (dPs ps), .fz (dI lv), .ow (st.1.map D.int), .fz (.int st.2), a, b, c] ∧ st = (gs.take i).foldl (layG ps) (List.replicate ps.length 0, 0)) ⟨(List.replicate ps.length 0, 0), .un, .un, .un, rfl, rfl⟩ ?_ ?_
  · rintro i g ρ hg ⟨st, a, b, c, rfl, hst⟩
    obtain ⟨hq, hgl⟩ := gq g (List.mem_of_getElem? hg)
    have ok := strips_ok ps g
    have hsl : st.1.length = ps.length := by rw [hst, layG_lens]; simp
    walk_at "px"
    refine xforS_B ?_
    walk_at "px"
    refine ⟨ps, g, rfl, hq, hgl, ?_⟩
    show xForB _ _ _ _ (((strips ps g).map dNs).map D.lst)
    rw [List.map_map]
    refine xforB_list (strips ps g) (D.lst ∘ dNs) (fun j ρ => ∃ (su : La) (b c : Sl), ρ = [.fz (dPs ps), .fz (dI lv), .ow (su.1.map D.int), .fz (.int su.2), .fz (.lst (dNs g)), b, c] ∧ su = ((strips ps g).take j).foldl (layS ps) st) ⟨st, b, c, rfl, rfl⟩ ?_ ?_
    · rintro j s ρ hs ⟨su, b, c, rfl, hsu⟩
      have hsm := List.mem_of_getElem? hs
      have hul : su.1.length = ps.length := by rw [hsu, layS_lens]; exact hsl
      have hsne := ok.ne s hsm
      have hsq : ∀ q ∈ s, q < ps.length := fun q hq' => hq q (ok.mem s hsm q hq')
      walk_at "px"
      refine xfor_list s (fun (q : Nat) => .int (q : Int)) (fun Q' h => ?_) (fun m ρ => ∃ (c : Sl), ρ = [.fz (dPs ps), .fz (dI lv), .ow (((s.take m).foldl (fun tr q => tr.set q su.2) su.1).map D.int), .fz (.int su.2), .fz (.lst (dNs g)), .fz (.lst (dNs s)), c]) ⟨c, rfl⟩ ?_ ?_
      · walk_at "px"
        exact h
      · rintro m q ρ hqm ⟨c, rfl⟩
        have hqn := hsq q (List.mem_of_getElem? hqm)
        walk_at "px"
        unfold xSetIx
        simp only [gt]
        walk_at "px"
        refine ⟨q, by rw [List.length_map, sets_len, hul]; exact ixN_of hqn, .fz (.int (q : Int)), ?_⟩
        rw [foldl_take _ _ hqm, List.map_set]
      · rintro ρ ⟨c, rfl⟩
        rw [List.take_length]
        walk_at "go"
        cases s with
        | nil => exact absurd rfl hsne
        | cons q0 s' =>
          have hq0 := hsq q0 (by simp)
          refine ⟨.int (q0 : Int), (by unfold dNs; rw [atI_map]; exact congrArg (Option.map _) (atI_nat' (l := q0 :: s') (j := 0) (by simp))), ?_⟩
          show ∃ d, atI (ps.map dPc) (q0 : Int) = some d ∧ _
          refine ⟨dPc (pcA ps q0), by rw [atI_map, gp _ hq0]; rfl, ?_⟩
          show ∃ d, atI [dO (pcA ps q0).n, .int (pcA ps q0).l, .int (pcA ps q0).r, .int (pcA ps q0).k] 3 = some d ∧ _
          refine ⟨.int (pcA ps q0).k, rfl, ?_⟩
          exact ⟨layS ps su (q0 :: s'), _, _, rfl, by rw [foldl_take _ _ hs, ← hsu]⟩
    · rintro ρ ⟨su, b, c, rfl, hsu⟩
      rw [List.take_length] at hsu
      refine ⟨su, _, _, _, rfl, ?_⟩
      rw [foldl_take _ _ hg, ← hst, hsu]; rfl
  · rintro ρ ⟨st, a, b, c, rfl, hst⟩
    rw [List.take_length] at hst
    simp only [hold, xRetO, gt]
    rw [hst]
    exact Qg
end Wc
set_option Elab.async false
set_option linter.all false
set_option maxRecDepth 100000
set_option maxHeartbeats 2000000
namespace Wc
open PySem L2 PyProof.Rows
theorem sets_in (x : Int) : ∀ (s : List Nat) (tr : List Int) (q : Nat), q < tr.length → trA (s.foldl (fun tr q => tr.set q x) tr) q = if q ∈ s then x else trA tr q
  | [], tr, q, _ => by simp
  | a :: s, tr, q, h => by
    rw [List.foldl_cons, sets_in x s _ q (by rw [List.length_set]; exact h)]
    by_cases h1 : q ∈ s
    · simp [h1]
    · rw [if_neg h1]
      unfold trA
      rw [List.getElem?_set]
      by_cases h2 : a = q
      · subst h2; simp [h]
      · have : ¬ q = a := fun z => h2 z.symm
        simp [h1, h2, this]
theorem head_mem {g : List Nat} (h : g ≠ []) : g.headD 0 ∈ g := by
  cases g with
  | nil => exact absurd rfl h
  | cons a r => simp
theorem total_eq (ps : List Pc) : ∀ (A : List (List Nat)) (st : La), (A.foldl (layS ps) st).2 = st.2 + (A.map fun s => (pcA ps (s.headD 0)).k).sum
  | [], st => by simp
  | s :: A, st => by
    rw [List.foldl_cons, total_eq ps A]
    simp [layS]; omega
theorem sum_const {α : Type} (f : α → Int) (k : Int) : ∀ (L : List α), (∀ x ∈ L, f x = k) → (L.map f).sum = k * (L.length : Int)
  | [], _ => by simp
  | a :: L, h => by
    rw [List.map_cons, List.sum_cons, sum_const f k L fun x hx => h x (by simp [hx]), h a (by simp), List.length_cons]
    push_cast
    rw [Int.mul_add]; omega
end Wc
set_option Elab.async false
set_option linter.all false
set_option maxRecDepth 100000
set_option maxHeartbeats 2000000
namespace Wc
open PySem L2 PyProof.Rows
theorem lex_asym : ∀ a b : List Int, HT.lexGt a b = true → HT.lexGt b a = true → False
  | [], [], h, _ => by cases h
  | [], _ :: _, h, _ => by cases h
  | _ :: _, [], _, h => by cases h
  | x :: xs, y :: ys, h1, h2 => by
    rw [lex_cons] at h1 h2
    by_cases e : x = y
    · subst e
      rw [if_pos rfl] at h1 h2
      exact lex_asym xs ys h1 h2
    · rw [if_neg e] at h1
      rw [if_neg (fun z => e z.symm)] at h2
      have := of_decide_eq_true h1
      have := of_decide_eq_true h2
      omega
theorem srt_uniq {α : Type} {R : α → α → Prop} (as : ∀ a b, R a b → R b a → False) : ∀ {a b : List α}, a.Perm b → a.Pairwise R → b.Pairwise R → a = b
  | [], b, p, _, _ => (List.nil_perm.mp p).symm
  | x :: a, [], p, _, _ => absurd p.length_eq (by simp)
  | x :: a, y :: b, p, ha, hb => by
    have h1 := List.pairwise_cons.mp ha
    have h2 := List.pairwise_cons.mp hb
    by_cases e : x = y
    · subst e
      rw [srt_uniq as ((List.perm_cons x).mp p) h1.2 h2.2]
    · have m1 : x ∈ b := by
        rcases List.mem_cons.mp (p.mem_iff.mp (List.mem_cons_self (a := x) (l := a))) with h | h
        · exact absurd h e
        · exact h
      have m2 : y ∈ a := by
        rcases List.mem_cons.mp (p.mem_iff.mpr (List.mem_cons_self (a := y) (l := b))) with h | h
        · exact absurd h.symm e
        · exact h
      exact (as x y (h1.1 y m2) (h2.1 x m1)).elim
def key3 (k : Nat) : List Int := [((k / 3 : Nat) : Int), -(3 - ((k % 3 : Nat) : Int))]
theorem key3_inj {a b : Nat} (h : key3 a = key3 b) : a = b := by
  unfold key3 at h
  simp only [List.cons.injEq, and_true] at h
  omega
theorem key3_srt : ((List.range 15).map key3).Pairwise fun x y => HT.lexGt y x = true := by
  rw [List.pairwise_map]
  refine (List.pairwise_lt_range (n := 15)).imp fun {a b} h => ?_
  unfold key3
  rw [lex_cons]
  by_cases e : ((b / 3 : Nat) : Int) = ((a / 3 : Nat) : Int)
  · rw [if_pos e, lex_cons, if_neg (by omega)]
    exact decide_eq_true (by omega)
  · rw [if_neg e]
    exact decide_eq_true (by omega)
theorem fold_skip {α β σ : Type} (f : σ → β → σ) (gr : α → β) (p : α → Bool) : ∀ (K : List α) (st : σ), (∀ t ∈ K, p t = false → ∀ s, f s (gr t) = s) → (K.map gr).foldl f st = ((K.filter p).map gr).foldl f st
  | [], st, _ => rfl
  | t :: K, st, h => by
    by_cases c : p t = true
    · rw [List.filter_cons, if_pos c, List.map_cons, List.map_cons, List.foldl_cons, List.foldl_cons]
      exact fold_skip f gr p K _ fun x hx => h x (by simp [hx])
    · rw [List.filter_cons, if_neg c, List.map_cons, List.foldl_cons, h t (by simp) (by simpa using c)]
      exact fold_skip f gr p K _ fun x hx => h x (by simp [hx])
def gs3 (ps : List Pc) (lv : List Int) (ord : List Nat) : List (List Nat) := (List.range 15).map fun k => grp ps lv ord (key3 k)
theorem lay_gs3 {ps : List Pc} {lv : List Int} {ord : List Nat} {ks : List (List Int)} (hk : ∀ q, 1 ≤ (pcA ps q).k ∧ (pcA ps q).k ≤ 3) (hl : ∀ q, 0 ≤ trA lv q ∧ trA lv q ≤ 4) (gr : Grps ps lv ord ks) : layA ps (ks.map (grp ps lv ord)) = layA ps (gs3 ps lv ord) := by
  have e : ks = ((List.range 15).map key3).filter fun t => decide (t ∈ ks) := by
    refine srt_uniq (fun a b h1 h2 => lex_asym _ _ h1 h2) ?_ gr.srt (key3_srt.filter _)
    refine (List.perm_ext_iff_of_nodup ?_ ?_).mpr fun t => ?_
    · exact gr.srt.imp fun {a b} h z => by subst z; exact lex_asym _ _ h h
    · exact (key3_srt.filter _).imp fun {a b} h z => by subst z; exact lex_asym _ _ h h
    · rw [List.mem_filter, decide_eq_true_eq]
      refine ⟨fun ht => ⟨?_, ht⟩, fun h => h.2⟩
      obtain ⟨q, hq, rfl⟩ := (gr.mem t).mp ht
      have h1 := hk q
      have h2 := hl q
      refine List.mem_map.mpr ⟨(trA lv q).toNat * 3 + (3 - (pcA ps q).k).toNat, List.mem_range.mpr (by omega), ?_⟩
      unfold key3 gk
      simp only [List.cons.injEq, and_true]
      omega
  unfold layA gs3
  have e2 : ((List.range 15).map fun k => grp ps lv ord (key3 k)) = ((List.range 15).map key3).map (grp ps lv ord) := by rw [List.map_map]; rfl
  have h3 := fold_skip (layG ps) (grp ps lv ord) (fun t => decide (t ∈ ks)) ((List.range 15).map key3) (List.replicate ps.length 0, 0) fun t _ ht s => by
    have : grp ps lv ord t = [] := by
      unfold grp
      rw [List.filter_eq_nil_iff]
      intro q hq z
      exact (of_decide_eq_false ht) ((gr.mem t).mpr ⟨q, hq, of_decide_eq_true z⟩)
    rw [this]; rfl
  rw [← e] at h3
  rw [e2, h3]
def idxF (ps : List Pc) (S : List (List Nat)) (q : Nat) : Nat := (S.findIdx? (fitF ps q)).getD S.length
theorem fit1_at (ps : List Pc) (S : List (List Nat)) (q : Nat) : ∃ s, (fit1 ps S q)[idxF ps S q]? = some s ∧ q ∈ s := by
  unfold fit1 idxF
  cases hj : S.findIdx? (fitF ps q) with
  | none => exact ⟨[q], by simp, by simp⟩
  | some j =>
    have hjl : j < S.length := (List.findIdx?_eq_some_iff_getElem.mp hj).1
    exact ⟨S.getD j [] ++ [q], by simp [hjl], by simp⟩
theorem fit1_keep (ps : List Pc) (S : List (List Nat)) (x : Nat) {j q : Nat} (h : ∃ s, S[j]? = some s ∧ q ∈ s) : ∃ s, (fit1 ps S x)[j]? = some s ∧ q ∈ s := by
  obtain ⟨s, h1, h2⟩ := h
  have hjl : j < S.length := (List.getElem?_eq_some_iff.mp h1).1
  unfold fit1
  cases hi : S.findIdx? (fitF ps x) with
  | none => exact ⟨s, by simp [List.getElem?_append_left hjl, h1], h2⟩
  | some i =>
    show ∃ s, (S.set i (S.getD i [] ++ [x]))[j]? = some s ∧ q ∈ s
    rw [List.getElem?_set]
    by_cases e : i = j
    · subst e
      rw [if_pos rfl, if_pos hjl]
      refine ⟨_, rfl, ?_⟩
      rw [List.getD_eq_getElem?_getD, h1]
      simp [h2]
    · rw [if_neg e]; exact ⟨s, h1, h2⟩
theorem fold_keep (ps : List Pc) : ∀ (r : List Nat) (S : List (List Nat)) {j q : Nat}, (∃ s, S[j]? = some s ∧ q ∈ s) → ∃ s, (r.foldl (fit1 ps) S)[j]? = some s ∧ q ∈ s
  | [], S, j, q, h => h
  | x :: r, S, j, q, h => fold_keep ps r _ (fit1_keep ps S x h)
theorem strips_at (ps : List Pc) {g : List Nat} {i q : Nat} (h : g[i]? = some q) : ∃ s, (strips ps g)[idxF ps (strips ps (g.take i)) q]? = some s ∧ q ∈ s := by
  have hil : i < g.length := (List.getElem?_eq_some_iff.mp h).1
  have e : strips ps g = (g.drop (i + 1)).foldl (fit1 ps) (strips ps (g.take (i + 1))) := by
    unfold strips
    rw [← List.foldl_append, List.take_append_drop]
  rw [e, strips_take h]
  exact fold_keep ps _ _ (fit1_at ps _ q)
theorem lays_out (ps : List Pc) : ∀ (S : List (List Nat)) (st : La) (q : Nat), q < st.1.length → q ∉ S.flatten → trA (S.foldl (layS ps) st).1 q = trA st.1 q
  | [], st, q, _, _ => rfl
  | s :: S, st, q, hl, hn => by
    rw [List.flatten_cons, List.mem_append, not_or] at hn
    rw [List.foldl_cons, lays_out ps S _ q (by rw [layS_len]; exact hl) hn.2]
    show trA (s.foldl (fun tr q => tr.set q st.2) st.1) q = _
    rw [sets_in _ _ _ _ hl, if_neg hn.1]
theorem lays_row (ps : List Pc) (w : Int) : ∀ (S : List (List Nat)) (st : La) (j q : Nat), S.flatten.Nodup → (∀ s ∈ S, (pcA ps (s.headD 0)).k = w) → (∀ q ∈ S.flatten, q < st.1.length) → (∃ s, S[j]? = some s ∧ q ∈ s) → trA (S.foldl (layS ps) st).1 q = st.2 + w * (j : Int)
  | [], st, j, q, _, _, _, h => by obtain ⟨s, h, _⟩ := h; simp at h
  | s :: S, st, j, q, nd, hw, hl, h => by
    rw [List.flatten_cons] at nd hl
    obtain ⟨n1, n2, n3⟩ := List.nodup_append.mp nd
    rw [List.foldl_cons]
    obtain ⟨s', h1, h2⟩ := h
    cases j with
    | zero =>
      simp only [List.getElem?_cons_zero, Option.some.injEq] at h1
      subst h1
      rw [lays_out ps S _ q (by rw [layS_len]; exact hl q (by simp [h2])) (fun z => n3 q h2 q z rfl)]
      show trA (s.foldl (fun tr q => tr.set q st.2) st.1) q = _
      rw [sets_in _ _ _ _ (hl q (by simp [h2])), if_pos h2]
      simp
    | succ j =>
      simp only [List.getElem?_cons_succ] at h1
      rw [lays_row ps w S (layS ps st s) j q n2 (fun x hx => hw x (by simp [hx])) (fun x hx => by rw [layS_len]; exact hl x (by simp [hx])) ⟨s', h1, h2⟩]
      show st.2 + (pcA ps (s.headD 0)).k + w * (j : Int) = _
      rw [hw s (by simp)]
      push_cast
      rw [Int.mul_add]
      omega
def stA (ps : List Pc) (gs : List (List Nat)) (k : Nat) : La := (gs.take k).foldl (layG ps) (List.replicate ps.length 0, 0)
theorem stA_len (ps : List Pc) (gs : List (List Nat)) (k : Nat) : (stA ps gs k).1.length = ps.length := by unfold stA; rw [layG_lens]; simp
theorem layG_out (ps : List Pc) (st : La) (g : List Nat) (q : Nat) (hl : q < st.1.length) (h : q ∉ g) : trA (layG ps st g).1 q = trA st.1 q :=
  lays_out ps _ st q hl fun z => by
    obtain ⟨s, hs, hq⟩ := List.mem_flatten.mp z
    exact h ((strips_ok ps g).mem s hs q hq)
theorem layGs_out (ps : List Pc) : ∀ (gs : List (List Nat)) (st : La) (q : Nat), q < st.1.length → (∀ g ∈ gs, q ∉ g) → trA (gs.foldl (layG ps) st).1 q = trA st.1 q
  | [], st, q, _, _ => rfl
  | g :: gs, st, q, hl, h => by
    rw [List.foldl_cons, layGs_out ps gs _ q (by rw [layG_len]; exact hl) fun x hx => h x (by simp [hx]), layG_out ps st g q hl (h g (by simp))]
theorem lay_at {ps : List Pc} {lv : List Int} {ord : List Nat} (io : InOrd ps ord) {k i q : Nat} (hk : k < 15) (h : (grp ps lv ord (key3 k))[i]? = some q) :
    trA (layA ps (gs3 ps lv ord)).1 q = (stA ps (gs3 ps lv ord) k).2 + (3 - ((k % 3 : Nat) : Int)) * (idxF ps (strips ps ((grp ps lv ord (key3 k)).take i)) q : Int) := by
  have hqg : q ∈ grp ps lv ord (key3 k) := List.mem_of_getElem? h
  have hqk : gk ps lv q = key3 k := of_decide_eq_true (List.mem_filter.mp hqg).2
  have hql : q < ps.length := (io.mem q).mp (List.mem_filter.mp hqg).1
  have hg : (gs3 ps lv ord)[k]? = some (grp ps lv ord (key3 k)) := by unfold gs3; rw [List.getElem?_map, List.getElem?_range hk]; rfl
  have e1 : layA ps (gs3 ps lv ord) = ((gs3 ps lv ord).drop (k + 1)).foldl (layG ps) (stA ps (gs3 ps lv ord) (k + 1)) := by
    unfold layA stA
    rw [← List.foldl_append, List.take_append_drop]
  have e2 : stA ps (gs3 ps lv ord) (k + 1) = layG ps (stA ps (gs3 ps lv ord) k) (grp ps lv ord (key3 k)) := foldl_take _ _ hg
  rw [e1, layGs_out]
  · rw [e2]
    have so := strips_ok ps (grp ps lv ord (key3 k))
    refine lays_row ps _ _ _ _ q ?_ (fun s hs => ?_) (fun x hx => ?_) (strips_at ps h)
    · exact so.cnt.nodup_iff.mpr (io.nd.filter _)
    · have hm := so.mem s hs _ (head_mem (so.ne s hs))
      have : gk ps lv (s.headD 0) = key3 k := of_decide_eq_true (List.mem_filter.mp hm).2
      unfold gk key3 at this
      simp only [List.cons.injEq, and_true] at this
      omega
    · rw [stA_len]
      exact (io.mem x).mp (List.mem_filter.mp (so.cnt.mem_iff.mp hx)).1
  · rw [stA_len]; exact hql
  · intro g hg2 hq2
    obtain ⟨j, hj, rfl⟩ := List.mem_iff_getElem.mp hg2
    rw [List.getElem_drop] at hq2
    unfold gs3 at hq2
    rw [List.getElem_map, List.getElem_range] at hq2
    have := of_decide_eq_true (List.mem_filter.mp hq2).2
    have := key3_inj (hqk.symm.trans this)
    omega
def endsF (ps : List Pc) (S : List (List Nat)) : List Int := S.map fun s => (pcA ps (s.getLastD 0)).r
theorem ends_find (ps : List Pc) (S : List (List Nat)) (q : Nat) : (endsF ps S).findIdx? (fun e => decide (e < (pcA ps q).l)) = S.findIdx? (fitF ps q) := find_congr fun s _ => rfl
theorem ends_fit (ps : List Pc) (S : List (List Nat)) (q : Nat) : endsF ps (fit1 ps S q) = match S.findIdx? (fitF ps q) with
    | none => endsF ps S ++ [(pcA ps q).r]
    | some j => (endsF ps S).set j (pcA ps q).r := by
  unfold fit1
  cases S.findIdx? (fitF ps q) with
  | none => unfold endsF; rw [List.map_append]; rfl
  | some j =>
    show endsF ps (S.set j _) = (endsF ps S).set j _
    unfold endsF
    rw [List.map_set]
    congr 1
    rw [List.getLastD_eq_getLast?, List.getLast?_append]; rfl
theorem free_head (f : Int → Bool) : ∀ (e : List Int) (n : Nat), (((e.zipIdx n).filter fun p => f p.1).map (·.2)).head? = (e.findIdx? f).map (· + n)
  | [], n => rfl
  | a :: e, n => by
    rw [List.zipIdx_cons, List.findIdx?_cons]
    by_cases h : f a = true
    · simp [h]
    · have ih := free_head f e (n + 1)
      simp only [List.filter_cons, h, Bool.false_eq_true, if_false]
      rw [ih, Option.map_map]
      congr 1
      funext x
      simp; omega
end Wc
set_option Elab.async false
set_option linter.all false
set_option maxRecDepth 100000
set_option maxHeartbeats 2000000
namespace Wc
open PySem L2 PyProof.Rows
local macro_rules | `(tactic| walk_at "all") => `(tactic| simp only [xSeq, xIf, bNot, bAnd, bOr, dTst, dChain, dC, val_fz, val_ow, sl_fz, sl_ow, dCB, aCons, aNil, dVar, List.map_cons, List.map_nil, List.cons_append, List.nil_append, List.set, gt, oLen, oI0, oI, dOp, oAdd, xRet, xNil, xSet, xSetF, dLst, dTup, innP, innS, yName, yNil, yCons, yTup, yLst, oInB, oEq, oNe, oIx, dSl, oNo, oSome, dCall, dAnd, dOr, dNot, dIsi, dIf, dIxO, dLenO, dNeg, dM, oCount, xApp, xRetO, xRetN, xDrop, xAsg, xFrz, frz, dFld, oIsB, isNon, bYes, zSeq, itemsD, zRng1, zEnum, oSum, oInt, oList, cpow24, cpow30, p24, p30, CDiv, CMul, Int.reduceLT, Int.reduceLE, Int.reduceAdd, Int.reduceSub, Int.reduceMul, Int.reduceNeg, Int.reducePow, Int.reduceToNat, decide_true, decide_false, true_and, and_true, and_self, or_true, true_or, okE_int, okE_str, okE_bl, okE_non, ex_atI, Bool.false_eq_true, if_false, if_true, Bool.not_true, Bool.not_false, List.length_cons, List.length_nil, Nat.reduceAdd, decide_eq_true_eq, eqD_int, eqD_str, cutL_map, intsOf_map, strsOf_map, dLend, bLend, sl_ov, val_ov])
local macro_rules | `(tactic| walk_at "px") => `(tactic| simp only [xSeq_h, xIf, bNot, bAnd, bOr, dTst, dChain, dC, val_fz, val_ow, sl_fz, sl_ow, dCB, aCons, aNil, dVar, List.map_cons, List.map_nil, List.cons_append, List.nil_append, List.set, gt, oLen, oI0, oI, dOp, oAdd, xRet, xNil, xSet, xSetF, dLst, dTup, innP, innS, yName, yNil, yCons, yTup, yLst, oInB, oEq, oNe, oIx, dSl, oNo, oSome, dCall, dAnd, dOr, dNot, dIsi, dIf, dIxO, dLenO, dNeg, dM, oCount, xApp, xRetO, xRetN, xDrop, xAsg, xFrz, frz, dFld, oIsB, isNon, bYes, zSeq, itemsD, zRng1, zEnum, oSum, oInt, oList, cpow24, cpow30, p24, p30, CDiv, CMul, Int.reduceLT, Int.reduceLE, Int.reduceAdd, Int.reduceSub, Int.reduceMul, Int.reduceNeg, Int.reducePow, Int.reduceToNat, decide_true, decide_false, true_and, and_true, and_self, or_true, true_or, okE_int, okE_str, okE_bl, okE_non, ex_atI, Bool.false_eq_true, if_false, if_true, Bool.not_true, Bool.not_false, List.length_cons, List.length_nil, Nat.reduceAdd, decide_eq_true_eq, eqD_int, eqD_str, cutL_map, intsOf_map, strsOf_map, dLend, bLend, sl_ov, val_ov])
local macro_rules | `(tactic| walk_at "go") => `(tactic| (simp only [hold]; walk_at "px"))
def rowT (ps : List Pc) (lv : List Int) (k : Nat) : List Nat := (List.range ps.length).filter fun q => decide (trA lv q = ((k / 3 : Nat) : Int)) && decide ((pcA ps q).k = 3 - ((k % 3 : Nat) : Int))
theorem rowT_perm {ps : List Pc} {lv : List Int} {ord : List Nat} (io : InOrd ps ord) (k : Nat) : (rowT ps lv k).Perm (grp ps lv ord (key3 k)) := by
  unfold rowT grp
  have e : (fun q => decide (trA lv q = ((k / 3 : Nat) : Int)) && decide ((pcA ps q).k = 3 - ((k % 3 : Nat) : Int))) = fun q => decide (gk ps lv q = key3 k) := by
    funext q
    unfold gk key3
    rw [Bool.eq_iff_iff]
    simp only [Bool.and_eq_true, decide_eq_true_eq, List.cons.injEq, and_true]
    omega
  rw [e]
  exact (io.pm.filter _).symm
def T_law : TX := (xSeq (xSetF 1 (dOp (oI (fun _ j => 0 < j) fun i j => .int (i % j)) (dCB oSum (aCons (dSl (dVar 0) oNo (oSome (dC (.int 1)))) aNil)) (dOp (oI CPow fun i j => .int (i ^ j.toNat)) (dC (.int 10)) (dC (.int 30)))))
  (xSeq (xSetF 2 (dCall 4 sp__law_some (aCons (dCall 1 sp__law_named (aCons (dVar 1) aNil)) (aCons (dVar 1) (aCons (dSl (dVar 0) (oSome (dC (.int 1))) (oSome (dC (.int 41)))) (aCons (dOp oEq (dOp (oI (fun _ j => 0 < j) fun i j => .int (i % j)) (dVar 1) (dC (.int 3))) (dC (.int 0))) aNil))))))
  (xSeq (xSetF 3 (dComp (zEnum (aCons (dSl (dVar 0) (oSome (dC (.int 1))) (oSome (dC (.int 41)))) aNil)) [none, none, some 1] (yTup 2 (yCons (yName 0) (yCons (yName 1) yNil))) bYes (dOp (oI (fun _ j => 0 < j) fun i j => .int (i % j)) (dCall 2 sp__law_mix (aCons (dVar 1) (aCons (dOp oAdd (dVar 0) (dC (.int 700))) aNil))) (dOp oAdd (dC (.int 1)) (dOp (oI (fun _ j => 0 < j) fun i j => .int (i % j)) (dOp (oI CDiv fun i j => .int (i / j)) (dVar 2) (dC (.int 3))) (dC (.int 5)))))))
  (xSeq (xSetF 4 (dLst (aCons (dCB oList (aCons (dVar 2) aNil)) (aCons (dCB oList (aCons (dVar 3) aNil)) aNil))))
  (xSeq (xSet 5 (dCall 2 sp_by_levels (aCons (dOp oIx (dVar 4) (dC (.int 0))) (aCons (dOp oIx (dVar 4) (dC (.int 1))) aNil))))
  (xSeq (xIf (bOr (dTst (dOp oNe (dVar 4) (dLst (aCons (dVar 2) (aCons (dVar 3) aNil))))) (bOr (bNot (dTst (dLend 5 (dIsi "list" (dVar 5))))) (dTst (dOp oNe (dLenO 5) (dCB oLen (aCons (dVar 2) aNil)))))) (xRet (dC (.bl false))) xNil)
  (xSeq (xSetF 6 (dC (.int 0)))
  (xSeq (xFor (zRng1 (aCons (dC (.int 15)) aNil)) (yName 7) (xSeq (xSetF 8 (dOp (oI0 fun i j => .int (i - j)) (dC (.int 3)) (dOp (oI (fun _ j => 0 < j) fun i j => .int (i % j)) (dVar 7) (dC (.int 3)))))
  (xSeq (xSetF 9 (dComp (zEnum (aCons (dVar 2) aNil)) [none, none, some 8, some 3, some 7] (yTup 2 (yCons (yName 0) (yCons (yName 1) yNil))) (bAnd (dTst (dOp oEq (dOp oIx (dVar 3) (dVar 0)) (dOp (oI CDiv fun i j => .int (i / j)) (dVar 4) (dC (.int 3))))) (dTst (dOp oEq (dOp oIx (dVar 1) (dC (.int 3))) (dVar 2)))) (dTup (aCons (dOp oIx (dVar 1) (dC (.int 1))) (aCons (dOp oIx (dVar 1) (dC (.int 2))) (aCons (dVar 0) aNil))))))
  (xSeq (xSet 10 (dLst aNil))
  (xSeq (xFor (zSeq (dCB oSorted64 (aCons (dVar 9) aNil))) (yTup 3 (yCons (yName 11) (yCons (yName 12) (yCons (yName 13) yNil)))) (xSeq (xSetF 14 (dLend 10 (dCB oLen (aCons (dComp (zSeq (dVar 10)) [none, some 11] (yName 0) (dTst (dOp (oI0 fun i j => .bl (decide (j ≤ i))) (dVar 0) (dVar 1))) (dVar 0)) aNil))))
  (xSeq (xSet 15 (dLendW 10 (dComp (zEnum (aCons (dVar 10) aNil)) [none, none, some 11] (yTup 2 (yCons (yName 0) (yCons (yName 1) yNil))) (dTst (dOp (oI0 fun i j => .bl (decide (i < j))) (dVar 1) (dVar 2))) (dVar 0))))
  (xFrz 15 (xSeq (xIf (dTst (dOp (oI0 fun i j => .bl (decide (j < i))) (dCB oLen (aCons (dVar 15) aNil)) (dC (.int 0)))) (xSetF 14 (dOp oIx (dVar 15) (dC (.int 0)))) xNil)
  (xSeq (xIf (bOr (bNot (dTst (dCall 1 sp__law_whole (aCons (dIxO 5 (dVar 13)) aNil)))) (dTst (dOp oNe (dIxO 5 (dVar 13)) (dOp oAdd (dVar 6) (dOp (oI CMul fun i j => .int (i * j)) (dVar 14) (dVar 8)))))) (xRet (dC (.bl false))) xNil)
  (xSeq (xIf (dTst (dOp oEq (dVar 14) (dLenO 10))) (xApp 10 (dVar 12)) xNil)
  (xSetIx 10 (dVar 14) (dVar 12)))))))))
  (xSetF 6 (dOp oAdd (dVar 6) (dOp (oI CMul fun i j => .int (i * j)) (dVar 8) (dLenO 10)))))))))
  (xSeq (xApp 5 (dC (.int 7)))
  (xRet (dOp oEq (dVar 4) (dLst (aCons (dVar 2) (aCons (dVar 3) aNil))))))))))))))
theorem spec_law (ds : List D) (Qr : R → Prop) (hl : ds.length = 1) (h : LawSp 63 ds Qr) : T_law { nx := fun _ => Qr (.fz .non), rt := Qr } (startP ["_law_script", "_law_first", "_law_pieces", "_law_levels", "_law_handed", "_law_found", "_law_base", "_law_k", "_law_wide", "_law_rows", "_law_ends", "_law_low", "_law_high", "_law_n", "_law_strip", "_law_free"] ds) := by
  obtain ⟨ns, rfl, hn, q⟩ := h
  show T_law _ [.fz (dI ns), .un, .un, .un, .un, .un, .un, .un, .un, .un, .un, .un, .un, .un, .un, .un]
  unfold T_law dI
  have big := line_eq
  walk_at "px"
  generalize (cutL ns none (some 1)).sum = sm
  generalize sm % 1000000000000000000000000000000 = first
  walk_at "go"
  have hcl : (cutL ns (some 1) (some 41)).length ≤ 40 := by rw [cutL_mid _ (by decide) (by decide)]; simp; omega
  generalize hcs : cutL ns (some 1) (some 41) = cells at hcl
  refine ⟨_, rfl, wordsF first, first, _, _, rfl, (wordsF_ok first).len, by omega, fun ps hpl hpo => ?_⟩
  walk_at "go"
  let lvF : Int × Nat → Int := fun p => mixF p.1 ((p.2 : Int) + 700) % (1 + first / 3 % 5)
  refine comp_map cells.zipIdx (fun p => .tup [.int (p.2 : Nat), .int p.1]) (fun p => .int (lvF p)) (fun Q' h => ?_) (by rw [List.length_zipIdx]; omega) (fun p hp K1 k => ?_) ?_
  · walk_at "px"
    rw [hcs, enumD_eq]
    exact h
  · have hp2 : p.2 < 40 := by
      have := List.snd_lt_of_mem_zipIdx hp
      omega
    walk_at "px"
    refine ⟨p.1, (p.2 : Int) + 700, rfl, by omega, by omega, ?_⟩
    exact ⟨by omega, k⟩
  · have elv : (cells.zipIdx.map fun p => D.int (lvF p)) = (cells.zipIdx.map lvF).map D.int := by rw [List.map_map]; rfl
    rw [elv]
    generalize hlv : cells.zipIdx.map lvF = lv
    have hlvl : lv.length = ps.length := by rw [← hlv, List.length_map, List.length_zipIdx, hpl]
    have hlr : ∀ q, 0 ≤ trA lv q ∧ trA lv q ≤ 4 := fun q => by
      unfold trA
      cases hq : lv[q]? with
      | none => simp
      | some x =>
        have := List.mem_of_getElem? hq
        rw [← hlv] at this
        obtain ⟨p, _, rfl⟩ := List.mem_map.mp this
        simp only [Option.getD_some, lvF]
        have h1 : 0 < 1 + first / 3 % 5 := by omega
        have := Int.emod_nonneg (mixF p.1 ((p.2 : Int) + 700)) (show 1 + first / 3 % 5 ≠ 0 by omega)
        have := Int.emod_lt_of_pos (mixF p.1 ((p.2 : Int) + 700)) h1
        omega
    have hpk : ∀ q, (1 ≤ (pcA ps q).k ∧ (pcA ps q).k ≤ 3) ∧ (pcA ps q).l ≤ (pcA ps q).r := fun q => by
      by_cases hq : q < ps.length
      · have := hpo (pcA ps q) (by rw [pcA_at hq]; exact List.getElem_mem hq)
        exact ⟨⟨this.k0, this.k1⟩, this.lr⟩
      · have : pcA ps q = ⟨none, 0, 0, 1⟩ := by unfold pcA; rw [List.getElem?_eq_none (by omega)]; rfl
        rw [this]; exact ⟨⟨by decide, by decide⟩, by decide⟩
    have okt : okE 8 (.lst (lv.map D.int)) := okE_lst D.int lv fun t _ => by rw [okE_int]; trivial
    have okp : okE 8 (.lst (ps.map dPc)) := okE_dPs 6 ps
    have okl : okE 9 (.lst [.lst (ps.map dPc), .lst (lv.map D.int)]) := fun d hd => by
      simp only [List.mem_cons, List.not_mem_nil, or_false] at hd
      rcases hd with rfl | rfl
      · exact okp
      · exact okt
    walk_at "go"
    refine ⟨by omega, ?_⟩
    walk_at "go"
    refine ⟨_, rfl, _, rfl, ps, lv, rfl, hlvl, by omega, fun ord ks io gr => ?_⟩
    rw [lay_gs3 (fun q => (hpk q).1) hlr gr]
    have hla := fun {k i q : Nat} => lay_at (lv := lv) io (k := k) (i := i) (q := q)
    have htl : (layA ps (gs3 ps lv ord)).1.length = ps.length := by unfold layA; rw [layG_lens]; simp
    have hst : ∀ k, k < 15 → stA ps (gs3 ps lv ord) (k + 1) = layG ps (stA ps (gs3 ps lv ord) k) (grp ps lv ord (key3 k)) := fun k hk => foldl_take _ _ (by unfold gs3; rw [List.getElem?_map, List.getElem?_range hk]; rfl)
    have hst0 : (stA ps (gs3 ps lv ord) 0).2 = 0 := rfl
    have hbs : ∀ k, k < 15 → (stA ps (gs3 ps lv ord) (k + 1)).2 = (stA ps (gs3 ps lv ord) k).2 + (3 - ((k % 3 : Nat) : Int)) * ((strips ps (grp ps lv ord (key3 k))).length : Int) := fun k hk => by
      rw [hst k hk]
      unfold layG
      rw [total_eq]
      congr 1
      refine sum_const _ _ _ fun s hs => ?_
      have so := strips_ok ps (grp ps lv ord (key3 k))
      have hm := so.mem s hs _ (head_mem (so.ne s hs))
      have : gk ps lv (s.headD 0) = key3 k := of_decide_eq_true (List.mem_filter.mp hm).2
      unfold gk key3 at this
      simp only [List.cons.injEq, and_true] at this
      omega
    clear hst
    generalize (layA ps (gs3 ps lv ord)).1 = tr at hla htl ⊢
    generalize stA ps (gs3 ps lv ord) = st at hla hst0 hbs ⊢
    walk_at "go"
    refine ⟨by omega, okl, okl, ?_⟩
    rw [eqD_refl 9 _ okl]
    simp only [isi_ll, noObj, scalD, true_and, Bool.not_true, Bool.false_eq_true, if_false, List.length_map, htl, decide_true]
    walk_at "go"
    walk_at "go"
    refine xfor_range 15 (fun Q' h => ?_) (fun i ρ => ∃ a b c d e f g h j : Sl, ρ = [Sl.fz (D.lst (List.map D.int ns)), Sl.fz (D.int first), Sl.fz (D.lst (List.map dPc ps)),
      Sl.fz (D.lst (List.map D.int lv)), .fz (.lst [D.lst (List.map dPc ps), D.lst (List.map D.int lv)]), .ow (tr.map .int), .fz (.int (st i).2), a, b, c, d, e, f, g, h, j]) ⟨.un, .un, .un, .un, .un, .un, .un, .un, .un, by rw [hst0]⟩ ?_ ?_
    · walk_at "px"
      exact h
    · rintro k ρ hk ⟨a, b, c, d, e, f, g, h, j, rfl⟩
      have d3 : ((k / 3 : Nat) : Int) = (k : Int) / 3 := by omega
      have m3 : ((k % 3 : Nat) : Int) = (k : Int) % 3 := by omega
      walk_at "px"
      walk_at "go"
      refine comp_filter (List.range ps.length) (fun i => .tup [.int (i : Nat), dPc (pcA ps i)]) (fun i => .tup ((fK ps i).map D.int)) (fun q => decide (trA lv q = ((k / 3 : Nat) : Int)) && decide ((pcA ps q).k = 3 - ((k % 3 : Nat) : Int))) (fun Q' h => ?_) (by simp; omega) (fun x hx K1 K0 h1 h0 => ?_) ?_
      · walk_at "px"
        have e : enumD (ps.map dPc) = (List.range ps.length).map fun i => D.tup [.int (i : Nat), dPc (pcA ps i)] := by
          unfold enumD
          apply List.ext_getElem
          · simp
          · intro i h1 h2
            have hi : i < ps.length := by simpa using h1
            simp [pcA_at hi]
        rw [e]
        exact h
      · have hxl : x < ps.length := List.mem_range.mp hx
        have gl : atI lv (x : Int) = some (trA lv x) := by rw [trA_at (by omega)]; exact atI_nat' (by omega)
        rw [show dPc (pcA ps x) = .tup [dO (pcA ps x).n, .int (pcA ps x).l, .int (pcA ps x).r, .int (pcA ps x).k] from rfl]
        walk_at "px"
        refine ⟨_, gl, ?_⟩
        rw [d3, m3] at h1 h0
        by_cases c1 : trA lv x = (k : Int) / 3
        · rw [if_pos c1]
          refine ⟨.int (pcA ps x).k, rfl, by rw [okE_int]; trivial, ?_⟩
          rw [eqD_int]
          by_cases c2 : (pcA ps x).k = 3 - (k : Int) % 3
          · rw [if_pos (by simpa using c2)]
            refine ⟨.int (pcA ps x).l, rfl, .int (pcA ps x).r, rfl, by omega, ?_⟩
            exact h1 (by simp [c1, c2])
          · rw [if_neg (by simpa using c2)]; exact h0 (by simp [c2])
        · rw [if_neg c1]; exact h0 (by simp [c1])
      · have er : ((List.range ps.length).filter fun q => decide (trA lv q = ((k / 3 : Nat) : Int)) && decide ((pcA ps q).k = 3 - ((k % 3 : Nat) : Int))).map (fun i => D.tup ((fK ps i).map D.int)) = (rowT ps lv k).map fun i => D.tup ((fK ps i).map D.int) := rfl
        rw [er]
        have hrl : (rowT ps lv k).length ≤ 40 := by
          have := List.length_filter_le (fun q => decide (trA lv q = ((k / 3 : Nat) : Int)) && decide ((pcA ps q).k = 3 - ((k % 3 : Nat) : Int))) (List.range ps.length)
          rw [List.length_range] at this
          unfold rowT
          omega
        have hrp := rowT_perm (lv := lv) io k
        have hgs : (grp ps lv ord (key3 k)).Pairwise fun x y => HT.lexGt (fK ps y) (fK ps x) = true := io.srt.filter _
        have hgm : ∀ q ∈ grp ps lv ord (key3 k), q < ps.length := fun q hq => (io.mem q).mp (List.mem_filter.mp hq).1
        have hlk := fun {i q : Nat} => hla (k := k) (i := i) (q := q) hk
        have hbk := hbs k hk
        generalize rowT ps lv k = rws at hrl hrp ⊢
        generalize grp ps lv ord (key3 k) = g at hrp hgs hgm hlk hbk
        walk_at "go"
        refine ⟨Nat.zero_le _, ?_⟩
        walk_at "go"
        refine xforS_B ?_
        walk_at "px"
        simp only [oSorted64, itups_map]
        refine ⟨by rw [List.length_map]; omega, fun t ht => ?_, fun tss' hp hs => ?_⟩
        · obtain ⟨i, _, rfl⟩ := List.mem_map.mp ht
          simp [fK]
        · obtain ⟨qs, h1, rfl⟩ := perm_lift hp rfl
          have inj : ∀ x y, fK ps x = fK ps y → x = y := fun x y e => by unfold fK at e; simp at e; omega
          have ndg : g.Nodup := hgs.imp fun {a b} h z => by subst z; exact lex_asym _ _ h h
          have nd : qs.Nodup := (h1.trans hrp).nodup_iff.mpr ndg
          have eqs : qs = g := by
            refine srt_uniq (fun a b x y => lex_asym _ _ x y) (h1.trans hrp) ?_ hgs
            rw [List.pairwise_map] at hs
            exact (hs.and nd).imp fun {a b} h => lex_tri _ _ h.1 fun z => h.2 (inj _ _ z)
          subst eqs
          have hgl : qs.length ≤ 40 := by rw [h1.length_eq]; exact hrl
          show xForB _ _ _ _ ((qs.map (fK ps)).map fun t => D.tup (t.map D.int))
          rw [List.map_map]
          refine xforB_list qs ((fun t => D.tup (t.map D.int)) ∘ fK ps) (fun i ρ => ∃ e f g h j : Sl, ρ = [Sl.fz (D.lst (List.map D.int ns)), Sl.fz (D.int first), Sl.fz (D.lst (List.map dPc ps)),
            Sl.fz (D.lst (List.map D.int lv)), .fz (.lst [D.lst (List.map dPc ps), D.lst (List.map D.int lv)]), .ow (tr.map .int), .fz (.int (st k).2), .fz (.int (k : Int)), .fz (.int (3 - (k : Int) % 3)), .fz (.lst (rws.map fun i => D.tup ((fK ps i).map D.int))),
            .ow ((endsF ps (strips ps (qs.take i))).map .int), e, f, g, h, j]) ⟨_, _, _, _, _, rfl⟩ ?_ ?_
          · rintro i x ρ hx ⟨e, f, g, h, j, rfl⟩
            have hxg := List.mem_of_getElem? hx
            have hxl := hgm x hxg
            have hil : i < qs.length := (List.getElem?_eq_some_iff.mp hx).1
            have hfx := hlk hx
            have hst := strips_take (ps := ps) hx
            have hfi := ends_find ps (strips ps (qs.take i)) x
            have hfe := ends_fit ps (strips ps (qs.take i)) x
            have hsl : (strips ps (qs.take i)).length ≤ 40 := by
              have ok := strips_ok ps (qs.take i)
              have h1 := ok.cnt.length_eq
              rw [List.length_take] at h1
              have h2 : ∀ S : List (List Nat), (∀ s ∈ S, s ≠ []) → S.length ≤ S.flatten.length := by
                intro S
                induction S with
                | nil => intro _; simp
                | cons s S ih =>
                  intro h
                  have h3 := ih fun x hx => h x (by simp [hx])
                  have h4 : 0 < s.length := List.length_pos_iff.mpr (h s (by simp))
                  rw [List.flatten_cons, List.length_append, List.length_cons]; omega
              have := h2 _ ok.ne
              omega
            rw [← hst] at hfe
            rw [hfe]
            generalize strips ps (qs.take i) = S at hfx hfi hsl ⊢
            have hel : (endsF ps S).length = S.length := by unfold endsF; rw [List.length_map]
            unfold idxF at hfx
            rw [← hfi] at hfx ⊢
            rw [← hel] at hfx
            generalize endsF ps S = en at hfx hel ⊢
            have hen : en.length ≤ 40 := by omega
            have hxt : atI tr (x : Int) = some (trA tr x) := by rw [trA_at (by omega)]; exact atI_nat' (by omega)
            clear hla hbs io gr hpo hpk hlr okt okp okl hlv elv hs hp
            rw [show ((fun t => D.tup (List.map D.int t)) ∘ fK ps) x = .tup [.int (pcA ps x).l, .int (pcA ps x).r, .int (x : Int)] from rfl]
            generalize (pcA ps x).l = low at hfx ⊢
            generalize (pcA ps x).r = high
            walk_at "px"
            refine comp_filter en D.int D.int (fun e => decide (low ≤ e)) (fun Q' h => ?_) (by omega) (fun y hy K1 K0 h1 h0 => ?_) ?_
            · walk_at "px"
              exact h
            · walk_at "px"
              by_cases c1 : low ≤ y
              · rw [if_pos c1]; exact h1 (by simpa using c1)
              · rw [if_neg c1]; exact h0 (by simpa using c1)
            · refine ⟨rfl, ?_⟩
              rw [List.length_map]
              walk_at "go"
              refine comp_filter en.zipIdx (fun p => .tup [.int (p.2 : Nat), .int p.1]) (fun p => .int (p.2 : Nat)) (fun p => decide (p.1 < low)) (fun Q' h => ?_) (by rw [List.length_zipIdx]; omega) (fun y hy K1 K0 h1 h0 => ?_) ?_
              · walk_at "px"
                rw [enumD_eq]
                exact h
              · walk_at "px"
                by_cases c1 : y.1 < low
                · rw [if_pos c1]; exact h1 (by simpa using c1)
                · rw [if_neg c1]; exact h0 (by simpa using c1)
              · have hh := free_head (fun e => decide (e < low)) en 0
                have efr : ((en.zipIdx.filter fun p => decide (p.1 < low)).map fun p => D.int ((p.2 : Nat) : Int)) = (((en.zipIdx.filter fun p => decide (p.1 < low)).map (·.2)).map fun (n : Nat) => D.int (n : Int)) := by rw [List.map_map]; rfl
                rw [efr]
                generalize ((en.zipIdx.filter fun p => decide (p.1 < low)).map (·.2)) = fr at hh ⊢
                have hsc : scalR (.ow (fr.map fun (n : Nat) => D.int (n : Int))) = true := by
                  show (fr.map fun (n : Nat) => D.int (n : Int)).all scalD = true
                  rw [List.all_map, List.all_eq_true]
                  intro _ _; rfl
                refine ⟨hsc, ?_⟩
                cases hj : en.findIdx? (fun e => decide (e < low)) with
                | none =>
                  rw [hj] at hfx hh
                  have : fr = [] := by cases fr with | nil => rfl | cons => simp at hh
                  subst this
                  have eln : (en.filter fun e => decide (low ≤ e)) = en := by
                    rw [List.filter_eq_self]
                    intro y hy
                    have := List.findIdx?_eq_none_iff.mp hj y hy
                    simp at this ⊢
                    omega
                  rw [eln]
                  simp only [Option.getD_none] at hfx
                  simp only []
                  walk_at "go"
                  rw [if_neg (by simp)]
                  walk_at "go"
                  refine ⟨_, hxt, trA tr x, rfl, ?_⟩
                  walk_at "px"
                  have e9 : trA tr x = (st k).2 + (en.length : Int) * (3 - (k : Int) % 3) := by rw [hfx, m3, Int.mul_comm]
                  refine ⟨_, hxt, .inr (by omega), ?_⟩
                  rw [if_neg (by simp [e9])]
                  walk_at "go"
                  simp only [List.length_map, if_true]
                  refine ⟨by omega, ?_⟩
                  simp only [hold]
                  unfold xSetIx
                  simp only [gt]
                  walk_at "px"
                  refine ⟨en.length, by rw [List.length_append, List.length_map]; exact ixN_of (by simp), .fz (.int low), .fz (.int high), .fz (.int (x : Int)), .fz (.int (en.length : Int)), .fz (.lst []), ?_⟩
                  have : (en.map D.int ++ [D.int high]).set en.length (D.int high) = (en ++ [high]).map D.int := by
                    rw [List.set_append_right _ _ (by simp), List.map_append]
                    simp
                  rw [this]
                | some j =>
                  rw [hj] at hfx hh
                  cases fr with
                  | nil => simp at hh
                  | cons j0 fr =>
                    have : j0 = j := by simpa using hh
                    subst this
                    simp only [Option.getD_some] at hfx
                    simp only []
                    walk_at "go"
                    rw [if_pos (by simp)]
                    refine ⟨.int (j0 : Int), atI_nat' (l := D.int (j0 : Int) :: fr.map fun (n : Nat) => D.int (n : Int)) (j := 0) (by simp), ?_⟩
                    walk_at "go"
                    refine ⟨_, hxt, trA tr x, rfl, ?_⟩
                    walk_at "px"
                    have e9 : trA tr x = (st k).2 + (j0 : Int) * (3 - (k : Int) % 3) := by rw [hfx, m3, Int.mul_comm]
                    have hj0 : j0 < en.length := (List.findIdx?_eq_some_iff_getElem.mp hj).1
                    refine ⟨_, hxt, .inr (by omega), ?_⟩
                    rw [if_neg (by simp [e9])]
                    walk_at "go"
                    rw [if_neg (by rw [List.length_map]; omega)]
                    simp only [hold]
                    unfold xSetIx
                    simp only [gt]
                    walk_at "px"
                    refine ⟨j0, by rw [List.length_map]; exact ixN_of hj0, _, _, _, _, _, by rw [← List.map_set]⟩
          · rintro ρ ⟨e, f, g, h, j, rfl⟩
            rw [List.take_length]
            walk_at "go"
            have hel : (endsF ps (strips ps qs)).length = (strips ps qs).length := by unfold endsF; rw [List.length_map]
            refine ⟨.inl (by omega), _, _, _, _, _, _, _, _, _, by rw [List.length_map, hel, hbk, m3]⟩
    · rintro ρ ⟨a, b, c, d, e, f, g, h, j, rfl⟩
      walk_at "go"
      refine ⟨by rw [List.length_map, htl]; omega, ?_⟩
      walk_at "go"
      rw [eqD_refl 9 _ okl]
      exact ⟨by omega, okl, okl, q⟩
end Wc
set_option Elab.async false
set_option linter.all false
set_option maxRecDepth 100000
set_option maxHeartbeats 4000000
namespace Wc
open PySem PySem.Spec PyProof.Rows L2
def top (i : Nat) : Stmt := PySem.Challenge.pw_wirechannel_k31_strips_walked.main.body.getD i (.Pass ⟨0, 0, 0, 0⟩)
structure Txt (K : PySem.W.Frag) (mg : Str → Option Value) : Prop where
  b_bool : mg "bool" = none
  b_enumerate : mg "enumerate" = none
  b_int : mg "int" = none
  b_isinstance : mg "isinstance" = none
  b_len : mg "len" = none
  b_list : mg "list" = none
  b_min : mg "min" = none
  b_range : mg "range" = none
  b_sorted : mg "sorted" = none
  b_sum : mg "sum" = none
section
variable {P : Program} {w : World} {K : PySem.W.Frag} {mg : Str → Option Value} {base : Heap}
abbrev s__law_mix : Stmt := top 8
theorem sc__law_mix : FnScope ["_law_cell", "_law_k"] ["_law_cell", "_law_k"] (defScope s__law_mix) := ⟨rfl, rfl, rfl, by decide +kernel, rfl, by decide +kernel, by decide +kernel⟩
theorem px__law_mix (T : Txt K mg)  {f : Addr} (cdv : Value) (A : Around) (outer : List Env) (s : Shared) (H : Hp) (E : XK) (hr : Room 0 (A.deeper (envOfC "_law_mix" (defScope s__law_mix) s.heap.objs.size f cdv))) :
    PXs (cxOf CX0 P w K mg base ["_law_cell", "_law_k"] "_law_mix" (defScope s__law_mix) f cdv A outer s H E).nox (defBody s__law_mix) T__law_mix := by
  have hu := hr.units
  exact (pxs_one (px_ret (pd_op o_fdiv (pd_op o_mod (pd_op o_add (pd_op o_add (pd_op o_mul (pd_op o_mod (pd_var 0) (pd_op o_pow pd_int pd_int)) (pd_op o_add (pd_op o_mul (pd_var 1) (pd_var 1)) pd_int)) (pd_op o_mul (pd_op o_mul (pd_op o_mul pd_int (pd_var 1)) (pd_var 1)) (pd_var 1))) pd_int) pd_int) pd_int)))
theorem known__law_mix (A : At K mg "_law_mix" s__law_mix) (T : Txt K mg)  : Known P w K mg base 1 "_law_mix" 2 sp__law_mix := by
  obtain ⟨f, fd, F, hm⟩ := A.ex
  exact ⟨f, fd, ["_law_cell", "_law_k"], fn_pure F sc__law_mix (px__law_mix T ) spec__law_mix, hm, F.kp, F.binds fun _ _ _ _ _ _ us hl => match us, hl with | [_, _], _ => rfl⟩
abbrev s__law_some : Stmt := top 9
theorem sc__law_some : FnScope ["_law_words", "_law_seed", "_law_cells", "_law_plain", "_law_pieces", "_law_k", "_law_cell", "_law_one", "_law_net", "_law_first", "_law_last", "_law_wide"] ["_law_words", "_law_seed", "_law_cells", "_law_plain"] (defScope s__law_some) := ⟨rfl, rfl, rfl, by decide +kernel, rfl, by decide +kernel, by decide +kernel⟩
theorem px__law_some (T : Txt K mg) (C__law_mix : Known P w K mg base 1 "_law_mix" 2 sp__law_mix) {f : Addr} (cdv : Value) (A : Around) (outer : List Env) (s : Shared) (H : Hp) (E : XK) (hr : Room 1 (A.deeper (envOfC "_law_some" (defScope s__law_some) s.heap.objs.size f cdv))) :
    PXs (cxOf CX0 P w K mg base ["_law_words", "_law_seed", "_law_cells", "_law_plain", "_law_pieces", "_law_k", "_law_cell", "_law_one", "_law_net", "_law_first", "_law_last", "_law_wide"] "_law_some" (defScope s__law_some) f cdv A outer s H E).nox (defBody s__law_some) T__law_some := by
  have hu := hr.units
  exact (pxs_cons (px_set 4 (pd_lst pda_nil) sc__law_some.nd)
      (pxs_cons (px_for PassesOwn.never rfl (pid_enum T.b_enumerate (pda_cons (pd_var 2) pda_nil)) (pg_tupD rfl (pgs_consD (pg_nameD 5 sc__law_some.nd) (pgs_consD (pg_nameD 6 sc__law_some.nd) pgs_nilD)))
        (pxs_cons (px_setF 7 (pd_callK C__law_mix hr (pda_cons (pd_var 6) (pda_cons (pd_var 5) pda_nil))) sc__law_some.nd)
      (pxs_cons (px_setF 8 (pd_op o_mod (pd_var 7) pd_int) sc__law_some.nd)
      (pxs_cons (px_setF 9 (pd_op o_mod (pd_op o_fdiv (pd_var 7) pd_int) (pd_ix (pd_lst (pda_cons pd_int (pda_cons pd_int pda_nil))) (pd_op o_mod (pd_op o_fdiv (pd_var 7) pd_int) pd_int))) sc__law_some.nd)
      (pxs_cons (px_setF 10 (pd_callB (c_min rfl) T.b_min boot_min (pda_cons pd_int (pda_cons (pd_op o_add (pd_var 9) (pd_op o_mod (pd_callK C__law_mix hr (pda_cons (pd_var 6) (pda_cons (pd_op o_add (pd_var 5) pd_int) pda_nil))) (pd_ix (pd_lst (pda_cons pd_int (pda_cons pd_int (pda_cons pd_int pda_nil)))) (pd_op o_mod (pd_op o_fdiv (pd_var 7) pd_int) pd_int)))) pda_nil))) sc__law_some.nd)
      (pxs_cons (px_setF 11 pd_int sc__law_some.nd)
      (pxs_cons (px_if (pb_not (pb_val (pd_var 3))) (pxs_one (px_setF 11 (pd_op o_add pd_int (pd_op o_mod (pd_callK C__law_mix hr (pda_cons (pd_op o_add (pd_var 1) (pd_op o_mul (pd_op o_fdiv (pd_var 8) pd_int) (pd_var 5))) (pda_cons (pd_op o_add (pd_var 8) pd_int) pda_nil))) pd_int)) sc__law_some.nd)) pxs_nil)
      (pxs_one (px_if (pb_cmp (o_eq hu) (pd_var 8) pd_int) (pxs_one (px_app 4 (pd_tup (pda_cons pd_non (pda_cons (pd_var 9) (pda_cons (pd_var 10) (pda_cons (pd_var 11) pda_nil))))))) (pxs_one (px_app 4 (pd_tup (pda_cons (pd_ix (pd_var 0) (pd_var 8)) (pda_cons (pd_op o_sub (pd_var 9) (pd_op o_mod (pd_op o_fdiv (pd_var 7) pd_int) pd_int)) (pda_cons (pd_var 10) (pda_cons (pd_var 11) pda_nil))))))))))))))))
      (pxs_one (px_retO 4))))
theorem known__law_some (A : At K mg "_law_some" s__law_some) (T : Txt K mg) (C__law_mix : Known P w K mg base 1 "_law_mix" 2 sp__law_mix) : Known P w K mg base 2 "_law_some" 4 sp__law_some := by
  obtain ⟨f, fd, F, hm⟩ := A.ex
  exact ⟨f, fd, ["_law_words", "_law_seed", "_law_cells", "_law_plain"], fn_pure F sc__law_some (px__law_some T C__law_mix) spec__law_some, hm, F.kp, F.binds fun _ _ _ _ _ _ us hl => match us, hl with | [_, _, _, _], _ => rfl⟩
abbrev s__law_stem : Stmt := top 6
theorem sc__law_stem : FnScope ["_law_cell", "_law_size", "_law_signs", "_law_stem_here", "_law_k"] ["_law_cell", "_law_size"] (defScope s__law_stem) := ⟨rfl, rfl, rfl, by decide +kernel, rfl, by decide +kernel, by decide +kernel⟩
theorem px__law_stem (T : Txt K mg)  {f : Addr} (cdv : Value) (A : Around) (outer : List Env) (s : Shared) (H : Hp) (E : XK) (hr : Room 0 (A.deeper (envOfC "_law_stem" (defScope s__law_stem) s.heap.objs.size f cdv))) :
    PXs (cxOf CX0 P w K mg base ["_law_cell", "_law_size", "_law_signs", "_law_stem_here", "_law_k"] "_law_stem" (defScope s__law_stem) f cdv A outer s H E).nox (defBody s__law_stem) T__law_stem := by
  have hu := hr.units
  exact (pxs_cons (px_setF 2 pd_str sc__law_stem.nd)
      (pxs_cons (px_setF 3 pd_str sc__law_stem.nd)
      (pxs_cons (px_for PassesOwn.never rfl (pid_range1 T.b_range (pda_cons (pd_var 1) pda_nil)) (pg_nameD 4 sc__law_stem.nd)
        (pxs_cons (px_setF 3 (pd_op o_add (pd_var 3) (pd_ix (pd_var 2) (pd_op o_mod (pd_var 0) pd_int))) sc__law_stem.nd)
      (pxs_one (px_setF 0 (pd_op o_fdiv (pd_var 0) pd_int) sc__law_stem.nd))))
      (pxs_one (px_ret (pd_var 3))))))
theorem known__law_stem (A : At K mg "_law_stem" s__law_stem) (T : Txt K mg)  : Known P w K mg base 1 "_law_stem" 2 sp__law_stem := by
  obtain ⟨f, fd, F, hm⟩ := A.ex
  exact ⟨f, fd, ["_law_cell", "_law_size"], fn_pure F sc__law_stem (px__law_stem T ) spec__law_stem, hm, F.kp, F.binds fun _ _ _ _ _ _ us hl => match us, hl with | [_, _], _ => rfl⟩
abbrev s__law_named : Stmt := top 7
theorem sc__law_named : FnScope ["_law_cell", "_law_size", "_law_stem_here", "_law_at", "_law_other"] ["_law_cell"] (defScope s__law_named) := ⟨rfl, rfl, rfl, by decide +kernel, rfl, by decide +kernel, by decide +kernel⟩
theorem nd__law_named_0 : (["_law_sign", "_law_stem_here", "_law_at", "_law_size"] : List Str).Nodup := by decide +kernel
theorem nd__law_named_1 : (["_law_k", "_law_stem_here", "_law_size"] : List Str).Nodup := by decide +kernel
theorem nd__law_named_2 : (["_law_k", "_law_stem_here"] : List Str).Nodup := by decide +kernel
theorem px__law_named (T : Txt K mg) (C__law_stem : Known P w K mg base 1 "_law_stem" 2 sp__law_stem) {f : Addr} (cdv : Value) (A : Around) (outer : List Env) (s : Shared) (H : Hp) (E : XK) (hr : Room 1 (A.deeper (envOfC "_law_named" (defScope s__law_named) s.heap.objs.size f cdv))) :
    PXs (cxOf CX0 P w K mg base ["_law_cell", "_law_size", "_law_stem_here", "_law_at", "_law_other"] "_law_named" (defScope s__law_named) f cdv A outer s H E).nox (defBody s__law_named) T__law_named := by
  have hu := hr.units
  exact (pxs_cons (px_setF 0 (pd_op o_mod (pd_op o_mul (pd_op o_add (pd_op o_mod (pd_var 0) (pd_op o_pow pd_int pd_int)) pd_int) pd_int) (pd_op o_add (pd_op o_pow pd_int pd_int) pd_int)) sc__law_named.nd)
      (pxs_cons (px_setF 1 (pd_op o_mod (pd_var 0) pd_int) sc__law_named.nd)
      (pxs_cons (px_setF 2 (pd_callK C__law_stem hr (pda_cons (pd_op o_fdiv (pd_var 0) pd_int) (pda_cons pd_int pda_nil))) sc__law_named.nd)
      (pxs_cons (px_setF 3 (pd_op o_mod (pd_op o_fdiv (pd_var 0) pd_int) (pd_op o_add (pd_var 1) pd_int)) sc__law_named.nd)
      (pxs_cons (px_if (pb_cmp (o_eq hu) (pd_op o_mod (pd_op o_fdiv (pd_var 0) pd_int) pd_int) pd_int) (pxs_one (px_ret (pd_comp rfl (.of (N' := ["_law_sign", "_law_stem_here", "_law_at", "_law_size"]) (m := [none, some 2, some 3, some 1]) (by kernel_rfl)) keep_name (pid_seq pd_str) (fun s3 H3 ex => (pg_nameD 0 nd__law_named_0)) (fun s3 H3 ex => ptd_nil) (fun s3 H3 ex => (pd_op o_add (pd_op o_add (pd_slice (pd_var 1) pod_none (pod_some (pd_var 2))) (pd_var 0)) (pd_slice (pd_var 1) (pod_some (pd_var 2)) (pod_some (pd_var 3)))))))) pxs_nil)
      (pxs_cons (px_if (pb_cmp (o_eq hu) (pd_op o_mod (pd_op o_fdiv (pd_var 0) pd_int) pd_int) pd_int) (pxs_one (px_ret (pd_comp rfl (.of (N' := ["_law_k", "_law_stem_here", "_law_size"]) (m := [none, some 2, some 1]) (by kernel_rfl)) keep_name (pid_range1 T.b_range (pda_cons pd_int pda_nil)) (fun s3 H3 ex => (pg_nameD 0 nd__law_named_1)) (fun s3 H3 ex => ptd_nil) (fun s3 H3 ex => (pd_op o_add (pd_op o_add (pd_op o_add (pd_slice (pd_var 1) pod_none (pod_some (pd_op o_mod (pd_var 2) pd_int))) (pd_ix pd_str (pd_op o_fdiv (pd_var 0) pd_int))) (pd_ix pd_str (pd_op o_mod (pd_op o_fdiv (pd_var 0) pd_int) pd_int))) (pd_ix pd_str (pd_op o_mod (pd_var 0) pd_int))))))) pxs_nil)
      (pxs_cons (px_setF 4 (pd_op o_add (pd_ix pd_str (pd_callTy c_int T.b_int boot_int (pda_cons (pd_cmp (o_eq hu) (pd_ix (pd_var 2) pd_int) pd_str) pda_nil))) (pd_slice (pd_var 2) (pod_some pd_int) pod_none)) sc__law_named.nd)
      (pxs_one (px_ret (pd_op o_add (pd_comp rfl (.of (N' := ["_law_k", "_law_stem_here"]) (m := [none, some 2]) (by kernel_rfl)) keep_name (pid_range1 T.b_range (pda_cons pd_int pda_nil)) (fun s3 H3 ex => (pg_nameD 0 nd__law_named_2)) (fun s3 H3 ex => ptd_nil) (fun s3 H3 ex => (pd_slice (pd_var 1) pod_none (pod_some (pd_op o_add (pd_var 0) pd_int))))) (pd_lst (pda_cons (pd_slice (pd_var 4) pod_none (pod_some pd_int)) (pda_cons (pd_slice (pd_var 4) pod_none (pod_some pd_int)) pda_nil)))))))))))))
theorem known__law_named (A : At K mg "_law_named" s__law_named) (T : Txt K mg) (C__law_stem : Known P w K mg base 1 "_law_stem" 2 sp__law_stem) : Known P w K mg base 2 "_law_named" 1 sp__law_named := by
  obtain ⟨f, fd, F, hm⟩ := A.ex
  exact ⟨f, fd, ["_law_cell"], fn_pure F sc__law_named (px__law_named T C__law_stem) spec__law_named, hm, F.kp, F.binds fun _ _ _ _ _ _ us hl => match us, hl with | [_], _ => rfl⟩
abbrev s_in_order : Stmt := top 3
theorem sc_in_order : FnScope ["pieces", "keys"] ["pieces"] (defScope s_in_order) := ⟨rfl, rfl, rfl, by decide +kernel, rfl, by decide +kernel, by decide +kernel⟩
theorem nd_in_order_0 : (["number", "piece"] : List Str).Nodup := by decide +kernel
theorem nd_in_order_1 : (["first", "last", "number"] : List Str).Nodup := by decide +kernel
theorem px_in_order (T : Txt K mg)  {f : Addr} (cdv : Value) (A : Around) (outer : List Env) (s : Shared) (H : Hp) (E : XK) (hr : Room 0 (A.deeper (envOfC "in_order" (defScope s_in_order) s.heap.objs.size f cdv))) :
    PXs (cxOf CX0 P w K mg base ["pieces", "keys"] "in_order" (defScope s_in_order) f cdv A outer s H E).nox (defBody s_in_order) T_in_order := by
  have hu := hr.units
  exact (pxs_cons (px_setF 1 (pd_callB (c_sorted64 rfl) T.b_sorted boot_sorted (pda_cons (pd_comp rfl (.of (N' := ["number", "piece"]) (m := [none, none]) (by kernel_rfl)) keep_pair (pid_enum T.b_enumerate (pda_cons (pd_var 0) pda_nil)) (fun s3 H3 ex => (pg_tupD rfl (pgs_consD (pg_nameD 0 nd_in_order_0) (pgs_consD (pg_nameD 1 nd_in_order_0) pgs_nilD)))) (fun s3 H3 ex => ptd_nil) (fun s3 H3 ex => (pd_tup (pda_cons (pd_ix (pd_var 1) pd_int) (pda_cons (pd_ix (pd_var 1) pd_int) (pda_cons (pd_var 0) pda_nil)))))) pda_nil)) sc_in_order.nd)
      (pxs_one (px_ret (pd_comp rfl (.of (N' := ["first", "last", "number"]) (m := [none, none, none]) (by kernel_rfl)) keep_triple (pid_seq (pd_var 1)) (fun s3 H3 ex => (pg_tupD rfl (pgs_consD (pg_nameD 0 nd_in_order_1) (pgs_consD (pg_nameD 1 nd_in_order_1) (pgs_consD (pg_nameD 2 nd_in_order_1) pgs_nilD))))) (fun s3 H3 ex => ptd_nil) (fun s3 H3 ex => (pd_var 2))))))
theorem known_in_order (A : At K mg "in_order" s_in_order) (T : Txt K mg)  : Known P w K mg base 1 "in_order" 1 sp_in_order := by
  obtain ⟨f, fd, F, hm⟩ := A.ex
  exact ⟨f, fd, ["pieces"], fn_pure F sc_in_order (px_in_order T ) spec_in_order, hm, F.kp, F.binds fun _ _ _ _ _ _ us hl => match us, hl with | [_], _ => rfl⟩
abbrev s_level_groups : Stmt := top 2
theorem sc_level_groups : FnScope ["pieces", "levels", "groups", "number", "key"] ["pieces", "levels"] (defScope s_level_groups) := ⟨rfl, rfl, rfl, by decide +kernel, rfl, by decide +kernel, by decide +kernel⟩
theorem nd_level_groups_0 : (["key", "groups"] : List Str).Nodup := by decide +kernel
theorem px_level_groups (T : Txt K mg) (C_in_order : Known P w K mg base 1 "in_order" 1 sp_in_order) {f : Addr} (cdv : Value) (A : Around) (outer : List Env) (s : Shared) (H : Hp) (E : XK) (hr : Room 1 (A.deeper (envOfC "level_groups" (defScope s_level_groups) s.heap.objs.size f cdv))) :
    PXs (cxOf CX0 P w K mg base ["pieces", "levels", "groups", "number", "key"] "level_groups" (defScope s_level_groups) f cdv A outer s H E).nox (defBody s_level_groups) T_level_groups := by
  have hu := hr.units
  exact (pxs_cons (px_set 2 pd_dnewT sc_level_groups.nd)
      (pxs_cons (px_for PassesOwn.never rfl (pid_seq (pd_callK C_in_order hr (pda_cons (pd_var 0) pda_nil))) (pg_nameD 3 sc_level_groups.nd)
        (pxs_cons (px_set 4 (pd_tupO (pda_cons (pd_ix (pd_var 1) (pd_var 3)) (pda_cons (pd_neg (pd_ix (pd_ix (pd_var 0) (pd_var 3)) pd_int)) pda_nil))) sc_level_groups.nd)
      (pxs_one (px_sdT hu 2 4 (pd_var 3)))))
      (pxs_frz 2 (pxs_one (px_ret (pd_comp rfl (.of (N' := ["key", "groups"]) (m := [none, some 2]) (by kernel_rfl)) keep_name (pid_seq (pd_callB (c_sortDT rfl) T.b_sorted boot_sorted (pda_cons (pd_var 2) pda_nil))) (fun s3 H3 ex => (pg_nameD 0 nd_level_groups_0)) (fun s3 H3 ex => ptd_nil) (fun s3 H3 ex => (pd_getT hu (pd_var 1) (pd_var 0)))))))))
theorem known_level_groups (A : At K mg "level_groups" s_level_groups) (T : Txt K mg) (C_in_order : Known P w K mg base 1 "in_order" 1 sp_in_order) : Known P w K mg base 2 "level_groups" 2 sp_level_groups := by
  obtain ⟨f, fd, F, hm⟩ := A.ex
  exact ⟨f, fd, ["pieces", "levels"], fn_pure F sc_level_groups (px_level_groups T C_in_order) spec_level_groups, hm, F.kp, F.binds fun _ _ _ _ _ _ us hl => match us, hl with | [_, _], _ => rfl⟩
abbrev s_strips_of : Stmt := top 4
theorem sc_strips_of : FnScope ["pieces", "group", "strips", "number", "free"] ["pieces", "group"] (defScope s_strips_of) := ⟨rfl, rfl, rfl, by decide +kernel, rfl, by decide +kernel, by decide +kernel⟩
theorem nd_strips_of_0 : (["strip", "pieces", "number"] : List Str).Nodup := by decide +kernel
theorem px_strips_of (T : Txt K mg)  {f : Addr} (cdv : Value) (A : Around) (outer : List Env) (s : Shared) (H : Hp) (E : XK) (hr : Room 0 (A.deeper (envOfC "strips_of" (defScope s_strips_of) s.heap.objs.size f cdv))) :
    PXs (cxOf CX0 P w K mg base ["pieces", "group", "strips", "number", "free"] "strips_of" (defScope s_strips_of) f cdv A outer s H E).nox (defBody s_strips_of) T_strips_of := by
  have hu := hr.units
  exact (pxs_cons (px_set 2 (pd_nilL (pd_lst pda_nil)) sc_strips_of.nd)
      (pxs_cons (px_for PassesOwn.never rfl (pid_seq (pd_var 1)) (pg_nameD 3 sc_strips_of.nd)
        (pxs_fit 4 2 3 rfl (.of (N' := ["strip", "pieces", "number"]) (m := [none, some 0, some 3]) (by kernel_rfl)) (fun s3 H3 ex => (ptd_one (pb_cmp o_lt (pd_ix (pd_ix (pd_var 1) (pd_ix (pd_var 0) (pd_neg pd_int))) pd_int) (pd_ix (pd_ix (pd_var 1) (pd_var 2)) pd_int)))) (pb_cmp (o_eq hu) (pd_lenO 4 T.b_len) pd_int) (pxs_one (px_appN 2 (pd_lst (pda_cons (pd_var 3) pda_nil)))) (fun s3 H3 ex => pg_name nd_strips_of_0 rfl (by first | exact Or.inl rfl | exact Or.inr rfl)) (fun s3 H3 ex => pe_var rfl (by first | exact Or.inl rfl | exact Or.inr (Or.inl rfl) | exact Or.inr (Or.inr rfl))) (hN := sc_strips_of.nd)))
      (pxs_one (px_retV 2))))
theorem known_strips_of (A : At K mg "strips_of" s_strips_of) (T : Txt K mg)  : Known P w K mg base 1 "strips_of" 2 sp_strips_of := by
  obtain ⟨f, fd, F, hm⟩ := A.ex
  exact ⟨f, fd, ["pieces", "group"], fn_pure F sc_strips_of (px_strips_of T ) spec_strips_of, hm, F.kp, F.binds fun _ _ _ _ _ _ us hl => match us, hl with | [_, _], _ => rfl⟩
abbrev s_by_levels : Stmt := top 1
theorem sc_by_levels : FnScope ["pieces", "levels", "tracks", "track", "group", "strip", "number"] ["pieces", "levels"] (defScope s_by_levels) := ⟨rfl, rfl, rfl, by decide +kernel, rfl, by decide +kernel, by decide +kernel⟩
theorem nd_by_levels_0 : (["piece"] : List Str).Nodup := by decide +kernel
theorem px_by_levels (T : Txt K mg) (C_level_groups : Known P w K mg base 2 "level_groups" 2 sp_level_groups) (C_strips_of : Known P w K mg base 1 "strips_of" 2 sp_strips_of) {f : Addr} (cdv : Value) (A : Around) (outer : List Env) (s : Shared) (H : Hp) (E : XK) (hr : Room 2 (A.deeper (envOfC "by_levels" (defScope s_by_levels) s.heap.objs.size f cdv))) :
    PXs (cxOf CX0 P w K mg base ["pieces", "levels", "tracks", "track", "group", "strip", "number"] "by_levels" (defScope s_by_levels) f cdv A outer s H E).nox (defBody s_by_levels) T_by_levels := by
  have hu := hr.units
  exact (pxs_cons (px_setC 2 rfl (.of (N' := ["piece"]) (m := [none]) (by kernel_rfl)) keep_name (pid_seq (pd_var 0)) (fun s3 H3 ex => (pg_nameD 0 nd_by_levels_0)) (fun s3 H3 ex => ptd_nil) (fun s3 H3 ex => pd_int) sc_by_levels.nd)
      (pxs_cons (px_setF 3 pd_int sc_by_levels.nd)
      (pxs_cons (px_for PassesOwn.never rfl (pid_seq (pd_callK C_level_groups hr (pda_cons (pd_var 0) (pda_cons (pd_var 1) pda_nil)))) (pg_nameD 4 sc_by_levels.nd)
        (pxs_one (px_for PassesOwn.never rfl (pid_seq (pd_callK C_strips_of hr (pda_cons (pd_var 0) (pda_cons (pd_var 4) pda_nil)))) (pg_nameD 5 sc_by_levels.nd)
        (pxs_cons (px_for PassesOwn.never rfl (pid_seq (pd_var 5)) (pg_nameD 6 sc_by_levels.nd)
        (pxs_one (px_setIx 2 (pd_var 6) (pd_var 3))))
      (pxs_one (px_setF 3 (pd_op o_add (pd_var 3) (pd_ix (pd_ix (pd_var 0) (pd_ix (pd_var 5) pd_int)) pd_int)) sc_by_levels.nd))))))
      (pxs_one (px_retO 2)))))
theorem known_by_levels (A : At K mg "by_levels" s_by_levels) (T : Txt K mg) (C_level_groups : Known P w K mg base 2 "level_groups" 2 sp_level_groups) (C_strips_of : Known P w K mg base 1 "strips_of" 2 sp_strips_of) : Known P w K mg base 3 "by_levels" 2 sp_by_levels := by
  obtain ⟨f, fd, F, hm⟩ := A.ex
  exact ⟨f, fd, ["pieces", "levels"], fn_pure F sc_by_levels (px_by_levels T C_level_groups C_strips_of) spec_by_levels, hm, F.kp, F.binds fun _ _ _ _ _ _ us hl => match us, hl with | [_, _], _ => rfl⟩
abbrev s__law_whole : Stmt := top 10
theorem sc__law_whole : FnScope ["_law_found"] ["_law_found"] (defScope s__law_whole) := ⟨rfl, rfl, rfl, by decide +kernel, rfl, by decide +kernel, by decide +kernel⟩
theorem px__law_whole (T : Txt K mg)  {f : Addr} (cdv : Value) (A : Around) (outer : List Env) (s : Shared) (H : Hp) (E : XK) (hr : Room 0 (A.deeper (envOfC "_law_whole" (defScope s__law_whole) s.heap.objs.size f cdv))) :
    PXs (cxOf CX0 P w K mg base ["_law_found"] "_law_whole" (defScope s__law_whole) f cdv A outer s H E).nox (defBody s__law_whole) T__law_whole := by
  have hu := hr.units
  exact (pxs_one (px_ret (pd_and (pd_isi (pd_var 0) T.b_isinstance T.b_int boot_int) (pd_one (pd_not (pd_isi (pd_var 0) T.b_isinstance T.b_bool boot_bool))))))
theorem known__law_whole (A : At K mg "_law_whole" s__law_whole) (T : Txt K mg)  : Known P w K mg base 1 "_law_whole" 1 sp__law_whole := by
  obtain ⟨f, fd, F, hm⟩ := A.ex
  exact ⟨f, fd, ["_law_found"], fn_pure F sc__law_whole (px__law_whole T ) spec__law_whole, hm, F.kp, F.binds fun _ _ _ _ _ _ us hl => match us, hl with | [_], _ => rfl⟩
abbrev s_law : Stmt := top 11
theorem sc_law : FnScope ["_law_script", "_law_first", "_law_pieces", "_law_levels", "_law_handed", "_law_found", "_law_base", "_law_k", "_law_wide", "_law_rows", "_law_ends", "_law_low", "_law_high", "_law_n", "_law_strip", "_law_free"] ["_law_script"] (defScope s_law) := ⟨rfl, rfl, rfl, by decide +kernel, rfl, by decide +kernel, by decide +kernel⟩
theorem nd_law_0 : (["_law_k", "_law_cell", "_law_first"] : List Str).Nodup := by decide +kernel
theorem nd_law_1 : (["_law_n", "_law_one", "_law_wide", "_law_levels", "_law_k"] : List Str).Nodup := by decide +kernel
theorem nd_law_2 : (["_law_end", "_law_low"] : List Str).Nodup := by decide +kernel
theorem nd_law_3 : (["_law_j", "_law_end", "_law_low"] : List Str).Nodup := by decide +kernel
theorem px_law (T : Txt K mg) (C__law_some : Known P w K mg base 2 "_law_some" 4 sp__law_some) (C__law_named : Known P w K mg base 2 "_law_named" 1 sp__law_named) (C__law_mix : Known P w K mg base 1 "_law_mix" 2 sp__law_mix) (C_by_levels : Known P w K mg base 3 "by_levels" 2 sp_by_levels) (C__law_whole : Known P w K mg base 1 "_law_whole" 1 sp__law_whole) {f : Addr} (cdv : Value) (A : Around) (outer : List Env) (s : Shared) (H : Hp) (E : XK) (hr : Room 3 (A.deeper (envOfC "law" (defScope s_law) s.heap.objs.size f cdv))) :
    PXs (cxOf CX0 P w K mg base ["_law_script", "_law_first", "_law_pieces", "_law_levels", "_law_handed", "_law_found", "_law_base", "_law_k", "_law_wide", "_law_rows", "_law_ends", "_law_low", "_law_high", "_law_n", "_law_strip", "_law_free"] "law" (defScope s_law) f cdv A outer s H E).nox (defBody s_law) T_law := by
  have hu := hr.units
  exact (pxs_cons (px_setF 1 (pd_op o_mod (pd_callB (c_sum rfl) T.b_sum boot_sum (pda_cons (pd_slice (pd_var 0) pod_none (pod_some pd_int)) pda_nil)) (pd_op o_pow pd_int pd_int)) sc_law.nd)
      (pxs_cons (px_setF 2 (pd_callK C__law_some hr (pda_cons (pd_callK C__law_named hr (pda_cons (pd_var 1) pda_nil)) (pda_cons (pd_var 1) (pda_cons (pd_slice (pd_var 0) (pod_some pd_int) (pod_some pd_int)) (pda_cons (pd_cmp (o_eq hu) (pd_op o_mod (pd_var 1) pd_int) pd_int) pda_nil))))) sc_law.nd)
      (pxs_cons (px_setF 3 (pd_comp rfl (.of (N' := ["_law_k", "_law_cell", "_law_first"]) (m := [none, none, some 1]) (by kernel_rfl)) keep_pair (pid_enum T.b_enumerate (pda_cons (pd_slice (pd_var 0) (pod_some pd_int) (pod_some pd_int)) pda_nil)) (fun s3 H3 ex => (pg_tupD rfl (pgs_consD (pg_nameD 0 nd_law_0) (pgs_consD (pg_nameD 1 nd_law_0) pgs_nilD)))) (fun s3 H3 ex => ptd_nil) (fun s3 H3 ex => (pd_op o_mod (pd_callK C__law_mix hr (pda_cons (pd_var 1) (pda_cons (pd_op o_add (pd_var 0) pd_int) pda_nil))) (pd_op o_add pd_int (pd_op o_mod (pd_op o_fdiv (pd_var 2) pd_int) pd_int))))) sc_law.nd)
      (pxs_cons (px_setF 4 (pd_lst (pda_cons (pd_callTy c_list T.b_list boot_list (pda_cons (pd_var 2) pda_nil)) (pda_cons (pd_callTy c_list T.b_list boot_list (pda_cons (pd_var 3) pda_nil)) pda_nil))) sc_law.nd)
      (pxs_cons (px_set 5 (pd_callK C_by_levels hr (pda_cons (pd_ix (pd_var 4) pd_int) (pda_cons (pd_ix (pd_var 4) pd_int) pda_nil))) sc_law.nd)
      (pxs_cons (px_if (pw_or' (pb_cmp (o_ne hu) (pd_var 4) (pd_lst (pda_cons (pd_var 2) (pda_cons (pd_var 3) pda_nil)))) (pw_or' (pb_not (pb_val (pd_lend 5 (pd_isi (pd_var 5) T.b_isinstance T.b_list boot_list)))) (pw_or1' (pb_cmp (o_ne hu) (pd_lenO 5 T.b_len) (pd_callB c_len T.b_len boot_len (pda_cons (pd_var 2) pda_nil)))))).pb (pxs_one (px_ret pd_bl)) pxs_nil)
      (pxs_cons (px_setF 6 pd_int sc_law.nd)
      (pxs_cons (px_for PassesOwn.never rfl (pid_range1 T.b_range (pda_cons pd_int pda_nil)) (pg_nameD 7 sc_law.nd)
        (pxs_cons (px_setF 8 (pd_op o_sub pd_int (pd_op o_mod (pd_var 7) pd_int)) sc_law.nd)
      (pxs_cons (px_setCF 9 rfl (.of (N' := ["_law_n", "_law_one", "_law_wide", "_law_levels", "_law_k"]) (m := [none, none, some 8, some 3, some 7]) (by kernel_rfl)) keep_pair (pid_enum T.b_enumerate (pda_cons (pd_var 2) pda_nil)) (fun s3 H3 ex => (pg_tupD rfl (pgs_consD (pg_nameD 0 nd_law_1) (pgs_consD (pg_nameD 1 nd_law_1) pgs_nilD)))) (fun s3 H3 ex => (ptd_one (pw_and' (pb_cmp (o_eq hu) (pd_ix (pd_var 3) (pd_var 0)) (pd_op o_fdiv (pd_var 4) pd_int)) (pw_and1' (pb_cmp (o_eq hu) (pd_ix (pd_var 1) pd_int) (pd_var 2)))).pb)) (fun s3 H3 ex => (pd_tup (pda_cons (pd_ix (pd_var 1) pd_int) (pda_cons (pd_ix (pd_var 1) pd_int) (pda_cons (pd_var 0) pda_nil))))) sc_law.nd)
      (pxs_cons (px_set 10 (pd_lst pda_nil) sc_law.nd)
      (pxs_cons (px_for PassesOwn.never rfl (pid_seq (pd_callB (c_sorted64 rfl) T.b_sorted boot_sorted (pda_cons (pd_var 9) pda_nil))) (pg_tupD rfl (pgs_consD (pg_nameD 11 sc_law.nd) (pgs_consD (pg_nameD 12 sc_law.nd) (pgs_consD (pg_nameD 13 sc_law.nd) pgs_nilD))))
        (pxs_cons (px_setF 14 (pd_lend 10 (pd_callB c_len T.b_len boot_len (pda_cons (pd_comp rfl (.of (N' := ["_law_end", "_law_low"]) (m := [none, some 11]) (by kernel_rfl)) keep_name (pid_seq (pd_var 10)) (fun s3 H3 ex => (pg_nameD 0 nd_law_2)) (fun s3 H3 ex => (ptd_one (pb_cmp o_ge (pd_var 0) (pd_var 1)))) (fun s3 H3 ex => (pd_var 0))) pda_nil))) sc_law.nd)
      (pxs_cons (px_setCW 10 15 rfl (.of (N' := ["_law_j", "_law_end", "_law_low"]) (m := [none, none, some 11]) (by kernel_rfl)) keep_pair (pid_enum T.b_enumerate (pda_cons (pd_var 10) pda_nil)) (fun s3 H3 ex => (pg_tupD rfl (pgs_consD (pg_nameD 0 nd_law_3) (pgs_consD (pg_nameD 1 nd_law_3) pgs_nilD)))) (fun s3 H3 ex => (ptd_one (pb_cmp o_lt (pd_var 1) (pd_var 2)))) (fun s3 H3 ex => (pd_var 0)) sc_law.nd)
      (pxs_frz 15 (pxs_cons (px_if (pb_cmp o_gt (pd_callB c_len T.b_len boot_len (pda_cons (pd_var 15) pda_nil)) pd_int) (pxs_one (px_setF 14 (pd_ix (pd_var 15) pd_int) sc_law.nd)) pxs_nil)
      (pxs_cons (px_if (pw_or' (pb_not (pb_val (pd_callK C__law_whole hr (pda_cons (pd_ixO 5 (pd_var 13)) pda_nil)))) (pw_or1' (pb_cmp (o_ne hu) (pd_ixO 5 (pd_var 13)) (pd_op o_add (pd_var 6) (pd_op o_mul (pd_var 14) (pd_var 8)))))).pb (pxs_one (px_ret pd_bl)) pxs_nil)
      (pxs_cons (px_if (pb_cmp (o_eq hu) (pd_var 14) (pd_lenO 10 T.b_len)) (pxs_one (px_app 10 (pd_var 12))) pxs_nil)
      (pxs_one (px_setIx 10 (pd_var 14) (pd_var 12))))))))))
      (pxs_one (px_setF 6 (pd_op o_add (pd_var 6) (pd_op o_mul (pd_var 8) (pd_lenO 10 T.b_len))) sc_law.nd)))))))
      (pxs_cons (px_app 5 pd_int)
      (pxs_one (px_ret (pd_cmp (o_eq hu) (pd_var 4) (pd_lst (pda_cons (pd_var 2) (pda_cons (pd_var 3) pda_nil)))))))))))))))
theorem law_ok {fa : Addr} (T : Txt K mg)  (A__law_mix : At K mg "_law_mix" s__law_mix) (A__law_some : At K mg "_law_some" s__law_some) (A__law_stem : At K mg "_law_stem" s__law_stem) (A__law_named : At K mg "_law_named" s__law_named) (A_in_order : At K mg "in_order" s_in_order) (A_level_groups : At K mg "level_groups" s_level_groups) (A_strips_of : At K mg "strips_of" s_strips_of) (A_by_levels : At K mg "by_levels" s_by_levels) (A__law_whole : At K mg "_law_whole" s__law_whole) (A_law : At K mg "law" s_law) (hmg : mg "law" = some (.ref fa)) : ∃ fd : FuncData, (∀ (s : Shared) (u : Value), BindsTo s fd ⟨[u], []⟩ [("_law_script", u)]) ∧ ∀ base : Heap, FnOk P w K mg base CX0 4 fa fd ["_law_script"] (PSp K 1 (LawSp 63)) := by
  refine law_mk (T := fun _ => T_law) A_law hmg sc_law (fun _ _ _ _ _ _ us hl => match us, hl with | [_], _ => rfl) (fun base f cdv A outer s H E hr => ?_) (fun _ => spec_law)
  have C__law_mix : Known P w K mg base 1 "_law_mix" 2 sp__law_mix := known__law_mix A__law_mix T 
  have C__law_some : Known P w K mg base 2 "_law_some" 4 sp__law_some := known__law_some A__law_some T C__law_mix
  have C__law_stem : Known P w K mg base 1 "_law_stem" 2 sp__law_stem := known__law_stem A__law_stem T 
  have C__law_named : Known P w K mg base 2 "_law_named" 1 sp__law_named := known__law_named A__law_named T C__law_stem
  have C_in_order : Known P w K mg base 1 "in_order" 1 sp_in_order := known_in_order A_in_order T 
  have C_level_groups : Known P w K mg base 2 "level_groups" 2 sp_level_groups := known_level_groups A_level_groups T C_in_order
  have C_strips_of : Known P w K mg base 1 "strips_of" 2 sp_strips_of := known_strips_of A_strips_of T 
  have C_by_levels : Known P w K mg base 3 "by_levels" 2 sp_by_levels := known_by_levels A_by_levels T C_level_groups C_strips_of
  have C__law_whole : Known P w K mg base 1 "_law_whole" 1 sp__law_whole := known__law_whole A__law_whole T 
  exact px_law T C__law_some C__law_named C__law_mix C_by_levels C__law_whole cdv A outer s H E hr
end
end Wc
open PySem PySem.W PyProof.Rows
set_option maxRecDepth 100000 in
set_option maxHeartbeats 0 in
theorem PySem.Challenge.cw_wirechannel_k31_strips_walked_holds : PySem.Challenge.rw_wirechannel_k31_strips_walked.Holds := by
  w_on; o_law; k_head; (case hw => w_witness2)
  k_fill
  refine L2.walk_pure (l := PySem.Challenge.rw_wirechannel_k31_strips_walked) (n := 63) (k := 4) (x := "_law_script") rfl (by decide) rfl ⟨rfl, by decide, by decide⟩ (fun w h Y => PySem.W.kIn_of Y) ?F
  case F =>
    intro w mg fa h KX G hmg
    have A__law_mix : L2.At (L2.KOf KX) mg "_law_mix" Wc.s__law_mix := by
      dsimp only [L2.KOf]
      refine' L2.at_mk KX G ?a ?l ?c ?k
      (case a => k_is); (case l => k_is); (case c => k_is); (case k => k_is)
    have A__law_some : L2.At (L2.KOf KX) mg "_law_some" Wc.s__law_some := by
      dsimp only [L2.KOf]
      refine' L2.at_mk KX G ?a ?l ?c ?k
      (case a => k_is); (case l => k_is); (case c => k_is); (case k => k_is)
    have A__law_stem : L2.At (L2.KOf KX) mg "_law_stem" Wc.s__law_stem := by
      dsimp only [L2.KOf]
      refine' L2.at_mk KX G ?a ?l ?c ?k
      (case a => k_is); (case l => k_is); (case c => k_is); (case k => k_is)
    have A__law_named : L2.At (L2.KOf KX) mg "_law_named" Wc.s__law_named := by
      dsimp only [L2.KOf]
      refine' L2.at_mk KX G ?a ?l ?c ?k
      (case a => k_is); (case l => k_is); (case c => k_is); (case k => k_is)
    have A_in_order : L2.At (L2.KOf KX) mg "in_order" Wc.s_in_order := by
      dsimp only [L2.KOf]
      refine' L2.at_mk KX G ?a ?l ?c ?k
      (case a => k_is); (case l => k_is); (case c => k_is); (case k => k_is)
    have A_level_groups : L2.At (L2.KOf KX) mg "level_groups" Wc.s_level_groups := by
      dsimp only [L2.KOf]
      refine' L2.at_mk KX G ?a ?l ?c ?k
      (case a => k_is); (case l => k_is); (case c => k_is); (case k => k_is)
    have A_strips_of : L2.At (L2.KOf KX) mg "strips_of" Wc.s_strips_of := by
      dsimp only [L2.KOf]
      refine' L2.at_mk KX G ?a ?l ?c ?k
      (case a => k_is); (case l => k_is); (case c => k_is); (case k => k_is)
    have A_by_levels : L2.At (L2.KOf KX) mg "by_levels" Wc.s_by_levels := by
      dsimp only [L2.KOf]
      refine' L2.at_mk KX G ?a ?l ?c ?k
      (case a => k_is); (case l => k_is); (case c => k_is); (case k => k_is)
    have A__law_whole : L2.At (L2.KOf KX) mg "_law_whole" Wc.s__law_whole := by
      dsimp only [L2.KOf]
      refine' L2.at_mk KX G ?a ?l ?c ?k
      (case a => k_is); (case l => k_is); (case c => k_is); (case k => k_is)
    have A_law : L2.At (L2.KOf KX) mg "law" Wc.s_law := by
      dsimp only [L2.KOf]
      refine' L2.at_mk KX G ?a ?l ?c ?k
      (case a => k_is); (case l => k_is); (case c => k_is); (case k => k_is)
    have T : Wc.Txt (L2.KOf KX) mg := by
      dsimp only [L2.KOf]
      refine' ⟨PySem.W.mg_none_of KX G ?b_bool, PySem.W.mg_none_of KX G ?b_enumerate, PySem.W.mg_none_of KX G ?b_int, PySem.W.mg_none_of KX G ?b_isinstance, PySem.W.mg_none_of KX G ?b_len, PySem.W.mg_none_of KX G ?b_list, PySem.W.mg_none_of KX G ?b_min, PySem.W.mg_none_of KX G ?b_range, PySem.W.mg_none_of KX G ?b_sorted, PySem.W.mg_none_of KX G ?b_sum⟩
      (case b_bool => k_is)
      (case b_enumerate => k_is)
      (case b_int => k_is)
      (case b_isinstance => k_is)
      (case b_len => k_is)
      (case b_list => k_is)
      (case b_min => k_is)
      (case b_range => k_is)
      (case b_sorted => k_is)
      (case b_sum => k_is)
    exact Wc.law_ok T A__law_mix A__law_some A__law_stem A__law_named A_in_order A_level_groups A_strips_of A_by_levels A__law_whole A_law hmg
#print axioms PySem.Challenge.cw_wirechannel_k31_strips_walked_holds
