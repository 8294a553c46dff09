import PyProof.Rows.All
import Wide.All
import OpenK.AllK
import Wide.FinOn
import Lean
import PyProof.EqAt
import PyProof.EqKinds
import PyProof.TupleCall
import PyProof.TupleKey
import PyProof.DictRoadsH
import PyProof.CompMap
import PyProof.NeKinds
import PyProof.ListNew
import PyProof.WalksMore
import PyProof.ReprLoop
import PyProof.FactsAll.list
import PyProof.FactsAll.tuple
import PyProof.Calls
import PyProof.Rows.Tup
import PyProof.Rows.SortShell
import PyProof.DictIter
import PyProof.DictWalks
import KE.KSortAsk
import KE.KSortTup
import KE.KDictSum
import KE.KRevIter
import PyProof.CollectIter
import PyProof.TupleOfGen
import PyProof.Rows.SumAny
import PyProof.Rows.SortWalk
import PyProof.Rows.TupAdd
import PyProof.StationsW
import PyProof.ExcBaseAll.ValueError
import PyProof.RulesAs
import PyProof.NsDelKeeps
import PyProof.ExcAttrAll.ValueError
import PyProof.IsiH_list
import OpenK.KDescr
import KE.KIsAll
import KE.BitLaws
import PyProof.WalkInts
import KE.KMinKey
import PyProof.Rows.TupTab
import PyProof.SetKind
import PyProof.Rows.SetFrom
import PyProof.ListRange
import PySem.Challenge.RW_nestsets_k07_whole_products_and_maps
set_option Elab.async false
set_option linter.all false
set_option maxRecDepth 100000
/-! THE HAND LAYER, for ints, bools, texts, own classes, LISTS and tuples (index, slices, in, append, pop ..), calls, loops. Paste it whole ahead of your own text; what your proof does not reach may be deleted. -/
namespace L2
open PySem PySem.Spec PyProof.Rows

/-- a key: an int or a str -/
abbrev Key := Sum Int Str
def keyIs : Key → Value → Bool
  | .inl k, v => Value.isInt k v
  | .inr x, v => Value.isStrOf x v
def keyH (w : World) : Key → Int
  | .inl k => hashInt k
  | .inr x => hashStr w x
theorem keyIs_shape : ∀ {k : Key} {v : Value}, keyIs k v = true → (∃ i t, k = Sum.inl i ∧ v = Value.int i t) ∨ (∃ x t, k = Sum.inr x ∧ v = Value.str x t)
  | .inl i, v, h => by
    obtain ⟨t, e⟩ := Value.isInt_shape (k := i) (v := v) h
    exact .inl ⟨i, t, rfl, e⟩
  | .inr x, v, h => by
    obtain ⟨t, e⟩ := Value.isStrOf_shape (x := x) (v := v) h
    exact .inr ⟨x, t, rfl, e⟩
theorem key_ll (a b : Int) : decide ((Sum.inl a : Key) = Sum.inl b) = (a == b) := by
  by_cases e : a = b
  · subst e; simp
  · have h : ¬ (Sum.inl a : Key) = Sum.inl b := fun q => e (Sum.inl.inj q)
    rw [decide_eq_false h]
    exact (beq_eq_false_iff_ne.mpr e).symm
theorem key_rr (a b : Str) : decide ((Sum.inr a : Key) = Sum.inr b) = decide (a = b) := by
  by_cases e : a = b
  · subst e; simp
  · have h : ¬ (Sum.inr a : Key) = Sum.inr b := fun q => e (Sum.inr.inj q)
    rw [decide_eq_false h, decide_eq_false e]
theorem key_lr (a : Int) (b : Str) : decide ((Sum.inl a : Key) = Sum.inr b) = false := decide_eq_false (fun q => nomatch q)
theorem key_rl (a : Str) (b : Int) : decide ((Sum.inr a : Key) = Sum.inl b) = false := decide_eq_false (fun q => nomatch q)

def mixKind (prog : Program) (w : World) : PySem.KeyKind prog w Key where
  is := keyIs
  hash := keyH w
  inj := fun v a b ha hb => by
    rcases keyIs_shape ha with ⟨i, t, rfl, rfl⟩ | ⟨x, t, rfl, rfl⟩
    · rcases keyIs_shape hb with ⟨j, u, rfl, e⟩ | ⟨y, u, rfl, e⟩
      · injection e with e1 _; rw [e1]
      · exact nomatch e
    · rcases keyIs_shape hb with ⟨j, u, rfl, e⟩ | ⟨y, u, rfl, e⟩
      · exact nomatch e
      · injection e with e1 _; rw [e1]
  byValue := fun k v h => by
    rcases keyIs_shape h with ⟨i, t, rfl, rfl⟩ | ⟨x, t, rfl, rfl⟩ <;> rfl
  pyHash := fun hv h => by
    rcases keyIs_shape hv with ⟨i, t, rfl, rfl⟩ | ⟨x, t, rfl, rfl⟩
    · exact wpAny_pyHash_int h
    · exact wpAny_pyHash_str h
  eqBool := fun hu hv h => by
    rcases keyIs_shape hu with ⟨i, t, rfl, rfl⟩ | ⟨x, t, rfl, rfl⟩
    · rcases keyIs_shape hv with ⟨j, u, rfl, rfl⟩ | ⟨y, u, rfl, rfl⟩
      · rw [key_ll] at h; exact wpAny_eqBool_int h
      · rw [key_lr] at h; exact SeqAt.EqAt.int_str i t y u _ _ _ _ h
    · rcases keyIs_shape hv with ⟨j, u, rfl, rfl⟩ | ⟨y, u, rfl, rfl⟩
      · rw [key_rl] at h; exact SeqAt.EqAt.str_int x t j u _ _ _ _ h
      · rw [key_rr] at h; exact wpAny_eqBool_str h
  «strs» := fun k x t v h => by
    rcases keyIs_shape h with ⟨i, u, rfl, e⟩ | ⟨y, u, rfl, e⟩
    · exact nomatch e
    · injection e with e1 _
      subst e1
      cases v <;> rfl

end L2

namespace L2
open PySem PySem.Spec PyProof.Rows

/-- a value, without the heap -/
inductive V where
  | non | bl (b : Bool) | int (i : Int) | str (x : Str) | byt (b : Array UInt8) | flt (b : UInt64) | ref (a : Addr) | ty (n : String)
  deriving DecidableEq

def RelV : V → Value → Prop
  | .non, u => u = Value.none
  | .bl b, u => u = Value.bool b
  | .int i, u => ∃ t, u = Value.int i t
  | .str x, u => ∃ t, u = Value.str x t
  | .byt b, u => ∃ t, u = Value.bytes b t
  | .flt b, u => ∃ t, u = Value.float b t
  | .ref a, u => u = Value.ref a
  | .ty n, u => u = Value.type n

abbrev Vals : List V → List Value → Prop := Paired RelV
theorem Vals.length {xs : List V} {us : List Value} (r : Vals xs us) : xs.length = us.length := Paired.length r
theorem Vals.get : ∀ {xs : List V} {us : List Value} {i : Nat} {x : V}, Vals xs us → xs[i]? = some x → ∃ u, us[i]? = some u ∧ RelV x u
  | _, _, _, _, .nil, e => by simp at e
  | _, _, 0, _, .cons r _, e => by simp at e; subst e; exact ⟨_, rfl, r⟩
  | _, _, i + 1, x, .cons _ t, e => by
    obtain ⟨u, h1, h2⟩ := Vals.get (i := i) (x := x) t (by simpa using e)
    exact ⟨u, by simpa using h1, h2⟩
theorem Vals.set {x : V} {u : Value} (r : RelV x u) : ∀ {xs : List V} {us : List Value} (i : Nat), Vals xs us → Vals (xs.set i x) (us.set i u)
  | _, _, _, .nil => .nil
  | _, _, 0, .cons _ t => .cons r t
  | _, _, i + 1, .cons q t => .cons q (Vals.set r i t)
theorem Vals.append : ∀ {xs ys : List V} {us ws : List Value}, Vals xs us → Vals ys ws → Vals (xs ++ ys) (us ++ ws)
  | _, _, _, _, .nil, s => s
  | _, _, _, _, .cons r t, s => .cons r (Vals.append t s)
theorem Vals.take : ∀ {xs : List V} {us : List Value} (n : Nat), Vals xs us → Vals (xs.take n) (us.take n)
  | _, _, 0, _ => .nil
  | _, _, _ + 1, .nil => .nil
  | _, _, n + 1, .cons r t => .cons r (Vals.take n t)
theorem Vals.drop : ∀ {xs : List V} {us : List Value} (n : Nat), Vals xs us → Vals (xs.drop n) (us.drop n)
  | _, _, 0, r => r
  | _, _, _ + 1, .nil => .nil
  | _, _, n + 1, .cons _ t => Vals.drop n t
def RelO : Option V → Option Value → Prop
  | some v, some u => RelV v u
  | none, none => True
  | _, _ => False
def KV {κ : Type} : List (κ × V) → List (κ × Value) → Prop := Paired fun (p : κ × V) (q : κ × Value) => p.1 = q.1 ∧ RelV p.2 q.2

/-- a key of a dict (00_mix): an int or a text -/
def kV : Key → V
  | .inl i => .int i
  | .inr x => .str x

/-- what stands at a tracked address -/
inductive HO where
  /-- a list -/
  | lst (xs : List V)
  /-- a tuple (never changes) -/
  | tup (xs : List V)
  /-- a dict whose keys are ints and texts; one whose keys are tuples of ints and texts (the empty one is both) -/
  | dK (kvs : List (Key × V)) | dT (kvs : List (List Key × V))
  /-- a set of ints: its members, its size -/
  | set (S : Int → Bool) (n : Nat)
  /-- an instance of the class at C, its dict at dx, its attributes -/
  | ins (C dx : Addr) (fs : List (Str × V))
  /-- the dict of the instance at x -/
  | own (x : Addr)
  /-- the dict of an exception -/
  | xd (fs : List (Str × V))
  /-- a bound method, f of x -/
  | met (f x : Addr)
  /-- a range object lo, lo + 1, .. below hi -/
  | rng (lo hi : Int)
  /-- a thing that is known to the object (the script; a dict while a loop walks it): read, never written while it is so -/
  | frz (o : Obj) (u : HO)
  /-- a code object's table -/
  | tbl (ps : Array Value)
  /-- any other thing, by what is true of its one object (a def of one's own: SetO a S n := HO.ext fun h => ..) -/
  | ext (φ : Heap → Prop)

abbrev Hp := Addr → Option HO
def upd (H : Hp) (a : Addr) (o : HO) : Hp := fun b => if b = a then some o else H b
theorem upd_same {H : Hp} {a : Addr} {o : HO} : upd H a o a = some o := by unfold upd; rw [if_pos rfl]
theorem upd_ne {H : Hp} {a b : Addr} {o : HO} (h : b ≠ a) : upd H a o b = H b := by unfold upd; rw [if_neg h]
/-- two objects of different content stand apart -/
theorem ne_of {H : Hp} {a b : Addr} {o u : HO} (h : H a = some o) (h' : H b = some u) (d : o ≠ u) : a ≠ b := by
  intro e; subst e; rw [h] at h'; exact d (Option.some.inj h')
theorem ne_of_none {H : Hp} {a b : Addr} {o : HO} (h : H a = some o) (h' : H b = none) : a ≠ b := by
  intro e; subst e; rw [h] at h'; cases h'

section
variable (P : Program) (w : World)
def ObjOk (H : Hp) (h : Heap) (a : Addr) : HO → Prop
  | .lst xs => xs.length ≤ sizeLine ∧ ∃ (its : List Value) (n : Nat), Vals xs its ∧ h.get? a = some { cls := .type "list", data := .seq its.toArray n }
  | .tup xs => xs.length ≤ sizeLine ∧ ∃ its : List Value, Vals xs its ∧ IsTup h a its.toArray
  | .dK kvs => kvs.length ≤ sizeLine ∧ (a == sysModules) = false ∧ ∃ vs, KV kvs vs ∧ h.DictOf (mixKind P w) a vs
  | .dT kvs => kvs.length ≤ sizeLine ∧ (a == sysModules) = false ∧ ∃ xs : List (List Key × Addr × Value),
      Paired (fun (p : List Key × V) (q : List Key × Addr × Value) => p.1 = q.1 ∧ H q.2.1 = some (.tup (p.1.map kV)) ∧ RelV p.2 q.2.2) kvs xs ∧
      ∃ o es ep, h.get? a = some o ∧ o.ExactDict ∧ o.data = .dict es ep ∧ es.toList = xs.map (entryOfKey (tupleKind (mixKind P w))) ∧ (xs.map (·.1)).Nodup
  | .set S n => h.SetOf (intKind P w) a S n
  | .ins C dx fs => H dx = some (.own a) ∧ fs.length ≤ 1000 ∧ dx ≠ a ∧ h.get? a = some (PySem.W.instObj C dx) ∧
      ∃ mA, h.Ns1 dx mA ∧ (∀ f, RelO (fs.lookup f) (mA f)) ∧ PySem.Within mA (fs.map (·.1))
  | .own _ => ∃ o, h.get? a = some o
  | .xd fs => ∃ mA, h.Ns1 a mA ∧ ∀ f, RelO (fs.lookup f) (mA f)
  | .rng lo hi => ∃ t u v, h.get? a = some { cls := .type "range", data := .fields #[.int lo t, .int hi u, .int 1 v] }
  | .frz o u => h.get? a = some o ∧ ObjOk H h a u
  | .tbl ps => h.get? a = some { cls := .none, data := .fields ps }
  | .met f x => h.get? a = some (PySem.W.methodObj (.ref f) (.ref x))
  | .ext φ => φ h ∧ (∃ o, h.get? a = some o) ∧ ∀ h1 h2 : Heap, φ h1 → (∀ o, h1.get? a = some o → h2.get? a = some o) → φ h2
/-- the abstract heap is held -/
def HOk (H : Hp) (h : Heap) : Prop := ∀ a o, H a = some o → ObjOk P w H h a o
end

section
variable {P : Program} {w : World} {H H' : Hp} {h h' : Heap} {a : Addr} {o : HO}
theorem ObjOk.lt (x : ObjOk P w H h a o) : a < h.objs.size := by
  cases o with
  | lst xs => obtain ⟨_, _, _, _, e⟩ := x; exact Heap.lt_size e
  | tup xs => obtain ⟨_, _, _, p⟩ := x; exact p.lt
  | dK kvs => obtain ⟨_, _, _, _, o, _, _, e, _⟩ := x; exact Heap.lt_size e
  | dT kvs => obtain ⟨_, _, _, _, o, _, _, e, _⟩ := x; exact Heap.lt_size e
  | set S n => obtain ⟨o, _, _, _, e, _⟩ := x; exact Heap.lt_size e
  | ins C dx fs => obtain ⟨_, _, _, e, _⟩ := x; exact Heap.lt_size e
  | own y => obtain ⟨_, e⟩ := x; exact Heap.lt_size e
  | xd fs => obtain ⟨_, ⟨_, _, _, e, _⟩, _⟩ := x; exact Heap.lt_size e
  | rng lo hi => obtain ⟨_, _, _, e⟩ := x; exact Heap.lt_size e
  | frz ob u => obtain ⟨e, _⟩ := x; exact Heap.lt_size e
  | tbl ps => exact Heap.lt_size (show h.get? a = some _ from x)
  | met f y => exact Heap.lt_size (show h.get? a = some _ from x)
  | ext φ => obtain ⟨_, ⟨_, e⟩, _⟩ := x; exact Heap.lt_size e
theorem Paired.mapP {α β : Type} {F G : α → β → Prop} : ∀ {l₁ : List α} {l₂ : List β}, Paired F l₁ l₂ → (∀ a b, F a b → G a b) → Paired G l₁ l₂
  | _, _, .nil, _ => .nil
  | _, _, .cons r t, f => .cons (f _ _ r) (Paired.mapP t f)
/-- what an object's description leans on: its own object, its own dict, the tuples -/
theorem ObjOk.stay (x : ObjOk P w H h a o) (k : ∀ b u, (b = a ∨ H b = some (.own a)) → h.get? b = some u → h'.get? b = some u)
    (ho : ∀ b, H b = some (.own a) → H' b = some (.own a)) (ht : ∀ b xs, H b = some (.tup xs) → H' b = some (.tup xs)) : ObjOk P w H' h' a o := by
  induction o with
  | lst xs => obtain ⟨z, its, n, r, e⟩ := x; exact ⟨z, its, n, r, k _ _ (.inl rfl) e⟩
  | tup xs => obtain ⟨z, its, r, ob, e, c⟩ := x; exact ⟨z, its, r, ob, k _ _ (.inl rfl) e, c⟩
  | dK kvs => obtain ⟨z, y, vs, r, ob, es, ep, e, c⟩ := x; exact ⟨z, y, vs, r, ob, es, ep, k _ _ (.inl rfl) e, c⟩
  | dT kvs =>
    obtain ⟨z, y, xs, r, ob, es, ep, e, c⟩ := x
    exact ⟨z, y, xs, Paired.mapP r fun p q z => ⟨z.1, ht _ _ z.2.1, z.2.2⟩, ob, es, ep, k _ _ (.inl rfl) e, c⟩
  | set S n => obtain ⟨ob, es, ep, t, e, c⟩ := x; exact ⟨ob, es, ep, t, k _ _ (.inl rfl) e, c⟩
  | ins C dx fs =>
    obtain ⟨d, z, ne, e, mA, ⟨od, es, ep, e2, c⟩, r⟩ := x
    exact ⟨ho _ d, z, ne, k _ _ (.inl rfl) e, mA, ⟨od, es, ep, k _ _ (.inr d) e2, c⟩, r⟩
  | own y => obtain ⟨ob, e⟩ := x; exact ⟨ob, k _ _ (.inl rfl) e⟩
  | xd fs => obtain ⟨mA, ⟨od, es, ep, e, c⟩, r⟩ := x; exact ⟨mA, ⟨od, es, ep, k _ _ (.inl rfl) e, c⟩, r⟩
  | rng lo hi => obtain ⟨t, u, v, e⟩ := x; exact ⟨t, u, v, k _ _ (.inl rfl) e⟩
  | frz ob u ih => obtain ⟨e, q⟩ := x; exact ⟨k _ _ (.inl rfl) e, ih q⟩
  | tbl ps =>
    have e : h.get? a = some { cls := .none, data := .fields ps } := x
    show h'.get? a = some { cls := .none, data := .fields ps }
    exact k a _ (.inl rfl) e
  | met f y =>
    have e : h.get? a = some (PySem.W.methodObj (.ref f) (.ref y)) := x
    show h'.get? a = some (PySem.W.methodObj (.ref f) (.ref y))
    exact k a _ (.inl rfl) e
  | ext φ => obtain ⟨p, ⟨o, e⟩, st⟩ := x; exact ⟨st _ _ p fun o q => k _ _ (.inl rfl) q, ⟨o, k _ _ (.inl rfl) e⟩, st⟩
theorem HOk.lt (x : HOk P w H h) (e : H a = some o) : a < h.objs.size := (x a o e).lt
theorem HOk.fresh (x : HOk P w H h) (e : h.objs.size ≤ a) : H a = none := by
  cases q : H a with
  | none => rfl
  | some u => exact absurd (Nat.lt_of_lt_of_le (x.lt q) e) (Nat.lt_irrefl _)
/-- every object of the heap is kept -/
theorem HOk.kept (x : HOk P w H h) (k : ∀ b u, h.get? b = some u → h'.get? b = some u) : HOk P w H h' := fun a o e =>
  (x a o e).stay (fun b u _ q => k b u q) (fun _ q => q) fun _ _ q => q
/-- a new object is laid and tracked -/
theorem HOk.laid (x : HOk P w H h) (k : ∀ b u, h.get? b = some u → h'.get? b = some u) (hp : h.objs.size ≤ a) (new : ObjOk P w (upd H a o) h' a o) : HOk P w (upd H a o) h' := fun b u e => by
  have hn := x.fresh hp
  by_cases hb : b = a
  · subst hb; rw [upd_same] at e; cases e; exact new
  · rw [upd_ne hb] at e
    exact (x b u e).stay (fun c v _ q => k c v q) (fun c q => by rw [upd_ne (ne_of_none q hn)]; exact q) fun c xs q => by rw [upd_ne (ne_of_none q hn)]; exact q
end

/-- what may be read as u: it is u, or a known u -/
def Rd (H : Hp) (a : Addr) (u : HO) : Prop := H a = some u ∨ ∃ o, H a = some (.frz o u)
theorem Rd.of {H : Hp} {a : Addr} {u : HO} (h : H a = some u) : Rd H a u := .inl h
theorem Rd.ok {P : Program} {w : World} {H : Hp} {h : Heap} {a : Addr} {u : HO} (r : Rd H a u) (x : HOk P w H h) : ObjOk P w H h a u := by
  rcases r with r | ⟨o, r⟩
  · exact x a u r
  · obtain ⟨_, q⟩ := x a _ r
    exact q
/-- what may be written -/
def Mut : Option HO → Prop
  | some (.lst _) => True
  | some (.dK _) => True
  | some (.dT _) => True
  | some (.set _ _) => True
  | some (.ins _ _ _) => True
  | some (.ext _) => True
  | _ => False
section
variable {P : Program} {w : World} {H : Hp} {h h' : Heap} {x e : Addr} {o' : HO}
/-- the object at e is changed: x itself, or the dict of the instance x -/
theorem HOk.write (ok : HOk P w H h) (mu : Mut (H x)) (he : e = x ∨ H e = some (.own x)) (k : ∀ b u, b ≠ e → h.get? b = some u → h'.get? b = some u) (heo : ∃ u, h'.get? e = some u)
    (new : ObjOk P w (upd H x o') h' x o') : HOk P w (upd H x o') h' := fun b u q => by
  have nown : ∀ c y, H c = some (.own y) → c ≠ x := fun c y r z => by subst z; rw [r] at mu; exact mu
  have ntup : ∀ c xs, H c = some (.tup xs) → c ≠ x := fun c xs r z => by subst z; rw [r] at mu; exact mu
  by_cases hb : b = x
  · subst hb; rw [upd_same] at q; cases q; exact new
  · rw [upd_ne hb] at q
    by_cases hbe : b = e
    · have q' : H b = some (.own x) := by
        rcases he with z | z
        · exact absurd (hbe.trans z) hb
        · rw [hbe]; exact z
      rw [q] at q'; cases q'
      obtain ⟨v, hv⟩ := heo
      exact ⟨v, by rw [hbe]; exact hv⟩
    · refine (ok b u q).stay (fun c v hc r => k c v ?_ r) (fun c r => by rw [upd_ne (nown c b r)]; exact r) fun c xs r => by rw [upd_ne (ntup c xs r)]; exact r
      rcases hc with rfl | hc
      · exact hbe
      · rintro rfl
        rcases he with z | z
        · exact nown c b hc z
        · rw [hc] at z; cases z; exact hb rfl
end

/-! ### kept unless tracked; of the frames at fs (the callers') the slots may change (an exception that passes writes there); of the records at ex (iterators) nothing is said -/
structure Un (fs ex : List Addr) (H H' : Hp) (h h' : Heap) : Prop where
  keep : ∀ b o, h.get? b = some o → H b = none → b ∉ fs → b ∉ ex → h'.get? b = some o
  slot : ∀ b o, h.get? b = some o → H b = none → b ∈ fs → b ∉ ex → ∃ sl, h'.get? b = some { o with slots := sl }
  free : ∀ b o, h.get? b = some o → H b = none → b ∉ ex → H' b = none
  there : ∀ b o, h.get? b = some o → b ∉ ex → ∃ o', h'.get? b = some o'
  tups : ∀ b xs, H b = some (.tup xs) → H' b = some (.tup xs)
  frzs : ∀ b o u, H b = some (.frz o u) → H' b = some (.frz o u)
  tbls : ∀ b ps, H b = some (.tbl ps) → ∃ more, H' b = some (.tbl (ps ++ more))
section
variable {fs fs' ex ex' : List Addr} {H H1 H2 : Hp} {h h1 h2 h' : Heap} {a x e : Addr} {o : HO}
theorem Un.any (u : Un fs ex H H1 h h1) {b : Addr} {ob : Obj} (q : h.get? b = some ob) (n : H b = none) (hx : b ∉ ex) : ∃ sl, h1.get? b = some { ob with slots := sl } := by
  by_cases hb : b ∈ fs
  · exact u.slot b ob q n hb hx
  · exact ⟨ob.slots, u.keep b ob q n hb hx⟩
theorem Un.trans (a : Un fs ex H H1 h h1) (b : Un fs ex H1 H2 h1 h2) : Un fs ex H H2 h h2 where
  keep := fun c ob q n hc hx => b.keep c ob (a.keep c ob q n hc hx) (a.free c ob q n hx) hc hx
  slot := fun c ob q n hc hx => by
    obtain ⟨sl, e1⟩ := a.slot c ob q n hc hx
    obtain ⟨sl', e2⟩ := b.slot c _ e1 (a.free c ob q n hx) hc hx
    exact ⟨sl', e2⟩
  free := fun c ob q n hx => by
    obtain ⟨o', e1⟩ := a.there c ob q hx
    exact b.free c o' e1 (a.free c ob q n hx) hx
  there := fun c ob q hx => by
    obtain ⟨o', e1⟩ := a.there c ob q hx
    exact b.there c o' e1 hx
  tups := fun c xs q => b.tups c xs (a.tups c xs q)
  frzs := fun c ob xs q => b.frzs c ob xs (a.frzs c ob xs q)
  tbls := fun c ps q => by
    obtain ⟨m1, e1⟩ := a.tbls c ps q
    obtain ⟨m2, e2⟩ := b.tbls c _ e1
    exact ⟨m1 ++ m2, by rw [e2, Array.append_assoc]⟩
theorem Un.kept (k : ∀ b u, h.get? b = some u → h'.get? b = some u) : Un fs ex H H h h' :=
  ⟨fun b ob q _ _ _ => k b ob q, fun b ob q _ _ _ => ⟨ob.slots, k b ob q⟩, fun _ _ _ n _ => n, fun b ob q _ => ⟨ob, k b ob q⟩, fun _ _ q => q, fun _ _ _ q => q, fun _ ps q => ⟨#[], by rw [q]; simp⟩⟩
theorem Un.refl : Un fs ex H H h h := Un.kept fun _ _ q => q
theorem Un.laid (k : ∀ b u, h.get? b = some u → h'.get? b = some u) (hp : h.objs.size ≤ a) (hn : H a = none) : Un fs ex H (upd H a o) h h' where
  keep := fun b u q _ _ _ => k b u q
  slot := fun b u q _ _ _ => ⟨u.slots, k b u q⟩
  free := fun b u q n _ => by rw [upd_ne (Nat.ne_of_lt (Nat.lt_of_lt_of_le (Heap.lt_size q) hp))]; exact n
  there := fun b u q _ => ⟨u, k b u q⟩
  tups := fun b xs q => by rw [upd_ne (ne_of_none q hn)]; exact q
  frzs := fun b u xs q => by rw [upd_ne (ne_of_none q hn)]; exact q
  tbls := fun b ps q => ⟨#[], by rw [upd_ne (ne_of_none q hn), q]; simp⟩
theorem Un.write (mu : Mut (H x)) (he : e = x ∨ H e = some (.own x)) (k : ∀ b u, b ≠ e → h.get? b = some u → h'.get? b = some u) (heo : ∃ u, h'.get? e = some u) : Un fs ex H (upd H x o) h h' := by
  have hx : ∀ b, H b = none → b ≠ x := fun b n z => by subst z; rw [n] at mu; exact mu
  have hb : ∀ b, H b = none → b ≠ e := fun b n z => by
    subst z
    rcases he with r | r
    · exact hx b n r
    · rw [n] at r; cases r
  have hm : ∀ b u, H b = some u → ¬ Mut (some u) → b ≠ x := fun b u q nm z => by subst z; rw [q] at mu; exact nm mu
  refine ⟨fun b u q n _ _ => k b u (hb b n) q, fun b u q n _ _ => ⟨u.slots, k b u (hb b n) q⟩, fun b u q n _ => by rw [upd_ne (hx b n)]; exact n, fun b u q _ => ?_,
    fun b xs q => by rw [upd_ne (hm b _ q fun z => z)]; exact q, fun b u xs q => by rw [upd_ne (hm b _ q fun z => z)]; exact q, fun b ps q => ⟨#[], by rw [upd_ne (hm b _ q fun z => z), q]; simp⟩⟩
  by_cases hbe : b = e
  · subst hbe; exact heo
  · exact ⟨u, k b u hbe q⟩
theorem Un.mono (u : Un fs ex H H1 h h1) (hs : ∀ b ∈ fs, b ∈ fs') (hx : ∀ b ∈ ex, b ∈ ex') : Un fs' ex' H H1 h h1 :=
  ⟨fun b ob q n hb he => u.keep b ob q n (fun z => hb (hs b z)) fun z => he (hx b z), fun _ _ q n _ he => u.any q n fun z => he (hx _ z), fun b ob q n he => u.free b ob q n fun z => he (hx b z), fun b ob q he => u.there b ob q fun z => he (hx b z), u.tups, u.frzs, u.tbls⟩
end

/-! ### the heap without what is tracked -/
def trk (h : Heap) (H : Hp) : List Addr := (List.range h.objs.size).filter fun a => (H a).isSome
def hidT (h : Heap) (H : Hp) : Heap := PySem.W.hideAll h (trk h H)
theorem hidT_size (h : Heap) (H : Hp) : (hidT h H).objs.size = h.objs.size := PySem.W.hideAll_size _ _
theorem hidT_get {h : Heap} {H : Hp} {b : Addr} {o : Obj} (e : h.get? b = some o) (n : H b = none) : (hidT h H).get? b = some o :=
  PySem.W.hideAll_get _ e fun hm => by
    have q : (H b).isSome = true := (List.mem_filter.mp hm).2
    rw [n] at q; simp at q
theorem of_hidT {h : Heap} {H : Hp} {b : Addr} {o : Obj} (e : (hidT h H).get? b = some o) : h.get? b = some o ∧ H b = none := by
  have e' : h.get? b = some o := PySem.W.of_hideAll (trk h H) e
  refine ⟨e', ?_⟩
  cases q : H b with
  | none => rfl
  | some x =>
    have hm : b ∈ trk h H := List.mem_filter.mpr ⟨List.mem_range.mpr (Heap.lt_size e'), by simp [q]⟩
    have z : (hidT h H).get? b = none := PySem.W.hideAll_none (trk h H) hm
    rw [z] at e; cases e

/-! ### OpenK's ledger, filled with every new object but one -/
def allNews (g h : Heap) (L : Addr) : List (Addr × Obj) := (List.range h.objs.size).filterMap fun a => if a = L ∨ (g.get? a).isSome = true then none else (h.get? a).map fun o => (a, o)
def rest (g h : Heap) (L d : Addr) : List (Addr × Obj) := (allNews g h L).filter fun p => decide (p.1 ≠ d)
end L2

namespace L2
open PySem PySem.Spec PyProof.Rows

/-- the module's facts, over the base: the heap at the law's entry without what is tracked there -/
structure Mod (K : PySem.W.Frag) (mg : Str → Option Value) (base : Heap) : Prop where
  kin : K.In base
  glob : base.Ns mainGlobals mg
  blt : ∃ mb, base.Ns builtinsNs mb ∧ ∀ x : Str, x ≠ "__name__" → mb x = bootBuiltins x
  nolimit : base.NoLimit

/-- the context: a def's body (or a comprehension's block) running. base: fixed through the whole law; s₀, H₀: the entry; outer: the frames whose slots others may change (a def's callers); stack: all frames that run;
   ex: iterators that were made ahead of the entry and are walked here (a comprehension's); fn: the names whose cells were made at the entry (a def: all; a comprehension's block: its own); calm: not within an except suite; pn: pins that every state bears; xe: what is wanted of an exception that leaves the code -/
structure Cx where
  prog : Program
  w : World
  K : PySem.W.Frag
  mg : Str → Option Value
  base : Heap
  A : Around
  N : List Str
  s₀ : Shared
  H₀ : Hp
  env : Env
  outer : List Env
  stack : List Env
  ex : List Addr
  fn : Str → Bool
  calm : Bool
  pn : List (Addr × Obj)
  xe : Value → Shared → Prop
/-- the callers' frames -/
def frs (l : List Env) : List Addr := l.filterMap (·.frame)
abbrev Cx.fs (X : Cx) : List Addr := frs X.outer

def Vis (sc : Scope) (x : Str) : Prop := sc.names.lookup x = some .local ∨ sc.names.lookup x = some .cell ∨ sc.names.lookup x = some .free
def Loc (sc : Scope) (x : Str) : Prop := sc.names.lookup x = some .local ∨ sc.names.lookup x = some .cell
def Look (env : Env) (h : Heap) (m : Str → Option Value) (x : Str) (u : Value) : Prop :=
  (env.kindOf x = some .local ∧ m x = some u) ∨ ((env.kindOf x = some .cell ∨ env.kindOf x = some .free) ∧ ∃ c, env.cells.lookup x = some c ∧ h.IsCell c (some u))

structure Cx.Ok (X : Cx) : Prop where
  mod : Mod X.K X.mg X.base
  kind : X.env.scope.kind = .function
  glob : X.env.globals = mainGlobals
  blt : X.env.builtins = builtinsNs
  above : X.s₀.heap.objs.size ≤ X.env.locals
  inj : ∀ x y c, X.env.cells.lookup x = some c → X.env.cells.lookup y = some c → x = y
  has : ∀ x, (X.env.kindOf x = some .cell ∨ X.env.kindOf x = some .free) → ∃ c, X.env.cells.lookup x = some c
  cab : ∀ x c, X.fn x = true → X.env.cells.lookup x = some c → X.s₀.heap.objs.size ≤ c
  hd : X.calm = true → X.A.handled = none
  frames : X.A.frames = some X.stack
  stk : X.stack = X.outer ∨ (X.stack = X.env :: X.outer ∧ X.env.frame = some X.env.locals)
  exf : ∀ b ∈ X.ex, b ≠ X.env.locals ∧ ∀ x c, X.env.cells.lookup x = some c → c ≠ b
  bs : ∀ b o, X.base.get? b = some o → X.s₀.heap.get? b = some o ∧ X.H₀ b = none
  bsz : X.base.objs.size ≤ X.s₀.heap.objs.size
  noex : ∀ b o, X.base.get? b = some o → b ∉ X.ex
  exfs : ∀ b ∈ X.ex, b ∉ X.fs
  funs : X.s₀.heap.FunFrames X.base X.outer
  frf : ∀ b ∈ X.fs, X.H₀ b = none

structure Inv (X : Cx) (pins : List (Addr × Obj)) (σ : List (Option V)) (H : Hp) (s : Shared) : Prop where
  ok : X.Ok
  os : s.os = X.s₀.os
  bare : AllBare s.gens
  base : Un X.fs X.ex X.H₀ H X.s₀.heap s.heap
  loc : ∃ m, s.heap.Ns X.env.locals m ∧ ∀ (i : Nat) (x : Str) (v : V), X.N[i]? = some x → σ[i]? = some (some v) → Vis X.env.scope x → ∃ u, RelV v u ∧ Look X.env s.heap m x u
  cell : ∀ x c, X.env.cells.lookup x = some c → ∃ v, s.heap.IsCell c v
  free : H X.env.locals = none
  freeC : ∀ x c, X.env.cells.lookup x = some c → H c = none
  pin : ∀ p ∈ X.pn ++ pins, s.heap.get? p.1 = some p.2 ∧ H p.1 = none ∧ p.1 ≠ X.env.locals ∧ p.1 ∉ X.fs ∧ ∀ v, p.2.data ≠ .cell v
  hok : HOk X.prog X.w H s.heap
  len : σ.length = X.N.length

section
variable {X : Cx} {pins : List (Addr × Obj)} {σ : List (Option V)} {H H' : Hp} {s : Shared} {h' : Heap}

theorem Cx.Ok.nofr (ok : X.Ok) {b : Addr} {o : Obj} (e : X.base.get? b = some o) : b ∉ X.fs := fun hb => by
  have := (ok.funs.mem hb).1
  rw [e] at this; cases this
theorem Inv.bs (I : Inv X pins σ H s) : ∀ b o, X.base.get? b = some o → s.heap.get? b = some o ∧ H b = none := fun b o e =>
  ⟨I.base.keep b o (I.ok.bs b o e).1 (I.ok.bs b o e).2 (I.ok.nofr e) (I.ok.noex b o e), I.base.free b o (I.ok.bs b o e).1 (I.ok.bs b o e).2 (I.ok.noex b o e)⟩
theorem Inv.bk (I : Inv X pins σ H s) : ∀ b o, X.base.get? b = some o → s.heap.get? b = some o := fun b o e => (I.bs b o e).1
theorem Inv.mod (I : Inv X pins σ H s) : Mod X.K X.mg X.base := I.ok.mod
theorem Inv.kIn (I : Inv X pins σ H s) : X.K.In s.heap := I.ok.mod.kin.keeps I.bk
theorem Inv.nolimit (I : Inv X pins σ H s) : s.heap.NoLimit := I.ok.mod.nolimit.keeps I.bk
/-- the frame over the base: for OpenK's rules (K.In X.base is I.mod.kin) -/
theorem Inv.fr (I : Inv X pins σ H s) : ∃ m, Fr X.base X.env.locals s.heap m :=
  let ⟨m, hn, _⟩ := I.loc
  ⟨m, hn, I.bk, Nat.le_trans I.ok.bsz I.ok.above⟩
theorem Inv.lt (I : Inv X pins σ H s) : X.env.locals < s.heap.objs.size := let ⟨_, hn, _⟩ := I.loc; hn.lt
theorem Inv.sz (I : Inv X pins σ H s) : X.s₀.heap.objs.size ≤ s.heap.objs.size := Nat.le_trans I.ok.above (Nat.le_of_lt I.lt)
theorem Inv.nofs (I : Inv X pins σ H s) {a : Addr} (h : s.heap.objs.size ≤ a) : a ∉ X.fs := fun hb => by
  obtain ⟨_, o, ho, _⟩ := I.ok.funs.mem hb
  exact absurd (Nat.lt_of_lt_of_le (Heap.lt_size ho) (Nat.le_trans I.sz h)) (Nat.lt_irrefl _)
theorem Inv.cne (I : Inv X pins σ H s) : ∀ x c, X.env.cells.lookup x = some c → c ≠ X.env.locals := fun x c e z => by
  obtain ⟨v, o, ho, hd⟩ := I.cell x c e
  obtain ⟨m, ⟨o', es, ep, ho', hd', _⟩, _⟩ := I.loc
  rw [z, ho'] at ho; cases ho; rw [hd'] at hd; cases hd
theorem Inv.funs (I : Inv X pins σ H s) : s.heap.FunFrames X.base X.outer := by
  have all : ∀ (l : List Env), (∀ b ∈ frs l, b ∈ X.fs) → X.s₀.heap.FunFrames X.base l → s.heap.FunFrames X.base l := by
    intro l
    induction l with
    | nil => intro _ _; trivial
    | cons env r ih =>
      intro hs hl
      obtain ⟨hk, ⟨L, o, hf, hn, ho, hd⟩, hr⟩ := hl
      have hL : L ∈ X.fs := hs L (by unfold frs; rw [List.filterMap_cons, hf]; exact List.mem_cons_self)
      obtain ⟨sl, e⟩ := I.base.slot L o ho (I.ok.frf L hL) hL fun z => I.ok.exfs L z hL
      exact ⟨hk, ⟨L, _, hf, hn, e, hd⟩, ih (fun b hb => hs b (by unfold frs; rw [List.filterMap_cons, hf]; exact List.mem_cons_of_mem _ hb)) hr⟩
  exact all X.outer (fun _ hb => hb) I.ok.funs

/-- the frames that run, for a call -/
theorem Inv.stack (I : Inv X pins σ H s) : s.heap.FunFrames X.base X.stack := by
  rcases I.ok.stk with e | ⟨e, hf⟩
  · rw [e]; exact I.funs
  · rw [e]
    obtain ⟨m, hn, _⟩ := I.loc
    refine .cons (by rw [I.ok.kind]; decide) hf hn ?_ I.funs
    exact Heap.get?_none_of_le (Nat.le_trans I.ok.bsz I.ok.above)
theorem Inv.stkSub (I : Inv X pins σ H s) : ∀ b ∈ frs X.stack, b ∈ X.env.locals :: X.fs := fun b hb => by
  rcases I.ok.stk with e | ⟨e, hf⟩
  · rw [e] at hb; exact List.mem_cons_of_mem _ hb
  · rw [e] at hb
    unfold frs at hb
    rw [List.filterMap_cons, hf] at hb
    exact hb
theorem Inv.stkFree (I : Inv X pins σ H s) : ∀ b ∈ frs X.stack, H b = none := fun b hb => by
  rcases List.mem_cons.mp (I.stkSub b hb) with e | hb
  · rw [e]; exact I.free
  · obtain ⟨_, o, ho, _⟩ := I.ok.funs.mem hb
    exact I.base.free b o ho (I.ok.frf b hb) fun z => I.ok.exfs b z hb

/-- THE STEP: the untracked objects but the frame and the records at ch are kept (the callers' frames up to slots), the frame's map is kept, the new abstract heap is held -/
theorem Inv.step {g' : Array GenState} {t' : Nat} {d' : Drawn} {ch : List Addr} (I : Inv X pins σ H s)
    (hch : ∀ b ∈ ch, (b ∈ X.ex ∨ X.s₀.heap.objs.size ≤ b) ∧ b ≠ X.env.locals ∧ (∀ x c, X.env.cells.lookup x = some c → c ≠ b) ∧ ∀ p ∈ X.pn ++ pins, p.1 ≠ b)
    (keep : ∀ b o, b ≠ X.env.locals → b ∉ X.fs → b ∉ ch → s.heap.get? b = some o → H b = none → h'.get? b = some o)
    (slot : ∀ b o, b ≠ X.env.locals → b ∈ X.fs → b ∉ ch → s.heap.get? b = some o → H b = none → ∃ sl, h'.get? b = some { o with slots := sl }) (free : ∀ b o, b ∉ ch → s.heap.get? b = some o → H b = none → H' b = none)
    (there : ∀ b o, b ∉ ch → s.heap.get? b = some o → ∃ o', h'.get? b = some o')
    (tups : ∀ b xs, H b = some (.tup xs) → H' b = some (.tup xs)) (frzs : ∀ b o u, H b = some (.frz o u) → H' b = some (.frz o u)) (tbls : ∀ b ps, H b = some (.tbl ps) → ∃ more, H' b = some (.tbl (ps ++ more)))
    (ns : ∀ m, s.heap.Ns X.env.locals m → h'.Ns X.env.locals m) (hok : HOk X.prog X.w H' h') (hg : AllBare g') :
    Inv X pins σ H' { s with heap := h', gens := g', drawn := d', toks := t' } := by
  have neL : ∀ b o, X.s₀.heap.get? b = some o → b ≠ X.env.locals := fun b o e => Nat.ne_of_lt (Nat.lt_of_lt_of_le (Heap.lt_size e) I.ok.above)
  have neC : ∀ b o, X.s₀.heap.get? b = some o → b ∉ X.ex → b ∉ ch := fun b o e hx hb => by
    rcases (hch b hb).1 with z | z
    · exact hx z
    · exact absurd (Nat.lt_of_lt_of_le (Heap.lt_size e) z) (Nat.lt_irrefl _)
  have cellK : ∀ x c, X.env.cells.lookup x = some c → ∀ v, s.heap.IsCell c v → h'.IsCell c v := fun x c e v ⟨o, ho, hd⟩ => by
    have nch : c ∉ ch := fun z => (hch c z).2.2.1 x c e rfl
    by_cases hc : c ∈ X.fs
    · obtain ⟨sl, q⟩ := slot c o (I.cne x c e) hc nch ho (I.freeC x c e)
      exact ⟨_, q, hd⟩
    · exact ⟨o, keep c o (I.cne x c e) hc nch ho (I.freeC x c e), hd⟩
  refine ⟨I.ok, I.os, hg, ⟨fun b o e n hb hx => ?_, fun b o e n hb hx => ?_, fun b o e n hx => ?_, fun b o e hx => ?_, fun b xs e => tups b xs (I.base.tups b xs e), fun b o xs e => frzs b o xs (I.base.frzs b o xs e), fun b ps e => ?_⟩, ?_, fun x c e => ?_, ?_, fun x c e => ?_, fun p hp => ?_, hok, I.len⟩
  · exact keep b o (neL b o e) hb (neC b o e hx) (I.base.keep b o e n hb hx) (I.base.free b o e n hx)
  · obtain ⟨sl, e1⟩ := I.base.slot b o e n hb hx
    obtain ⟨sl', e2⟩ := slot b _ (neL b o e) hb (neC b o e hx) e1 (I.base.free b o e n hx)
    exact ⟨sl', e2⟩
  · obtain ⟨o', e1⟩ := I.base.there b o e hx
    exact free b o' (neC b o e hx) e1 (I.base.free b o e n hx)
  · obtain ⟨o', e1⟩ := I.base.there b o e hx
    exact there b o' (neC b o e hx) e1
  · obtain ⟨m1, e1⟩ := I.base.tbls b ps e
    obtain ⟨m2, e2⟩ := tbls b _ e1
    exact ⟨m1 ++ m2, by rw [e2, Array.append_assoc]⟩
  · obtain ⟨m, hn, hl⟩ := I.loc
    refine ⟨m, ns m hn, fun i x v e1 e2 e3 => ?_⟩
    obtain ⟨u, r, l⟩ := hl i x v e1 e2 e3
    refine ⟨u, r, ?_⟩
    rcases l with l | ⟨k, c, e, z⟩
    · exact .inl l
    · exact .inr ⟨k, c, e, cellK x c e _ z⟩
  · obtain ⟨v, z⟩ := I.cell x c e
    exact ⟨v, cellK x c e v z⟩
  · obtain ⟨m, ⟨o, _, _, ho, _⟩, _⟩ := I.loc
    exact free _ o (fun z => (hch _ z).2.1 rfl) ho I.free
  · obtain ⟨v, o, ho, hd⟩ := I.cell x c e
    exact free c o (fun z => (hch c z).2.2.1 x c e rfl) ho (I.freeC x c e)
  · obtain ⟨e, n, ne, nf, d⟩ := I.pin p hp
    have nch : p.1 ∉ ch := fun z => (hch p.1 z).2.2.2 p hp rfl
    exact ⟨keep p.1 p.2 ne nf nch e n, free p.1 p.2 nch e n, ne, nf, d⟩
/-- .. where the frame's own object is kept too -/
theorem Inv.un {t' : Nat} (I : Inv X pins σ H s) (u : Un X.fs [] H H' s.heap h') (hok : HOk X.prog X.w H' h') : Inv X pins σ H' { s with heap := h', toks := t' } := by
  obtain ⟨m, ⟨o, es, ep, ho, r⟩, _⟩ := id I.loc
  obtain ⟨sl, hL⟩ := u.any ho I.free (by simp)
  exact I.step (g' := s.gens) (d' := s.drawn) (ch := []) (fun _ z => nomatch z) (fun b o _ hb _ e n => u.keep b o e n hb (by simp)) (fun b o _ hb _ e n => u.slot b o e n hb (by simp)) (fun b o _ e n => u.free b o e n (by simp)) (fun b o _ e => u.there b o e (by simp)) u.tups u.frzs u.tbls (fun m' hm => by
    obtain ⟨o', es', ep', ho', r'⟩ := hm
    rw [ho] at ho'; cases ho'
    exact ⟨_, es', ep', hL, r'⟩) hok I.bare
/-- behind a call (or a comprehension's block): the slots of this frame may have changed too, the records at ch may have turned -/
theorem Inv.call {g' : Array GenState} {t' : Nat} {d' : Drawn} {ch : List Addr} (I : Inv X pins σ H s) (u : Un (frs X.stack) ch H H' s.heap h') (hok : HOk X.prog X.w H' h') (hg : AllBare g')
    (hch : ∀ b ∈ ch, (b ∈ X.ex ∨ X.s₀.heap.objs.size ≤ b) ∧ b ≠ X.env.locals ∧ (∀ x c, X.env.cells.lookup x = some c → c ≠ b) ∧ ∀ p ∈ X.pn ++ pins, p.1 ≠ b) :
    Inv X pins σ H' { s with heap := h', gens := g', drawn := d', toks := t' } := by
  obtain ⟨m, ⟨o, es, ep, ho, r⟩, _⟩ := id I.loc
  obtain ⟨sl, hL⟩ := u.any ho I.free fun z => (hch _ z).2.1 rfl
  exact I.step (ch := ch) hch (fun b o hL hb hc e n => u.keep b o e n (fun z => (List.mem_cons.mp (I.stkSub b z)).elim hL hb) hc) (fun b o _ _ hc e n => u.any e n hc) (fun b o hc e n => u.free b o e n hc) (fun b o hc e => u.there b o e hc) u.tups u.frzs u.tbls (fun m' hm => by
    obtain ⟨o', es', ep', ho', r'⟩ := hm
    rw [ho] at ho'; cases ho'
    exact ⟨_, es', ep', hL, r'⟩) hok hg
/-- an untracked record of ours (an iterator) has turned -/
theorem Inv.turned {t' : Nat} {it : Addr} (I : Inv X pins σ H s) (k : ∀ b o, b ≠ it → s.heap.get? b = some o → h'.get? b = some o) (hn : H it = none) (hL : it ≠ X.env.locals)
    (h1 : it ∈ X.ex ∨ X.s₀.heap.objs.size ≤ it) (h2 : ∀ x c, X.env.cells.lookup x = some c → c ≠ it) (h3 : ∀ p ∈ X.pn ++ pins, p.1 ≠ it) : Inv X pins σ H { s with heap := h', toks := t' } := by
  have nit : ∀ b u, H b = some u → b ≠ it := fun b u e z => by rw [z, hn] at e; cases e
  refine I.step (g' := s.gens) (d' := s.drawn) (ch := [it]) (fun b hb => ?_) (fun b o _ _ hc e _ => k b o (fun z => hc (by simp [z])) e) (fun b o _ _ hc e _ => ⟨o.slots, k b o (fun z => hc (by simp [z])) e⟩) (fun _ _ _ _ n => n)
    (fun b o hc e => ⟨o, k b o (fun z => hc (by simp [z])) e⟩) (fun _ _ e => e) (fun _ _ _ e => e) (fun b ps e => ⟨#[], by rw [e]; simp⟩) (fun m hm => ?_) (fun b u e => ?_) I.bare
  · have e : b = it := by simpa using hb
    subst e
    exact ⟨h1, hL, h2, h3⟩
  · obtain ⟨o, es, ep, ho, r⟩ := hm
    exact ⟨o, es, ep, k _ o (Ne.symm hL) ho, r⟩
  · refine (I.hok b u e).stay (fun c v hc q => k c v ?_ q) (fun _ q => q) fun _ _ q => q
    rcases hc with z | z
    · rw [z]; exact nit b u e
    · exact nit c _ z
theorem Inv.tok (I : Inv X pins σ H s) (t : Nat) : Inv X pins σ H { s with toks := t } := I.un (h' := s.heap) (t' := t) Un.refl I.hok
/-- all objects kept -/
theorem Inv.kept {t' : Nat} (I : Inv X pins σ H s) (k : ∀ b u, s.heap.get? b = some u → h'.get? b = some u) : Inv X pins σ H { s with heap := h', toks := t' } := I.un (Un.kept k) (I.hok.kept k)
/-- a new object laid and tracked -/
theorem Inv.laid {a : Addr} {o : HO} {t' : Nat} (I : Inv X pins σ H s) (k : ∀ b u, s.heap.get? b = some u → h'.get? b = some u) (hp : s.heap.objs.size ≤ a) (new : ObjOk X.prog X.w (upd H a o) h' a o) :
    Inv X pins σ (upd H a o) { s with heap := h', toks := t' } := I.un (Un.laid k hp (I.hok.fresh hp)) (I.hok.laid k hp new)
/-- an object written -/
theorem Inv.write {x e : Addr} {o : HO} {t' : Nat} (I : Inv X pins σ H s) (mu : Mut (H x)) (he : e = x ∨ H e = some (.own x)) (k : ∀ b u, b ≠ e → s.heap.get? b = some u → h'.get? b = some u) (heo : ∃ u, h'.get? e = some u)
    (new : ObjOk X.prog X.w (upd H x o) h' x o) : Inv X pins σ (upd H x o) { s with heap := h', toks := t' } := I.un (Un.write mu he k heo) (I.hok.write mu he k heo new)
theorem Inv.pins_of {pins' : List (Addr × Obj)} (I : Inv X pins σ H s) (h : ∀ p ∈ pins', s.heap.get? p.1 = some p.2 ∧ H p.1 = none ∧ p.1 ≠ X.env.locals ∧ p.1 ∉ X.fs ∧ ∀ v, p.2.data ≠ .cell v) : Inv X pins' σ H s :=
  ⟨I.ok, I.os, I.bare, I.base, I.loc, I.cell, I.free, I.freeC, fun p hp => (List.mem_append.mp hp).elim (fun z => I.pin p (List.mem_append_left _ z)) (h p), I.hok, I.len⟩

theorem nodup_ix {N : List Str} (hN : N.Nodup) {i j : Nat} {x : Str} (a : N[i]? = some x) (b : N[j]? = some x) : i = j := by
  obtain ⟨h1, e1⟩ := List.getElem?_eq_some_iff.mp a
  obtain ⟨h2, e2⟩ := List.getElem?_eq_some_iff.mp b
  exact (List.getElem_inj hN).mp (e1.trans e2.symm)

/-- a name is stored; what changed -/
theorem store_ok2 {M : Model} {A : Around} {E : Value → Shared → Prop} {i : Nat} {x : Str} {v : V} {u : Value} {Q : Unit → Shared → Prop} (I : Inv X pins σ H s) (hN : X.N.Nodup) (hi : X.N[i]? = some x) (hx : Loc X.env.scope x) (r : RelV v u)
    (h : ∀ s', Inv X pins (σ.set i (some v)) H s' → (∃ a, Heap.SameBut a s.heap s'.heap ∧ (a = X.env.locals ∨ X.env.cells.lookup x = some a)) → Q () s') (hf : X.fn x = true ∨ X.env.scope.names.lookup x = some .local := by first | exact .inl rfl | exact .inr rfl | assumption) : wpAny M A (storeName X.env x u) Q E s := by
  obtain ⟨m, hn, hl⟩ := id I.loc
  have hcls : (X.env.scope.kind == .class || (X.env.scope.kind == .module && X.env.locals != X.env.globals)) = false := by rw [I.ok.kind]; rfl
  have hiσ : i < σ.length := by rw [I.len]; exact (List.getElem?_eq_some_iff.mp hi).1
  have cne := I.cne
  have tracked : ∀ {a : Addr} {h' : Heap}, (∃ o, s.heap.get? a = some o ∧ H a = none) → Heap.SameBut a s.heap h' → HOk X.prog X.w H h' := fun {a h'} ha hs b ob e => by
    obtain ⟨_, _, hfree⟩ := ha
    refine (I.hok b ob e).stay (fun c w' hc q => (hs.2 c ?_).trans q) (fun _ q => q) fun _ _ q => q
    rintro rfl
    rcases hc with rfl | hc
    · rw [hfree] at e; cases e
    · rw [hfree] at hc; cases hc
  rcases hx with hk | hk
  · refine wpAny_storeName_local hk hn (fun h' hn' hs => ?_) hcls
    obtain ⟨oL, _, _, hoL, _⟩ := id hn
    refine h _ ⟨I.ok, I.os, I.bare, ⟨fun b o e n hb hx => ?_, fun b o e n hb hx => ?_, I.base.free, fun b o e hx => ?_, I.base.tups, I.base.frzs, I.base.tbls⟩, ⟨_, hn', fun j y v' e1 e2 e3 => ?_⟩, fun y c e => ?_, I.free, I.freeC, fun p hp => ?_, tracked ⟨oL, hoL, I.free⟩ hs, by simpa using I.len⟩ ⟨_, hs, .inl rfl⟩
    · exact (hs.2 b (Nat.ne_of_lt (Nat.lt_of_lt_of_le (Heap.lt_size e) I.ok.above))).trans (I.base.keep b o e n hb hx)
    · obtain ⟨sl, e1⟩ := I.base.slot b o e n hb hx
      exact ⟨sl, (hs.2 b (Nat.ne_of_lt (Nat.lt_of_lt_of_le (Heap.lt_size e) I.ok.above))).trans e1⟩
    · obtain ⟨o', e1⟩ := I.base.there b o e hx
      exact ⟨o', (hs.2 b (Nat.ne_of_lt (Nat.lt_of_lt_of_le (Heap.lt_size e) I.ok.above))).trans e1⟩
    · by_cases hj : j = i
      · subst hj
        rw [hi] at e1; cases e1
        rw [List.getElem?_set_self hiσ] at e2
        cases e2
        exact ⟨u, r, .inl ⟨hk, by simp⟩⟩
      · rw [List.getElem?_set_ne (Ne.symm hj)] at e2
        obtain ⟨u', r', q⟩ := hl j y v' e1 e2 e3
        refine ⟨u', r', ?_⟩
        rcases q with ⟨k, e⟩ | ⟨k, c, e, z⟩
        · refine .inl ⟨k, ?_⟩
          have : y ≠ x := fun e => hj (nodup_ix hN e1 (e ▸ hi))
          simp [this, e]
        · exact .inr ⟨k, c, e, z.sameBut hs (cne y c e)⟩
    · obtain ⟨w', z⟩ := I.cell y c e
      exact ⟨w', z.sameBut hs (cne y c e)⟩
    · obtain ⟨e, n, ne, nf, d⟩ := I.pin p hp
      exact ⟨(hs.2 p.1 ne).trans e, n, ne, nf, d⟩
  · have hfn : X.fn x = true := by
      rcases hf with z | z
      · exact z
      · rw [z] at hk; cases hk
    obtain ⟨c, hc⟩ := I.ok.has x (.inl hk)
    obtain ⟨w', z⟩ := I.cell x c hc
    refine wpAny_storeName_cell I.ok.kind hk hc z (fun h' hc' hs => ?_)
    obtain ⟨oc, hoc, hocd⟩ := id z
    refine h { s with heap := h' } ⟨I.ok, I.os, I.bare, ⟨fun b o e n hb hx => ?_, fun b o e n hb hx => ?_, I.base.free, fun b o e hx => ?_, I.base.tups, I.base.frzs, I.base.tbls⟩, ⟨m, hn.sameBut hs (Ne.symm (cne x c hc)), fun j y v' e1 e2 e3 => ?_⟩, fun y c' e => ?_, I.free, I.freeC, fun p hp => ?_, tracked ⟨oc, hoc, I.freeC x c hc⟩ hs, by simpa using I.len⟩ ⟨c, hs, .inr hc⟩
    · exact (hs.2 b (Nat.ne_of_lt (Nat.lt_of_lt_of_le (Heap.lt_size e) (I.ok.cab x c hfn hc)))).trans (I.base.keep b o e n hb hx)
    · obtain ⟨sl, e1⟩ := I.base.slot b o e n hb hx
      exact ⟨sl, (hs.2 b (Nat.ne_of_lt (Nat.lt_of_lt_of_le (Heap.lt_size e) (I.ok.cab x c hfn hc)))).trans e1⟩
    · obtain ⟨o', e1⟩ := I.base.there b o e hx
      exact ⟨o', (hs.2 b (Nat.ne_of_lt (Nat.lt_of_lt_of_le (Heap.lt_size e) (I.ok.cab x c hfn hc)))).trans e1⟩
    · by_cases hj : j = i
      · subst hj
        rw [hi] at e1; cases e1
        rw [List.getElem?_set_self hiσ] at e2
        cases e2
        exact ⟨u, r, .inr ⟨.inl hk, c, hc, hc'⟩⟩
      · rw [List.getElem?_set_ne (Ne.symm hj)] at e2
        obtain ⟨u', r', q⟩ := hl j y v' e1 e2 e3
        refine ⟨u', r', ?_⟩
        rcases q with q | ⟨k, c', e, z'⟩
        · exact .inl q
        · refine .inr ⟨k, c', e, z'.sameBut hs ?_⟩
          rintro rfl
          exact hj (nodup_ix hN e1 (I.ok.inj _ _ _ e hc ▸ hi))
    · by_cases hcc : c' = c
      · subst hcc; exact ⟨_, hc'⟩
      · obtain ⟨w2, z2⟩ := I.cell y c' e
        exact ⟨w2, z2.sameBut hs hcc⟩
    · obtain ⟨e, n, ne, nf, d⟩ := I.pin p hp
      refine ⟨(hs.2 p.1 ?_).trans e, n, ne, nf, d⟩
      intro q
      rw [q, hoc] at e
      have q' : oc = p.2 := Option.some.inj e
      exact d w' (by rw [← q']; exact hocd)
theorem store_ok {M : Model} {A : Around} {E : Value → Shared → Prop} {i : Nat} {x : Str} {v : V} {u : Value} {Q : Unit → Shared → Prop} (I : Inv X pins σ H s) (hN : X.N.Nodup) (hi : X.N[i]? = some x) (hx : Loc X.env.scope x) (r : RelV v u)
    (h : ∀ s', Inv X pins (σ.set i (some v)) H s' → Q () s') (hf : X.fn x = true ∨ X.env.scope.names.lookup x = some .local := by first | exact .inl rfl | exact .inr rfl | assumption) : wpAny M A (storeName X.env x u) Q E s :=
  store_ok2 I hN hi hx r (fun s' I' _ => h s' I') hf
/-- behind a call or a block, the state as it is -/
theorem Inv.call' {s' : Shared} {ch : List Addr} (I : Inv X pins σ H s) (ho : s'.os = s.os) (u : Un (frs X.stack) ch H H' s.heap s'.heap) (hok : HOk X.prog X.w H' s'.heap) (hg : AllBare s'.gens)
    (hch : ∀ b ∈ ch, (b ∈ X.ex ∨ X.s₀.heap.objs.size ≤ b) ∧ b ≠ X.env.locals ∧ (∀ x c, X.env.cells.lookup x = some c → c ≠ b) ∧ ∀ p ∈ X.pn ++ pins, p.1 ≠ b) : Inv X pins σ H' s' := by
  obtain ⟨h', g', d', t', o'⟩ := s'
  have e : o' = s.os := ho
  subst e
  exact I.call (g' := g') (t' := t') (d' := d') u hok hg hch
end

/-! ### the judgements -/
/-- an exception: its class, its own dict's address (where it has one), the abstract heap behind it -/
abbrev XK := Value → Option Addr → Hp → Prop
abbrev St := List (Option V)
abbrev VK := V → Hp → Prop
/-- an expression's reading; a test's; an argument list's -/
abbrev TE := St → Hp → VK → Prop
abbrev TT := St → Hp → (Bool → Hp → Prop) → Prop
abbrev TA := St → Hp → (List V → Hp → Prop) → Prop
/-- what is wanted behind a statement -/
structure Ends where
  nx : St → Hp → Prop
  rt : VK
  bk : St → Hp → Prop := fun _ _ => False
  ct : St → Hp → Prop := fun _ _ => False
abbrev TS := Ends → St → Hp → Prop

def EP (X : Cx) (pins : List (Addr × Obj)) (σ : St) (Q : VK) (u : Value) (s' : Shared) : Prop := ∃ v H', Inv X pins σ H' s' ∧ RelV v u ∧ Q v H'
def TP (X : Cx) (pins : List (Addr × Obj)) (σ : St) (Q : Bool → Hp → Prop) (b : Bool) (s' : Shared) : Prop := ∃ H', Inv X pins σ H' s' ∧ Q b H'
def AP (X : Cx) (pins : List (Addr × Obj)) (σ : St) (Q : List V → Hp → Prop) (us : List Value) (s' : Shared) : Prop := ∃ vs H', Inv X pins σ H' s' ∧ Vals vs us ∧ Q vs H'
def SP (X : Cx) (pins : List (Addr × Obj)) (D : Ends) (f : Flow) (s' : Shared) : Prop :=
  match f with
  | .next => ∃ σ' H', Inv X pins σ' H' s' ∧ D.nx σ' H'
  | .brk => ∃ σ' H', Inv X pins σ' H' s' ∧ D.bk σ' H'
  | .cont => ∃ σ' H', Inv X pins σ' H' s' ∧ D.ct σ' H'
  | .ret u => ∃ v σ' H', Inv X pins σ' H' s' ∧ RelV v u ∧ D.rt v H'

def PE (X : Cx) (e : Expr) (t : TE) : Prop :=
  ∀ (pins : List (Addr × Obj)) (s : Shared) (σ : St) (H : Hp) (Q : VK), Inv X pins σ H s → t σ H Q → wpAny (model X.prog X.w) X.A (eval e X.env) (EP X pins σ Q) X.xe s
def PT (X : Cx) (e : Expr) (t : TT) : Prop :=
  ∀ (pins : List (Addr × Obj)) (s : Shared) (σ : St) (H : Hp) (Q : Bool → Hp → Prop), Inv X pins σ H s → t σ H Q → wpAny (model X.prog X.w) X.A (isTrue e X.env (eval e X.env)) (TP X pins σ Q) X.xe s
/-- a test whatever its 'whole' is (and, or) -/
def PW (X : Cx) (e : Expr) (t : TT) : Prop :=
  ∀ (whole : Sem Value) (pins : List (Addr × Obj)) (s : Shared) (σ : St) (H : Hp) (Q : Bool → Hp → Prop), Inv X pins σ H s → t σ H Q → wpAny (model X.prog X.w) X.A (isTrue e X.env whole) (TP X pins σ Q) X.xe s
theorem PW.pt {X : Cx} {e : Expr} {t : TT} (h : PW X e t) : PT X e t := h _
/-- an argument list (no star), from the left -/
def PA (X : Cx) (es : List Expr) (t : TA) : Prop :=
  ∀ (pos : Pos) (pins : List (Addr × Obj)) (s : Shared) (σ : St) (H : Hp) (Q : List V → Hp → Prop), Inv X pins σ H s → t σ H Q → wpAny (model X.prog X.w) X.A (spliced (backTo pos (starEach es X.env))) (AP X pins σ Q) X.xe s
def PS (X : Cx) (st : Stmt) (t : TS) : Prop :=
  ∀ (pins : List (Addr × Obj)) (s : Shared) (σ : St) (H : Hp) (D : Ends), Inv X pins σ H s → t D σ H → wpAny (model X.prog X.w) X.A (exec st X.env) (SP X pins D) X.xe s
def PSs (X : Cx) (st : List Stmt) (t : TS) : Prop :=
  ∀ (pins : List (Addr × Obj)) (s : Shared) (σ : St) (H : Hp) (D : Ends), Inv X pins σ H s → t D σ H → wpAny (model X.prog X.w) X.A (execs st X.env) (SP X pins D) X.xe s
/-- weaken the end -/
theorem thn {α : Type} {t : Sem α} {Q Q' : α → Shared → Prop} {M : Model} {A : Around} {E : Value → Shared → Prop} {s : Shared} (h : wpAny M A t Q E s) (hQ : ∀ a s, Q a s → Q' a s) : wpAny M A t Q' E s := wpAny_mono h hQ fun _ _ x => x
end L2

namespace L2
open PySem PySem.Spec PyProof.Rows
section
variable {X : Cx}

/-- two expressions in a row -/
theorem bin {a b : Expr} {ta tb : TE} (ha : PE X a ta) (hb : PE X b tb) {pins : List (Addr × Obj)} {s : Shared} {σ : St} {H : Hp} {R : V → V → Hp → Prop} (I : Inv X pins σ H s) (h : ta σ H fun x H1 => tb σ H1 fun y H2 => R x y H2)
    {α : Type} {Q : α → Shared → Prop} {f : Value → Value → Sem α}
    (hf : ∀ v u s2 x y H2, Inv X pins σ H2 s2 → RelV x v → RelV y u → R x y H2 → wpAny (model X.prog X.w) X.A (f v u) Q X.xe s2) :
    wpAny (model X.prog X.w) X.A (eval a X.env) (fun v s₁ => wpAny (model X.prog X.w) X.A (eval b X.env) (fun u s₂ => wpAny (model X.prog X.w) X.A (f v u) Q X.xe s₂) X.xe s₁) X.xe s := by
  refine thn (ha pins s σ H _ I h) fun v s1 ⟨x, H1, I1, r1, q1⟩ => ?_
  refine thn (hb pins s1 σ H1 _ I1 q1) fun u s2 ⟨y, H2, I2, r2, q2⟩ => ?_
  exact hf v u s2 x y H2 I2 r1 r2 q2

/-! ### names and constants -/
def tVar (i : Nat) : TE := fun σ H Q => ∃ v, σ[i]? = some (some v) ∧ Q v H
def tC (v : V) : TE := fun _ H Q => Q v H
theorem pe_var {i : Nat} {x : Str} {pos : Pos} (hN : X.N[i]? = some x) (hv : Vis X.env.scope x) (hd : (x == ("__debug__" : Str)) = false := by decide) (hcd : (x == ("__classdict__" : Str)) = false := by decide) : PE X (.Name x pos) (tVar i) := by
  intro pins s σ H Q I h
  obtain ⟨v, e, h⟩ := h
  obtain ⟨m, hn, hl⟩ := I.loc
  obtain ⟨u, r, l⟩ := hl i x v hN e hv
  have fin : EP X pins σ Q u s := ⟨v, H, I, r, h⟩
  rcases l with ⟨hk, hm⟩ | ⟨hk, c, hc, hcell⟩
  · exact wpAny_Name (wpAny_loadName_local I.ok.kind hk hn hm fin) hd
  · rcases hk with hk | hk
    · exact wpAny_Name (wpAny_loadName_cell I.ok.kind hk hc hcell fin) hd
    · exact wpAny_Name (wpAny_loadName_free I.ok.kind hk hc hcell fin hcd) hd
theorem pe_int {i j pos} : PE X (.Constant (.int i) j pos) (tC (.int i)) := fun _ _ _ H _ I h => wpAny_Constant_int ⟨.int i, H, I.tok _, ⟨_, rfl⟩, h⟩
theorem pe_bl {b j pos} : PE X (.Constant (.bool b) j pos) (tC (.bl b)) := fun _ _ _ H _ I h => Constant_bool ⟨.bl b, H, I, rfl, h⟩
theorem pe_non {j pos} : PE X (.Constant .none j pos) (tC .non) := fun _ _ _ H _ I h => Constant_none ⟨.non, H, I, rfl, h⟩
theorem pe_str {x j pos} : PE X (.Constant (.str x) j pos) (tC (.str x)) := fun _ _ _ H _ I h => Calls.Constant_str ⟨.str x, H, I.tok _, ⟨_, rfl⟩, h⟩

/-- a global name of the def -/
def Gl (X : Cx) (x : Str) : Prop := X.env.kindOf x = some .globalImplicit
theorem ld_glob {E : Value → Shared → Prop} {pins : List (Addr × Obj)} {s : Shared} {σ : St} {H : Hp} {x : Str} {u : Value} {pos : Pos} {Q : Value → Shared → Prop} (I : Inv X pins σ H s) (hg : Gl X x) (hm : X.mg x = some u) (h : Q u s)
    (hd : (x == ("__debug__" : Str)) = false := by decide) : wpAny (model X.prog X.w) X.A (eval (.Name x pos) X.env) Q E s :=
  Calls.Name_function_global I.ok.kind hg (Calls.loadGlobal_global (by rw [I.ok.glob]; exact I.mod.glob.keeps I.bk) hm h) hd
theorem ld_blt {E : Value → Shared → Prop} {pins : List (Addr × Obj)} {s : Shared} {σ : St} {H : Hp} {x : Str} {u : Value} {pos : Pos} {Q : Value → Shared → Prop} (I : Inv X pins σ H s) (hg : Gl X x) (hm : X.mg x = none) (hv : bootBuiltins x = some u) (h : Q u s)
    (hn : x ≠ "__name__" := by decide) (hd : (x == ("__debug__" : Str)) = false := by decide) : wpAny (model X.prog X.w) X.A (eval (.Name x pos) X.env) Q E s := by
  obtain ⟨mb, h1, h2⟩ := I.mod.blt
  exact Calls.Name_function_global I.ok.kind hg (Calls.loadGlobal_builtin (by rw [I.ok.glob]; exact I.mod.glob.keeps I.bk) hm (by rw [I.ok.blt]; exact h1.keeps I.bk) ((h2 x hn).trans hv) h) hd
/-- a module's constant, a class, a function, as a value -/
theorem pe_glob {x : Str} {v : V} {u : Value} {pos : Pos} (hg : Gl X x) (hm : X.mg x = some u) (r : RelV v u) (hd : (x == ("__debug__" : Str)) = false := by decide) : PE X (.Name x pos) (tC v) :=
  fun _ _ _ H _ I h => ld_glob I hg hm ⟨v, H, I, r, h⟩ hd
theorem pe_bltn {x : Str} {v : V} {u : Value} {pos : Pos} (hg : Gl X x) (hm : X.mg x = none) (hv : bootBuiltins x = some u) (r : RelV v u) (hn : x ≠ "__name__" := by decide) (hd : (x == ("__debug__" : Str)) = false := by decide) : PE X (.Name x pos) (tC v) :=
  fun _ _ _ H _ I h => ld_blt I hg hm hv ⟨v, H, I, r, h⟩ hn hd

/-! ### arithmetic -/
/-- two ints -/
def t2I (ta tb : TE) (k : Int → Int → Hp → Prop) : St → Hp → Prop := fun σ H => ta σ H fun x H1 => tb σ H1 fun y H2 => ∃ i j, x = .int i ∧ y = .int j ∧ k i j H2
def tAdd (ta tb : TE) : TE := fun σ H Q => t2I ta tb (fun i j H2 => Q (.int (i + j)) H2) σ H
def tSub (ta tb : TE) : TE := fun σ H Q => t2I ta tb (fun i j H2 => Q (.int (i - j)) H2) σ H
/-- the left factor below 2^64 -/
def tMul (ta tb : TE) : TE := fun σ H Q => t2I ta tb (fun i j H2 => (-(2 ^ 64) < i ∧ i < 2 ^ 64) ∧ Q (.int (i * j)) H2) σ H
variable {a b : Expr} {ta tb : TE} {pos : Pos}
/-! ### comparisons -/
def PC (X : Cx) (op : CmpOp) (a b : Expr) (t : TE) : Prop :=
  ∀ (pins : List (Addr × Obj)) (s : Shared) (σ : St) (H : Hp) (Q : VK), Inv X pins σ H s → t σ H Q →
    wpAny (model X.prog X.w) X.A (eval a X.env) (fun v s₁ => wpAny (model X.prog X.w) X.A (eval b X.env) (fun u s₂ => wpAny (model X.prog X.w) X.A (compareOp op v u) (EP X pins σ Q) X.xe s₂) X.xe s₁) X.xe s
def tCmp (p : Int → Int → Bool) (ta tb : TE) : TE := fun σ H Q => t2I ta tb (fun i j H2 => Q (.bl (p i j)) H2) σ H
abbrev tLt : TE → TE → TE := tCmp fun i j => decide (i < j)
abbrev tLe : TE → TE → TE := tCmp fun i j => decide (i ≤ j)
abbrev tGt : TE → TE → TE := tCmp fun i j => decide (j < i)
abbrev tGe : TE → TE → TE := tCmp fun i j => decide (j ≤ i)
abbrev tEqI : TE → TE → TE := tCmp fun i j => decide (i = j)
abbrev tNeI : TE → TE → TE := tCmp fun i j => !decide (i = j)
/-- is None -/
def tIsN (ta : TE) : TE := fun σ H Q => ta σ H fun x H1 => Q (.bl (decide (x = .non))) H1
def tNotN (ta : TE) : TE := fun σ H Q => ta σ H fun x H1 => Q (.bl (!decide (x = .non))) H1
/-- a comparison as a value, as a test -/
def tB (t : TE) : TT := fun σ H Q => t σ H fun x H1 => ∃ c, x = .bl c ∧ Q c H1
/-- an expression whose value is a bool, as a test -/
theorem pt_val {e : Expr} {t : TE} (h : PE X e t) (he : ∀ whole, isTrue e X.env whole = (do let v ← whole; standAt e.pos; holding [v] (truthy v)) := by intro _; rfl) : PT X e (tB t) := by
  intro pins s σ H Q I hw
  refine isTrue_plain (thn (h pins s σ H _ I hw) fun v s1 ⟨x, H1, I1, r1, q1⟩ => ?_) (he _)
  obtain ⟨d, rfl, q⟩ := q1
  cases r1
  exact wpAny_truthy_bool ⟨H1, I1, q⟩

/-! ### and, or, not -/
variable {tA tB' : TT} {rest : List Expr}
def tAnd (t u : TT) : TT := fun σ H Q => t σ H fun c H1 => if c = true then u σ H1 Q else Q false H1
def tOr (t u : TT) : TT := fun σ H Q => t σ H fun c H1 => if c = true then Q true H1 else u σ H1 Q
def tNot (t : TT) : TT := fun σ H Q => t σ H fun c H1 => Q (!c) H1
theorem pw_and1 (ha : PT X a tA) : PW X (.BoolOp .And [a] pos) tA := by
  intro wh pins s σ H Q I h
  refine isTrue_and (thn (ha pins s σ H Q I h) fun c s1 e => ?_)
  cases c with
  | true => exact isTrue_and_nil e
  | false => exact e
theorem pw_or1 (ha : PT X a tA) : PW X (.BoolOp .Or [a] pos) tA := by
  intro wh pins s σ H Q I h
  refine isTrue_or (thn (ha pins s σ H Q I h) fun c s1 e => ?_)
  cases c with
  | false => exact isTrue_or_nil e
  | true => exact e
theorem pw_and (ha : PT X a tA) (hb : PW X (.BoolOp .And (b :: rest) pos) tB') : PW X (.BoolOp .And (a :: b :: rest) pos) (tAnd tA tB') := by
  intro wh pins s σ H Q I h
  refine isTrue_and (thn (ha pins s σ H _ I h) fun c s1 ⟨H1, I1, q1⟩ => ?_)
  cases c with
  | true => exact hb wh pins s1 σ H1 Q I1 q1
  | false => exact ⟨H1, I1, q1⟩
theorem pw_or (ha : PT X a tA) (hb : PW X (.BoolOp .Or (b :: rest) pos) tB') : PW X (.BoolOp .Or (a :: b :: rest) pos) (tOr tA tB') := by
  intro wh pins s σ H Q I h
  refine isTrue_or (thn (ha pins s σ H _ I h) fun c s1 ⟨H1, I1, q1⟩ => ?_)
  cases c with
  | true => exact ⟨H1, I1, q1⟩
  | false => exact hb wh pins s1 σ H1 Q I1 q1
theorem pt_not (ha : PT X a tA) : PT X (.UnaryOp .Not a pos) (tNot tA) := by
  intro pins s σ H Q I h
  exact isTrue_not (ha pins s σ H (fun c H1 => Q (!c) H1) I h)
/-- .. as values (bools) -/
def tAndV (ta tb : TE) : TE := fun σ H Q => ta σ H fun x H1 => ∃ c, x = .bl c ∧ if c = true then tb σ H1 Q else Q (.bl false) H1
def tOrV (ta tb : TE) : TE := fun σ H Q => ta σ H fun x H1 => ∃ c, x = .bl c ∧ if c = true then Q (.bl true) H1 else tb σ H1 Q
def tNotV (ta : TE) : TE := fun σ H Q => ta σ H fun x H1 => ∃ c, x = .bl c ∧ Q (.bl (!c)) H1
theorem pe_one {op} {t : TE} (h : PE X a t) : PE X (.BoolOp op [a] pos) t := fun pins s σ H Q I hw => BoolOp_one (h pins s σ H Q I hw)
theorem pe_and (ha : PE X a ta) (hb : PE X (.BoolOp .And (b :: rest) pos) tb) : PE X (.BoolOp .And (a :: b :: rest) pos) (tAndV ta tb) := by
  intro pins s σ H Q I h
  refine BoolOp_and (thn (ha pins s σ H _ I h) fun v s1 ⟨x, H1, I1, r1, q1⟩ => ?_)
  obtain ⟨c, rfl, q1⟩ := q1
  cases r1
  refine wpAny_truthy_bool ?_
  cases c with
  | true => exact hb pins s1 σ H1 Q I1 q1
  | false => exact ⟨.bl false, H1, I1, rfl, q1⟩
/-- a if t else b -/
def tIf (t : TT) (ta tb : TE) : TE := fun σ H Q => t σ H fun c H1 => if c = true then ta σ H1 Q else tb σ H1 Q
end
end L2

namespace L2
open PySem PySem.Spec PyProof.Rows

/-! ### a list, a tuple that is read: tracked, frozen, or an object of the module -/
def SqL (K : PySem.W.Frag) (H : Hp) (a : Addr) (xs : List V) : Prop :=
  Rd H a (.lst xs) ∨
    ∃ (o : Obj) (its : Array Value) (n : Nat), K.lookup a = some o ∧ o.cls = .type "list" ∧ o.dict = none ∧ o.data = .seq its n ∧ its.size ≤ sizeLine ∧ Vals xs its.toList
def SqT (K : PySem.W.Frag) (H : Hp) (a : Addr) (xs : List V) : Prop :=
  Rd H a (.tup xs) ∨
    ∃ (o : Obj) (its : Array Value) (n : Nat), K.lookup a = some o ∧ o.cls = .type "tuple" ∧ o.data = .seq its n ∧ its.size ≤ sizeLine ∧ Vals xs its.toList
def absV : Value → Option V
  | .none => some .non
  | .bool b => some (.bl b)
  | .int i _ => some (.int i)
  | .str x _ => some (.str x)
  | .bytes b _ => some (.byt b)
  | .float b _ => some (.flt b)
  | .ref a => some (.ref a)
  | .type n => some (.ty n)
  | _ => none
theorem RelV.abs {x : V} {u : Value} (r : RelV x u) : absV u = some x := by
  cases x with
  | non => cases r; rfl
  | bl _ => cases r; rfl
  | int _ => obtain ⟨t, rfl⟩ := r; rfl
  | str _ => obtain ⟨t, rfl⟩ := r; rfl
  | byt _ => obtain ⟨t, rfl⟩ := r; rfl
  | flt _ => obtain ⟨t, rfl⟩ := r; rfl
  | ref _ => cases r; rfl
  | ty _ => cases r; rfl
theorem RelV.inj {x y : V} {u : Value} (r : RelV x u) (q : RelV y u) : x = y := Option.some.inj (r.abs.symm.trans q.abs)
theorem Vals.inj : ∀ {xs ys : List V} {us : List Value}, Vals xs us → Vals ys us → xs = ys
  | _, _, _, .nil, .nil => rfl
  | _, _, _, .cons r t, .cons r' t' => by rw [r.inj r', Vals.inj t t']
section
variable {X : Cx} {pins : List (Addr × Obj)} {σ : St} {H : Hp} {s : Shared} {a : Addr} {xs ys : List V}
theorem SqL.of {K : PySem.W.Frag} (h : H a = some (.lst xs)) : SqL K H a xs := .inl (.inl h)
theorem SqT.of {K : PySem.W.Frag} (h : H a = some (.tup xs)) : SqT K H a xs := .inl (.inl h)
theorem Inv.list (I : Inv X pins σ H s) (h : SqL X.K H a xs) : ∃ its : List Value, Vals xs its ∧ PlainL s.heap a its.toArray ∧ xs.length ≤ sizeLine := by
  rcases h with h | ⟨o, its, n, hk, hc, hd, hs, hz, r⟩
  · obtain ⟨z, its, n, r, e⟩ := h.ok I.hok
    exact ⟨its, r, ⟨_, n, e, rfl, rfl, rfl⟩, z⟩
  · refine ⟨its.toList, r, ⟨o, n, I.kIn a o hk, hc, hd, by simpa using hs⟩, ?_⟩
    have e := r.length
    simp only [Array.length_toList] at e
    omega
theorem Inv.tuple (I : Inv X pins σ H s) (h : SqT X.K H a xs) : ∃ its : List Value, Vals xs its ∧ IsTup s.heap a its.toArray ∧ xs.length ≤ sizeLine := by
  rcases h with h | ⟨o, its, n, hk, hc, hs, hz, r⟩
  · obtain ⟨z, its, r, p⟩ := h.ok I.hok
    exact ⟨its, r, p, z⟩
  · refine ⟨its.toList, r, ⟨o, I.kIn a o hk, hc, n, by simpa using hs⟩, ?_⟩
    have e := r.length
    simp only [Array.length_toList] at e
    omega
theorem Inv.list_inj (I : Inv X pins σ H s) (h : SqL X.K H a xs) (h' : SqL X.K H a ys) : xs = ys := by
  obtain ⟨its, r, ⟨o, n, e, _, _, d⟩, _⟩ := I.list h
  obtain ⟨its', r', ⟨o', n', e', _, _, d'⟩, _⟩ := I.list h'
  rw [e] at e'; cases e'
  rw [d] at d'
  injection d' with d1 _
  have : its = its' := by simpa using congrArg Array.toList d1
  subst this
  exact r.inj r'
theorem Inv.tuple_inj (I : Inv X pins σ H s) (h : SqT X.K H a xs) (h' : SqT X.K H a ys) : xs = ys := by
  obtain ⟨its, r, ⟨o, e, _, n, d⟩, _⟩ := I.tuple h
  obtain ⟨its', r', ⟨o', e', _, n', d'⟩, _⟩ := I.tuple h'
  rw [e] at e'; cases e'
  rw [d] at d'
  injection d' with d1 _
  have : its = its' := by simpa using congrArg Array.toList d1
  subst this
  exact r.inj r'
end

/-! ### another wish about exceptions -/
abbrev Cx.wish (X : Cx) (E : Value → Shared → Prop) : Cx := { X with xe := E }
/-- no exception leaves -/
abbrev Cx.nox (X : Cx) : Cx := X.wish fun _ _ => False
theorem Cx.Ok.wish {X : Cx} (ok : X.Ok) (E : Value → Shared → Prop) : (X.wish E).Ok :=
  ⟨ok.mod, ok.kind, ok.glob, ok.blt, ok.above, ok.inj, ok.has, ok.cab, ok.hd, ok.frames, ok.stk, ok.exf, ok.bs, ok.bsz, ok.noex, ok.exfs, ok.funs, ok.frf⟩
theorem Cx.Ok.unwish {X : Cx} {E : Value → Shared → Prop} (ok : (X.wish E).Ok) : X.Ok :=
  ⟨ok.mod, ok.kind, ok.glob, ok.blt, ok.above, ok.inj, ok.has, ok.cab, ok.hd, ok.frames, ok.stk, ok.exf, ok.bs, ok.bsz, ok.noex, ok.exfs, ok.funs, ok.frf⟩
section
variable {X : Cx} {pins : List (Addr × Obj)} {σ : St} {H : Hp} {s : Shared} {E : Value → Shared → Prop}
theorem Inv.wish (I : Inv X pins σ H s) (E : Value → Shared → Prop) : Inv (X.wish E) pins σ H s := ⟨I.ok.wish E, I.os, I.bare, I.base, I.loc, I.cell, I.free, I.freeC, I.pin, I.hok, I.len⟩
theorem Inv.unwish (I : Inv (X.wish E) pins σ H s) : Inv X pins σ H s := ⟨I.ok.unwish, I.os, I.bare, I.base, I.loc, I.cell, I.free, I.freeC, I.pin, I.hok, I.len⟩
theorem SP.unwish {D : Ends} {f : Flow} {s' : Shared} (h : SP (X.wish E) pins D f s') : SP X pins D f s' := by
  cases f with
  | next => obtain ⟨σ', H', I, q⟩ := h; exact ⟨σ', H', I.unwish, q⟩
  | brk => obtain ⟨σ', H', I, q⟩ := h; exact ⟨σ', H', I.unwish, q⟩
  | cont => obtain ⟨σ', H', I, q⟩ := h; exact ⟨σ', H', I.unwish, q⟩
  | ret u => obtain ⟨v, σ', H', I, r, q⟩ := h; exact ⟨v, σ', H', I.unwish, r, q⟩
theorem PE.nox {e : Expr} {t : TE} (h : PE X.nox e t) : PE X e t := fun pins s σ H Q I hw =>
  wpAny_mono (h pins s σ H Q (I.wish _) hw) (fun _ _ ⟨v, H', I', r, q⟩ => ⟨v, H', I'.unwish, r, q⟩) fun _ _ z => False.elim z
theorem PT.nox {e : Expr} {t : TT} (h : PT X.nox e t) : PT X e t := fun pins s σ H Q I hw =>
  wpAny_mono (h pins s σ H Q (I.wish _) hw) (fun _ _ ⟨H', I', q⟩ => ⟨H', I'.unwish, q⟩) fun _ _ z => False.elim z
theorem PSs.nox {st : List Stmt} {t : TS} (h : PSs X.nox st t) : PSs X st t := fun pins s σ H D I hw =>
  wpAny_mono (h pins s σ H D (I.wish _) hw) (fun _ _ q => q.unwish) fun _ _ z => False.elim z
end

/-! ### blocks and small statements -/
section
variable {X : Cx} {st : Stmt} {rest : List Stmt} {t u : TS} {e : Expr} {te : TE} {pos : Pos}
def tNext : TS := fun D σ H => D.nx σ H
def tSeq (t u : TS) : TS := fun D σ H => t { D with nx := u D } σ H
theorem pss_nil : PSs X [] tNext := fun _ _ σ H _ I h => wpAny_execs_nil ⟨σ, H, I, h⟩
theorem pss_cons (h1 : PS X st t) (h2 : PSs X rest u) : PSs X (st :: rest) (tSeq t u) := by
  intro pins s σ H D I h
  refine wpAny_execs_cons (thn (h1 pins s σ H { D with nx := u D } I h) fun f s1 q => ?_)
  cases f with
  | next =>
    obtain ⟨σ', H', I', q⟩ := q
    exact h2 pins s1 σ' H' D I' q
  | ret v => exact q
  | brk => exact q
  | cont => exact q
theorem pss_one (h1 : PS X st t) : PSs X [st] t := by
  intro pins s σ H D I h
  refine wpAny_execs_cons (thn (h1 pins s σ H D I h) fun f s1 q => ?_)
  cases f with
  | next => exact wpAny_execs_nil q
  | ret v => exact q
  | brk => exact q
  | cont => exact q
def tBreak : TS := fun D σ H => D.bk σ H
def tCont : TS := fun D σ H => D.ct σ H
/-- in a def's body nothing is shown -/
theorem Inv.quiet {pins : List (Addr × Obj)} {σ : St} {H : Hp} {s : Shared} (I : Inv X pins σ H s) : interactive X.env = false := by simp [interactive, I.ok.kind]
/-- an expression whose value is dropped -/
def tDrop (te : TE) : TS := fun D σ H => te σ H fun _ H1 => D.nx σ H1
theorem ps_expr (he : PE X e te) (hs : swapsWith e none pos.line X.env = pure false := by rfl) : PS X (.Expr e pos) (tDrop te) := by
  intro pins s σ H D I h
  exact wpAny_Expr_any (thn (he pins s σ H _ I h) fun v s1 ⟨x, H1, I1, r1, q1⟩ => ⟨σ, H1, I1, q1⟩) I.quiet hs
def tRet (te : TE) : TS := fun D σ H => te σ H D.rt
theorem ps_ret (he : PE X e te) : PS X (.Return (some e) pos) (tRet te) := by
  intro pins s σ H D I h
  exact wpAny_Return_some (thn (he pins s σ H _ I h) fun v s1 ⟨x, H1, I1, r1, q1⟩ => ⟨x, σ, H1, I1, r1, q1⟩)
def tRetN : TS := fun D _ H => D.rt .non H
def tIfS (c : TT) (t u : TS) : TS := fun D σ H => c σ H fun b H1 => if b = true then t D σ H1 else u D σ H1
theorem ps_if {c : Expr} {a b : List Stmt} {tc : TT} (hc : PT X c tc) (ha : PSs X a t) (hb : PSs X b u) : PS X (.If c a b pos) (tIfS tc t u) := by
  intro pins s σ H D I h
  refine wpAny_If (thn (hc pins s σ H _ I h) fun d s1 ⟨H1, I1, q1⟩ => ?_)
  cases d with
  | true => exact ha pins s1 σ H1 D I1 q1
  | false => exact hb pins s1 σ H1 D I1 q1
/-- code that the proof never comes to -/
def tNever : TS := fun _ _ _ => False
end

/-! ### targets -/
abbrev TG := V → St → Hp → (St → Hp → Prop) → Prop
abbrev TGs := List V → St → Hp → (St → Hp → Prop) → Prop
def PG (X : Cx) (target : Expr) (t : TG) : Prop :=
  ∀ (pins : List (Addr × Obj)) (s : Shared) (σ : St) (H : Hp) (v : V) (u : Value) (Q : St → Hp → Prop), Inv X pins σ H s → RelV v u → t v σ H Q →
    wpAny (model X.prog X.w) X.A (assign target X.env u) (fun _ s' => ∃ σ' H', Inv X pins σ' H' s' ∧ Q σ' H') X.xe s
/-- several targets, one after another -/
def PGs (X : Cx) (ts : List Expr) (t : TGs) : Prop :=
  ∀ (pins : List (Addr × Obj)) (s : Shared) (σ : St) (H : Hp) (vs : List V) (us : List Value) (Q : St → Hp → Prop), Inv X pins σ H s → Vals vs us → t vs σ H Q →
    wpAny (model X.prog X.w) X.A (assignInOrder ((assignEach ts X.env).map (·.2)) us) (fun _ s' => ∃ σ' H', Inv X pins σ' H' s' ∧ Q σ' H') X.xe s
/-- o[i] = v, by values -/
abbrev TSet := V → V → V → Hp → (Hp → Prop) → Prop
def PSet (X : Cx) (t : TSet) : Prop :=
  ∀ (pins : List (Addr × Obj)) (s : Shared) (σ : St) (H : Hp) (o i v : V) (ov iv u : Value) (Q : Hp → Prop), Inv X pins σ H s → RelV o ov → RelV i iv → RelV v u → t o i v H Q →
    wpAny (model X.prog X.w) X.A (setItem ov iv u) (fun _ s' => ∃ H', Inv X pins σ H' s' ∧ Q H') X.xe s
/-- a op= b, by values -/
abbrev TIp := V → V → Hp → VK → Prop
def PIp (X : Cx) (op : Operator) (t : TIp) : Prop :=
  ∀ (pins : List (Addr × Obj)) (s : Shared) (σ : St) (H : Hp) (x y : V) (v u : Value) (Q : VK), Inv X pins σ H s → RelV x v → RelV y u → t x y H Q →
    wpAny (model X.prog X.w) X.A (inplaceOp op v u) (EP X pins σ Q) X.xe s
section
variable {X : Cx} {pos : Pos}
def gName (i : Nat) : TG := fun v σ H Q => Q (σ.set i (some v)) H
theorem pg_name {i : Nat} {x : Str} (hN : X.N.Nodup) (hi : X.N[i]? = some x) (hx : Loc X.env.scope x) (hf : X.fn x = true ∨ X.env.scope.names.lookup x = some .local := by first | exact .inl rfl | exact .inr rfl | assumption) : PG X (.Name x pos) (gName i) := by
  intro pins s σ H v u Q I r h
  exact wpAny_assign_Name (store_ok I hN hi hx r (fun s' I' => ⟨_, H, I', h⟩) hf)
def gNil : TGs := fun vs σ H Q => vs = [] ∧ Q σ H
def gCons (t : TG) (u : TGs) : TGs := fun vs σ H Q => ∃ v r, vs = v :: r ∧ t v σ H fun σ' H' => u r σ' H' Q
theorem pgs_nil : PGs X [] gNil := by
  intro pins s σ H vs us Q I r h
  obtain ⟨e, h⟩ := h
  subst e
  cases r
  exact assignInOrder_nil ⟨σ, H, I, h⟩
theorem pgs_cons {e : Expr} {es : List Expr} {t : TG} {u : TGs} (h1 : PG X e t) (h2 : PGs X es u)
    (hs : (assignEach (e :: es) X.env).map (·.2) = assign e X.env :: (assignEach es X.env).map (·.2) := by rfl) : PGs X (e :: es) (gCons t u) := by
  intro pins s σ H vs us Q I r h
  obtain ⟨v, vr, e1, h⟩ := h
  subst e1
  cases r with
  | cons r rr =>
    rw [hs]
    refine assignInOrder_cons (thn (h1 pins s σ H _ _ _ I r h) fun _ s1 ⟨σ1, H1, I1, q1⟩ => ?_)
    exact h2 pins s1 σ1 H1 _ _ Q I1 rr q1
/-- (a, b, ..) = a tuple of that length -/
def gTup (K : PySem.W.Frag) (n : Nat) (t : TGs) : TG := fun v σ H Q => ∃ a xs, v = .ref a ∧ SqT K H a xs ∧ xs.length = n ∧ t xs σ H Q
theorem pg_tup {es : List Expr} {k : Nat} {t : TGs} {n : Nat} (hc : X.calm = true) (h : PGs X es t)
    (hn : (assignEach es X.env).length = n := by rfl) (hst : (assignEach es X.env).findIdx? (·.1) = none := by rfl) : PG X (.Tuple es k pos) (gTup X.K n t) := by
  intro pins s σ H v u Q I r hw
  obtain ⟨a, xs, e1, hq, hl, hw⟩ := hw
  subst e1
  cases r
  obtain ⟨its, rv, ht, hz⟩ := I.tuple hq
  refine assign_Tuple_tuple (I.ok.hd hc) ht (by simp [hn, ← hl, rv.length]) hst fun h' hx => ?_
  have I1 : Inv X pins σ H { s with heap := h' } := I.kept (t' := s.toks) fun b o e => hx b o (Nat.ne_of_lt (Heap.lt_size e)) e
  exact h pins _ σ H xs _ Q I1 (by simpa using rv) hw
/-- o[i] = .. -/
def gSub (to ti : TE) (t : TSet) : TG := fun v σ H Q => to σ H fun o H1 => ti σ H1 fun i H2 => t o i v H2 fun H3 => Q σ H3
theorem pg_sub {o i : Expr} {to ti : TE} {t : TSet} (ho : PE X o to) (hi : PE X i ti) (hs : PSet X t)
    (ha : ∀ v, assign (.Subscript o i pos) X.env v = (do
      let ov ← holding [v] (eval o X.env)
      let iv ← holding [v, ov] (eval i X.env)
      standAt pos
      holding [v, ov, iv] (setItem ov iv v)
      release [v, ov, iv] []) := by intro _; rfl) : PG X (.Subscript o i pos) (gSub to ti t) := by
  intro pins s σ H v u Q I r h
  rw [ha]
  refine wpAny_bind (wpAny_holding (thn (ho pins s σ H _ I h) fun ov s1 ⟨x, H1, I1, r1, q1⟩ => ?_))
  refine wpAny_bind (wpAny_holding (thn (hi pins s1 σ H1 _ I1 q1) fun iv s2 ⟨y, H2, I2, r2, q2⟩ => ?_))
  refine wpAny_bind (wpAny_standAt (wpAny_bind (wpAny_holding (thn (hs pins s2 σ H2 x y v ov iv u _ I2 r1 r2 r q2) fun _ s3 ⟨H3, I3, q3⟩ => ?_))))
  exact wpAny_release ⟨σ, H3, I3, q3⟩
/-- target = value -/
def tAsg (te : TE) (g : TG) : TS := fun D σ H => te σ H fun x H1 => g x σ H1 D.nx
theorem ps_asg {tg e : Expr} {te : TE} {g : TG} (he : PE X e te) (hg : PG X tg g) (hs : swapsWithSole [tg] e pos.line X.env = pure false := by rfl) (hw : swappedStores [tg] e X.env = pure none := by rfl)
    (h1 : (assignEach [tg] X.env).map (·.2) = [assign tg X.env] := by rfl) : PS X (.Assign [tg] e pos) (tAsg te g) := by
  intro pins s σ H D I h
  refine wpAny_Assign_stores (thn (he pins s σ H _ I h) fun v s1 ⟨x, H1, I1, r1, q1⟩ => ?_) hs hw
  rw [h1]
  exact thn (hg pins s1 σ H1 x v _ I1 r1 q1) fun _ s2 q => q
/-- name = value -/
theorem ps_set {i : Nat} {x : Str} {e : Expr} {te : TE} {pos' : Pos} (hN : X.N.Nodup) (hi : X.N[i]? = some x) (hx : Loc X.env.scope x) (he : PE X e te) (hs : swapsWith e (some (.Name x pos')) pos.line X.env = pure false := by rfl) (hf : X.fn x = true ∨ X.env.scope.names.lookup x = some .local := by first | exact .inl rfl | exact .inr rfl | assumption) :
    PS X (.Assign [.Name x pos'] e pos) (tAsg te (gName i)) := by
  intro pins s σ H D I h
  refine wpAny_Assign_Name (thn (he pins s σ H _ I h) fun v s1 ⟨y, H1, I1, r1, q1⟩ => ?_) hs
  exact store_ok I1 hN hi hx r1 (fun s2 I2 => ⟨_, H1, I2, q1⟩) hf
/-- a, b = x, y with plain local names: stored from the right; the pair itself is not tracked (the opening rows as in PyProof/Rows/TupAssign.lean:23) -/
def tPar (i j : Nat) (ta : TA) : TS := fun D σ H => ta σ H fun vs H1 => ∃ v w, vs = [v, w] ∧ D.nx ((σ.set i (some v)).set j (some w)) H1
/-- name op= e -/
def tAug (i : Nat) (te : TE) (ti : TIp) : TS := fun D σ H => ∃ x, σ[i]? = some (some x) ∧ te σ H fun y H1 => ti x y H1 fun z H2 => D.nx (σ.set i (some z)) H2
/-- o[i] op= e -/
def tAugS (to ti te : TE) (tget : V → V → Hp → VK → Prop) (tip : TIp) (tset : TSet) : TS := fun D σ H => to σ H fun o H1 => ti σ H1 fun i H2 => tget o i H2 fun x H3 => te σ H3 fun y H4 => tip x y H4 fun z H5 => tset o i z H5 fun H6 => D.nx σ H6
/-- o[i], by values -/
def PGet (X : Cx) (t : V → V → Hp → VK → Prop) : Prop :=
  ∀ (pins : List (Addr × Obj)) (s : Shared) (σ : St) (H : Hp) (o i : V) (ov iv : Value) (Q : VK), Inv X pins σ H s → RelV o ov → RelV i iv → t o i H Q →
    wpAny (model X.prog X.w) X.A (getItem ov iv) (EP X pins σ Q) X.xe s
/-- ints -/
def ipI (f : Int → Int → Int) : TIp := fun x y H Q => ∃ i j, x = .int i ∧ y = .int j ∧ Q (.int (f i j)) H
end

/-! ### while -/
section
variable {X : Cx} {pos : Pos}
/-- the invariant W with its measure -/
def tWhile (c : TT) (tb : TS) : TS := fun D σ H => ∃ W : Nat → St → Hp → Prop, (∃ m, W m σ H) ∧ ∀ m σ H, W m σ H →
  c σ H fun b H1 => if b = true then ∃ N : St → Hp → Prop, (∀ σ' H', N σ' H' → ∃ m', m' < m ∧ W m' σ' H') ∧ tb { D with nx := N, ct := N, bk := D.nx } σ H1 else D.nx σ H1
end

/-! ### what a loop or a comprehension walks -/
/-- at turn i: it yields x (the heap may grow), or it stops -/
structure It where
  go : Nat → Hp → Prop
  yld : Nat → Hp → V → Hp → Prop
  stop : Nat → Hp → Prop
/-- the iterator's own objects may turn: they are not the frame's, not pinned, younger than the entry (or a comprehension's own) -/
def FpOk (X : Cx) (pins : List (Addr × Obj)) (H : Hp) (b : Addr) : Prop :=
  H b = none ∧ b ≠ X.env.locals ∧ b ∉ X.fs ∧ (b ∈ X.ex ∨ X.s₀.heap.objs.size ≤ b) ∧ (∀ x c, X.env.cells.lookup x = some c → c ≠ b) ∧ ∀ p ∈ X.pn ++ pins, p.1 ≠ b
theorem Inv.fpOk {X : Cx} {pins : List (Addr × Obj)} {σ : St} {H H' : Hp} {s : Shared} {b : Addr} (I : Inv X pins σ H s) (hb : s.heap.objs.size ≤ b) (hn : H' b = none) : FpOk X pins H' b := by
  refine ⟨hn, Nat.ne_of_gt (Nat.lt_of_lt_of_le I.lt hb), I.nofs hb, .inr (Nat.le_trans I.sz hb), fun x c e z => ?_, fun p hp z => ?_⟩
  · obtain ⟨v, q⟩ := I.cell x c e
    exact absurd (Nat.lt_of_lt_of_le q.lt (by rw [z]; exact hb)) (Nat.lt_irrefl _)
  · exact absurd (Nat.lt_of_lt_of_le (Heap.lt_size (I.pin p hp).1) (by rw [z]; exact hb)) (Nat.lt_irrefl _)
structure Turn (P : Program) (w : World) (K : PySem.W.Frag) (tg : Expr) (J : It) (fp : List Addr) (it : Addr) (tn : Nat → Heap → Prop) : Prop where
  mem : it ∈ fp
  obj : ∀ i h, tn i h → ∀ b ∈ fp, ∃ o, h.get? b = some o ∧ ∀ v, o.data ≠ .cell v
  keep : ∀ i h h', tn i h → (∀ b ∈ fp, ∀ o, h.get? b = some o → h'.get? b = some o) → tn i h'
  item : ∀ (X : Cx), X.prog = P → X.w = w → X.K = K → X.calm = true → ∀ (i : Nat) (pins : List (Addr × Obj)) (s : Shared) (σ : St) (H : Hp) (E : Value → Shared → Prop), Inv X pins σ H s → (∀ b ∈ fp, FpOk X pins H b) → tn i s.heap → J.go i H →
    wpAny (model P w) X.A (pyNext (.ref it)) (fun r s1 => ∃ u, r = some u ∧
      wpAny (model P w) X.A (letOwnedTupleGo tg (.ref it) u) (fun _ s2 => ∃ x H', Inv X pins σ H' s2 ∧ RelV x u ∧ J.yld i H x H' ∧ tn (i + 1) s2.heap ∧ ∀ b ∈ fp, H' b = none) E s1) E s
  done : ∀ (X : Cx), X.prog = P → X.w = w → X.K = K → X.calm = true → ∀ (i : Nat) (pins : List (Addr × Obj)) (s : Shared) (σ : St) (H : Hp) (E : Value → Shared → Prop), Inv X pins σ H s → (∀ b ∈ fp, FpOk X pins H b) → tn i s.heap → J.stop i H →
    wpAny (model P w) X.A (pyNext (.ref it)) (fun r s1 => r = none ∧ Inv X pins σ H s1) E s
  self : ∀ (A : Around) (i : Nat) (s : Shared) (Q : Value → Shared → Prop) (E : Value → Shared → Prop), tn i s.heap → Q (.ref it) s → wpAny (model P w) A (pyIter (.ref it)) Q E s
abbrev TI := St → Hp → (It → Hp → Prop) → Prop
/-- an iterator has come -/
def PIE (X : Cx) (pins : List (Addr × Obj)) (σ : St) (tg : Expr) (R : It → Hp → Prop) (itv : Value) (s2 : Shared) : Prop :=
  ∃ (it : Addr) (fp : List Addr) (tn : Nat → Heap → Prop) (J : It) (H' : Hp), itv = .ref it ∧ Inv X pins σ H' s2 ∧ Turn X.prog X.w X.K tg J fp it tn ∧ tn 0 s2.heap ∧ (∀ b ∈ fp, FpOk X pins H' b) ∧ R J H'
def PI (X : Cx) (tg iter : Expr) (wi : TI) : Prop :=
  ∀ (pins : List (Addr × Obj)) (s : Shared) (σ : St) (H : Hp) (R : It → Hp → Prop), Inv X pins σ H s → wi σ H R →
    wpAny (model X.prog X.w) X.A (eval iter X.env) (fun v s1 => wpAny (model X.prog X.w) X.A (pyIter v) (PIE X pins σ tg R) X.xe s1) X.xe s

/-- the step ahead of the store is nothing for an iterator that keeps no tuple -/
theorem go_of {M : Model} {A : Around} {E : Value → Shared → Prop} {s : Shared} {tg : Expr} {it : Addr} {u : Value} {o : Obj} {n : String} {vs : Array Value} {Q : Unit → Shared → Prop} (ho : s.heap.get? it = some o) (hc : o.cls = .type n) (hd : o.data = .fields vs)
    (hn : ["enumerate", "zip", "dict_itemiterator", "dict_reverseitemiterator", "odict_iterator", "itertools.zip_longest", "itertools.pairwise"].contains n = false) (hQ : Q () s) : wpAny M A (letOwnedTupleGo tg (.ref it) u) Q E s := by
  unfold letOwnedTupleGo
  cases tg <;> first
    | exact wpAny_pure hQ
    | (cases u <;> first
        | exact wpAny_pure hQ
        | (refine wpAny_bind (wpAny_load ho ?_)
           rw [hc, hd]
           show wpAny M A (if (["enumerate", "zip", "dict_itemiterator", "dict_reverseitemiterator", "odict_iterator", "itertools.zip_longest", "itertools.pairwise"].contains n && vs[0]? == some (rawInt _)) = true then _ else _) Q E s
           rw [if_neg (by intro h; rw [hn, Bool.false_and] at h; cases h)]
           exact wpAny_pure hQ))

/-- the list at a, as it stands at each turn (a loop may append to it) -/
def Itl (K : PySem.W.Frag) (a : Addr) : It :=
  ⟨fun i H => ∃ xs x, SqL K H a xs ∧ xs[i]? = some x, fun i H x H' => H' = H ∧ ∀ xs, SqL K H a xs → xs[i]? = some x, fun i H => ∃ xs, SqL K H a xs ∧ xs.length ≤ i⟩
def Itt (K : PySem.W.Frag) (a : Addr) : It :=
  ⟨fun i H => ∃ xs x, SqT K H a xs ∧ xs[i]? = some x, fun i H x H' => H' = H ∧ ∀ xs, SqT K H a xs → xs[i]? = some x, fun i H => ∃ xs, SqT K H a xs ∧ xs.length ≤ i⟩
/-- lo, lo + 1, .. (n of them) -/
def Itr (lo : Int) (n : Nat) : It := ⟨fun i _ => i < n, fun i H x H' => H' = H ∧ x = .int (lo + i), fun i _ => n ≤ i⟩
theorem turn_list {P : Program} {w : World} {K : PySem.W.Frag} {tg : Expr} (a it : Addr) : Turn P w K tg (Itl K a) [it] it (fun i h => h.IsListIter it a i) where
  mem := by simp
  obj := fun i h st b hb => by
    have e : b = it := by simpa using hb
    subst e
    obtain ⟨o, e, c, d⟩ := st
    exact ⟨o, e, fun v z => by rw [d] at z; cases z⟩
  keep := fun i h h' st k => st.at fun o e => k it (by simp) o e
  item := by
    intro X hP hw hK hc i pins s σ H E I hf st hg
    subst hP hw hK
    obtain ⟨xs, x, hq, hx⟩ := hg
    obtain ⟨its, rv, p, hz⟩ := I.list hq
    obtain ⟨u, hu, ru⟩ := rv.get hx
    obtain ⟨f0, f1, f2, f3, f4, f5⟩ := hf it (by simp)
    refine wpAny_pyNext_list_item st p.isList (x := u) (by simpa using hu) fun h' st' sb => ?_
    have I1 : Inv X pins σ H { s with heap := h' } := I.turned (t' := s.toks) (fun b o hb e => (sb.2 b hb).trans e) f0 f1 f3 f4 f5
    obtain ⟨o, e, c, d⟩ := id st'
    exact ⟨u, rfl, go_of (s := { s with heap := h' }) e c d (by decide) ⟨x, H, I1, ru, ⟨rfl, fun ys hy => by rw [I.list_inj hy hq]; exact hx⟩, st', fun b hb => (hf b hb).1⟩⟩
  done := by
    intro X hP hw hK hc i pins s σ H E I hf st hg
    subst hP hw hK
    obtain ⟨xs, hq, hx⟩ := hg
    obtain ⟨its, rv, p, hz⟩ := I.list hq
    obtain ⟨f0, f1, f2, f3, f4, f5⟩ := hf it (by simp)
    have hl := rv.length
    exact wpAny_pyNext_list_end (I.ok.hd hc) st p.isList (by simp; omega) fun h' eb => ⟨rfl, I.turned (t' := s.toks) (fun b o hb e => eb b o hb e) f0 f1 f3 f4 f5⟩
  self := fun _ _ _ _ _ st h => wpAny_pyIter_listiter st h
theorem turn_tuple {P : Program} {w : World} {K : PySem.W.Frag} {tg : Expr} (a it : Addr) : Turn P w K tg (Itt K a) [it] it (fun i h => h.IsTupleIter it a i) where
  mem := by simp
  obj := fun i h st b hb => by
    have e : b = it := by simpa using hb
    subst e
    obtain ⟨o, e, c, d⟩ := st
    exact ⟨o, e, fun v z => by rw [d] at z; cases z⟩
  keep := fun i h h' st k => st.at fun o e => k it (by simp) o e
  item := by
    intro X hP hw hK hc i pins s σ H E I hf st hg
    subst hP hw hK
    obtain ⟨xs, x, hq, hx⟩ := hg
    obtain ⟨its, rv, p, hz⟩ := I.tuple hq
    obtain ⟨u, hu, ru⟩ := rv.get hx
    obtain ⟨f0, f1, f2, f3, f4, f5⟩ := hf it (by simp)
    refine wpAny_pyNext_tuple_item st (show s.heap.IsTuple a its.toArray from p) (x := u) (by simpa using hu) fun h' st' sb => ?_
    have I1 : Inv X pins σ H { s with heap := h' } := I.turned (t' := s.toks) (fun b o hb e => (sb.2 b hb).trans e) f0 f1 f3 f4 f5
    obtain ⟨o, e, c, d⟩ := id st'
    exact ⟨u, rfl, go_of (s := { s with heap := h' }) e c d (by decide) ⟨x, H, I1, ru, ⟨rfl, fun ys hy => by rw [I.tuple_inj hy hq]; exact hx⟩, st', fun b hb => (hf b hb).1⟩⟩
  done := by
    intro X hP hw hK hc i pins s σ H E I hf st hg
    subst hP hw hK
    obtain ⟨xs, hq, hx⟩ := hg
    obtain ⟨its, rv, p, hz⟩ := I.tuple hq
    obtain ⟨f0, f1, f2, f3, f4, f5⟩ := hf it (by simp)
    have hl := rv.length
    exact wpAny_pyNext_tuple_end (I.ok.hd hc) st (show s.heap.IsTuple a its.toArray from p) (by simp; omega) fun h' eb => ⟨rfl, I.turned (t' := s.toks) (fun b o hb e => eb b o hb e) f0 f1 f3 f4 f5⟩
  self := fun _ _ _ _ _ st h => wpAny_pyIter_tupleiter st h
theorem turn_range {P : Program} {w : World} {K : PySem.W.Frag} {tg : Expr} (it : Addr) (lo : Int) (n : Nat) : Turn P w K tg (Itr lo n) [it] it (fun i h => IsRangeIter h it (lo + (i : Nat) * 1) ((n : Int) - (i : Nat)) 1) where
  mem := by simp
  obj := fun i h st b hb => by
    have e : b = it := by simpa using hb
    subst e
    exact ⟨_, st, fun v z => by
      have z' : Data.fields _ = Data.cell v := z
      cases z'⟩
  keep := fun i h h' st k => k it (by simp) _ st
  item := by
    intro X hP hw hK hc i pins s σ H E I hf st hg
    subst hP hw hK
    obtain ⟨f0, f1, f2, f3, f4, f5⟩ := hf it (by simp)
    have W := Walks.range (prog := X.prog) (w := X.w) (I.ok.hd hc) it lo 1 n
    refine W.item i s _ _ hg st fun v h' tk hv st' kk => ?_
    obtain ⟨t, rfl⟩ := hv
    have I1 : Inv X pins σ H { s with heap := h', toks := tk } := I.turned (fun b o hb e => kk b o (by simpa using hb) e) f0 f1 f3 f4 f5
    refine ⟨_, rfl, go_of (s := { s with heap := h', toks := tk }) (n := "range_iterator") st' rfl rfl (by decide) ⟨.int (lo + i), H, I1, ⟨t, ?_⟩, ⟨rfl, rfl⟩, st', fun b hb => (hf b hb).1⟩⟩
    rw [Int.mul_one]
  done := by
    intro X hP hw hK hc i pins s σ H E I hf st hg
    subst hP hw hK
    obtain ⟨f0, f1, f2, f3, f4, f5⟩ := hf it (by simp)
    exact wpAny_pyNext_range_end (I.ok.hd hc) st (by have : n ≤ i := hg; omega) fun h' eb => ⟨rfl, I.turned (t' := s.toks) (fun b o hb e => eb b o hb e) f0 f1 f3 f4 f5⟩
  self := fun _ _ _ _ _ st h => wpAny_pyIter_rangeiter st h
end L2

namespace L2
open PySem PySem.Spec PyProof.Rows
section
variable {X : Cx} {tg : Expr}
def iList (K : PySem.W.Frag) (tl : TE) : TI := fun σ H R => tl σ H fun x H1 => ∃ a, x = .ref a ∧ (∃ xs, SqL K H1 a xs) ∧ R (Itl K a) H1
def iTup (K : PySem.W.Frag) (tl : TE) : TI := fun σ H R => tl σ H fun x H1 => ∃ a, x = .ref a ∧ (∃ xs, SqT K H1 a xs) ∧ R (Itt K a) H1
/-- a range object just made, walked -/
theorem range_it {pins : List (Addr × Obj)} {σ : St} {H : Hp} {s : Shared} {R : It → Hp → Prop} {E : Value → Shared → Prop} {lo hi : Int} {t u v : Tok} {tk : Nat} (I : Inv X pins σ H s) (h1 : -(2 ^ 62) ≤ lo) (h2 : lo < 2 ^ 62) (h3 : -(2 ^ 62) ≤ hi) (h4 : hi < 2 ^ 62)
    (q : R (Itr lo (hi - lo).toNat) H) : wpAny (model X.prog X.w) X.A (pyIter (.ref s.heap.objs.size)) (PIE X pins σ tg R) E { s with heap := s.heap.push { cls := .type "range", data := .fields #[.int lo t, .int hi u, .int 1 v] }, toks := tk } := by
  refine wpAny_pyIter_range (IsRange.new ..) (small_one h1 h2 h3 h4) ?_
  have I1 : Inv X pins σ H { s with heap := s.heap.push { cls := .type "range", data := .fields #[.int lo t, .int hi u, .int 1 v] }, toks := tk } := I.kept fun b o e => Heap.get?_push_of_some _ e
  refine ⟨(s.heap.push { cls := .type "range", data := .fields #[.int lo t, .int hi u, .int 1 v] }).objs.size, [(s.heap.push { cls := .type "range", data := .fields #[.int lo t, .int hi u, .int 1 v] }).objs.size], _, _, H, rfl,
    I1.kept (t' := tk) fun b o e => Heap.get?_push_of_some _ e, turn_range _ lo (hi - lo).toNat, ?_, fun b hb => ?_, q⟩
  · have e1 : lo + ((0 : Nat) : Int) * 1 = lo := by simp
    have e2 : (((hi - lo).toNat : Nat) : Int) - ((0 : Nat) : Int) = Builtin.Range.rangeSize lo hi 1 := by rw [rangeSize_one]; split <;> omega
    show IsRangeIter _ _ (lo + ((0 : Nat) : Int) * 1) ((((hi - lo).toNat : Nat) : Int) - ((0 : Nat) : Int)) 1
    rw [e1, e2]
    exact Heap.get?_push_size _ rfl
  · have e : b = (s.heap.push { cls := .type "range", data := .fields #[.int lo t, .int hi u, .int 1 v] }).objs.size := by simpa using hb
    subst e
    exact I1.fpOk (Nat.le_refl _) (I1.hok.fresh (Nat.le_refl _))
def iRng1 (ta : TA) : TI := fun σ H R => ta σ H fun vs H1 => ∃ j : Int, vs = [.int j] ∧ -(2 ^ 62) ≤ j ∧ j < 2 ^ 62 ∧ R (Itr 0 j.toNat) H1
def iRng2 (ta : TA) : TI := fun σ H R => ta σ H fun vs H1 => ∃ i j : Int, vs = [.int i, .int j] ∧ (-(2 ^ 62) ≤ i ∧ i < 2 ^ 62 ∧ -(2 ^ 62) ≤ j ∧ j < 2 ^ 62) ∧ R (Itr i (j - i).toNat) H1
theorem pi_range1 {a : Expr} {ta : TA} {p pos : Pos} (hg : Gl X "range") (hm : X.mg "range" = none) (ha : PA X [a] ta) (hs : starEach [a] X.env = [(false, eval a X.env)] := by rfl) : PI X tg (.Call (.Name "range" p) [a] [] pos) (iRng1 ta) := by
  intro pins s σ H R I h
  refine Call_ (ld_blt I hg hm boot_range (PyProof.Rows.callWith_type1 (thn (ha pos pins s σ H _ I h) fun us s1 ⟨vs, H1, I1, r1, q1⟩ => ?_) hs rfl))
  obtain ⟨j, e, q1, q2, q⟩ := q1
  subst e
  cases r1 with
  | cons r rr =>
    cases rr
    obtain ⟨t, rfl⟩ := r
    exact call_range_1 (range_it I1 (by omega) (by omega) q1 q2 (by simpa using q))
/-! ### for -/
/-- W: the invariant by the turn and a measure; N: what the body is to reach -/
def tFor (wi : TI) (g : TG) (tb : TS) : TS := fun D σ H => wi σ H fun J H1 => ∃ W : Nat → Nat → St → Hp → Prop, (∃ m, W 0 m σ H1) ∧ ∀ i m σ H, W i m σ H →
  (J.stop i H ∧ D.nx σ H) ∨ (J.go i H ∧ ∃ N : St → Hp → Prop, (∀ σ' H', N σ' H' → ∃ m', m' < m ∧ W (i + 1) m' σ' H') ∧ ∀ x H', J.yld i H x H' → g x σ H' fun σ2 H2 => tb { D with nx := N, ct := N, bk := D.nx } σ2 H2)
/-- the records at fp as they stand -/
def pinsAt (fp : List Addr) (h : Heap) : List (Addr × Obj) := fp.filterMap fun b => (h.get? b).map fun o => (b, o)
theorem mem_pinsAt {fp : List Addr} {h : Heap} {b : Addr} {o : Obj} (hb : b ∈ fp) (e : h.get? b = some o) : (b, o) ∈ pinsAt fp h := List.mem_filterMap.mpr ⟨b, hb, by rw [e]; rfl⟩
theorem of_pinsAt {fp : List Addr} {h : Heap} {p : Addr × Obj} (hp : p ∈ pinsAt fp h) : p.1 ∈ fp ∧ h.get? p.1 = some p.2 := by
  obtain ⟨b, hb, e⟩ := List.mem_filterMap.mp hp
  cases q : h.get? b with
  | none => rw [q] at e; cases e
  | some o =>
    rw [q] at e
    have e' : (b, o) = p := Option.some.inj e
    subst e'
    exact ⟨hb, q⟩
theorem Inv.pinned {pins : List (Addr × Obj)} {σ : St} {H : Hp} {s : Shared} {fp : List Addr} (I : Inv X pins σ H s) (hf : ∀ b ∈ fp, FpOk X pins H b) (ho : ∀ b ∈ fp, ∃ o, s.heap.get? b = some o ∧ ∀ v, o.data ≠ .cell v) : Inv X (pins ++ pinsAt fp s.heap) σ H s :=
  I.pins_of fun p hp => (List.mem_append.mp hp).elim (fun z => I.pin p (List.mem_append_right _ z)) fun z => by
    obtain ⟨hb, e⟩ := of_pinsAt z
    obtain ⟨f0, f1, f2, _⟩ := hf p.1 hb
    obtain ⟨o, e', d⟩ := ho p.1 hb
    rw [e] at e'; cases e'
    exact ⟨e, f0, f1, f2, d⟩
theorem Inv.unpinned {pins pl : List (Addr × Obj)} {σ : St} {H : Hp} {s : Shared} (I : Inv X (pins ++ pl) σ H s) : Inv X pins σ H s := I.pins_of fun p hp => I.pin p (List.mem_append_right _ (List.mem_append_left _ hp))
theorem ps_for {iter : Expr} {body : List Stmt} {wi : TI} {g : TG} {tb : TS} {pos : Pos} (hp : PassesOwn (model X.prog X.w) X.A X.env X.xe) (hc : X.calm = true) (hi : PI X tg iter wi) (hg : PG X tg g) (hb : PSs X body tb)
    (hs : ∀ x, foldedSetIterable iter X.env x = pure x := by intro _; rfl) : PS X (.For tg iter body [] pos) (tFor wi g tb) := by
  intro pins s σ H D I h
  refine wpAny_For (thn (hi pins s σ H _ I h) fun v s1 h1 => thn h1 fun itv s2 h2 => ?_) hs
  obtain ⟨it, fp, tn, J, H2, e, I2, T, st2, f2, W, ⟨m0, w0⟩, turn⟩ := h2
  subst e
  -- what stays true of the iterator's objects through the loop
  have stat : ∀ {H' : Hp}, (∀ b ∈ fp, H' b = none) → ∀ b ∈ fp, FpOk X pins H' b := fun hn b hb => ⟨hn b hb, (f2 b hb).2⟩
  refine codeAny_forLoop_any (fun n s' => ∃ i σ' H', Inv X pins σ' H' s' ∧ tn i s'.heap ∧ (∀ b ∈ fp, H' b = none) ∧ W i n σ' H') ?_ m0 ⟨0, σ, H2, I2, st2, fun b hb => (f2 b hb).1, w0⟩
  rintro n s3 ⟨i, σ3, H3, I3, st3, fr3, w3⟩
  rcases turn i n σ3 H3 w3 with ⟨stop, qn⟩ | ⟨go, N, hN, step⟩
  · refine wpAny_passesOwn hp (thn (T.done X rfl rfl rfl hc i pins s3 σ3 H3 X.xe I3 (stat fr3) st3 stop) fun r s4 ⟨hr, I4⟩ => ?_)
    subst hr
    exact wpAny_execs_nil ⟨σ3, H3, I4, qn⟩
  · refine wpAny_passesOwn hp (thn (T.item X rfl rfl rfl hc i pins s3 σ3 H3 X.xe I3 (stat fr3) st3 go) fun r s4 ⟨u, hr, h4⟩ => ?_)
    subst hr
    refine wpAny_passesOwn hp (thn h4 fun _ s5 ⟨x, H5, I5, r5, y5, st5, fr5⟩ => ?_)
    have I5' := I5.pinned (stat fr5) (T.obj _ _ st5)
    refine wpAny_passesOwn hp (thn (hg _ s5 σ3 H5 x u _ I5' r5 (step x H5 y5)) fun _ s6 ⟨σ6, H6, I6, q6⟩ => ?_)
    refine wpAny_passesOwn hp (thn (hb _ s6 σ6 H6 _ I6 q6) fun f s7 q7 => ?_)
    have again : ∀ {σ7 : St} {H7 : Hp}, Inv X (pins ++ pinsAt fp s5.heap) σ7 H7 s7 → N σ7 H7 → ∃ m, m < n ∧ ∃ i σ' H', Inv X pins σ' H' s7 ∧ tn i s7.heap ∧ (∀ b ∈ fp, H' b = none) ∧ W i m σ' H' := fun {σ7 H7} I7 n7 => by
      obtain ⟨m', hm, w7⟩ := hN σ7 H7 n7
      refine ⟨m', hm, i + 1, σ7, H7, I7.unpinned, T.keep _ _ _ st5 fun b hb o e => (I7.pin (b, o) (List.mem_append_right _ (List.mem_append_right _ (mem_pinsAt hb e)))).1, fun b hb => ?_, w7⟩
      obtain ⟨o, e, d⟩ := T.obj _ _ st5 b hb
      exact (I7.pin (b, o) (List.mem_append_right _ (List.mem_append_right _ (mem_pinsAt hb e)))).2.1
    cases f with
    | next => obtain ⟨σ7, H7, I7, n7⟩ := q7; exact again I7 n7
    | cont => obtain ⟨σ7, H7, I7, n7⟩ := q7; exact again I7 n7
    | brk => obtain ⟨σ7, H7, I7, q7⟩ := q7; exact ⟨σ7, H7, I7.unpinned, q7⟩
    | ret v => obtain ⟨x7, σ7, H7, I7, r7, q7⟩ := q7; exact ⟨x7, σ7, H7, I7.unpinned, r7, q7⟩
end

/-! ### the forms one uses -/
/-- over a list that the body leaves as it is -/
theorem for_list {K : PySem.W.Frag} {a : Addr} {xs : List V} {g : TG} {tb : TS} {D : Ends} {σ : St} {H : Hp} (Pv : Nat → St → Hp → Prop) (h0 : Pv 0 σ H) (hl : ∀ i σ H, i ≤ xs.length → Pv i σ H → SqL K H a xs)
    (hs : ∀ i x σ H, xs[i]? = some x → Pv i σ H → g x σ H fun σ2 H2 => tb { D with nx := Pv (i + 1), ct := Pv (i + 1), bk := D.nx } σ2 H2) (hd : ∀ σ H, Pv xs.length σ H → D.nx σ H) :
    ∃ W : Nat → Nat → St → Hp → Prop, (∃ m, W 0 m σ H) ∧ ∀ i m σ H, W i m σ H →
      ((Itl K a).stop i H ∧ D.nx σ H) ∨ ((Itl K a).go i H ∧ ∃ N : St → Hp → Prop, (∀ σ' H', N σ' H' → ∃ m', m' < m ∧ W (i + 1) m' σ' H') ∧ ∀ x H', (Itl K a).yld i H x H' → g x σ H' fun σ2 H2 => tb { D with nx := N, ct := N, bk := D.nx } σ2 H2) := by
  refine ⟨fun i m σ H => m = xs.length - i ∧ i ≤ xs.length ∧ Pv i σ H, ⟨xs.length, by simp, Nat.zero_le _, h0⟩, ?_⟩
  rintro i m σ H ⟨rfl, hi, p⟩
  have q := hl i σ H hi p
  by_cases hlt : i < xs.length
  · refine .inr ⟨⟨xs, xs[i], q, by simp [hlt]⟩, Pv (i + 1), fun σ' H' p' => ⟨xs.length - (i + 1), by omega, rfl, hlt, p'⟩, fun x H' y => ?_⟩
    obtain ⟨e, y⟩ := y
    subst e
    exact hs i x σ _ (y xs q) p
  · have e : i = xs.length := by omega
    subst e
    exact .inl ⟨⟨xs, q, Nat.le_refl _⟩, hd σ H p⟩
theorem for_tup {K : PySem.W.Frag} {a : Addr} {xs : List V} {g : TG} {tb : TS} {D : Ends} {σ : St} {H : Hp} (Pv : Nat → St → Hp → Prop) (h0 : Pv 0 σ H) (hl : ∀ i σ H, i ≤ xs.length → Pv i σ H → SqT K H a xs)
    (hs : ∀ i x σ H, xs[i]? = some x → Pv i σ H → g x σ H fun σ2 H2 => tb { D with nx := Pv (i + 1), ct := Pv (i + 1), bk := D.nx } σ2 H2) (hd : ∀ σ H, Pv xs.length σ H → D.nx σ H) :
    ∃ W : Nat → Nat → St → Hp → Prop, (∃ m, W 0 m σ H) ∧ ∀ i m σ H, W i m σ H →
      ((Itt K a).stop i H ∧ D.nx σ H) ∨ ((Itt K a).go i H ∧ ∃ N : St → Hp → Prop, (∀ σ' H', N σ' H' → ∃ m', m' < m ∧ W (i + 1) m' σ' H') ∧ ∀ x H', (Itt K a).yld i H x H' → g x σ H' fun σ2 H2 => tb { D with nx := N, ct := N, bk := D.nx } σ2 H2) := by
  refine ⟨fun i m σ H => m = xs.length - i ∧ i ≤ xs.length ∧ Pv i σ H, ⟨xs.length, by simp, Nat.zero_le _, h0⟩, ?_⟩
  rintro i m σ H ⟨rfl, hi, p⟩
  have q := hl i σ H hi p
  by_cases hlt : i < xs.length
  · refine .inr ⟨⟨xs, xs[i], q, by simp [hlt]⟩, Pv (i + 1), fun σ' H' p' => ⟨xs.length - (i + 1), by omega, rfl, hlt, p'⟩, fun x H' y => ?_⟩
    obtain ⟨e, y⟩ := y
    subst e
    exact hs i x σ _ (y xs q) p
  · have e : i = xs.length := by omega
    subst e
    exact .inl ⟨⟨xs, q, Nat.le_refl _⟩, hd σ H p⟩
theorem for_range {lo : Int} {n : Nat} {g : TG} {tb : TS} {D : Ends} {σ : St} {H : Hp} (Pv : Nat → St → Hp → Prop) (h0 : Pv 0 σ H)
    (hs : ∀ i σ H, i < n → Pv i σ H → g (.int (lo + i)) σ H fun σ2 H2 => tb { D with nx := Pv (i + 1), ct := Pv (i + 1), bk := D.nx } σ2 H2) (hd : ∀ σ H, Pv n σ H → D.nx σ H) :
    ∃ W : Nat → Nat → St → Hp → Prop, (∃ m, W 0 m σ H) ∧ ∀ i m σ H, W i m σ H →
      ((Itr lo n).stop i H ∧ D.nx σ H) ∨ ((Itr lo n).go i H ∧ ∃ N : St → Hp → Prop, (∀ σ' H', N σ' H' → ∃ m', m' < m ∧ W (i + 1) m' σ' H') ∧ ∀ x H', (Itr lo n).yld i H x H' → g x σ H' fun σ2 H2 => tb { D with nx := N, ct := N, bk := D.nx } σ2 H2) := by
  refine ⟨fun i m σ H => m = n - i ∧ i ≤ n ∧ Pv i σ H, ⟨n, by simp, Nat.zero_le _, h0⟩, ?_⟩
  rintro i m σ H ⟨rfl, hi, p⟩
  by_cases hlt : i < n
  · refine .inr ⟨hlt, Pv (i + 1), fun σ' H' p' => ⟨n - (i + 1), by omega, rfl, hlt, p'⟩, fun x H' y => ?_⟩
    obtain ⟨e, y⟩ := y
    subst e y
    exact hs i σ _ hlt p
  · have e : i = n := by omega
    subst e
    exact .inl ⟨Nat.le_refl _, hd σ H p⟩
end L2

namespace L2
open PySem PySem.Spec PyProof.Rows

abbrev R2 := V → V → Hp → VK → Prop
/-- a two-place operation on values: f is binaryOp op, inplaceOp op or compareOp op -/
def OpR (X : Cx) (f : Value → Value → Sem Value) (r : R2) : Prop :=
  ∀ (pins : List (Addr × Obj)) (s : Shared) (σ : St) (H : Hp) (x y : V) (v u : Value) (Q : VK), Inv X pins σ H s → RelV x v → RelV y u → r x y H Q →
    wpAny (model X.prog X.w) X.A (f v u) (EP X pins σ Q) X.xe s
/-- a one-place operation -/
def UnR (X : Cx) (f : Value → Sem Value) (r : V → Hp → VK → Prop) : Prop :=
  ∀ (pins : List (Addr × Obj)) (s : Shared) (σ : St) (H : Hp) (x : V) (v : Value) (Q : VK), Inv X pins σ H s → RelV x v → r x H Q →
    wpAny (model X.prog X.w) X.A (f v) (EP X pins σ Q) X.xe s
/-- a call of a value that is known (a builtin, a type) with values -/
def CallR (X : Cx) (f : Value) (r : List V → Hp → VK → Prop) : Prop :=
  ∀ (pins : List (Addr × Obj)) (s : Shared) (σ : St) (H : Hp) (xs : List V) (us : List Value) (Q : VK), Inv X pins σ H s → Vals xs us → r xs H Q →
    wpAny (model X.prog X.w) X.A (call f us) (EP X pins σ Q) X.xe s
/-- a value's truth -/
def TruR (X : Cx) (r : V → Hp → (Bool → Hp → Prop) → Prop) : Prop :=
  ∀ (pins : List (Addr × Obj)) (s : Shared) (σ : St) (H : Hp) (x : V) (v : Value) (Q : Bool → Hp → Prop), Inv X pins σ H s → RelV x v → r x H Q →
    wpAny (model X.prog X.w) X.A (truthy v) (TP X pins σ Q) X.xe s

def tOp (r : R2) (ta tb : TE) : TE := fun σ H Q => ta σ H fun x H1 => tb σ H1 fun y H2 => r x y H2 Q
def tUn (r : V → Hp → VK → Prop) (ta : TE) : TE := fun σ H Q => ta σ H fun x H1 => r x H1 Q
/-- ints in, under C, and a value out -/
def rI (C : Int → Int → Prop) (g : Int → Int → V) : R2 := fun x y H Q => ∃ i j, x = .int i ∧ y = .int j ∧ C i j ∧ Q (g i j) H
def rI0 (g : Int → Int → V) : R2 := fun x y H Q => ∃ i j, x = .int i ∧ y = .int j ∧ Q (g i j) H
def rU (g : Int → V) : V → Hp → VK → Prop := fun x H Q => ∃ i, x = .int i ∧ Q (g i) H

section
variable {X : Cx} {a b c : Expr} {ta tb tc : TE} {pos : Pos}

theorem binT (ha : PE X a ta) (hb : PE X b tb) {pins : List (Addr × Obj)} {s : Shared} {σ : St} {H : Hp} {R : V → V → Hp → Prop} (I : Inv X pins σ H s)
    (h : ta σ H fun x H1 => tb σ H1 fun y H2 => R x y H2) {Q : Value → Shared → Prop} {f : Value → Value → Sem Value}
    (hf : ∀ v u s2 x y H2, Inv X pins σ H2 s2 → RelV x v → RelV y u → R x y H2 → wpAny (model X.prog X.w) X.A (f v u) Q X.xe s2) :
    wpAny (model X.prog X.w) X.A (eval a X.env) (fun v s₁ => wpAny (model X.prog X.w) X.A (eval b X.env) (fun u s₂ => wpAny (model X.prog X.w) X.A (f v u) Q X.xe s₂) X.xe s₁) X.xe s := by
  refine thn (ha pins s σ H _ I h) fun v s1 ⟨x, H1, I1, r1, q1⟩ => ?_
  refine thn (hb pins s1 σ H1 _ I1 q1) fun u s2 ⟨y, H2, I2, r2, q2⟩ => ?_
  exact hf v u s2 x y H2 I2 r1 r2 q2

theorem pe_op {op : Operator} {r : R2} (ho : OpR X (binaryOp op) r) (ha : PE X a ta) (hb : PE X b tb) : PE X (.BinOp a op b pos) (tOp r ta tb) := by
  intro pins s σ H Q I h
  exact wpAny_BinOp (binT ha hb I h fun v u s2 x y H2 I2 rx ry q => ho pins s2 σ H2 x y v u Q I2 rx ry q)
theorem pe_un {op : UnaryOp} {r : V → Hp → VK → Prop} (ho : UnR X (unaryOp op) r) (ha : PE X a ta) : PE X (.UnaryOp op a pos) (tUn r ta) := by
  intro pins s σ H Q I h
  exact UnaryOp_ (thn (ha pins s σ H _ I h) fun v s1 ⟨x, H1, I1, r1, q1⟩ => ho pins s1 σ H1 x v Q I1 r1 q1)
/-! ### ints -/
theorem opI {f : Value → Value → Sem Value} {C : Int → Int → Prop} {g : Int → Int → Int}
    (rule : ∀ (i j : Int) (t u : Tok) (s : Shared) (Q : Value → Shared → Prop) (E : Value → Shared → Prop), C i j → Q (.int (g i j) s.toks) { s with toks := s.toks + 1 } → wpAny (model X.prog X.w) X.A (f (.int i t) (.int j u)) Q E s) :
    OpR X f (rI C fun i j => .int (g i j)) := by
  intro pins s σ H x y v u Q I rx ry h
  obtain ⟨i, j, rfl, rfl, hc, q⟩ := h
  obtain ⟨t, rfl⟩ := rx
  obtain ⟨t', rfl⟩ := ry
  exact rule i j t t' s _ _ hc ⟨.int (g i j), H, I.tok _, ⟨_, rfl⟩, q⟩
theorem opI0 {f : Value → Value → Sem Value} {g : Int → Int → Int}
    (rule : ∀ (i j : Int) (t u : Tok) (s : Shared) (Q : Value → Shared → Prop) (E : Value → Shared → Prop), Q (.int (g i j) s.toks) { s with toks := s.toks + 1 } → wpAny (model X.prog X.w) X.A (f (.int i t) (.int j u)) Q E s) :
    OpR X f (rI0 fun i j => .int (g i j)) := by
  intro pins s σ H x y v u Q I rx ry h
  obtain ⟨i, j, rfl, rfl, q⟩ := h
  obtain ⟨t, rfl⟩ := rx
  obtain ⟨t', rfl⟩ := ry
  exact rule i j t t' s _ _ ⟨.int (g i j), H, I.tok _, ⟨_, rfl⟩, q⟩
theorem opB0 {f : Value → Value → Sem Value} {g : Int → Int → Bool}
    (rule : ∀ (i j : Int) (t u : Tok) (s : Shared) (Q : Value → Shared → Prop) (E : Value → Shared → Prop), Q (.bool (g i j)) s → wpAny (model X.prog X.w) X.A (f (.int i t) (.int j u)) Q E s) :
    OpR X f (rI0 fun i j => .bl (g i j)) := by
  intro pins s σ H x y v u Q I rx ry h
  obtain ⟨i, j, rfl, rfl, q⟩ := h
  obtain ⟨t, rfl⟩ := rx
  obtain ⟨t', rfl⟩ := ry
  exact rule i j t t' s _ _ ⟨.bl (g i j), H, I, rfl, q⟩

def CDiv (i j : Int) : Prop := 0 < j ∧ j < 1073741824
def CDivN (i j : Int) : Prop := j ≠ 0 ∧ j.natAbs < 1073741824
def CPow (i j : Int) : Prop := 0 ≤ j ∧ j ≤ 1000000 ∧ i.natAbs < 2 ^ 64
def CMul (i j : Int) : Prop := (-(2 ^ 64) < i ∧ i < 2 ^ 64) ∨ (-(2 ^ 64) < j ∧ j < 2 ^ 64)
theorem CMul.ok {i j : Int} (h : CMul i j) : IntMulOk i j := by
  rcases h with ⟨h1, h2⟩ | ⟨h1, h2⟩
  · exact .of_left (intBits_le_64 h1 h2)
  · exact .of_right (intBits_le_64 h1 h2)
theorem op_add : OpR X (binaryOp .Add) (rI0 fun i j => .int (i + j)) := opI0 fun _ _ _ _ _ _ _ q => add_int q
theorem op_sub : OpR X (binaryOp .Sub) (rI0 fun i j => .int (i - j)) := opI0 fun _ _ _ _ _ _ _ q => sub_int q
theorem op_mul : OpR X (binaryOp .Mult) (rI CMul fun i j => .int (i * j)) := opI fun _ _ _ _ _ _ _ hc q => mul_int q hc.ok
/-- // by a positive divisor -/
theorem op_fdiv : OpR X (binaryOp .FloorDiv) (rI CDiv fun i j => .int (i / j)) := opI fun i j _ _ _ _ _ hc q => by
  have h1 : (0 : Int) < j := hc.1
  have h2 : j < 1073741824 := hc.2
  exact floordiv_int (by omega) (by rw [Int.fdiv_eq_ediv_of_nonneg i (by omega)]; exact q) (.inl (PyProof.noPylong_small (by omega)))
/-- % by a positive divisor of any size -/
theorem op_mod : OpR X (binaryOp .Mod) (rI (fun _ j => 0 < j) fun i j => .int (i % j)) := opI fun i j _ _ _ _ _ hc q => by
  have h1 : (0 : Int) < j := hc
  exact mod_int' (by omega) (by rw [Int.fmod_eq_emod_of_nonneg i (by omega)]; exact q)
theorem unI {f : Value → Sem Value} {g : Int → Int}
    (rule : ∀ (i : Int) (t : Tok) (s : Shared) (Q : Value → Shared → Prop) (E : Value → Shared → Prop), Q (.int (g i) s.toks) { s with toks := s.toks + 1 } → wpAny (model X.prog X.w) X.A (f (.int i t)) Q E s) :
    UnR X f (rU fun i => .int (g i)) := by
  intro pins s σ H x v Q I rx h
  obtain ⟨i, rfl, q⟩ := h
  obtain ⟨t, rfl⟩ := rx
  exact rule i t s _ _ ⟨.int (g i), H, I.tok _, ⟨_, rfl⟩, q⟩
theorem un_neg : UnR X (unaryOp .USub) (rU fun i => .int (-i)) := unI fun _ _ _ _ _ q => neg_int q
/-! ### bools among ints: n += (a < b) -/
end

/-! ### comparisons -/
/-- the scalars that == tells apart as data does -/
def scal : V → V → Bool
  | .non, .non => true | .non, .int _ => true | .int _, .non => true | .non, .bl _ => true | .bl _, .non => true | .non, .str _ => true | .str _, .non => true
  | .int _, .int _ => true | .bl _, .bl _ => true | .str _, .str _ => true | .byt _, .byt _ => true
  | .int _, .str _ => true | .str _, .int _ => true | .bl _, .str _ => true | .str _, .bl _ => true
  | _, _ => false
def rEq : R2 := fun x y H Q => scal x y = true ∧ Q (.bl (decide (x = y))) H
def rNe : R2 := fun x y H Q => scal x y = true ∧ Q (.bl (!decide (x = y))) H

theorem dec_int {i j : Int} : decide (V.int i = V.int j) = (i == j) := by
  rw [Bool.eq_iff_iff]
  simp
theorem dec_bl {i j : Bool} : decide (V.bl i = V.bl j) = (i == j) := by
  rw [Bool.eq_iff_iff]
  simp
theorem dec_str {i j : Str} : decide (V.str i = V.str j) = (i == j) := by
  rw [Bool.eq_iff_iff]
  simp
theorem dec_byt {i j : Array UInt8} : decide (V.byt i = V.byt j) = (i.toList == j.toList) := by
  rw [Bool.eq_iff_iff]
  cases i
  cases j
  simp

section
variable {X : Cx} {a b c : Expr} {ta tb tc : TE} {pos : Pos}
theorem fin_bl {pins : List (Addr × Obj)} {σ : St} {H : Hp} {s : Shared} {Q : VK} {k k' : Bool} (I : Inv X pins σ H s) (q : Q (.bl k) H) (e : k = k') : EP X pins σ Q (.bool k') s := by
  subst e
  exact ⟨.bl k, H, I, rfl, q⟩
theorem op_eq : OpR X (compareOp .Eq) rEq := by
  intro pins s σ H x y v u Q I rx ry h
  obtain ⟨hs, q⟩ := h
  cases x with
  | non =>
    cases rx
    cases y with
    | non => cases ry; exact PySem.EqNone.eq_none_none (fin_bl I q (by simp))
    | bl j => cases ry; exact PySem.EqNone.eq_none_bool (fin_bl I q (by simp))
    | int j => obtain ⟨t', rfl⟩ := ry; exact PySem.EqNone.eq_none_int (fin_bl I q (by simp))
    | str j => obtain ⟨t', rfl⟩ := ry; exact PySem.EqNone.eq_none_str (fin_bl I q (by simp))
    | _ => exact absurd (show false = true from hs) Bool.false_ne_true
  | bl i =>
    cases rx
    cases y with
    | non => cases ry; exact PySem.EqNone.eq_bool_none (fin_bl I q (by simp))
    | bl j => cases ry; exact eq_bool (fin_bl I q dec_bl)
    | str j => obtain ⟨t', rfl⟩ := ry; exact PySem.EqMixed.eq_bool_str (fin_bl I q (by simp))
    | _ => exact absurd (show false = true from hs) Bool.false_ne_true
  | int i =>
    obtain ⟨t, rfl⟩ := rx
    cases y with
    | non => cases ry; exact PySem.EqNone.eq_int_none (fin_bl I q (by simp))
    | int j => obtain ⟨t', rfl⟩ := ry; exact eq_int (fin_bl I q dec_int)
    | str j => obtain ⟨t', rfl⟩ := ry; exact PySem.EqMixed.eq_int_str (fin_bl I q (by simp))
    | _ => exact absurd (show false = true from hs) Bool.false_ne_true
  | str i =>
    obtain ⟨t, rfl⟩ := rx
    cases y with
    | non => cases ry; exact PySem.EqNone.eq_str_none (fin_bl I q (by simp))
    | bl j => cases ry; exact PySem.EqMixed.eq_str_bool (fin_bl I q (by simp))
    | int j => obtain ⟨t', rfl⟩ := ry; exact PySem.EqMixed.eq_str_int (fin_bl I q (by simp))
    | str j => obtain ⟨t', rfl⟩ := ry; exact eq_str (fin_bl I q dec_str)
    | _ => exact absurd (show false = true from hs) Bool.false_ne_true
  | byt i =>
    obtain ⟨t, rfl⟩ := rx
    cases y with
    | byt j => obtain ⟨t', rfl⟩ := ry; exact PySem.W.eq_bytes (fin_bl I q dec_byt)
    | _ => exact absurd (show false = true from hs) Bool.false_ne_true
  | _ => cases y <;> exact absurd (show false = true from hs) Bool.false_ne_true
theorem op_ne : OpR X (compareOp .NotEq) rNe := by
  intro pins s σ H x y v u Q I rx ry h
  obtain ⟨hs, q⟩ := h
  cases x with
  | non =>
    cases rx
    cases y with
    | non => cases ry; exact PySem.EqNone.ne_none_none (fin_bl I q (by simp))
    | bl j => cases ry; exact PySem.EqNone.ne_none_bool (fin_bl I q (by simp))
    | int j => obtain ⟨t', rfl⟩ := ry; exact PySem.EqNone.ne_none_int (fin_bl I q (by simp))
    | str j => obtain ⟨t', rfl⟩ := ry; exact PySem.EqNone.ne_none_str (fin_bl I q (by simp))
    | _ => exact absurd (show false = true from hs) Bool.false_ne_true
  | bl i =>
    cases rx
    cases y with
    | non => cases ry; exact PySem.EqNone.ne_bool_none (fin_bl I q (by simp))
    | bl j => cases ry; exact ne_bool (fin_bl I q (congrArg not dec_bl))
    | str j => obtain ⟨t', rfl⟩ := ry; exact PySem.EqMixed.ne_bool_str (fin_bl I q (by simp))
    | _ => exact absurd (show false = true from hs) Bool.false_ne_true
  | int i =>
    obtain ⟨t, rfl⟩ := rx
    cases y with
    | non => cases ry; exact PySem.EqNone.ne_int_none (fin_bl I q (by simp))
    | int j => obtain ⟨t', rfl⟩ := ry; exact ne_int (fin_bl I q (congrArg not dec_int))
    | str j => obtain ⟨t', rfl⟩ := ry; exact PySem.EqMixed.ne_int_str (fin_bl I q (by simp))
    | _ => exact absurd (show false = true from hs) Bool.false_ne_true
  | str i =>
    obtain ⟨t, rfl⟩ := rx
    cases y with
    | non => cases ry; exact PySem.EqNone.ne_str_none (fin_bl I q (by simp))
    | bl j => cases ry; exact PySem.EqMixed.ne_str_bool (fin_bl I q (by simp))
    | int j => obtain ⟨t', rfl⟩ := ry; exact PySem.EqMixed.ne_str_int (fin_bl I q (by simp))
    | str j => obtain ⟨t', rfl⟩ := ry; exact ne_str (fin_bl I q (congrArg not dec_str))
    | _ => exact absurd (show false = true from hs) Bool.false_ne_true
  | byt i =>
    obtain ⟨t, rfl⟩ := rx
    cases y with
    | byt j => obtain ⟨t', rfl⟩ := ry; exact PySem.W.ne_bytes (fin_bl I q (congrArg not dec_byt))
    | _ => exact absurd (show false = true from hs) Bool.false_ne_true
  | _ => cases y <;> exact absurd (show false = true from hs) Bool.false_ne_true

theorem op_lt : OpR X (compareOp .Lt) (rI0 fun i j => .bl (decide (i < j))) := opB0 fun _ _ _ _ _ _ _ q => lt_int q
theorem op_gt : OpR X (compareOp .Gt) (rI0 fun i j => .bl (decide (j < i))) := opB0 fun _ _ _ _ _ _ _ q => gt_int q
theorem op_notN : OpR X (compareOp .IsNot) (fun x y H Q => y = .non ∧ Q (.bl (!decide (x = .non))) H) := by
  intro pins s σ H x y v u Q I rx ry h
  obtain ⟨rfl, q⟩ := h
  cases ry
  refine isnot_none_gen (fin_bl I q ?_)
  cases x <;> first
    | (cases rx; rfl)
    | (obtain ⟨t, rfl⟩ := rx; rfl)

/-- is, is not of two objects that are tracked lists or instances -/
def isObj : HO → Bool
  | .lst _ => true
  | .ins _ _ _ => true
  | _ => false
/-- two rules for one operation: by cases -/
theorem OpR.or {f : Value → Value → Sem Value} {r r' : R2} (h : OpR X f r) (h' : OpR X f r') : OpR X f (fun x y H Q => r x y H Q ∨ r' x y H Q) := by
  intro pins s σ H x y v u Q I rx ry q
  rcases q with q | q
  · exact h pins s σ H x y v u Q I rx ry q
  · exact h' pins s σ H x y v u Q I rx ry q

theorem nomark (b : Expr) {op : CmpOp} (h : op ≠ .In := by decide) (h2 : op ≠ .NotIn := by decide) : behindInMarks op b = false := by
  have e1 : (op == CmpOp.In) = false := by cases op <;> first | rfl | exact absurd rfl h
  have e2 : (op == CmpOp.NotIn) = false := by cases op <;> first | rfl | exact absurd rfl h2
  cases b <;> simp [behindInMarks, e1, e2]
/-- a comparison as a value; hm: nomark b, or (for in, not in) by with_unfolding_all rfl -/
theorem pe_cmpR {op : CmpOp} {r : R2} (ho : OpR X (compareOp op) r) (ha : PE X a ta) (hb : PE X b tb) (hm : behindInMarks op b = false) : PE X (.Compare a [op] [b] pos) (tOp r ta tb) := by
  intro pins s σ H Q I h
  exact wpAny_Compare1 (binT ha hb I h fun v u s2 x y H2 I2 rx ry q => ho pins s2 σ H2 x y v u Q I2 rx ry q) hm
/-- a reading of a value as a test -/
def tTest (t : TE) : TT := fun σ H Q => t σ H fun x H' => ∃ k, x = .bl k ∧ Q k H'
theorem pt_cmpR {op : CmpOp} {r : R2} (ho : OpR X (compareOp op) r) (ha : PE X a ta) (hb : PE X b tb) (hm : behindInMarks op b = false) : PT X (.Compare a [op] [b] pos) (tTest (tOp r ta tb)) := by
  intro pins s σ H Q I h
  refine wpAny_isTrue_Compare1 (thn (ha pins s σ H _ I h) fun v s1 ⟨x, H1, I1, r1, q1⟩ => thn (hb pins s1 σ H1 _ I1 q1) fun u s2 ⟨y, H2, I2, r2, q2⟩ =>
    thn (ho pins s2 σ H2 x y v u _ I2 r1 r2 q2) fun c s3 ⟨z, H3, I3, r3, k, e, q3⟩ => ?_) hm
  subst e
  cases r3
  exact wpAny_truthy_bool ⟨H3, I3, q3⟩
/-- a op1 b op2 c -/
def tChain (r r' : R2) (ta tb tc : TE) : TE := fun σ H Q => ta σ H fun x H1 => tb σ H1 fun y H2 => r x y H2 fun z H3 => ∃ k, z = .bl k ∧
  (if k = true then tc σ H3 fun w' H4 => r' y w' H4 Q else Q (.bl false) H3)
/-! ### truth -/
/-- a value's truth by the abstract heap -/
def TruV (K : PySem.W.Frag) (x : V) (H : Hp) (k : Bool) : Prop :=
  match x with
  | .non => k = false
  | .bl b => k = b
  | .int i => k = (i != 0)
  | .str y => y.length ≤ sizeLine ∧ k = ((y.length : Int) != 0)
  | .byt y => y.size ≤ sizeLine ∧ k = ((y.size : Int) != 0)
  | .ref p => (∃ xs, SqL K H p xs ∧ k = !xs.isEmpty) ∨ (∃ xs, SqT K H p xs ∧ k = !xs.isEmpty) ∨ ∃ kvs, H p = some (.dK kvs) ∧ k = !kvs.isEmpty
  | _ => False
theorem isEmpty_kv {κ : Type} {kvs : List (κ × V)} {vs : List (κ × Value)} (r : KV kvs vs) : (!vs.isEmpty) = !kvs.isEmpty := by
  cases r <;> rfl
theorem isEmpty_of {xs : List V} {its : List Value} (r : Vals xs its) : (!its.toArray.isEmpty) = !xs.isEmpty := by
  cases r <;> simp
theorem line63 : (sizeLine : Nat) < 2 ^ 63 := by rw [sizeLine_eq]; decide
theorem tru_ok : TruR X (fun x H Q => ∃ k, TruV X.K x H k ∧ Q k H) := by
  intro pins s σ H x v Q I rx h
  obtain ⟨k, e, q⟩ := h
  have hl := line63
  have hs : sizeLine = 16777216 := sizeLine_eq
  cases x with
  | non =>
    cases rx
    have e' : k = false := e
    subst e'
    exact truthy_none ⟨H, I, q⟩
  | bl b =>
    cases rx
    have e' : k = b := e
    subst e'
    exact wpAny_truthy_bool ⟨H, I, q⟩
  | int i =>
    obtain ⟨t, rfl⟩ := rx
    have e' : k = (i != 0) := e
    subst e'
    exact PySem.P.truthy_int ⟨H, I, q⟩
  | str y =>
    obtain ⟨t, rfl⟩ := rx
    obtain ⟨hy, e'⟩ : y.length ≤ sizeLine ∧ k = ((y.length : Int) != 0) := e
    subst e'
    exact PySem.P.truthy_str (by omega) ⟨H, I.tok _, q⟩
  | byt y =>
    obtain ⟨t, rfl⟩ := rx
    obtain ⟨hy, e'⟩ : y.size ≤ sizeLine ∧ k = ((y.size : Int) != 0) := e
    subst e'
    exact PySem.W.truthy_bytes (by omega) ⟨H, I.tok _, q⟩
  | ref p =>
    cases rx
    have e' : (∃ xs, SqL X.K H p xs ∧ k = !xs.isEmpty) ∨ (∃ xs, SqT X.K H p xs ∧ k = !xs.isEmpty) ∨ ∃ kvs, H p = some (.dK kvs) ∧ k = !kvs.isEmpty := e
    rcases e' with ⟨xs, hx, e'⟩ | ⟨xs, hx, e'⟩ | ⟨kvs, hx, e'⟩
    · subst e'
      obtain ⟨its, r, pl, hz⟩ := I.list hx
      have hlen := r.length
      exact wpAny_truthy_list pl.isList (by simp only [List.size_toArray]; omega) ⟨H, I.tok _, by rw [isEmpty_of r]; exact q⟩
    · subst e'
      obtain ⟨its, r, pl, hz⟩ := I.tuple hx
      have hlen := r.length
      exact truthy_tuple pl (by simp only [List.size_toArray]; omega) ⟨H, I.tok _, by rw [isEmpty_of r]; exact q⟩
    · subst e'
      obtain ⟨hz, hS, vs, r, m⟩ : kvs.length ≤ sizeLine ∧ (p == sysModules) = false ∧ ∃ vs, KV kvs vs ∧ s.heap.DictOf (mixKind X.prog X.w) p vs := I.hok p _ hx
      have hlen : kvs.length = vs.length := Paired.length r
      exact wpAny_truthy_dict hS m (by omega) ⟨H, I.tok _, by rw [isEmpty_kv r]; exact q⟩
  | _ => exact (show False from e).elim
/-- any expression whose test is its value's truth (a name, a call, a subscript, a field ..: he by fun _ => rfl) -/
theorem pt_truth (ha : PE X a ta) (he : ∀ whole, isTrue a X.env whole = (do let v ← whole; standAt a.pos; holding [v] (truthy v))) :
    PT X a (fun σ H Q => ta σ H fun x H' => ∃ k, TruV X.K x H' k ∧ Q k H') := by
  intro pins s σ H Q I h
  exact isTrue_plain (thn (ha pins s σ H _ I h) fun v s1 ⟨x, H1, I1, r1, q1⟩ => tru_ok pins s1 σ H1 x v Q I1 r1 q1) (he _)

/-! ### strs and bytes -/
def PlainIxT (b : Expr) : Prop := ∀ o i, subscripted b false o i = operate [o, i] (getItem o i)
/-! ### scalar builtins, by CallR -/
theorem vals1 {x : V} {us : List Value} (r : Vals [x] us) : ∃ u, us = [u] ∧ RelV x u := by
  cases r with
  | cons r1 r2 => cases r2; exact ⟨_, rfl, r1⟩
theorem vals2 {x y : V} {us : List Value} (r : Vals [x, y] us) : ∃ u w', us = [u, w'] ∧ RelV x u ∧ RelV y w' := by
  cases r with
  | cons r1 r2 =>
    cases r2 with
    | cons r3 r4 => cases r4; exact ⟨_, _, rfl, r1, r3⟩
theorem call_int1 : CallR X (.type "int") (fun xs H Q => (∃ i, xs = [.int i] ∧ Q (.int i) H) ∨ ∃ k, xs = [.bl k] ∧ Q (.int (if k then 1 else 0)) H) := by
  intro pins s σ H xs us Q I r h
  rcases h with ⟨i, rfl, q⟩ | ⟨k, rfl, q⟩
  · obtain ⟨u, rfl, t, rfl⟩ := vals1 r
    exact call_int_int ⟨.int i, H, I, ⟨_, rfl⟩, q⟩
  · obtain ⟨u, rfl, r1⟩ := vals1 r
    cases r1
    exact call_int_bool ⟨.int (if k then 1 else 0), H, I.tok _, ⟨_, rfl⟩, q⟩
/-- len of a str, a bytes, a list, a tuple -/
def LenV (K : PySem.W.Frag) (x : V) (H : Hp) (n : Nat) : Prop :=
  match x with
  | .str y => y.length ≤ sizeLine ∧ n = y.length
  | .byt y => y.size ≤ sizeLine ∧ n = y.size
  | .ref p => (∃ xs, SqL K H p xs ∧ n = xs.length) ∨ ∃ xs, SqT K H p xs ∧ n = xs.length
  | _ => False
end
end L2

namespace L2
open PySem PySem.Spec PyProof.Rows

/-! ### an instance, its attributes a map -/
structure ObjM (h : Heap) (x dx C : Addr) (mA : Str → Option Value) : Prop where
  obj : h.get? x = some (PySem.W.instObj C dx)
  ns : h.Ns1 dx mA
  ne : dx ≠ x

theorem lookIn_ns {h : Heap} {dx : Addr} {mA : Str → Option Value} (n : h.Ns1 dx mA) : ∃ od, h.get? dx = some od ∧ ∀ name, PySem.W.lookIn name od = some (mA name) := by
  obtain ⟨o, es, ep, ho, hd, hk, _, hm⟩ := n
  refine ⟨o, ho, fun name => ?_⟩
  have e := hm name
  unfold nsFind findBy at e
  rw [← Array.find?_toList] at e
  unfold PySem.W.lookIn
  rw [hd]
  dsimp only
  split
  · rename_i y q
    rw [q] at e
    exact congrArg some e
  · rename_i q
    rw [q] at e
    have a : es.toList.any (·.refKey) = false := by
      rw [List.any_eq_false]
      intro y hy
      obtain ⟨z, t, hkey⟩ := hk y (Array.mem_toList_iff.mp hy)
      simp [DictEntry.refKey, hkey]
    have a' : ¬ es.toList.any (·.refKey) = true := by rw [a]; exact Bool.false_ne_true
    rw [if_neg a']
    exact congrArg some e

theorem ObjM.look {h : Heap} {x dx C : Addr} {mA : Str → Option Value} (I : ObjM h x dx C mA) : ∃ od, PySem.W.InstAt h x (PySem.W.instObj C dx) C (some od) ∧ ∀ name, PySem.W.lookIn name od = some (mA name) :=
  let ⟨od, ho, hl⟩ := lookIn_ns I.ns
  ⟨od, ⟨I.obj, rfl, rfl, ho⟩, hl⟩

section
variable {prog : Program} {w : World} {A : Around} {E : Value → Shared → Prop} {s : Shared} {K : PySem.W.Frag} {x dx C f : Addr} {mA : Str → Option Value} {name : Str} {v : Value}

end

/-! ### the attributes as a list of pairs -/
def putF (f : Str) (v : V) : List (Str × V) → List (Str × V)
  | [] => [(f, v)]
  | (g, x) :: r => if g = f then (g, v) :: r else (g, x) :: putF f v r
section
variable {P : Program} {w : World} {H H' : Hp} {h h' : Heap} {a C dx : Addr} {fs fs' : List (Str × V)}
theorem ins_get (hok : HOk P w H h) (e : H a = some (.ins C dx fs)) : ∃ mA, ObjM h a dx C mA ∧ (∀ f, RelO (fs.lookup f) (mA f)) ∧ PySem.Within mA (fs.map (·.1)) ∧ fs.length ≤ 1000 ∧ H dx = some (.own a) := by
  obtain ⟨d, z, ne, ob, mA, n, r, q⟩ := (show ObjOk P w H h a (.ins C dx fs) from hok a _ e)
  exact ⟨mA, ⟨ob, n, ne⟩, r, q, z, d⟩
end

/-! ### what of the text a class must have -/
structure Cls (K : PySem.W.Frag) (C : Addr) : Prop where
  pg : PySem.W.plainGet K C Str.empty = true
  hd : PySem.W.hasDictIn K C = true
  po : PySem.W.plainOver K C = true
  sa : PySem.W.findIn K (.ref C) "__setattr__" = some (some (.builtin "object.__setattr__"))
theorem Cls.get {K : PySem.W.Frag} {C : Addr} (c : Cls K C) (f : Str) : PySem.W.plainGet K C f = true := c.pg
/-- no class of it has the name -/
def NoAttr (K : PySem.W.Frag) (C : Addr) (f : Str) : Prop := PySem.W.findIn K (.ref C) f = some none
/-- a constant of the class -/
structure Con (K : PySem.W.Frag) (C : Addr) (f : Str) (v : V) (u : Value) : Prop where
  at_ : PySem.W.findIn K (.ref C) f = some (some u)
  rel : RelV v u
  get : PySem.W.specialIn K u "__get__" = some none
  cp : PySem.W.copiedNames.contains f = false
/-- a method: a plain def of the class or of one above it -/
structure Meth (K : PySem.W.Frag) (C : Addr) (m : Str) (f : Addr) : Prop where
  at_ : PySem.W.findIn K (.ref C) m = some (some (.ref f))
  fn : PySem.W.isFn K (.ref f) = true
  kp : PySem.W.keepIn K (.ref f) = true

section
variable {X : Cx} {pins : List (Addr × Obj)} {σ : St} {H : Hp} {s : Shared} {a C dx : Addr} {fs : List (Str × V)} {f : Str} {v : V} {A : Around} {E : Value → Shared → Prop}

/-- a new instance, tracked, without attributes -/
theorem Inv.made (I : Inv X pins σ H s) : Inv X pins σ (upd (upd H s.heap.objs.size (.own (s.heap.objs.size + 1))) (s.heap.objs.size + 1) (.ins C s.heap.objs.size []))
    { s with heap := (s.heap.push PySem.W.emptyDict).push (PySem.W.instObj C s.heap.objs.size) } := by
  have e1 : (s.heap.push PySem.W.emptyDict).get? s.heap.objs.size = some PySem.W.emptyDict := Heap.get?_push_size s.heap rfl
  have e2 : ((s.heap.push PySem.W.emptyDict).push (PySem.W.instObj C s.heap.objs.size)).get? (s.heap.objs.size + 1) = some (PySem.W.instObj C s.heap.objs.size) := by
    have := Heap.get?_push_size (s.heap.push PySem.W.emptyDict) (o := PySem.W.instObj C s.heap.objs.size) rfl
    rwa [Heap.size_push] at this
  have e3 : (s.heap.push PySem.W.emptyDict).Ns s.heap.objs.size (fun _ => none) := ⟨PySem.W.emptyDict, #[], _, e1, rfl, (fun e he => absurd he (by simp)), fun _ => rfl⟩
  have I1 := I.laid (a := s.heap.objs.size) (o := .own (s.heap.objs.size + 1)) (h' := s.heap.push PySem.W.emptyDict) (t' := s.toks) (fun b u q => Heap.get?_push_of_some _ q) (Nat.le_refl _) ⟨_, e1⟩
  refine I1.laid (a := s.heap.objs.size + 1) (o := .ins C s.heap.objs.size []) (t' := s.toks) (fun b u q => Heap.get?_push_of_some _ q) (Nat.le_of_eq (Heap.size_push _ _)) ?_
  have ne : s.heap.objs.size ≠ s.heap.objs.size + 1 := Nat.ne_of_lt (Nat.lt_succ_self _)
  refine ⟨by rw [upd_ne ne, upd_same], Nat.zero_le _, ne, e2, fun _ => none, (Heap.Ns1.of_empty e3).at fun o q => Heap.get?_push_of_some _ q, fun _ => True.intro, fun y hy => absurd rfl hy⟩

end

/-! ### readings and rules -/
/-- e.f, an attribute of the instance -/
def tFld (K : PySem.W.Frag) (ta : TE) (f : Str) : TE := fun σ H Q => ta σ H fun x H1 => ∃ a C dx fs v, x = .ref a ∧ H1 a = some (.ins C dx fs) ∧ Cls K C ∧ NoAttr K C f ∧ fs.lookup f = some v ∧ Q v H1
/-- e.f, a constant of the class -/
def tCon (K : PySem.W.Frag) (ta : TE) (f : Str) : TE := fun σ H Q => ta σ H fun x H1 => ∃ a C dx fs v u, x = .ref a ∧ H1 a = some (.ins C dx fs) ∧ Cls K C ∧ Con K C f v u ∧ fs.lookup f = none ∧ Q v H1
/-- e.f = value -/
def sFld (K : PySem.W.Frag) (ta tv : TE) (f : Str) : TS := fun D σ H => tv σ H fun y H1 => ta σ H1 fun x H2 => ∃ a C dx fs, x = .ref a ∧ H2 a = some (.ins C dx fs) ∧ Cls K C ∧ NoAttr K C f ∧ fs.length < 1000 ∧
  D.nx σ (upd H2 a (.ins C dx (putF f y fs)))
/-- an augmented operator on two values -/
def InOp (X : Cx) (op : Operator) (rd : V → V → Hp → VK → Prop) : Prop :=
  ∀ (pins : List (Addr × Obj)) (s : Shared) (σ : St) (H : Hp) (x y : V) (u v : Value) (Q : VK), Inv X pins σ H s → RelV x u → RelV y v → rd x y H Q → wpAny (model X.prog X.w) X.A (inplaceOp op u v) (EP X pins σ Q) X.xe s
/-- e.f op= value -/
def sFldAug (K : PySem.W.Frag) (ta tv : TE) (rd : V → V → Hp → VK → Prop) (f : Str) : TS := fun D σ H => ta σ H fun x H1 => ∃ a C dx fs v, x = .ref a ∧ H1 a = some (.ins C dx fs) ∧ Cls K C ∧ NoAttr K C f ∧ fs.lookup f = some v ∧
  tv σ H1 fun y H2 => rd v y H2 fun z H3 => ∃ dx' fs', H3 a = some (.ins C dx' fs') ∧ fs'.length < 1000 ∧ D.nx σ (upd H3 a (.ins C dx' (putF f z fs')))

section
variable {X : Cx} {o e value : Expr} {f : Str} {pos pos' tpos : Pos} {ta tv : TE}
def rAdd : V → V → Hp → VK → Prop := fun x y H Q => ∃ i j, x = .int i ∧ y = .int j ∧ Q (.int (i + j)) H
def rSub : V → V → Hp → VK → Prop := fun x y H Q => ∃ i j, x = .int i ∧ y = .int j ∧ Q (.int (i - j)) H
end

/-! ### isinstance -/
section
variable {X : Cx} {pins : List (Addr × Obj)} {σ : St} {H : Hp} {s : Shared} {A : Around} {E : Value → Shared → Prop} {Q : Value → Shared → Prop} {c : Value} {b : Bool}
/-- the type of a value, as the fragment's deciders take it; for an instance its class -/
inductive TyOf (K : PySem.W.Frag) (H : Hp) : V → Value → Prop where
  | non : TyOf K H .non (.type "NoneType")
  | bl (x : Bool) : TyOf K H (.bl x) (.type "bool")
  | int (i : Int) : TyOf K H (.int i) (.type "int")
  | str (x : Str) : TyOf K H (.str x) (.type "str")
  | flt (x : UInt64) : TyOf K H (.flt x) (.type "float")
  | lst {a : Addr} {xs : List V} (e : H a = some (.lst xs)) : TyOf K H (.ref a) (.type "list")
  | frz {a : Addr} {o : Obj} {xs : List V} (e : H a = some (.frz o (.lst xs))) : TyOf K H (.ref a) (.type "list")
  | tup {a : Addr} {xs : List V} (e : H a = some (.tup xs)) : TyOf K H (.ref a) (.type "tuple")
  | dK {a : Addr} {kvs : List (Key × V)} (e : H a = some (.dK kvs)) : TyOf K H (.ref a) (.type "dict")
  | dT {a : Addr} {kvs : List (List Key × V)} (e : H a = some (.dT kvs)) : TyOf K H (.ref a) (.type "dict")
  | ins {a C dx : Addr} {fs : List (Str × V)} (e : H a = some (.ins C dx fs)) (cl : Cls K C) (ha : PySem.W.findIn K (.ref C) "__class__" = some (some (.builtin "object.__class__")))
      (hn : PySem.W.specialIn K (.builtin "object.__class__") "__get__" = some (some (.builtin "getset_descriptor.__get__"))) (htk : PySem.W.takesIn K (.builtin "object.__class__") = some true)
      (hm : PySem.W.mroIn K C (.type "object") = some true) : TyOf K H (.ref a) (.ref C)
/-- isinstance(x, c) for one class c, a built-in or an own one: kitOne's answer -/
theorem isinst_ok {x : V} {u t : Value} (I : Inv X pins σ H s) (rx : RelV x u) (ty : TyOf X.K H x t) (e : PySem.W.kitOne X.K t c = some b) (h : ∀ tk, Q (.bool b) { s with toks := tk }) :
    wpAny (model X.prog X.w) A (call (.builtin "isinstance") [u, c]) Q E s := by
  cases ty with
  | non => cases (show u = Value.none from rx); exact PySem.W.kia_one PySem.W.kitx_none I.kIn True.intro e (fun z => nomatch z) h
  | bl y => cases (show u = Value.bool y from rx); exact PySem.W.kia_one PySem.W.kitx_bool I.kIn True.intro e (fun z => nomatch z) h
  | int i => obtain ⟨t, q⟩ := (show ∃ t, u = Value.int i t from rx); cases q; exact PySem.W.kia_one PySem.W.kitx_int I.kIn True.intro e (fun z => nomatch z) h
  | str y => obtain ⟨t, q⟩ := (show ∃ t, u = Value.str y t from rx); cases q; exact PySem.W.kia_one PySem.W.kitx_str I.kIn True.intro e (fun z => nomatch z) h
  | flt y => obtain ⟨t, q⟩ := (show ∃ t, u = Value.float y t from rx); cases q; exact PySem.W.kia_one PySem.W.kitx_float I.kIn True.intro e (fun z => nomatch z) h
  | @lst a xs ea =>
    cases (show u = Value.ref a from rx)
    obtain ⟨_, _, n, _, h1⟩ := (show ObjOk X.prog X.w H s.heap a (.lst xs) from I.hok a _ ea)
    exact PySem.W.kia_one PySem.W.kitx_list I.kIn ⟨_, h1, rfl⟩ e (fun z => nomatch z) h
  | @frz a ob xs ea =>
    cases (show u = Value.ref a from rx)
    obtain ⟨_, _, _, n, _, h1⟩ := (show ObjOk X.prog X.w H s.heap a (.frz ob (.lst xs)) from I.hok a _ ea)
    exact PySem.W.kia_one PySem.W.kitx_list I.kIn ⟨_, h1, rfl⟩ e (fun z => nomatch z) h
  | @tup a xs ea =>
    cases (show u = Value.ref a from rx)
    obtain ⟨_, _, _, p⟩ := (show ObjOk X.prog X.w H s.heap a (.tup xs) from I.hok a _ ea)
    obtain ⟨o, h1, h2, _⟩ := p
    exact PySem.W.kia_one PySem.W.kitx_tuple I.kIn ⟨o, h1, h2⟩ e (fun z => nomatch z) h
  | @dK a kvs ea =>
    cases (show u = Value.ref a from rx)
    obtain ⟨_, _, vs, _, p⟩ := (show ObjOk X.prog X.w H s.heap a (.dK kvs) from I.hok a _ ea)
    obtain ⟨o, es, ep, h1, h2, _⟩ := p
    exact PySem.W.kia_one PySem.W.kitx_dict I.kIn ⟨o, h1, h2.1⟩ e (fun z => nomatch z) h
  | @dT a kvs ea =>
    cases (show u = Value.ref a from rx)
    obtain ⟨_, _, xs, _, o, es, ep, h1, h2, _⟩ := (show ObjOk X.prog X.w H s.heap a (.dT kvs) from I.hok a _ ea)
    exact PySem.W.kia_one PySem.W.kitx_dict I.kIn ⟨o, h1, h2.1⟩ e (fun z => nomatch z) h
  | @ins a C dx fs ea cl ha hn htk hm =>
    cases (show u = Value.ref a from rx)
    obtain ⟨mA, O, _⟩ := ins_get I.hok ea
    obtain ⟨od, J, _⟩ := O.look
    exact PySem.W.kia_one (PySem.W.kitx_own (cl.get _) cl.hd ha hn htk hm) I.kIn J e (fun z => nomatch z) h
end
end L2

namespace L2
open PySem PySem.Spec PyProof.Rows

/-! ### room -/
structure Room (k : Nat) (A : Around) : Prop where
  hd : A.handled = none
  dp : A.depth + 3 * k + 5 < recursionLimit
  un : A.units + 16 * k + 200 < cLine
theorem Room.mono {j k : Nat} {A : Around} (r : Room k A) (h : j ≤ k) : Room j A := ⟨r.hd, by have := r.dp; omega, by have := r.un; omega⟩
theorem Room.deeper {k : Nat} {A : Around} (r : Room (k + 1) A) (env : Env) : Room k (A.deeper env) :=
  ⟨r.hd, by have := r.dp; show A.depth + 1 + 3 * k + 5 < _; omega, by have := r.un; show A.units + 3 + 16 * k + 200 < _; omega⟩
theorem Room.in1 {k : Nat} {A : Around} (r : Room (k + 1) A) : Room k A.in1 :=
  ⟨r.hd, by have := r.dp; show A.depth + 3 * k + 5 < _; omega, by have := r.un; show A.units + 1 + 16 * k + 200 < _; omega⟩
theorem make_depth {A : Around} {C : Addr} {us : List Value} {kw : List (Str × Value)} : (A.under (.builtin "type.__call__" ⟨.ref C :: us, kw⟩)).depth = A.depth + 1 := by
  first | rfl | simp [Around.under, Code.weight, Code.isCreation, Code.isGuard, Code.isCaller, Code.frames, Code.isFrame, guardIds]
theorem make_units {A : Around} {C : Addr} {us : List Value} {kw : List (Str × Value)} : (A.under (.builtin "type.__call__" ⟨.ref C :: us, kw⟩)).units = A.units + 1 := by
  first | rfl | simp [Around.under, Code.cUnits, Code.frames, Code.isFrame]
theorem Room.make {k : Nat} {A : Around} (r : Room (k + 1) A) (C : Addr) (us : List Value) (kw : List (Str × Value)) : Room k (A.under (.builtin "type.__call__" ⟨.ref C :: us, kw⟩)) :=
  ⟨r.hd, by have := r.dp; rw [make_depth]; omega, by have := r.un; rw [make_units]; omega⟩
theorem Room.depth {k : Nat} {A : Around} (r : Room k A) : A.depth < recursionLimit := by have := r.dp; omega
theorem Room.units {k : Nat} {A : Around} (r : Room k A) : A.units + 64 < cLine := by have := r.un; omega
/-! ### argument lists and displays -/
def tNil : TA := fun _ H Q => Q [] H
def tCons (ta : TE) (tr : TA) : TA := fun σ H Q => ta σ H fun x H1 => tr σ H1 fun xs H2 => Q (x :: xs) H2
section
variable {X : Cx} {e : Expr} {es : List Expr} {te : TE} {t : TA} {pos : Pos}
theorem pa_nil : PA X [] tNil := fun _ _ _ _ H Q I h => Calls.spliced_nil ⟨[], H, I, .nil, h⟩
theorem pa_cons (ha : PE X e te) (hr : PA X es t) (hs : starEach (e :: es) X.env = (false, eval e X.env) :: starEach es X.env := by rfl) : PA X (e :: es) (tCons te t) := by
  intro pos pins s σ H Q I h
  rw [hs]
  show wpAny _ _ (spliced ((false, eval e X.env) :: backTo pos (starEach es X.env))) _ _ s
  refine Calls.spliced_cons (thn (ha pins s σ H _ I h) fun u s1 ⟨x, H1, I1, r1, q1⟩ => ?_)
  exact thn (hr pos pins s1 σ H1 _ I1 q1) fun us s2 ⟨xs, H2, I2, r2, q2⟩ => ⟨x :: xs, H2, I2, .cons r1 r2, q2⟩

/-- a tuple, a list of written items -/
def tTup (t : TA) : TE := fun σ H Q => t σ H fun xs H1 => xs.length ≤ sizeLine ∧ ∀ p, H1 p = none → Q (.ref p) (upd H1 p (.tup xs))
def tLst (t : TA) : TE := fun σ H Q => t σ H fun xs H1 => xs.length ≤ sizeLine ∧ ∀ p, H1 p = none → Q (.ref p) (upd H1 p (.lst xs))
theorem pe_tup {x1} (h : PA X es t) : PE X (.Tuple es x1 pos) (tTup t) := by
  intro pins s σ H Q I hq
  refine wpAny_Tuple_spliced (thn (h pos pins s σ H _ I hq) fun us s1 ⟨xs, H1, I1, r, z, q⟩ => ⟨by rw [← r.length]; exact z, ?_⟩)
  have hf : H1 s1.heap.objs.size = none := I1.hok.fresh (Nat.le_refl _)
  refine ⟨.ref s1.heap.objs.size, upd H1 s1.heap.objs.size (.tup xs), I1.laid (t' := s1.toks) (fun b u e => Heap.get?_push_of_some _ e) (Nat.le_refl _) ?_, rfl, q _ hf⟩
  exact ⟨z, us, r, ⟨_, Heap.get?_push_size _ rfl, rfl, _, rfl⟩⟩
theorem pe_lst (h : PA X es t) : PE X (.List es pos) (tLst t) := by
  intro pins s σ H Q I hq
  refine wpAny_List_spliced (thn (h pos pins s σ H _ I hq) fun us s1 ⟨xs, H1, I1, r, z, q⟩ => ⟨by rw [← r.length]; exact z, ?_⟩)
  have hf : H1 s1.heap.objs.size = none := I1.hok.fresh (Nat.le_refl _)
  refine ⟨.ref s1.heap.objs.size, upd H1 s1.heap.objs.size (.lst xs), I1.laid (t' := s1.toks) (fun b u e => Heap.get?_push_of_some _ e) (Nat.le_refl _) ?_, rfl, q _ hf⟩
  exact ⟨z, us, 0, r, Heap.get?_push_size _ rfl⟩
end

/-! ### what a def promises -/
/-- a def's promise: the bound arguments in the parameters' order, the heap, the wanted end, the wanted exception -/
abbrev Sp := List V → Hp → VK → XK → Prop
/-- how an exception lies behind a call (file 08 gives it): the callers' frames, abstract heap and state ahead of the call, the wish, the exception, the state -/
abbrev CXT := List Env → Hp → Shared → XK → Value → Shared → Prop

/-- the state at a call -/
structure Env0 (P : Program) (w : World) (K : PySem.W.Frag) (mg : Str → Option Value) (base : Heap) (A : Around) (outer : List Env) (s : Shared) (H : Hp) : Prop where
  frames : A.frames = some outer
  mod : Mod K mg base
  bs : ∀ b o, base.get? b = some o → s.heap.get? b = some o ∧ H b = none
  bsz : base.objs.size ≤ s.heap.objs.size
  funs : s.heap.FunFrames base outer
  frf : ∀ b ∈ frs outer, H b = none
  hok : HOk P w H s.heap
  bare : AllBare s.gens
/-- a call's end -/
def CE (outer : List Env) (P : Program) (w : World) (H : Hp) (s : Shared) (Q : VK) (u : Value) (s' : Shared) : Prop :=
  ∃ v H', s'.os = s.os ∧ AllBare s'.gens ∧ Un (frs outer) [] H H' s.heap s'.heap ∧ HOk P w H' s'.heap ∧ RelV v u ∧ Q v H'
def CR (CX : CXT) (outer : List Env) (P : Program) (w : World) (H : Hp) (s : Shared) (Q : VK) (E : XK) (r : Result) (s' : Shared) : Prop :=
  match r with
  | .ok (.ret u) => CE outer P w H s Q u s'
  | .ok _ => False
  | .error e => CX outer H s E e s'
structure FnOk (P : Program) (w : World) (K : PySem.W.Frag) (mg : Str → Option Value) (base : Heap) (CX : CXT) (k : Nat) (f : Addr) (fd : FuncData) (ps : List Str) (sp : Sp) : Prop where
  len : ∀ vs H Q E, sp vs H Q E → vs.length = ps.length
  run : ∀ (A : Around) (outer : List Env) (s : Shared) (H : Hp) (args : Args) (us : List Value) (vs : List V) (Q : VK) (E : XK), Room k A → Env0 P w K mg base A outer s H → BindsTo s fd args (ps.zip us) → Vals vs us → sp vs H Q E →
    codeAny (model P w) A (.call (.ref f) args) (CR CX outer P w H s Q E) s
theorem FnOk.mono {P : Program} {w : World} {K : PySem.W.Frag} {mg : Str → Option Value} {base : Heap} {CX : CXT} {j k : Nat} {f : Addr} {fd : FuncData} {ps : List Str} {sp : Sp} (F : FnOk P w K mg base CX j f fd ps sp) (h : j ≤ k) :
    FnOk P w K mg base CX k f fd ps sp := ⟨F.len, fun A outer s H args us vs Q E hr => F.run A outer s H args us vs Q E (hr.mono h)⟩
/-- a weaker promise -/
theorem FnOk.imp {P : Program} {w : World} {K : PySem.W.Frag} {mg : Str → Option Value} {base : Heap} {CX : CXT} {k : Nat} {f : Addr} {fd : FuncData} {ps : List Str} {sp sp' : Sp} (F : FnOk P w K mg base CX k f fd ps sp)
    (h : ∀ vs H Q E, sp' vs H Q E → sp vs H Q E) : FnOk P w K mg base CX k f fd ps sp' :=
  ⟨fun vs H Q E q => F.len vs H Q E (h _ _ _ _ q), fun A outer s H args us vs Q E hr he hb hv hs => F.run A outer s H args us vs Q E hr he hb hv (h _ _ _ _ hs)⟩

theorem Env0.make {P : Program} {w : World} {K : PySem.W.Frag} {mg : Str → Option Value} {base : Heap} {A : Around} {outer : List Env} {s : Shared} {H : Hp} (e : Env0 P w K mg base A outer s H) (C : Addr) (us : List Value) (kw : List (Str × Value)) :
    Env0 P w K mg base (A.under (.builtin "type.__call__" ⟨.ref C :: us, kw⟩)) outer s H := ⟨by first | exact e.frames | (simpa [Around.under, Code.envs, Code.isFrame, pushEnvs] using e.frames), e.mod, e.bs, e.bsz, e.funs, e.frf, e.hok, e.bare⟩
theorem Env0.in1 {P : Program} {w : World} {K : PySem.W.Frag} {mg : Str → Option Value} {base : Heap} {A : Around} {outer : List Env} {s : Shared} {H : Hp} (e : Env0 P w K mg base A outer s H) :
    Env0 P w K mg base A.in1 outer s H := ⟨e.frames, e.mod, e.bs, e.bsz, e.funs, e.frf, e.hok, e.bare⟩

section
variable {X : Cx} {pins : List (Addr × Obj)} {σ : St} {H : Hp} {s s' : Shared}
/-- from a body: what a callee wants -/
theorem Inv.env0 (I : Inv X pins σ H s) : Env0 X.prog X.w X.K X.mg X.base X.A X.stack s H :=
  ⟨I.ok.frames, I.ok.mod, I.bs, Nat.le_trans I.ok.bsz I.sz, I.stack, I.stkFree, I.hok, I.bare⟩
/-- behind a call -/
theorem Inv.after {Q : VK} {u : Value} (I : Inv X pins σ H s) (h : CE X.stack X.prog X.w H s Q u s') : EP X pins σ Q u s' := by
  obtain ⟨v, H', os, bare, un, hok, r, q⟩ := h
  obtain ⟨hh, g, d, t, os'⟩ := s'
  obtain rfl : os' = s.os := os
  exact ⟨v, H', I.call (h' := hh) (g' := g) (d' := d) (t' := t) (ch := []) un hok bare (fun b z => absurd z (by simp)), r, q⟩
end

/-! ### calls -/
/-- f(..): the written arguments, then the defaults dvs; E: what is wanted of an exception -/
def tCall (sp : Sp) (dvs : List V) (E : XK) (t : TA) : TE := fun σ H Q => t σ H fun vs H1 => sp (vs ++ dvs) H1 Q E
/-- o.m(..) of an instance of the class at C -/
def tMeth (C : Addr) (m : Str) (sp : Sp) (dvs : List V) (E : XK) (ta : TE) (t : TA) : TE := fun σ H Q => ta σ H fun x H1 => ∃ a dx fs, x = .ref a ∧ H1 a = some (.ins C dx fs) ∧ fs.lookup m = none ∧
  t σ H1 fun vs H2 => sp (x :: (vs ++ dvs)) H2 Q E
/-- C(..): a new instance and its dict, then __init__ -/
def tMake (C : Addr) (sp : Sp) (dvs : List V) (E : XK) (t : TA) : TE := fun σ H Q => t σ H fun vs H1 => ∀ x dx, H1 x = none → H1 dx = none → dx ≠ x →
  sp (.ref x :: (vs ++ dvs)) (upd (upd H1 dx (.own x)) x (.ins C dx [])) (fun v H2 => v = .non ∧ Q (.ref x) H2) E

/-- how the parameters are bound: us the positional arguments, kw the keywords' values by name, ds the defaults that fill up -/
def Binds (K : PySem.W.Frag) (fd : FuncData) (ps : List Str) (ds : List Value) : Prop :=
  ∀ (s : Shared) (us : List Value), K.In s.heap → (us ++ ds).length = ps.length → BindsTo s fd ⟨us, []⟩ (ps.zip (us ++ ds))
/-- every parameter is given -/
theorem Binds.all {K : PySem.W.Frag} {fd : FuncData} {ps : List Str} (h : ∀ us : List Value, us.length = ps.length → bindArgs fd ⟨us, []⟩ = pure (ps.zip us)) : Binds K fd ps [] := fun s us _ hl => by
  rw [List.append_nil] at hl ⊢
  exact .of_eq (h us hl)

/-- an exception of a callee reaches what this body wants of exceptions -/
def Passes (CX : CXT) (X : Cx) (E : XK) : Prop := ∀ (pins : List (Addr × Obj)) (σ : St) (H : Hp) (s : Shared) (e : Value) (s' : Shared), Inv X pins σ H s → CX X.stack H s E e s' → X.xe e s'

section
variable {X : Cx} {CX : CXT} {k : Nat} {f C : Addr} {fd : FuncData} {ps : List Str} {sp : Sp} {dvs : List V} {ds : List Value} {E : XK} {x m : Str} {p pos apos : Pos} {e o : Expr} {es : List Expr} {ta : TE} {t : TA}

/-- the callee runs -/
theorem run_fn {pins : List (Addr × Obj)} {σ : St} {H : Hp} {s : Shared} {Q : VK} {us : List Value} {vs : List V} (F : FnOk X.prog X.w X.K X.mg X.base CX k f fd ps sp) (hr : Room k X.A) (hb : Binds X.K fd ps ds) (hd : Vals dvs ds) (hx : Passes CX X E)
    (I : Inv X pins σ H s) (r : Vals vs us) (h : sp (vs ++ dvs) H Q E) : wpAny (model X.prog X.w) X.A (call (.ref f) us) (EP X pins σ Q) X.xe s := by
  have r2 : Vals (vs ++ dvs) (us ++ ds) := r.append hd
  have hl : (us ++ ds).length = ps.length := by rw [← r2.length]; exact F.len _ _ _ _ h
  refine wpAny_call (codeAny_mono (F.run X.A X.stack s H ⟨us, []⟩ (us ++ ds) (vs ++ dvs) Q E hr I.env0 (hb s us I.kIn hl) r2 h) fun r s' hq => ?_)
  cases r with
  | error e => exact hx pins σ H s e s' I hq
  | ok fl =>
    cases fl with
    | ret u => exact I.after hq
    | next => exact False.elim hq
    | brk => exact False.elim hq
    | cont => exact False.elim hq

theorem pe_call (F : FnOk X.prog X.w X.K X.mg X.base CX k f fd ps sp) (hr : Room k X.A) (hg : Gl X x) (hm : X.mg x = some (.ref f)) (hk : PySem.W.keepIn X.K (.ref f) = true) (hb : Binds X.K fd ps ds) (hd : Vals dvs ds) (hx : Passes CX X E)
    (ha : PA X (e :: es) t) (hdb : (x == ("__debug__" : Str)) = false := by decide) (he : starEach (e :: es) X.env = (false, eval e X.env) :: starEach es X.env := by rfl) (hpl : (backTo pos (starEach es X.env)).any (·.1) = false := by rfl) :
    PE X (.Call (.Name x p) (e :: es) [] pos) (tCall sp dvs E t) := by
  intro pins s σ H Q I h
  refine wpAny_Call_Name_kw (ld_glob I hg hm ?_ hdb)
  refine PySem.W.callWith_K (h₀ := X.base) I.ok.mod.kin hk (thn (ha pos pins s σ H _ I h) fun us s1 ⟨vs, H1, I1, r, q⟩ => ⟨I1.kIn, ?_⟩) he hpl
  exact run_fn F hr hb hd hx I1 r q
/-- what a class must have to be made -/
structure Mk (K : PySem.W.Frag) (C f : Addr) : Prop where
  makes : PySem.W.makesIn K C = true
  init : PySem.W.findIn K (.ref C) "__init__" = some (some (.ref f))
  fn : PySem.W.isFn K (.ref f) = true
  kp : PySem.W.keepIn K (.ref C) = true

end

/-! ### keywords -/
/-- the values of the keywords, from the left -/
def PK (X : Cx) (kws : List Keyword) (t : TA) : Prop :=
  ∀ (pos : Pos) (pins : List (Addr × Obj)) (s : Shared) (σ : St) (H : Hp) (Q : List V → Hp → Prop), Inv X pins σ H s → t σ H Q → wpAny (model X.prog X.w) X.A (evalAll ((backToKw pos (keywordEach kws X.env)).map (·.2))) (AP X pins σ Q) X.xe s
section
variable {X : Cx} {CX : CXT} {k : Nat} {f C : Addr} {fd : FuncData} {ps ks : List Str} {sp : Sp} {E : XK} {x m : Str} {p pos apos kpos : Pos} {e o : Expr} {es : List Expr} {kws : List Keyword} {te ta : TE} {t tk : TA} {nm : Option Str}
theorem pk_nil : PK X [] tNil := fun _ _ _ _ H Q I h => wpAny_evalAll_nil ⟨[], H, I, .nil, h⟩
theorem pk_cons (ha : PE X e te) (hr : PK X kws t) : PK X (⟨nm, e, kpos⟩ :: kws) (tCons te t) := by
  intro pos pins s σ H Q I h
  show wpAny _ _ (evalAll ((do let v ← eval e X.env; standAt pos; pure v) :: (backToKw pos (keywordEach kws X.env)).map (·.2))) _ _ s
  refine wpAny_evalAll_cons (wpAny_bind (thn (ha pins s σ H _ I h) fun u s1 ⟨x, H1, I1, r1, q1⟩ => wpAny_bind (wpAny_standAt (wpAny_pure ?_))))
  exact thn (hr pos pins s1 σ H1 _ I1 q1) fun us s2 ⟨xs, H2, I2, r2, q2⟩ => ⟨x :: xs, H2, I2, .cons r1 r2, q2⟩

/-- how a call with keywords binds: g puts the positional values us and the keywords' values ws (names ks) in the parameters' order, defaults among them -/
structure KBinds (K : PySem.W.Frag) (fd : FuncData) (ps ks : List Str) (g : List Value → List Value → List Value) (gV : List V → List V → List V) : Prop where
  to : ∀ (s : Shared) (us ws : List Value), K.In s.heap → (g us ws).length = ps.length → BindsTo s fd ⟨us, ks.zip ws⟩ (ps.zip (g us ws))
  rel : ∀ {vs : List V} {us : List Value} {zs : List V} {ws : List Value}, Vals vs us → Vals zs ws → Vals (gV vs zs) (g us ws)
def tCallK (sp : Sp) (gV : List V → List V → List V) (E : XK) (t tk : TA) : TE := fun σ H Q => t σ H fun vs H1 => tk σ H1 fun zs H2 => sp (gV vs zs) H2 Q E
variable {g : List Value → List Value → List Value} {gV : List V → List V → List V}
end

/-! ### a def's body keeps its promise -/
/-- names: the parameters first -/
structure FnScope (N P : List Str) (sc : Scope) : Prop where
  kind : sc.kind = .function
  co : sc.isCoroutine = false
  gen : sc.isGenerator = false
  nd : N.Nodup
  pre : N.take P.length = P
  par : ∀ x ∈ P, sc.names.lookup x = some .local ∨ sc.names.lookup x = some .cell
  nofree : ∀ y ∈ sc.names, y.2 ≠ .free

theorem bindL_out {kindOf : Str → Option NameKind} {x : Str} : ∀ {binds : List (Str × Value)} {m : Str → Option Value}, (∀ v, (x, v) ∉ binds) → bindL kindOf binds m x = m x
  | [], _, _ => rfl
  | (n, v) :: r, m, h => by
    unfold bindL
    rw [bindL_out fun w hw => h w (List.mem_cons_of_mem _ hw)]
    split
    · have : x ≠ n := by rintro rfl; exact h v List.mem_cons_self
      simp [this]
    · rfl
theorem bindC_out {kindOf : Str → Option NameKind} {x : Str} : ∀ {binds : List (Str × Value)} {m : Str → Option Value}, (∀ v, (x, v) ∉ binds) → bindC kindOf binds m x = m x
  | [], _, _ => rfl
  | (n, v) :: r, m, h => by
    unfold bindC
    rw [bindC_out fun w hw => h w (List.mem_cons_of_mem _ hw)]
    split
    · rfl
    · have : x ≠ n := by rintro rfl; exact h v List.mem_cons_self
      simp [this]
theorem bindL_get {kindOf : Str → Option NameKind} {x : Str} {v : Value} : ∀ {P : List Str} {vs : List Value} {i : Nat} {m : Str → Option Value}, P.Nodup → P[i]? = some x → vs[i]? = some v → kindOf x = some .local →
    bindL kindOf (P.zip vs) m x = some v
  | [], _, _, _, _, h, _, _ => by simp at h
  | _ :: _, [], _, _, _, _, h, _ => by simp at h
  | p :: P, w :: vs, 0, m, nd, h1, h2, hk => by
    simp at h1 h2; subst h1; subst h2
    show bindL kindOf ((p, w) :: P.zip vs) m p = _
    unfold bindL
    rw [bindL_out fun v hv => (List.nodup_cons.mp nd).1 (List.of_mem_zip hv).1, if_pos hk]
    simp
  | p :: P, w :: vs, i + 1, m, nd, h1, h2, hk => by
    show bindL kindOf ((p, w) :: P.zip vs) m x = _
    unfold bindL
    exact bindL_get (i := i) (List.nodup_cons.mp nd).2 (by simpa using h1) (by simpa using h2) hk
theorem bindC_get {kindOf : Str → Option NameKind} {x : Str} {v : Value} : ∀ {P : List Str} {vs : List Value} {i : Nat} {m : Str → Option Value}, P.Nodup → P[i]? = some x → vs[i]? = some v → kindOf x ≠ some .local →
    bindC kindOf (P.zip vs) m x = some v
  | [], _, _, _, _, h, _, _ => by simp at h
  | _ :: _, [], _, _, _, _, h, _ => by simp at h
  | p :: P, w :: vs, 0, m, nd, h1, h2, hk => by
    simp at h1 h2; subst h1; subst h2
    show bindC kindOf ((p, w) :: P.zip vs) m p = _
    unfold bindC
    rw [bindC_out fun v hv => (List.nodup_cons.mp nd).1 (List.of_mem_zip hv).1, if_neg hk]
    simp
  | p :: P, w :: vs, i + 1, m, nd, h1, h2, hk => by
    show bindC kindOf ((p, w) :: P.zip vs) m x = _
    unfold bindC
    exact bindC_get (i := i) (List.nodup_cons.mp nd).2 (by simpa using h1) (by simpa using h2) hk

/-- the names' values at the entry -/
def start (N : List Str) (vs : List V) : St := vs.map some ++ List.replicate (N.length - vs.length) none

/-- the context of a def's body, at its entry; an exception leaves the frame, then lies as CX says -/
def cxOf (CX : CXT) (P : Program) (w : World) (K : PySem.W.Frag) (mg : Str → Option Value) (base : Heap) (N : List Str) (qual : Str) (scope : Scope) (f : Addr) (cd : Value) (A : Around) (outer : List Env) (s : Shared) (H : Hp) (E : XK) : Cx where
  prog := P
  w := w
  K := K
  mg := mg
  base := base
  A := A.deeper (envOfC qual scope s.heap.objs.size f cd)
  N := N
  s₀ := s
  H₀ := H
  env := envOfC qual scope s.heap.objs.size f cd
  outer := outer
  stack := envOfC qual scope s.heap.objs.size f cd :: outer
  ex := []
  calm := true
  fn := fun _ => true
  pn := []
  xe := fun e s' => wpAny (model P w) (A.deeper (envOfC qual scope s.heap.objs.size f cd)) (leaving (envOfC qual scope s.heap.objs.size f cd) e) (fun _ s'' => CX outer H s E e s'') (fun e' s'' => CX outer H s E e' s'') s'

theorem cell_has {sc : Scope} {n : Nat} {x : Str} (h : sc.names.lookup x = some .cell) : ∃ c, (cellsFrom n sc.names []).lookup x = some c := by
  have q := PySem.W.cellsFrom_some sc.names n [] (.inl h)
  exact Option.isSome_iff_exists.mp q

theorem inv_start {CX : CXT} {P : Program} {w : World} {K : PySem.W.Frag} {mg : Str → Option Value} {base : Heap} {N ps : List Str} {qual : Str} {scope : Scope} {f : Addr} {cd : Value} {A : Around} {outer : List Env} {s s1 : Shared} {H : Hp} {E : XK} {us : List Value} {vs : List V}
    (S : FnScope N ps scope) (hd : A.handled = none) (e0 : Env0 P w K mg base A outer s H) (hl : vs.length = ps.length) (r : Vals vs us)
    (x : InCallC s s.heap.objs.size (bindL (envOfC qual scope s.heap.objs.size f cd).kindOf (ps.zip us) fun _ => none) (cellsFrom (s.heap.objs.size + 1) scope.names []) (bindC (envOfC qual scope s.heap.objs.size f cd).kindOf (ps.zip us) fun _ => none) s1) :
    Inv (cxOf CX P w K mg base N qual scope f cd A outer s H E) [] (start N vs) H s1 := by
  have hpl : ps.length ≤ N.length := by have := congrArg List.length S.pre; rw [List.length_take] at this; omega
  obtain ⟨h1, tk, rfl, hk⟩ := x.done
  have noA : ∀ b : Addr, b ∉ (cxOf CX P w K mg base N qual scope f cd A outer s H E).ex := fun b z => absurd (show b ∈ ([] : List Addr) from z) (by simp)
  refine ⟨⟨e0.mod, S.kind, rfl, rfl, Nat.le_refl _, fun y z c h1 h2 => ?_, fun y hy => ?_, fun y c _ h => ?_, fun _ => hd, Around.frames_deeper e0.frames, .inr ⟨rfl, rfl⟩, fun b z => absurd z (noA b), e0.bs, e0.bsz, fun b _ _ => noA b, fun b z => absurd z (noA b), e0.funs, e0.frf⟩,
    rfl, e0.bare, Un.kept hk, ⟨_, x.toInCall.ns, fun i y v h1 h2 h3 => ?_⟩, fun y c h => ⟨_, x.cell y c h⟩, e0.hok.fresh (Nat.le_refl _), fun y c h => ?_, fun p hp => absurd (show p ∈ ([] : List (Addr × Obj)) from hp) (by simp), e0.hok.kept hk, ?_⟩
  · exact name_of_addr x.apart (PySem.mem_of_lookup h1) (PySem.mem_of_lookup h2)
  · have hy : scope.names.lookup y = some .cell ∨ scope.names.lookup y = some .free := hy
    rcases hy with hy | hy
    · exact cell_has hy
    · exact absurd rfl (S.nofree _ (PySem.mem_of_lookup hy))
  · exact Nat.le_of_lt (x.above y c (PySem.mem_of_lookup h))
  · have hi : i < vs.length := by
      unfold start at h2
      by_cases hi : i < vs.length
      · exact hi
      · rw [List.getElem?_append_right (by simpa using hi)] at h2
        rw [List.getElem?_replicate] at h2
        split at h2 <;> cases h2
    have ha : vs[i]? = some v := by
      unfold start at h2
      rw [List.getElem?_append_left (by simpa using hi), List.getElem?_map] at h2
      cases e : vs[i]? with
      | none => rw [e] at h2; cases h2
      | some a => rw [e] at h2; cases h2; rfl
    obtain ⟨u, hu, rv⟩ := r.get ha
    have hp : ps[i]? = some y := by
      rw [← S.pre, List.getElem?_take_of_lt (by omega)]; exact h1
    have ndP : ps.Nodup := by rw [← S.pre]; exact S.nd.sublist (List.take_sublist _ _)
    refine ⟨u, rv, ?_⟩
    rcases S.par y (List.mem_of_getElem? hp) with k | k
    · exact .inl ⟨k, bindL_get ndP hp hu k⟩
    · obtain ⟨c, e⟩ := cell_has (n := s.heap.objs.size + 1) k
      refine .inr ⟨.inl k, c, e, ?_⟩
      have q := x.cell y c e
      rw [bindC_get ndP hp hu (by show scope.names.lookup y ≠ _; rw [k]; decide)] at q
      exact q
  · exact e0.hok.fresh (Nat.le_of_lt (x.above y c (PySem.mem_of_lookup h)))
  · unfold start
    show _ = N.length
    rw [List.length_append, List.length_map, List.length_replicate]
    omega

/-- THE RULE: a def (or a method) of the text, by its body. The body's reading t is chosen for each entry; it is run at the parameters' values -/
theorem fn_of {CX : CXT} {P : Program} {w : World} {K : PySem.W.Frag} {mg : Str → Option Value} {base : Heap} {k : Nat} {f : Addr} {name qual : Str} {params : Arguments} {body : List Stmt} {scope : Scope} {dV kV doc pm cdv ct oc : Value} {an od : Option Addr}
    {osl : Array (Option Value)} {N ps : List Str} {sp : Sp} (lk : K.lookup f = some ⟨oc, od, .func (PySem.W.fnOf name qual params body scope dV kV doc pm an cdv ct), osl⟩) (hcd : PySem.W.codeIn K cdv qual = true) (S : FnScope N ps scope)
    (len : ∀ vs H Q E, sp vs H Q E → vs.length = ps.length)
    (hbody : ∀ (A : Around) (outer : List Env) (s : Shared) (H : Hp) (vs : List V) (Q : VK) (E : XK), Room k (A.deeper (envOfC qual scope s.heap.objs.size f cdv)) → sp vs H Q E →
      ∃ t, PSs (cxOf CX P w K mg base N qual scope f cdv A outer s H E) body t ∧ t { nx := fun _ H' => Q .non H', rt := Q } (start N vs) H) :
    FnOk P w K mg base CX (k + 1) f (PySem.W.fnOf name qual params body scope dV kV doc pm an cdv ct) ps sp := by
  refine ⟨len, fun A outer s H args us vs Q E hr e0 hb r hsp => ?_⟩
  have hl := len _ _ _ _ hsp
  have KX : K.In s.heap := e0.mod.kin.keeps fun b o e => (e0.bs b o e).1
  have lim : s.heap.NoLimit := e0.mod.nolimit.keeps fun b o e => (e0.bs b o e).1
  have hkind : ∀ y ∈ ps.zip us, scope.names.lookup y.1 = some .local ∨ (scope.names.lookup y.1 = some .cell ∧ ((cellsFrom (s.heap.objs.size + 1) scope.names []).lookup y.1).isSome = true) := fun ⟨n, v⟩ hy => by
    rcases S.par n (List.of_mem_zip hy).1 with q | q
    · exact .inl q
    · exact .inr ⟨q, PySem.W.cellsFrom_some _ _ _ (.inl q)⟩
  refine codeAny_call_function hr.depth (KX _ _ lk) rfl S.co S.gen rfl (PySem.W.codeRec_of KX hcd) (hb _ _ _ _ ?_)
  refine wpAny_newFunctionEnv_cells S.kind hkind fun env he s1 x => ?_
  subst he
  refine ⟨lim.keeps x.toInCall.keep, codeAny_func ?_⟩
  obtain ⟨t, ht, hq⟩ := hbody A outer s H vs Q E (hr.deeper _) hsp
  have I : Inv (cxOf CX P w K mg base N qual scope f cdv A outer s H E) [] (start N vs) H s1 := inv_start S hr.hd e0 hl r x
  refine wpAny_mono (ht [] s1 (start N vs) H _ I hq) (fun fl s' hs => ?_) fun e s' hs => hs
  have fin : ∀ {σ' : St} {H' : Hp} {v : V} {u : Value}, Inv (cxOf CX P w K mg base N qual scope f cdv A outer s H E) [] σ' H' s' → RelV v u → Q v H' → CE outer P w H s Q u s' :=
    fun {σ' H' v u} J rv q => ⟨v, H', J.os, J.bare, J.base, J.hok, rv, q⟩
  cases fl with
  | ret u =>
    obtain ⟨v, σ', H', J, rv, q⟩ := hs
    exact fin J rv q
  | next =>
    obtain ⟨σ', H', J, q⟩ := hs
    exact fin (v := V.non) (u := Value.none) J rfl q
  | brk =>
    obtain ⟨_, _, _, q⟩ := hs
    exact False.elim q
  | cont =>
    obtain ⟨_, _, _, q⟩ := hs
    exact False.elim q
end L2

namespace L2
open PySem PySem.Spec PyProof.Rows
section
variable {X : Cx} {x : Str} {p pos : Pos} {e : Expr} {es : List Expr} {t : TA} {id T : String} {r : List V → Hp → VK → Prop}

def tCB (r : List V → Hp → VK → Prop) (t : TA) : TE := fun σ H Q => t σ H fun vs H1 => r vs H1 Q
/-- f(e, ..), f a built-in function -/
theorem pe_callB (hc : CallR X (.builtin id) r) (hg : Gl X x) (hm : X.mg x = none) (hv : bootBuiltins x = some (.builtin id)) (ha : PA X (e :: es) t) (hn : x ≠ "__name__" := by decide) (hdb : (x == ("__debug__" : Str)) = false := by decide)
    (he : starEach (e :: es) X.env = (false, eval e X.env) :: starEach es X.env := by rfl) (hpl : (backTo pos (starEach es X.env)).any (·.1) = false := by rfl) : PE X (.Call (.Name x p) (e :: es) [] pos) (tCB r t) := by
  intro pins s σ H Q I h
  refine wpAny_Call_Name_kw (ld_blt I hg hm hv ?_ hn hdb)
  exact PyProof.Rows.callWith_builtin1 (thn (ha pos pins s σ H _ I h) fun us s1 ⟨vs, H1, I1, r1, q1⟩ => hc pins s1 σ H1 vs us Q I1 r1 q1) he hpl
/-- T(e, ..), T a built-in type -/
theorem pe_callTy (hc : CallR X (.type T) r) (hg : Gl X x) (hm : X.mg x = none) (hv : bootBuiltins x = some (.type T)) (ha : PA X (e :: es) t) (hn : x ≠ "__name__" := by decide) (hdb : (x == ("__debug__" : Str)) = false := by decide)
    (he : starEach (e :: es) X.env = (false, eval e X.env) :: starEach es X.env := by rfl) (hpl : (backTo pos (starEach es X.env)).any (·.1) = false := by rfl) : PE X (.Call (.Name x p) (e :: es) [] pos) (tCB r t) := by
  intro pins s σ H Q I h
  refine wpAny_Call_Name_kw (ld_blt I hg hm hv ?_ hn hdb)
  exact PyProof.Rows.callWith_type1 (thn (ha pos pins s σ H _ I h) fun us s1 ⟨vs, H1, I1, r1, q1⟩ => hc pins s1 σ H1 vs us Q I1 r1 q1) he hpl
end
end L2

namespace HT
open PySem PyProof.Rows

/-- t < u of tuples of ints -/
def lexLt : List Int → List Int → Bool
  | [], [] => false
  | [], _ :: _ => true
  | _ :: _, [] => false
  | x :: xs, y :: ys => if x = y then lexLt xs ys else decide (x < y)
section
open PySem.SeqAt
open PySem.AutoSeq1 (wpAny_loadPart')
open PySem.MeetsSeq PySem.MeetsSeq2 PySem.MeetsSeq3

end

section
variable {prog : Program} {w : World} {A : Around} {E : Value → Shared → Prop} {s : Shared}

/-! ### t[a:b], not the whole -/
/-- a slice's bound as a place among n (d where it is left out) -/
def sIx (n d : Nat) : Option Int → Nat
  | none => d
  | some v => if v < 0 then (v + (n : Int)).toNat else min v.toNat n
theorem sIx_nat (n d k : Nat) : sIx n d (some (k : Int)) = min k n := by
  show (if (k : Int) < 0 then ((k : Int) + (n : Int)).toNat else min (k : Int).toNat n) = min k n
  rw [if_neg (by omega), Int.toNat_natCast]
end
end HT

namespace L2
open PySem PySem.Spec PyProof.Rows

/-! ### the parts of a slice -/
abbrev TO := St → Hp → (Option Int → Hp → Prop) → Prop
/-- a slice's part (left out, or an int) -/
def PO (X : Cx) (e : Option Expr) (t : TO) : Prop :=
  ∀ (pins : List (Addr × Obj)) (s : Shared) (σ : St) (H : Hp) (Q : Option Int → Hp → Prop), Inv X pins σ H s → t σ H Q →
    wpAny (model X.prog X.w) X.A (evalPart e X.env) (fun u s' => ∃ o H', Inv X pins σ H' s' ∧ IsPart u o ∧ Q o H') X.xe s
def tNoPart : TO := fun _ H Q => Q none H
def tPart (t : TE) : TO := fun σ H Q => t σ H fun x H1 => ∃ i, x = .int i ∧ Q (some i) H1

section
variable {X : Cx} {e : Expr} {te : TE} {lo hi : Option Expr} {tl th : TO} {pos p2 : Pos}

theorem po_none : PO X none tNoPart := by
  intro pins s σ H Q I h
  rw [evalPart_none]
  exact wpAny_pure ⟨none, H, I, .none, h⟩
theorem po_some (h : PE X e te) : PO X (some e) (tPart te) := by
  intro pins s σ H Q I hw
  rw [evalPart_some]
  refine thn (h pins s σ H _ I hw) fun u s1 ⟨x, H1, I1, r1, q1⟩ => ?_
  obtain ⟨i, rfl, q⟩ := q1
  obtain ⟨t, rfl⟩ := r1
  exact ⟨some i, H1, I1, .int i t, q⟩

/-- what a slice of a value is, by values: the slice object stands at sl -/
def SlR (X : Cx) (r : V → Option Int → Option Int → Hp → VK → Prop) : Prop :=
  ∀ (pins : List (Addr × Obj)) (s : Shared) (σ : St) (H : Hp) (x : V) (v vl vu : Value) (lo hi : Option Int) (sl : Addr) (Q : VK), Inv X pins σ H s → RelV x v → s.heap.IsSliceOf sl vl vu .none → IsPart vl lo → IsPart vu hi → r x lo hi H Q →
    ∃ T id, typeLookup (.type T) "__getitem__" = pure (some (.builtin id)) ∧ s.TypeIs v T ∧ wpAny (model X.prog X.w) X.A (getItem v (.ref sl)) (EP X pins σ Q) X.xe s
theorem SlR.or {r r' : V → Option Int → Option Int → Hp → VK → Prop} (h : SlR X r) (h' : SlR X r') : SlR X (fun x lo hi H Q => r x lo hi H Q ∨ r' x lo hi H Q) := by
  intro pins s σ H x v vl vu lo hi sl Q I rx hs pl pu q
  rcases q with q | q
  · exact h pins s σ H x v vl vu lo hi sl Q I rx hs pl pu q
  · exact h' pins s σ H x v vl vu lo hi sl Q I rx hs pl pu q
def tSl (r : V → Option Int → Option Int → Hp → VK → Prop) (te : TE) (tl th : TO) : TE := fun σ H Q => te σ H fun x H1 => tl σ H1 fun l H2 => th σ H2 fun u H3 => r x l u H3 Q
/-- a[lo:hi], any a -/
theorem pe_slice {r : V → Option Int → Option Int → Hp → VK → Prop} (hr : SlR X r) (he : PE X e te) (hl : PO X lo tl) (hu : PO X hi th) : PE X (.Subscript e (.Slice lo hi none p2) pos) (tSl r te tl th) := by
  intro pins s σ H Q I h
  refine Subscript_ (thn (he pins s σ H _ I h) fun v s1 ⟨x, H1, I1, r1, q1⟩ => ?_)
  refine wpAny_Slice (thn (hl pins s1 σ H1 _ I1 q1) fun vl s2 ⟨l, H2, I2, pl, q2⟩ => thn (hu pins s2 σ H2 _ I2 q2) fun vu s3 ⟨u, H3, I3, pu, q3⟩ => ?_)
  rw [evalPart_none]
  refine wpAny_pure ?_
  have I4 : Inv X pins σ H3 { s3 with heap := s3.heap.push { cls := .type "slice", data := .fields #[vl, vu, .none] } } := I3.kept (t' := s3.toks) fun b ob q => Heap.get?_push_of_some _ q
  obtain ⟨T, id, hT, ht, hg⟩ := hr pins { s3 with heap := s3.heap.push { cls := .type "slice", data := .fields #[vl, vu, .none] } } σ H3 x v vl vu l u s3.heap.objs.size Q I4 r1 (Heap.IsSliceOf.new ..) pl pu q3
  show wpAny (model X.prog X.w) X.A (subscriptTail e (.Slice lo hi none p2) v (.ref s3.heap.objs.size)) (EP X pins σ Q) X.xe { s3 with heap := s3.heap.push { cls := .type "slice", data := .fields #[vl, vu, .none] } }
  exact tail_any (ops := [.ref s3.heap.objs.size, v]) ht hT hg (by with_unfolding_all rfl)

/-- the items of xs[lo:hi] -/
def cutV (xs : List V) (lo hi : Option Int) : List V := (xs.drop (HT.sIx xs.length 0 lo)).take (HT.sIx xs.length xs.length hi - HT.sIx xs.length 0 lo)
theorem cutV_length (xs : List V) (lo hi : Option Int) : (cutV xs lo hi).length ≤ xs.length := by
  unfold cutV
  rw [List.length_take, List.length_drop]
  omega
/-- t[lo:hi], not the whole of it (the whole would be t itself) -/
def rSlT (K : PySem.W.Frag) : V → Option Int → Option Int → Hp → VK → Prop := fun x lo hi H Q => ∃ a xs, x = .ref a ∧ SqT K H a xs ∧
  ¬ (HT.sIx xs.length 0 lo = 0 ∧ HT.sIx xs.length xs.length hi = xs.length) ∧ ∀ p, H p = none → Q (.ref p) (upd H p (.tup (cutV xs lo hi)))
/-! ### t < u, t + u -/
def rLtT (K : PySem.W.Frag) : R2 := fun x y H Q => ∃ a b ns ms, x = .ref a ∧ y = .ref b ∧ SqT K H a (ns.map V.int) ∧ SqT K H b (ms.map V.int) ∧ Q (.bl (HT.lexLt ns ms)) H
/-- t + u, t not empty: u empty gives t itself -/
def rCatT (K : PySem.W.Frag) : R2 := fun x y H Q => ∃ a b xs ys, x = .ref a ∧ y = .ref b ∧ SqT K H a xs ∧ SqT K H b ys ∧ xs ≠ [] ∧ xs.length + ys.length ≤ sizeLine ∧
  (ys = [] → Q (.ref a) H) ∧ (ys ≠ [] → ∀ p, H p = none → Q (.ref p) (upd H p (.tup (xs ++ ys))))
end
end L2

namespace L2
open PySem PySem.Spec PyProof.Rows

/-! ### places -/
/-- the place that an index of any sign means -/
def ixN (n : Nat) (i : Int) : Option Nat := if 0 ≤ i then (if i < n then some i.toNat else none) else if -(n : Int) ≤ i then some (i + n).toNat else none
def atI {α : Type} (xs : List α) (i : Int) : Option α := (ixN xs.length i).bind fun j => xs[j]?
theorem ixN_seq {n : Nat} {i : Int} {j : Nat} (h : ixN n i = some j) : seqIndex? i n = some j ∧ j < n ∧ -(n : Int) ≤ i ∧ i < n := by
  unfold ixN at h
  by_cases h0 : 0 ≤ i
  · rw [if_pos h0] at h
    by_cases h1 : i < n
    · rw [if_pos h1] at h
      have e : i.toNat = j := Option.some.inj h
      exact ⟨by rw [seqIndex_of h0 h1, e], by omega, by omega, h1⟩
    · rw [if_neg h1] at h; cases h
  · rw [if_neg h0] at h
    by_cases h1 : -(n : Int) ≤ i
    · rw [if_pos h1] at h
      have e : (i + n).toNat = j := Option.some.inj h
      exact ⟨by rw [seqIndex_neg (by omega) h1, e], by omega, h1, by omega⟩
    · rw [if_neg h1] at h; cases h
theorem atI_get {α : Type} {xs : List α} {i : Int} {v : α} (h : atI xs i = some v) : ∃ j, seqIndex? i xs.length = some j ∧ xs[j]? = some v ∧ j < xs.length ∧ -(xs.length : Int) ≤ i ∧ i < xs.length := by
  unfold atI at h
  cases e : ixN xs.length i with
  | none => rw [e] at h; cases h
  | some j =>
    rw [e] at h
    obtain ⟨h1, h2, h3, h4⟩ := ixN_seq e
    exact ⟨j, h1, h, h2, h3, h4⟩
theorem atI_nat {α : Type} {xs : List α} {j : Nat} {v : α} (h : xs[j]? = some v) : atI xs (j : Int) = some v := by
  have hj : j < xs.length := (List.getElem?_eq_some_iff.mp h).1
  have e : ixN xs.length (j : Int) = some j := by
    unfold ixN
    rw [if_pos (by omega), if_pos (by omega)]; simp
  unfold atI; rw [e]; exact h
theorem atI_last {α : Type} (xs : List α) (v : α) : atI (xs ++ [v]) (-1) = some v := by
  have hl : (xs ++ [v]).length = xs.length + 1 := by simp
  have e : ixN (xs ++ [v]).length (-1) = some xs.length := by
    unfold ixN
    rw [hl, if_neg (by decide), if_pos (by omega)]
    congr 1
    omega
  unfold atI
  rw [e]
  show (xs ++ [v])[xs.length]? = some v
  simp

/-! ### what may be subscripted -/
/-- what stands as an index of a plain subscript -/
def PlainIx (b : Expr) : Prop := ∀ o i, subscripted b false o i = operate [o, i] (getItem o i)
/-- a subscript by values -/
def IxR (X : Cx) (r : R2) : Prop :=
  ∀ (value slice : Expr) (pins : List (Addr × Obj)) (s : Shared) (σ : St) (H : Hp) (x y : V) (v u : Value) (Q : VK), Inv X pins σ H s → RelV x v → RelV y u → r x y H Q →
    subscripted slice false v u = operate [v, u] (getItem v u) → wpAny (model X.prog X.w) X.A (subscriptTail value slice v u) (EP X pins σ Q) X.xe s
/-- a call of a builtin's method by values: the receiver, the arguments -/
def MtR (X : Cx) (id : String) (r : V → List V → Hp → VK → Prop) : Prop :=
  ∀ (pins : List (Addr × Obj)) (s : Shared) (σ : St) (H : Hp) (x : V) (xs : List V) (v : Value) (us : List Value) (Q : VK), Inv X pins σ H s → RelV x v → Vals xs us → r x xs H Q →
    wpAny (model X.prog X.w) X.A (call (.builtin id) (v :: us)) (EP X pins σ Q) X.xe s
section
variable {X : Cx} {a b : Expr} {ta tb : TE} {pos : Pos}
theorem IxR.or {r r' : R2} (h : IxR X r) (h' : IxR X r') : IxR X (fun x y H Q => r x y H Q ∨ r' x y H Q) := by
  intro value slice pins s σ H x y v u Q I rx ry q hs
  rcases q with q | q
  · exact h value slice pins s σ H x y v u Q I rx ry q hs
  · exact h' value slice pins s σ H x y v u Q I rx ry q hs
theorem MtR.or {id : String} {r r' : V → List V → Hp → VK → Prop} (h : MtR X id r) (h' : MtR X id r') : MtR X id (fun x xs H Q => r x xs H Q ∨ r' x xs H Q) := by
  intro pins s σ H x xs v us Q I rx rs q
  rcases q with q | q
  · exact h pins s σ H x xs v us Q I rx rs q
  · exact h' pins s σ H x xs v us Q I rx rs q
/-- a[b] -/
theorem pe_ix {r : R2} (hr : IxR X r) (ha : PE X a ta) (hb : PE X b tb) (hs : PlainIx b) : PE X (.Subscript a b pos) (tOp r ta tb) := by
  intro pins s σ H Q I h
  exact Subscript_ (binT ha hb I h fun v u s2 x y H2 I2 rx ry q => hr a b pins s2 σ H2 x y v u Q I2 rx ry q (hs _ _))

def rIxL (K : PySem.W.Frag) : R2 := fun x y H Q => ∃ p xs i v, x = .ref p ∧ y = .int i ∧ SqL K H p xs ∧ atI xs i = some v ∧ Q v H
def rIxT (K : PySem.W.Frag) : R2 := fun x y H Q => ∃ p xs i v, x = .ref p ∧ y = .int i ∧ SqT K H p xs ∧ atI xs i = some v ∧ Q v H
def rIxS : R2 := fun x y H Q => ∃ z i c, x = .str z ∧ y = .int i ∧ z.length ≤ sizeLine ∧ atI z.cps.toList i = some c ∧ Q (.str ⟨#[c]⟩) H
theorem ix_list : IxR X (rIxL X.K) := by
  intro value slice pins s σ H x y v u Q I rx ry h hs
  obtain ⟨p, xs, i, z, rfl, rfl, hq, he, q⟩ := h
  cases rx
  obtain ⟨t, rfl⟩ := ry
  obtain ⟨its, r, pl, hz⟩ := I.list hq
  obtain ⟨j, h1, h2, h3, h4, h5⟩ := atI_get he
  obtain ⟨w, ew, rw'⟩ := r.get h2
  have hl := r.length
  have hn := line63
  have fin : EP X pins σ Q w s := ⟨z, H, I, rw', q⟩
  by_cases h0 : 0 ≤ i
  · have hj : i.toNat = j := by
      rw [seqIndex_of h0 h5] at h1
      exact Option.some.inj h1
    exact item_listR pl.isList h0 (by omega) (by rw [hj]; simpa using ew) fin hs
  · have hj : (i + (its.toArray.size : Int)).toNat = j := by
      rw [seqIndex_neg (by omega) h4] at h1
      rw [List.size_toArray, ← hl]
      exact Option.some.inj h1
    exact subscriptTail_builtinR (x := w) pl.isList.typeIs slot_list_getitem.lookup
      (wpAny_getItem_list_neg (Q := fun r s' => r = w ∧ EP X pins σ Q r s') pl.isList (by omega) (by rw [List.size_toArray] <;> omega) (by omega) (by rw [hj]; simpa using ew) ⟨rfl, fin⟩) hs
theorem ix_tup : IxR X (rIxT X.K) := by
  intro value slice pins s σ H x y v u Q I rx ry h hs
  obtain ⟨p, xs, i, z, rfl, rfl, hq, he, q⟩ := h
  cases rx
  obtain ⟨t, rfl⟩ := ry
  obtain ⟨its, r, pl, hz⟩ := I.tuple hq
  obtain ⟨j, h1, h2, h3, h4, h5⟩ := atI_get he
  obtain ⟨w, ew, rw'⟩ := r.get h2
  have hl := r.length
  have hn := line63
  have fin : EP X pins σ Q w s := ⟨z, H, I, rw', q⟩
  exact subscriptTail_builtinR (x := w) pl.typeIs slot_tuple_getitem.lookup
    (getItem_tuple (j := j) (Q := fun r s' => r = w ∧ EP X pins σ Q r s') pl (by omega) (by omega) (by rw [List.size_toArray, ← hl]; exact h1) (by simpa using ew) ⟨rfl, fin⟩) hs
/-- list, tuple or str -/
def rIx (K : PySem.W.Frag) : R2 := fun x y H Q => rIxL K x y H Q ∨ rIxT K x y H Q ∨ rIxS x y H Q
/-! ### xs[i] = v, any sign -/
theorem Inv.lst {pins : List (Addr × Obj)} {σ : St} {H : Hp} {s : Shared} {p : Addr} {xs : List V} (I : Inv X pins σ H s) (h : H p = some (.lst xs)) :
    ∃ (its : List Value) (n : Nat), Vals xs its ∧ s.heap.get? p = some { cls := .type "list", data := .seq its.toArray n } ∧ xs.length ≤ sizeLine := by
  obtain ⟨z, its, n, r, e⟩ := I.hok p _ h
  exact ⟨its, n, r, e, z⟩
def rSetL : V → V → V → Hp → (Hp → Prop) → Prop := fun o i v H Q => ∃ p xs k j, o = .ref p ∧ i = .int k ∧ H p = some (.lst xs) ∧ ixN xs.length k = some j ∧ Q (upd H p (.lst (xs.set j v)))
/-! ### slices -/
theorem slice_bounds (lo hi : Option Int) (n : Nat) : (sliceBounds lo hi none n).1 = ((HT.sIx n 0 lo : Nat) : Int) ∧ (sliceBounds lo hi none n).2.1 = ((HT.sIx n n hi : Nat) : Int) ∧ (sliceBounds lo hi none n).2.2 = 1 := by
  refine ⟨?_, ?_, rfl⟩
  · cases lo with
    | none => simp [sliceBounds, HT.sIx]
    | some i =>
      simp only [sliceBounds, HT.sIx, Option.getD_none, show (1 : Int) > 0 by decide, if_true]
      by_cases h : i < 0
      · simp only [h, if_true] <;> omega
      · simp only [h, if_false] <;> omega
  · cases hi with
    | none => simp [sliceBounds, HT.sIx]
    | some i =>
      simp only [sliceBounds, HT.sIx, Option.getD_none, show (1 : Int) > 0 by decide, if_true]
      by_cases h : i < 0
      · simp only [h, if_true] <;> omega
      · simp only [h, if_false] <;> omega
theorem slicePick_cut (its : List Value) (lo hi : Option Int) : slicePick its.toArray lo hi none = ((its.drop (HT.sIx its.length 0 lo)).take (HT.sIx its.length its.length hi - HT.sIx its.length 0 lo)).toArray := by
  obtain ⟨h1, h2, h3⟩ := slice_bounds lo hi its.toArray.size
  unfold slicePick
  rw [h1, h2, h3]
  simp only [sliceRange_one, pick_run, List.size_toArray] <;> rfl
/-- xs[lo:hi] of a list: a new list -/
def rSlL (K : PySem.W.Frag) : V → Option Int → Option Int → Hp → VK → Prop := fun x lo hi H Q => ∃ a xs, x = .ref a ∧ SqL K H a xs ∧ ∀ p, H p = none → Q (.ref p) (upd H p (.lst (cutV xs lo hi)))
theorem sl_list : SlR X (rSlL X.K) := by
  intro pins s σ H x v vl vu lo hi sl Q I rx hs pl pu h
  obtain ⟨a, xs, rfl, hx, q⟩ := h
  cases rx
  obtain ⟨its, r, ht, hz⟩ := I.list hx
  have hlen := r.length
  refine ⟨"list", _, slot_list_getitem.lookup, ht.isList.typeIs, ?_⟩
  refine wpAny_getItem_list_slice ht.isList hs pl pu .none (by simp) ?_ (by rw [List.size_toArray] <;> omega)
  rw [slicePick_cut, ← hlen]
  refine ⟨.ref s.heap.objs.size, _, I.laid (t' := s.toks) (o := .lst (cutV xs lo hi)) (fun b ob q => Heap.get?_push_of_some _ q) (Nat.le_refl _) ?_, rfl, q _ (I.hok.fresh (Nat.le_refl _))⟩
  exact ⟨Nat.le_trans (cutV_length xs lo hi) hz, _, 0, (r.drop (HT.sIx xs.length 0 lo)).take (HT.sIx xs.length xs.length hi - HT.sIx xs.length 0 lo), Heap.get?_push_size _ rfl⟩

/-! ### in, not in: flat items -/
def flatV : V → Bool
  | .non => true
  | .bl _ => true
  | .int _ => true
  | .str _ => true
  | _ => false
/-- == of flat values -/
def eqV : V → V → Bool
  | .non, .non => true
  | .bl a, .bl b => a == b
  | .bl a, .int b => (if a then 1 else 0) == b
  | .int a, .bl b => a == (if b then 1 else 0)
  | .int a, .int b => a == b
  | .str a, .str b => a == b
  | _, _ => false
/-- the items' answers, read off the values (a value's own answer does not lean on its token) -/
def eqU (x : V) (u : Value) : Bool := match u with
  | .none => eqV .non x
  | .bool b => eqV (.bl b) x
  | .int i _ => eqV (.int i) x
  | .str z _ => eqV (.str z) x
  | _ => false
def inV (x : V) (xs : List V) : Bool := xs.any fun y => eqV y x
/-- x in a list or tuple of flat items -/
def rIn (K : PySem.W.Frag) (neg : Bool) : R2 := fun x y H Q => ∃ p xs, y = .ref p ∧ (SqL K H p xs ∨ SqT K H p xs) ∧ flatV x = true ∧ xs.all flatV = true ∧ Q (.bl (if neg then !inV x xs else inV x xs)) H
/-! ### len, list(x), tuple(x) of any list or tuple that is read -/
theorem call_len_seq : CallR X (.builtin "len") (fun xs H Q => ∃ p ys, xs = [.ref p] ∧ (SqL X.K H p ys ∨ SqT X.K H p ys) ∧ Q (.int ys.length) H) := by
  intro pins s σ H xs us Q I r h
  obtain ⟨p, ys, rfl, hq, q⟩ := h
  obtain ⟨u, rfl, rx⟩ := vals1 r
  cases rx
  have hn := line63
  rcases hq with hq | hq
  · obtain ⟨its, r', pl, hz⟩ := I.list hq
    have hlen := r'.length
    exact Calls.call_len_list pl.isList (by simp only [List.size_toArray] <;> omega) ⟨.int ys.length, H, I.tok _, ⟨s.toks + 1, by rw [List.size_toArray, hlen]⟩, q⟩
  · obtain ⟨its, r', pl, hz⟩ := I.tuple hq
    have hlen := r'.length
    exact len_tuple pl (by simp only [List.size_toArray] <;> omega) ⟨.int ys.length, H, I.tok _, ⟨s.toks + 1, by rw [List.size_toArray, hlen]⟩, q⟩
theorem CallR.or {f : Value} {r r' : List V → Hp → VK → Prop} (h : CallR X f r) (h' : CallR X f r') : CallR X f (fun xs H Q => r xs H Q ∨ r' xs H Q) := by
  intro pins s σ H xs us Q I rs q
  rcases q with q | q
  · exact h pins s σ H xs us Q I rs q
  · exact h' pins s σ H xs us Q I rs q
theorem call_list_of : CallR X (.type "list") (fun xs H Q => ∃ p ys, xs = [.ref p] ∧ (SqL X.K H p ys ∨ SqT X.K H p ys) ∧ ∀ l, H l = none → Q (.ref l) (upd H l (.lst ys))) := by
  intro pins s σ H xs us Q I r h
  obtain ⟨p, ys, rfl, hq, q⟩ := h
  obtain ⟨u, rfl, rx⟩ := vals1 r
  cases rx
  have fin : ∀ (its : List Value), Vals ys its → ys.length ≤ sizeLine → ∀ (h' : Heap) (c' : Nat), (∀ b o', s.heap.get? b = some o' → h'.get? b = some o') →
      h'.get? s.heap.objs.size = some { cls := .type "list", dict := none, data := .seq its.toArray c', slots := #[] } → EP X pins σ Q (.ref s.heap.objs.size) { s with heap := h' } := fun its r' hz h' c' kp e =>
    ⟨.ref s.heap.objs.size, _, I.laid (t' := s.toks) kp (Nat.le_refl _) (show ObjOk X.prog X.w _ h' _ (.lst ys) from ⟨hz, its, c', r', e⟩), rfl, q _ (I.hok.fresh (Nat.le_refl _))⟩
  rcases hq with hq | hq
  · obtain ⟨its, r', pl, hz⟩ := I.list hq
    have hlen := r'.length
    obtain ⟨o, ho, hc, n, hd⟩ := pl.isList
    exact call_list_seq p (.inl rfl) ho hc hd (fun h' c' kp e => fin its r' hz h' c' kp e) (by simp only [List.size_toArray] <;> omega)
  · obtain ⟨its, r', pl, hz⟩ := I.tuple hq
    have hlen := r'.length
    obtain ⟨o, ho, hc, n, hd⟩ := pl
    exact call_list_seq p (.inr rfl) ho hc hd (fun h' c' kp e => fin its r' hz h' c' kp e) (by simp only [List.size_toArray] <;> omega)
theorem call_tuple_of : CallR X (.type "tuple") (fun xs H Q => ∃ p ys, xs = [.ref p] ∧ ((SqL X.K H p ys ∧ ∀ l, H l = none → Q (.ref l) (upd H l (.tup ys))) ∨ (SqT X.K H p ys ∧ Q (.ref p) H))) := by
  intro pins s σ H xs us Q I r h
  obtain ⟨p, ys, rfl, h⟩ := h
  obtain ⟨u, rfl, rx⟩ := vals1 r
  cases rx
  rcases h with ⟨hq, q⟩ | ⟨hq, q⟩
  · obtain ⟨its, r', pl, hz⟩ := I.list hq
    have hlen := r'.length
    refine call_tuple_list pl.isList (fun h' kp => ?_) (by simp only [List.size_toArray] <;> omega)
    have I1 : Inv X pins σ H { s with heap := h' } := I.kept (t' := s.toks) kp
    have I2 : Inv X pins σ (upd H h'.objs.size (.tup ys)) { s with heap := h'.push { cls := .type "tuple", data := .seq its.toArray } } :=
      I1.laid (t' := s.toks) (fun b o e => Heap.get?_push_of_some _ e) (Nat.le_refl _) (show ObjOk X.prog X.w _ _ _ (.tup ys) from ⟨hz, its, r', IsTup.new _ _⟩)
    exact ⟨.ref h'.objs.size, _, I2, rfl, q _ (I1.hok.fresh (Nat.le_refl _))⟩
  · obtain ⟨its, r', pl, hz⟩ := I.tuple hq
    exact call_tuple_same pl ⟨.ref p, H, I, rfl, q⟩

/-! ### the call of a builtin's method: o.m(..) -/
/-- the value is of that builtin type -/
def tyV (K : PySem.W.Frag) (T : String) (x : V) (H : Hp) : Prop := match x with
  | .str _ => T = "str"
  | .int _ => T = "int"
  | .ref p => (T = "list" ∧ ∃ xs, SqL K H p xs) ∨ (T = "tuple" ∧ ∃ o, K.lookup p = some o ∧ o.cls = .type "tuple" ∧ o.dict = none) ∨
      (T = "dict" ∧ ((∃ kvs, H p = some (.dK kvs)) ∨ ∃ kvs, H p = some (.dT kvs))) ∨ (T = "set" ∧ ∃ S n, H p = some (.set S n))
  | _ => False
theorem tyV_is {pins : List (Addr × Obj)} {σ : St} {H : Hp} {s : Shared} {T : String} {x : V} {v : Value} (I : Inv X pins σ H s) (r : RelV x v) (ty : tyV X.K T x H) :
    s.TypeIs v T ∧ ∀ a, v = .ref a → ∃ ob, s.heap.get? a = some ob ∧ ob.dict = none := by
  cases x with
  | str z =>
    obtain ⟨t, rfl⟩ := r
    cases (show T = "str" from ty)
    exact ⟨typeIs_str s z t, fun _ e => nomatch e⟩
  | int i =>
    obtain ⟨t, rfl⟩ := r
    cases (show T = "int" from ty)
    exact ⟨typeIs_int s i t, fun _ e => nomatch e⟩
  | ref p =>
    cases r
    rcases ty with ⟨rfl, xs, hq⟩ | ⟨rfl, o, hk, hc, hd⟩ | ⟨rfl, hk⟩ | ⟨rfl, S, n, hk⟩
    · obtain ⟨its, _, pl, _⟩ := I.list hq
      refine ⟨pl.isList.typeIs, fun a e => ?_⟩
      cases e
      obtain ⟨o, n, e, c, hd, _⟩ := pl
      exact ⟨o, e, hd⟩
    · refine ⟨⟨o, I.kIn p o hk, hc⟩, fun a e => ?_⟩
      cases e
      exact ⟨o, I.kIn _ o hk, hd⟩
    · have z : ∃ o, s.heap.get? p = some o ∧ o.ExactDict := by
        rcases hk with ⟨kvs, hk⟩ | ⟨kvs, hk⟩
        · obtain ⟨_, _, _, _, o, _, _, e, ex, _⟩ := I.hok p _ hk
          exact ⟨o, e, ex⟩
        · obtain ⟨_, _, _, _, o, _, _, e, ex, _⟩ := I.hok p _ hk
          exact ⟨o, e, ex⟩
      obtain ⟨o, e, ex⟩ := z
      refine ⟨⟨o, e, ex.1⟩, fun a e2 => ?_⟩
      cases e2
      exact ⟨o, e, ex.2.1⟩
    · obtain ⟨o, _, _, _, e, ex, _⟩ := I.hok p _ hk
      refine ⟨⟨o, e, ex.1⟩, fun a e2 => ?_⟩
      cases e2
      exact ⟨o, e, ex.2.1⟩
  | _ => exact False.elim ty
def tBM0 (K : PySem.W.Frag) (T : String) (r : V → List V → Hp → VK → Prop) (to : TE) : TE := fun σ H Q => to σ H fun x H1 => tyV K T x H1 ∧ r x [] H1 Q
def tBM (K : PySem.W.Frag) (T : String) (r : V → List V → Hp → VK → Prop) (to : TE) (t : TA) : TE := fun σ H Q => to σ H fun x H1 => tyV K T x H1 ∧ t σ H1 fun xs H2 => r x xs H2 Q
variable {o e : Expr} {es : List Expr} {to : TE} {t : TA} {name : Str} {apos cpos : Pos} {T id : String} {r : V → List V → Hp → VK → Prop}
theorem pe_bm (pa : PlainAttrs T) (slot : Slot T name id) (hty : typeOf (.builtin id) = pure (.type "method_descriptor")) (hm : MtR X id r) (ho : PE X o to) (ha : PA X (e :: es) t)
    (hbase : attributeBase o name X.env (eval o X.env) = eval o X.env := by rfl)
    (hfew : ((backTo cpos (starEach (e :: es) X.env)).all (fun x => !x.1) && (backToKw cpos (keywordEach [] X.env)).all (fun x => x.1.isSome)
      && decide ((e :: es).length + ([] : List Keyword).length + (if ([] : List Keyword).isEmpty then 0 else 1) < 30)) = true := by rfl)
    (hline : (apos.endLine == cpos.line) = true := by rfl) (hs : starEach (e :: es) X.env = (false, eval e X.env) :: starEach es X.env := by rfl) (hplain : (backTo cpos (starEach es X.env)).any (·.1) = false := by rfl) :
    PE X (.Call (.Attribute o name apos) (e :: es) [] cpos) (tBM X.K T r to t) := by
  intro pins s σ H Q I h
  refine wpAny_Call_method_late hbase hfew hline rfl (thn (ho pins s σ H _ I h) fun v s1 ⟨x, H1, I1, r1, ty, q1⟩ => ?_)
  obtain ⟨h1, h2⟩ := tyV_is I1 r1 ty
  refine ⟨T, id, pa, slot, hty, h1, h2, ?_⟩
  have hA := ha cpos pins s1 σ H1 _ I1 q1
  rw [hs] at hA ⊢
  refine Calls.callWith_builtin (by show (false || (backTo cpos (starEach es X.env)).any (·.1)) = false; rw [hplain] <;> rfl) (Calls.evalArgs_plain ?_)
  exact thn hA fun us s2 ⟨vs, H2, I2, r2, q2⟩ => hm pins s2 σ H2 x vs v us Q I2 r1 r2 q2
/- xs.append(e), list.index on a module's tuple .. are MtR facts of 06m -/
end
end L2

namespace L2
open PySem PySem.Spec PyProof.Rows

def MtM (X : Cx) (id : String) (r : V → List V → Hp → VK → Prop) : Prop :=
  ∀ (pins : List (Addr × Obj)) (s : Shared) (σ : St) (H : Hp) (x : V) (xs : List V) (v : Value) (us : List Value) (Q : VK), Inv X pins σ H s → RelV x v → Vals xs us → r x xs H Q →
    wpAny (model X.prog X.w) X.A (call (.builtin id) (v :: us)) (EP X pins σ Q) X.xe s

/-! ### lists of values -/
theorem Vals.one : ∀ {x : V} {us : List Value}, Vals [x] us → ∃ u, us = [u] ∧ RelV x u
  | _, _, .cons r .nil => ⟨_, rfl, r⟩
theorem Vals.two : ∀ {x y : V} {us : List Value}, Vals [x, y] us → ∃ u v, us = [u, v] ∧ RelV x u ∧ RelV y v
  | _, _, _, .cons r (.cons q .nil) => ⟨_, _, rfl, r, q⟩
theorem Vals.zero : ∀ {us : List Value}, Vals [] us → us = []
  | _, .nil => rfl
theorem Vals.dropLast {xs : List V} {us : List Value} (h : Vals xs us) : Vals xs.dropLast us.dropLast := by
  induction h with
  | nil => exact .nil
  | cons r t ih =>
    cases t with
    | nil => exact .nil
    | cons q t' => exact .cons r ih
theorem Vals.eraseIdx : ∀ {xs : List V} {us : List Value} (i : Nat), Vals xs us → Vals (xs.eraseIdx i) (us.eraseIdx i)
  | _, _, _, .nil => .nil
  | _, _, 0, .cons _ t => t
  | _, _, i + 1, .cons r t => .cons r (Vals.eraseIdx i t)
theorem Vals.reverse {xs : List V} {us : List Value} (h : Vals xs us) : Vals xs.reverse us.reverse := by
  induction h with
  | nil => exact .nil
  | cons r t ih => rw [List.reverse_cons, List.reverse_cons]; exact Vals.append ih (.cons r .nil)
section
variable {X : Cx} {pins : List (Addr × Obj)} {σ : St} {H : Hp} {s : Shared} {l b : Addr} {xs ys zs : List V}

/-! ### the two steps: a tracked list is rewritten, a new list is laid -/
theorem Inv.lset {its its' : List Value} {n : Nat} {f : Array Value → Array Value} {t' : Nat} (I : Inv X pins σ H s) (hH : H l = some (.lst xs))
    (e : s.heap.get? l = some { cls := .type "list", data := .seq its.toArray n }) (hf : f its.toArray = its'.toArray) (hv : Vals ys its') (hz : ys.length ≤ sizeLine) :
    Inv X pins σ (upd H l (.lst ys)) { s with heap := s.heap.update l (Obj.mapSeq f), toks := t' } := by
  have q := PySem.IsL.update e f
  rw [hf] at q
  refine I.write (x := l) (e := l) (by rw [hH]; exact trivial) (.inl rfl) (fun b' u hb hu => (Heap.get?_update_other s.heap (Obj.mapSeq f) (Ne.symm hb)).trans hu) ⟨_, q⟩ ?_
  exact ⟨hz, its', _, hv, q⟩
theorem Inv.lnew {its : List Value} {t' : Nat} (I : Inv X pins σ H s) (hv : Vals ys its) (hz : ys.length ≤ sizeLine) :
    Inv X pins σ (upd H s.heap.objs.size (.lst ys)) { s with heap := s.heap.push { cls := .type "list", data := .seq its.toArray }, toks := t' } :=
  I.laid (fun _ _ q => Heap.get?_push_of_some _ q) (Nat.le_refl _) ⟨hz, its, 0, hv, Heap.get?_push_size _ rfl⟩
theorem Inv.fresh (I : Inv X pins σ H s) : H s.heap.objs.size = none := I.hok.fresh (Nat.le_refl _)
theorem Inv.lstM (I : Inv X pins σ H s) (hH : H l = some (.lst xs)) : xs.length ≤ sizeLine ∧ ∃ (its : List Value) (n : Nat), Vals xs its ∧ xs.length = its.length ∧ s.heap.get? l = some { cls := .type "list", data := .seq its.toArray n } := by
  obtain ⟨z, its, n, r, e⟩ := I.hok l _ hH
  exact ⟨z, its, n, r, r.length, e⟩

theorem notLongL {n : Nat} (h : n ≤ sizeLine) : Builtin.List.listTooLong n = false := by
  unfold Builtin.List.listTooLong
  exact decide_eq_false (by omega)
end

section
variable {X : Cx}

/-! ### methods -/
def rAppend : V → List V → Hp → VK → Prop := fun x vs H Q => ∃ l xs y, x = .ref l ∧ vs = [y] ∧ H l = some (.lst xs) ∧ xs.length < sizeLine ∧ Q .non (upd H l (.lst (xs ++ [y])))
theorem mt_append : MtM X "list.append" rAppend := by
  intro pins s σ H x vs v us Q I rx rv h
  obtain ⟨l, xs, y, rfl, rfl, hH, hz, q⟩ := h
  cases rx
  obtain ⟨u, rfl, ru⟩ := rv.one
  obtain ⟨z, its, n, r, hl, e⟩ := I.lstM hH
  refine call_meets F.slot_list_append ⟨_, e, rfl⟩ F.entry_list_append (F.args_list_append_2 _ _) (PySem.list_append l its.toArray n u (by rw [List.size_toArray]; omega)) ⟨e, ?_⟩
  refine ⟨.non, _, I.lset (its' := its ++ [u]) hH e (by simp) (r.append (.cons ru .nil)) ?_, rfl, q⟩
  rw [List.length_append, List.length_singleton]
  omega

def rExtend : V → List V → Hp → VK → Prop := fun x vs H Q => ∃ l b xs zs, x = .ref l ∧ vs = [.ref b] ∧ H l = some (.lst xs) ∧ H b = some (.lst zs) ∧ xs.length + zs.length ≤ sizeLine ∧ Q .non (upd H l (.lst (xs ++ zs)))
theorem mt_extend : MtM X "list.extend" rExtend := by
  intro pins s σ H x vs v us Q I rx rv h
  obtain ⟨l, b, xs, zs, rfl, rfl, hH, hB, hz, q⟩ := h
  cases rx
  obtain ⟨u, rfl, ru⟩ := rv.one
  cases ru
  obtain ⟨z, its, n, r, hl, e⟩ := I.lstM hH
  obtain ⟨z2, its2, n2, r2, hl2, e2⟩ := I.lstM hB
  have hsz : its.toArray.size + its2.toArray.size ≤ sizeLine := by rw [List.size_toArray, List.size_toArray]; omega
  have hlong : ¬ (!its.toArray.isEmpty && Builtin.List.listTooLong (its.toArray.size + its2.toArray.size)) = true := by
    rw [notLongL hsz, Bool.and_false]
    exact Bool.false_ne_true
  refine call_meets F.slot_list_extend ⟨_, e, rfl⟩ F.entry_list_extend (F.args_list_extend_2 _ _)
    (AutoSeq1.list_extend_list_list_0 l its.toArray n b its2.toArray n2 hlong (by rw [List.size_toArray]; omega) (by omega)) ⟨e, e2, ?_⟩
  refine ⟨.non, _, I.lset (its' := its ++ its2) hH e (by simp) (r.append r2) ?_, rfl, q⟩
  rw [List.length_append]
  omega

def rPop : V → List V → Hp → VK → Prop := fun x vs H Q => ∃ l xs y, x = .ref l ∧ vs = [] ∧ H l = some (.lst xs) ∧ xs[xs.length - 1]? = some y ∧ Q y (upd H l (.lst xs.dropLast))
def rPopAt : V → List V → Hp → VK → Prop := fun x vs H Q => ∃ l xs i k y, x = .ref l ∧ vs = [.int i] ∧ H l = some (.lst xs) ∧ -(2 ^ 63) ≤ i ∧ i < 2 ^ 63 ∧ seqIndex? i xs.length = some k ∧ xs[k]? = some y ∧ Q y (upd H l (.lst (xs.eraseIdx k)))
def rReverse : V → List V → Hp → VK → Prop := fun x vs H Q => ∃ l xs, x = .ref l ∧ vs = [] ∧ H l = some (.lst xs) ∧ Q .non (upd H l (.lst xs.reverse))
def rClear : V → List V → Hp → VK → Prop := fun x vs H Q => ∃ l xs, x = .ref l ∧ vs = [] ∧ H l = some (.lst xs) ∧ Q .non (upd H l (.lst []))
/-! ### list + list, list += list, list * int -/
def rCat : R2 := fun x y H Q => ∃ l b xs zs, x = .ref l ∧ y = .ref b ∧ H l = some (.lst xs) ∧ H b = some (.lst zs) ∧ xs.length + zs.length ≤ sizeLine ∧ ∀ p, H p = none → Q (.ref p) (upd H p (.lst (xs ++ zs)))
theorem op_cat : OpR X (binaryOp .Add) rCat := by
  intro pins s σ H x y v u Q I rx ry h
  obtain ⟨l, b, xs, zs, rfl, rfl, hH, hB, hz, q⟩ := h
  cases rx
  cases ry
  obtain ⟨z, its, n, r, hl, e⟩ := I.lstM hH
  obtain ⟨z2, its2, n2, r2, hl2, e2⟩ := I.lstM hB
  refine PySem.P.add_list e e2 ?_ (by rw [List.size_toArray, List.size_toArray]; omega)
  have ea : its.toArray ++ its2.toArray = (its ++ its2).toArray := by simp
  rw [ea]
  exact ⟨.ref _, _, I.lnew (t' := s.toks) (r.append r2) (by rw [List.length_append]; omega), rfl, q _ I.fresh⟩
/-- a list times an int (a negative one is nothing) -/
def rRep : R2 := fun x y H Q => ∃ l k xs, x = .ref l ∧ y = .int k ∧ H l = some (.lst xs) ∧ -(2 ^ 63) ≤ k ∧ k < 2 ^ 63 ∧ xs.length * k.toNat ≤ sizeLine ∧
  ∀ p, H p = none → Q (.ref p) (upd H p (.lst (List.replicate k.toNat xs).flatten))
/-! ### del xs[i] -/
end

/-! ### xs[a:b] = ys -/
section
variable {prog : Program} {w : World} {A : Around} {E : Value → Shared → Prop} {s : Shared}
set_option maxRecDepth 100000 in
end

section
variable {X : Cx}
end
end L2

namespace Att
open PySem PySem.W PySem.Calls PyProof.Rows

/-! ### the script -/
theorem ints_of_wellAll {P : Params} {h : Heap} : ∀ (ns : List Int) (vs : List Value), WellAll P h vs (ns.map WData.int) → IntsAre vs ns := by
  intro ns
  induction ns with
  | nil =>
    intro vs w
    rw [List.map_nil] at w
    cases w
    exact .nil
  | cons n ns ih =>
    intro vs w
    rw [List.map_cons] at w
    cases w with
    | cons a b =>
      cases a
      exact .cons _ _ (ih _ b)

theorem script_of {l : OpenLaw} {n : Nat} (hn : l.most = some n) {P : Params} {h : Heap} {args : List WData} {vals : List Value}
    (hpre : l.row.toRowW.claim.pre args = true) (hwl : WellAll P h vals args) :
    ∃ a vs ns, vals = [Value.ref a] ∧ args = [WData.list (ns.map WData.int)] ∧ h.get? a = some { cls := .type "list", data := .seq vs.toArray } ∧ IntsAre vs ns ∧ ns.length ≤ n := by
  have hsh : WShape.hasAll [] args [.list .int] = true := (pre_splitW hpre).1
  have hc : l.pre.holds [] { args := args } = true := (pre_splitW hpre).2
  obtain ⟨d, r, rfl, h1, h2⟩ := hasAllW_cons hsh
  obtain rfl := hasAllW_nil h2
  obtain ⟨xs, rfl, h3⟩ := hasW_list h1
  obtain ⟨ns, rfl⟩ := items_int h3
  have hlen : ns.length ≤ n := by
    unfold OpenLaw.pre at hc
    have h4 : (WTm.not (.lt (.lit (.int (n : Int))) (.len (.arg 0)))).holds [] { args := [.list (ns.map .int)] } = true := by
      have h4 := (holds_andW hc).1
      rw [hn] at h4
      exact h4
    have h5 := condW_of h4 (w_not (w_lt w_lit (w_len_list (w_arg rfl))))
    rw [List.length_map] at h5
    refine Nat.le_of_not_lt fun q => ?_
    have q' : (n : Int) < ((ns.length : Nat) : Int) := by omega
    first
      | (rw [decide_eq_true q'] at h5; exact absurd h5 (by decide))
      | (simp at h5; omega)
  cases hwl with
  | cons w1 w2 =>
    cases w2
    cases w1 with
    | list ho hall => exact ⟨_, _, ns, rfl, rfl, ho, ints_of_wellAll ns _ hall, hlen⟩

theorem post_true (l : OpenLaw) (args : List WData) : l.row.toRowW.claim.post args (.bool true) args = true :=
  postW_of (r := l.row.toRowW) (X := (true == true))
    (show WShape.has [] (.bool true) .bool = true by first | rfl | decide | simp [WShape.has, WShape.arms, WShape.armsAll])
    (show (WTm.eq .res (.lit (.bool true))).value [] { args := args, res := some (.bool true), after := args } = some (.bool (true == true)) from w_eq_bool (w_res rfl) w_lit) rfl

/-! ### the attachment: holds_open's last premise (the goal 'hc' behind k_head) from a wpAny of the law's body -/
/-- the same from a codeAny of the CALL (for a layer whose function contracts speak of calls) -/
theorem attach_call {l : OpenLaw} {n : Nat} {q : Program} {loose : List Str} {XP : (Str → Option Value) → Heap → Prop} {YP : World → Heap → Prop} {d : DefRec}
    (hn : l.most = some n) (hdf : d.params.defaults = [])
    (call : ∀ (w : World) (s₀ s₁ : Shared) (mg mb : Str → Option Value) (fa : Addr) (o : Obj) (pm cd doc : Value) (a : Addr) (vs : List Value) (ns : List Int),
      Ground q loose [] XP w s₀ mg mb s₁.heap → YP w s₁.heap →
      s₁.heap.get? fa = some o → o.data = .func (docDef d.name d.params d.body d.scope pm cd doc) → s₁.heap.CodeRec cd d.name → mg d.name = some (.ref fa) →
      s₁.heap.get? a = some { cls := .type "list", data := .seq vs.toArray } → IntsAre vs ns → ns.length ≤ n → s₁.gens = #[] →
      codeAny (model l.prog w) callerA (.call (.ref fa) ⟨[.ref a], []⟩) (fun r s' => r = .ok (.ret (.bool true)) ∧ OldK s₁.heap s'.heap ∧ s'.os = s₁.os ∧ AllBare s'.gens) s₁) :
    WalkO q loose XP YP l.row.toRowW d [] (fun f vs => PySem.call f vs) := by
  intro w s₀ s₁ mg mb G Y fa o pm cd doc dV kV ho hd hcd hD hmg hg args vals as hpre hlay hrd hwl hlo
  obtain rfl : dV = .none := Dflts.none hD hdf
  obtain rfl : kV = .none := Dflts.noKw hD
  obtain ⟨a, vs, ns, rfl, rfl, hobj, hints, hlen⟩ := script_of hn hpre hwl
  refine enter_call (codeAny_mono (call w s₀ s₁ mg mb fa o pm cd doc a vs ns G Y ho (fd_plain hd) hcd hmg hobj hints hlen hg) fun r s' hq => ?_)
  obtain ⟨rfl, h2, h3, h4⟩ := hq
  exact ⟨.inl ⟨.bool true, .bool true, [], rfl, fun _ => rfl, .bool true, post_true l _, fun _ => ⟨List.Pairwise.nil, fun _ hm => (nomatch hm)⟩⟩, h2, h3, h4⟩

/-! ### rules over ANY heap (no ledger) from facts about the written part K: the library's own take a ledger (News) for what they write -/
section
variable {prog : Program} {w : World} {A : Around} {E : Value → Shared → Prop} {s : Shared} {K : Frag}

/-! the whole heap as the ledger: makes every rule that writes through a ledger a rule over any heap -/
def noObjs (h : Heap) : Heap := { h with objs := #[] }
def ledger (h : Heap) (L d : Addr) : List (Addr × Obj) := (List.range h.objs.size).filterMap fun a => if a = L ∨ a = d then none else (h.get? a).map fun o => (a, o)
end
end Att

namespace L2
open PySem PySem.Spec PyProof.Rows

theorem vals_ints : ∀ {vs : List Value} {ns : List Int}, IntsAre vs ns → Vals (ns.map V.int) vs
  | _, _, .nil => .nil
  | _, _, .cons n t h => .cons ⟨t, rfl⟩ (vals_ints h)

/-- nothing is tracked but the script, known to the object (or it is an object of the module) -/
def Only (H : Hp) : Prop := ∀ b, H b = none ∨ ∃ o xs, H b = some (.frz o (.lst xs))

/-- THE HEAD: the law's promise, at the heap behind the top. F, the promise of the law's def, may use that base is part of the heap (so K.In base, base.Ns mainGlobals mg stand in Mod) -/
theorem law_call {P : Program} {w : World} {K : PySem.W.Frag} {mg mb : Str → Option Value} {CX : CXT} {k : Nat} {fa a : Addr} {fd : FuncData} {x : Str} {sp : Sp} {s₁ : Shared} {vs : List Value} {ns : List Int}
    (KX : K.In s₁.heap) (hns : s₁.heap.Ns mainGlobals mg) (hb : s₁.heap.Ns builtinsNs mb) (hbb : ∀ x : Str, x ≠ "__name__" → mb x = bootBuiltins x) (hlim : s₁.heap.NoLimit) (hg : s₁.gens = #[])
    (ha : s₁.heap.get? a = some { cls := .type "list", data := .seq vs.toArray }) (hi : IntsAre vs ns) (hl : ns.length ≤ sizeLine) (hr : Room k callerA)
    (F : ∀ base : Heap, K.In base → base.Ns mainGlobals mg → FnOk P w K mg base CX k fa fd [x] sp) (hbind : ∀ (s : Shared) (u : Value), BindsTo s fd ⟨[u], []⟩ [(x, u)])
    (hsp : ∀ H : Hp, Only H → SqL K H a (ns.map V.int) → sp [.ref a] H (fun v _ => v = .bl true) fun _ _ _ => False)
    (hCX : ∀ H e s', CX [] H s₁ (fun _ _ _ => False) e s' → False) :
    codeAny (model P w) callerA (.call (.ref fa) ⟨[.ref a], []⟩) (fun r s' => r = .ok (.ret (.bool true)) ∧ OldK s₁.heap s'.heap ∧ s'.os = s₁.os ∧ AllBare s'.gens) s₁ := by
  have rv := vals_ints hi
  have lenV := hi.length
  -- from an abstract heap in which nothing but the script may be tracked
  have core : ∀ H : Hp, Only H → SqL K H a (ns.map V.int) → HOk P w H s₁.heap → (∀ b, H b ≠ none → b = a) → (H a ≠ none → K.lookup a = none) →
      codeAny (model P w) callerA (.call (.ref fa) ⟨[.ref a], []⟩) (fun r s' => r = .ok (.ret (.bool true)) ∧ OldK s₁.heap s'.heap ∧ s'.os = s₁.os ∧ AllBare s'.gens) s₁ := by
    intro H hO hS hok hA hK
    have base_of : ∀ {b : Addr} {o : Obj}, s₁.heap.get? b = some o → H b = none → (hidT s₁.heap H).get? b = some o := fun e n => hidT_get e n
    have noA : ∀ {b : Addr} {o : Obj} {es : Array DictEntry} {ep : Nat}, s₁.heap.get? b = some o → o.data = .dict es ep → H b = none := fun {b o es ep} e d => by
      cases q : H b with
      | none => rfl
      | some u =>
        have e' : b = a := hA b (by rw [q]; simp)
        subst e'
        rw [ha] at e; cases e
        have d' : Data.seq vs.toArray _ = Data.dict es ep := d
        cases d'
    have nsK : ∀ {b : Addr} {m : Str → Option Value}, s₁.heap.Ns b m → (hidT s₁.heap H).Ns b m := fun {b m} ⟨o, es, ep, e, d, r⟩ => ⟨o, es, ep, base_of e (noA e d), d, r⟩
    have hKb : K.In (hidT s₁.heap H) := fun b o e => base_of (KX b o e) (by
      cases q : H b with
      | none => rfl
      | some u =>
        have e' : b = a := hA b (by rw [q]; simp)
        subst e'
        rw [hK (by rw [q]; simp)] at e; cases e)
    have hM : Mod K mg (hidT s₁.heap H) := ⟨hKb, nsK hns, ⟨mb, nsK hb, hbb⟩, let ⟨mc, h1, h2⟩ := hlim; ⟨mc, nsK h1, h2⟩⟩
    have e0 : Env0 P w K mg (hidT s₁.heap H) callerA [] s₁ H := ⟨rfl, hM, fun b o e => of_hidT e, Nat.le_of_eq (hidT_size _ _), trivial, fun b hb => absurd (show b ∈ ([] : List Addr) from hb) (by simp), hok, .of_eq hg⟩
    refine codeAny_mono ((F _ hKb (nsK hns)).run callerA [] s₁ H ⟨[.ref a], []⟩ [.ref a] [.ref a] _ _ hr e0 (hbind s₁ (.ref a)) (.cons rfl .nil) (hsp H hO hS)) fun r s' h => ?_
    cases r with
    | error e => exact (hCX H e s' h).elim
    | ok fl =>
      cases fl with
      | next => exact False.elim h
      | brk => exact False.elim h
      | cont => exact False.elim h
      | ret u =>
        obtain ⟨v, H', os, bare, un, hok', r', q⟩ := h
        have q' : v = .bl true := q
        subst q'
        obtain rfl : u = Value.bool true := r'
        refine ⟨rfl, OldK.of_keep fun b o e => ?_, os, bare⟩
        cases q : H b with
        | none => exact un.keep b o e q (by intro z; exact absurd (show b ∈ ([] : List Addr) from z) (by simp)) (by simp)
        | some u =>
          rcases hO b with z | ⟨ob, xs, z⟩
          · rw [q] at z; cases z
          · have z2 := un.frzs b ob _ z
            obtain ⟨e1, _⟩ := hok b _ z
            obtain ⟨e2, _⟩ := hok' b _ z2
            rw [e] at e1; cases e1
            exact e2
  cases hk : K.lookup a with
  | some o =>
    -- the script is one of the module's own objects
    have e := KX a o hk
    rw [ha] at e
    cases e
    refine core (fun _ => none) (fun _ => .inl rfl) (.inr ⟨_, vs.toArray, _, hk, rfl, rfl, rfl, by rw [List.size_toArray, lenV]; exact hl, by simpa using rv⟩) (fun b u z => by have z' : (none : Option HO) = some u := z; cases z') (fun b z => absurd rfl z) fun z => absurd rfl z
  | none =>
    refine core (fun b => if b = a then some (.frz { cls := .type "list", data := .seq vs.toArray } (.lst (ns.map V.int))) else none) (fun b => ?_) (.inl (.inr ⟨{ cls := .type "list", data := .seq vs.toArray }, if_pos rfl⟩)) (fun b u z => ?_) (fun b z => ?_) fun _ => hk
    · by_cases hb : b = a
      · exact .inr ⟨_, _, if_pos hb⟩
      · exact .inl (if_neg hb)
    · by_cases hb : b = a
      · have z' := (if_pos hb).symm.trans z
        cases z'
        subst hb
        exact ⟨ha, by rw [List.length_map]; exact hl, vs, _, rv, ha⟩
      · have z' := (if_neg hb).symm.trans z
        cases z'
    · by_cases hb : b = a
      · exact hb
      · exact absurd (if_neg hb) z
end L2

namespace L2
open PySem PySem.Spec PyProof.Rows

abbrev KOf {K : PySem.W.Frag} {h : Heap} (_ : K.In h) : PySem.W.Frag := K

/-- the goal that k_head leaves (case hc), from the law's promise. F gives the function object fd (K's own) once, then the promise over every base -/
theorem walk_of {l : PySem.W.OpenLaw} {n k : Nat} {q : Program} {loose : List Str} {XP : (Str → Option Value) → Heap → Prop} {YP : World → Heap → Prop} {d : DefRec} {K : Params → PySem.W.Frag} {CX : World → CXT} {sp : World → Sp} {x : Str}
    (hn : l.most = some n) (hn2 : n ≤ sizeLine) (hdf : d.params.defaults = []) (hr : Room k callerA)
    (hY : ∀ (w : World) (h : Heap), YP w h → (K w.params).In h)
    (F : ∀ (w : World) (mg : Str → Option Value) (fa : Addr) (h : Heap), (K w.params).In h → h.Ns mainGlobals mg → mg d.name = some (.ref fa) →
      ∃ fd : FuncData, (∀ (s : Shared) (u : Value), BindsTo s fd ⟨[u], []⟩ [(x, u)]) ∧
        ∀ base : Heap, (K w.params).In base → base.Ns mainGlobals mg → FnOk l.prog w (K w.params) mg base (CX w) k fa fd [x] (sp w))
    (hsp : ∀ (w : World) (H : Hp) (a : Addr) (ns : List Int), ns.length ≤ n → Only H → SqL (K w.params) H a (ns.map V.int) → sp w [.ref a] H (fun v _ => v = .bl true) fun _ _ _ => False)
    (hCX : ∀ (w : World) (H : Hp) (s : Shared) (e : Value) (s' : Shared), CX w [] H s (fun _ _ _ => False) e s' → False) :
    PySem.W.WalkO q loose XP YP l.row.toRowW d [] (fun f vs => PySem.call f vs) := by
  refine Att.attach_call hn hdf fun w s₀ s₁ mg mb fa o pm cd doc a vs ns G Y ho hd hcd hmg hobj hints hlen hg => ?_
  have KX := hY w _ Y
  obtain ⟨fd, hb, hF⟩ := F w mg fa _ KX G.T.g hmg
  exact law_call KX G.T.g G.T.b G.T.builtins G.T.nolimit hg hobj hints (Nat.le_trans hlen hn2) hr hF hb (fun H hO hS => hsp w H a ns hlen hO hS) fun H e s' => hCX w H s₁ e s'
end L2

/- THE LAST THEOREM (shape; LID, My.* are yours):
   My.Adr: a structure of the addresses that your layer names (classes, functions); My.Txt K t: a structure (Prop) of the equations over K;
   My.txt_mk : {K} {implicit addresses ..} (e1 : nsIn K mainGlobals "law" = some (some (.ref f))) (e2 : K.lookup f = some ⟨oc, od, .func (fnOf "law" "law" params body scope dV kV doc pm an cdv ct), sl⟩) (e3 : codeIn K cdv "law" = true) .. : ∃ t, My.Txt K t

set_option maxRecDepth 100000 in
set_option maxHeartbeats 0 in
(the tactic k_is has no namespace: write k_is) -/

/-! SHORT WORDS over the layer: a def of the text, its body, what a loop and a test want. -/
namespace L2
open PySem PySem.Spec PyProof.Rows

/-! ### the text by places -/
/-- the j-th statement of a class's body -/
def inClass (s : Stmt) (j : Nat) : Stmt := match s with
  | .ClassDef _ _ _ body _ _ _ _ _ _ _ => body.getD j (.Pass ⟨0, 0, 0, 0⟩)
  | _ => .Pass ⟨0, 0, 0, 0⟩
def defArgs (s : Stmt) : Arguments := match s with
  | .FunctionDef _ a _ _ _ _ _ _ _ _ => a
  | _ => { posonlyargs := [], args := [], vararg := none, kwonlyargs := [], kw_defaults := [], kwarg := none, defaults := [] }
def defBody (s : Stmt) : List Stmt := match s with
  | .FunctionDef _ _ b _ _ _ _ _ _ _ => b
  | _ => []
def defScope (s : Stmt) : Scope := match s with
  | .FunctionDef _ _ _ _ _ _ sc _ _ _ => sc
  | _ => { kind := .function, names := [], isGenerator := false, isCoroutine := false }

/-! ### no exception leaves a def -/
abbrev CX0 : CXT := fun _ _ _ _ _ _ => False
abbrev E0 : XK := fun _ _ _ => False
theorem pass0 {X : Cx} : Passes CX0 X E0 := fun _ _ _ _ _ _ _ h => h.elim

/-! ### a def (or method) of the text as it stands behind the top -/
structure Fun (K : PySem.W.Frag) (x qual : Str) (st : Stmt) (f : Addr) (fd : FuncData) : Prop where
  ex : ∃ (oc : Value) (od : Option Addr) (kV doc pm : Value) (an : Option Addr) (cdv ct : Value) (osl : Array (Option Value)),
    fd = PySem.W.fnOf x qual (defArgs st) (defBody st) (defScope st) .none kV doc pm an cdv ct ∧ K.lookup f = some ⟨oc, od, .func fd, osl⟩ ∧ PySem.W.codeIn K cdv qual = true
  kp : PySem.W.keepIn K (.ref f) = true
section
variable {P : Program} {w : World} {K : PySem.W.Frag} {mg : Str → Option Value} {base : Heap}
/-- THE RULE for a def: its body as a term of rules, and the reading of that term -/
theorem Fun.ok {x qual : Str} {st : Stmt} {f : Addr} {fd : FuncData} {N ps : List Str} {k : Nat} {sp : Sp} (F : Fun K x qual st f fd) (S : FnScope N ps (defScope st)) (len : ∀ vs H Q E, sp vs H Q E → vs.length = ps.length)
    (hbody : ∀ (cdv : Value) (A : Around) (outer : List Env) (s : Shared) (H : Hp) (vs : List V) (Q : VK) (E : XK), Room k (A.deeper (envOfC qual (defScope st) s.heap.objs.size f cdv)) → sp vs H Q E →
      ∃ t, PSs (cxOf CX0 P w K mg base N qual (defScope st) f cdv A outer s H E).nox (defBody st) t ∧ t { nx := fun _ H' => Q .non H', rt := Q } (start N vs) H) : FnOk P w K mg base CX0 (k + 1) f fd ps sp := by
  obtain ⟨oc, od, kV, doc, pm, an, cdv, ct, osl, rfl, lk, hcd⟩ := F.ex
  refine fn_of lk hcd S len fun A outer s H vs Q E hr hsp => ?_
  obtain ⟨t, h, q⟩ := hbody cdv A outer s H vs Q E hr hsp
  exact ⟨t, h.nox, q⟩
/-- how its arguments bind (no defaults): h is «fun _ _ _ _ _ _ us hl => match us, hl with | [_, _], _ => rfl», one _ a parameter -/
theorem Fun.binds {x qual : Str} {st : Stmt} {f : Addr} {fd : FuncData} {ps : List Str} (F : Fun K x qual st f fd)
    (h : ∀ (kV doc pm : Value) (an : Option Addr) (cdv ct : Value) (us : List Value), us.length = ps.length → bindArgs (PySem.W.fnOf x qual (defArgs st) (defBody st) (defScope st) .none kV doc pm an cdv ct) ⟨us, []⟩ = pure (ps.zip us)) : Binds K fd ps [] := by
  obtain ⟨oc, od, kV, doc, pm, an, cdv, ct, osl, rfl, lk, hcd⟩ := F.ex
  exact .all (h kV doc pm an cdv ct)
theorem fun_mk {x qual : Str} {st : Stmt} {f : Addr} {oc : Value} {od an : Option Addr} {osl : Array (Option Value)} {kV doc pm cdv ct : Value} (l : K.lookup f = some ⟨oc, od, .func (PySem.W.fnOf x qual (defArgs st) (defBody st) (defScope st) .none kV doc pm an cdv ct), osl⟩)
    (c : PySem.W.codeIn K cdv qual = true) (k : PySem.W.keepIn K (.ref f) = true) : Fun K x qual st f (PySem.W.fnOf x qual (defArgs st) (defBody st) (defScope st) .none kV doc pm an cdv ct) := ⟨⟨oc, od, kV, doc, pm, an, cdv, ct, osl, rfl, l, c⟩, k⟩
end
theorem small1000 {n : Nat} (h : n ≤ 1000) : n < sizeLine := Nat.lt_of_le_of_lt h (by decide)

/-! ### expressions in short: the name that stands in the i-th slot -/
section
variable {X : Cx}
theorem pv (i : Nat) {x : Str} {pos : Pos} (hN : X.N[i]? = some x := by rfl) (hv : Vis X.env.scope x := by first | exact Or.inl rfl | exact Or.inr (Or.inl rfl) | exact Or.inr (Or.inr rfl)) (hd : (x == ("__debug__" : Str)) = false := by decide)
    (hcd : (x == ("__classdict__" : Str)) = false := by decide) : PE X (.Name x pos) (tVar i) := pe_var hN hv hd hcd
end

/-! ### tests -/
theorem iteF {A B : Prop} (h : B) : if false = true then A else B := by
  rw [if_neg Bool.false_ne_true]
  exact h
theorem iteT {A B : Prop} (h : A) : if true = true then A else B := by
  rw [if_pos rfl]
  exact h
theorem ite2 {c A B : Prop} [Decidable c] (h1 : c → A) (h2 : ¬ c → B) : if c then A else B := by
  by_cases h : c
  · rw [if_pos h]
    exact h1 h
  · rw [if_neg h]
    exact h2 h
theorem iteNS {c A B : Prop} [Decidable c] (hc : c) (h : B) : if (!decide c) = true then A else B := by
  rw [decide_eq_true hc]
  exact iteF h

/-! ### heaps -/
/-- all that was tracked is as it was -/
def Same (H H' : Hp) : Prop := ∀ b o, H b = some o → H' b = some o
theorem Same.refl (H : Hp) : Same H H := fun _ _ h => h
theorem Same.trans {H H1 H2 : Hp} (a : Same H H1) (b : Same H1 H2) : Same H H2 := fun c o h => b c o (a c o h)
theorem Same.free {H H' : Hp} (e : Same H H') {l : Addr} (h : H' l = Option.none) : H l = Option.none := by
  cases q : H l with
  | none => rfl
  | some o =>
    rw [e l o q] at h
    cases h
theorem Same.seq {K : PySem.W.Frag} {H H' : Hp} {a : Addr} {xs : List V} (e : Same H H') (h : SqL K H a xs) : SqL K H' a xs := by
  rcases h with (h | ⟨o, h⟩) | h
  · exact .inl (.inl (e _ _ h))
  · exact .inl (.inr ⟨o, e _ _ h⟩)
  · exact .inr h

end L2
set_option Elab.async false
set_option linter.all false
set_option maxRecDepth 100000
namespace L2
open PySem PySem.Spec PyProof.Rows
/-! ### long displays -/
structure PEx (X : Cx) (e : Expr) (t : TE) : Prop where
  pe : PE X e t
  st : ∀ es, starEach (e :: es) X.env = (false, eval e X.env) :: starEach es X.env
inductive PAs (X : Cx) : List Expr → TA → Prop where
  | nil : PAs X [] tNil
  | cons {e : Expr} {es : List Expr} {te : TE} {t : TA} (h : PEx X e te) (r : PAs X es t) : PAs X (e :: es) (tCons te t)
theorem PAs.pa {X : Cx} {es : List Expr} {t : TA} (h : PAs X es t) : PA X es t := by
  induction h with
  | nil => exact pa_nil
  | cons h _ ih => exact pa_cons h.pe ih (h.st _)
section
variable {X : Cx} {es : List Expr} {t : TA} {k : Nat} {p : Pos}
theorem px_lst (h : PAs X es t) : PEx X (.List es p) (tLst t) := ⟨pe_lst h.pa, fun _ => rfl⟩
theorem px_tup (h : PAs X es t) : PEx X (.Tuple es k p) (tTup t) := ⟨pe_tup h.pa, fun _ => rfl⟩
end
end L2
set_option Elab.async false
set_option linter.all false
set_option maxRecDepth 100000
/-! ### comprehensions over the layer -/
namespace L2
open PySem PySem.Spec PyProof.Rows

section
variable {prog : Program} {w : World} {A : Around} {R : Result → Shared → Prop} {s : Shared}
theorem compLoop_go {elt target iter : Expr} {ifs : List Expr} {scope : Scope} {pos : Pos} {it acc : Value} {env : Env} (I : Nat → Shared → Prop)
    (turn : ∀ n s, I n s → wpAny (model prog w) A (pyNext it) (fun r s₁ => match r with
      | none => R (.ok .next) s₁
      | some v => wpAny (model prog w) A (letOwnedTupleGo target it v) (fun _ s₁ => wpAny (model prog w) A (assign target env v) (fun _ s₂ =>
          wpAny (model prog w) A (forIn ifs true fun c r => if r = true then do let ok ← isTrue c env (eval c env); pure (ForInStep.yield ok) else pure (ForInStep.yield r)) (fun ok s₃ =>
            if ok = true then wpAny (model prog w) A (eval elt env) (fun x s₄ =>
              wpAny (model prog w) A (call (.builtin "list.append") [acc, x]) (fun _ s₅ => ∃ m, m < n ∧ I m s₅) (notedBy (model prog w) A env fun e s' => R (.error e) s') s₄) (notedBy (model prog w) A env fun e s' => R (.error e) s') s₃
            else ∃ m, m < n ∧ I m s₃) (notedBy (model prog w) A env fun e s' => R (.error e) s') s₂) (notedBy (model prog w) A env fun e s' => R (.error e) s') s₁) (notedBy (model prog w) A env fun e s' => R (.error e) s') s₁) (notedBy (model prog w) A env fun e s' => R (.error e) s') s)
    (n : Nat) (h : I n s) :
    codeAny (model prog w) A (.compLoop (.ListComp elt [⟨target, iter, ifs, 0⟩] scope pos) 0 it acc env) R s := by
  refine codeAny_loop rfl I (fun n s hI => ?_) n h
  show wpAny _ A ((compTurn (.ListComp elt [⟨target, iter, ifs, 0⟩] scope pos) 0 it acc env).onRaise (fun x => do noteFrame x env; theTreesLotGoes x)) _ _ s
  refine wpAny_noted ?_
  rw [compTurn_list]
  refine wpAny_bind (wpAny_standAt (wpAny_bind (wpAny_mono (turn n s hI) (fun r s₁ h₁ => ?_) fun _ _ h' => h')))
  cases r with
  | none => exact wpAny_pure h₁
  | some v =>
    refine wpAny_bind (wpAny_mono h₁ (fun _ s₁' h₁' => ?_) fun _ _ h' => h')
    refine wpAny_bind (wpAny_mono h₁' (fun _ s₂ h₂ => wpAny_bind (wpAny_mono h₂ (fun ok s₃ h₃ => ?_) fun _ _ h' => h')) fun _ _ h' => h')
    cases ok with
    | false => exact wpAny_pure ⟨rfl, h₃⟩
    | true =>
      exact wpAny_bind (wpAny_bind (wpAny_mono h₃ (fun x s₄ h₄ => wpAny_bind (wpAny_mono h₄ (fun _ s₅ h₅ => wpAny_pure (wpAny_pure ⟨rfl, h₅⟩)) fun _ _ h' => h')) fun _ _ h' => h'))
end

/-- the look at a comprehension's names: its variable is new, what it takes from outside lies in cells -/
def okB (sc esc : Scope) (x : Str) (N : List Str) : Bool :=
  (sc.kind == .function) && ((sc.names.all fun p => match p.2 with
      | .local => (p.1 == x || !N.contains p.1) && (sc.names.lookup p.1 == some .local)
      | .free => esc.names.lookup p.1 == some .cell
      | .cell => false
      | _ => true) && ((sc.names.lookup x == some .local) && !N.contains x))
structure OkB (sc esc : Scope) (x : Str) (N : List Str) : Prop where
  kind : sc.kind = .function
  nocell : ∀ y ∈ sc.names, y.2 ≠ .cell
  names : ∀ y ∈ sc.names, y.2 = .local → sc.names.lookup y.1 = some .local
  locN : ∀ y ∈ sc.names, y.2 = .local → y.1 = x ∨ y.1 ∉ N
  free : ∀ y ∈ sc.names, y.2 = .free → esc.names.lookup y.1 = some .cell
  hx : sc.names.lookup x = some .local
  xN : x ∉ N
theorem OkB.of {sc esc : Scope} {x : Str} {N : List Str} (h : okB sc esc x N = true) : OkB sc esc x N := by
  unfold okB at h
  simp only [Bool.and_eq_true, List.all_eq_true, beq_iff_eq, Bool.not_eq_true', List.contains_eq_mem, decide_eq_false_iff_not] at h
  obtain ⟨h1, h2, h3, h4⟩ := h
  refine ⟨h1, fun y hy e => ?_, fun y hy e => ?_, fun y hy e => ?_, fun y hy e => ?_, h3, h4⟩
  · have := h2 y hy; rw [e] at this; simp at this
  · have := h2 y hy; rw [e] at this; simp at this; exact this.2
  · have := h2 y hy; rw [e] at this; simp at this; exact this.1
  · have := h2 y hy; rw [e] at this; simpa using this

theorem closure_ex {env : Env} : ∀ (names : List (Str × NameKind)) (cs : List (Str × Addr)), (∀ p ∈ names, p.2 = .free → ∃ c, env.cells.lookup p.1 = some c) → (∀ y c, cs.lookup y = some c → env.cells.lookup y = some c) →
    ∃ cl : List (Str × Addr), (forIn names cs fun (x : Str × NameKind) (r : List (Str × Addr)) => (match x with
      | (name, kind) => if (kind == .free) = true then do let a ← cellOf env name; pure (ForInStep.yield ((name, a) :: r)) else pure (ForInStep.yield r) : Sem (ForInStep (List (Str × Addr))))) = (pure cl : Sem (List (Str × Addr))) ∧
      (∀ y c, cl.lookup y = some c → env.cells.lookup y = some c) ∧ (∀ p ∈ names, p.2 = .free → ∃ c, cl.lookup p.1 = some c) ∧ ∀ y c, cs.lookup y = some c → ∃ c', cl.lookup y = some c'
  | [], cs, _, h => ⟨cs, by rw [List.forIn_nil], h, fun p hp => by simp at hp, fun y c e => ⟨c, e⟩⟩
  | (n, k) :: r, cs, h1, h2 => by
    by_cases hk : k = .free
    · subst hk
      obtain ⟨c, hc⟩ := h1 (n, .free) (by simp) rfl
      have h2' : ∀ y c', ((n, c) :: cs).lookup y = some c' → env.cells.lookup y = some c' := fun y c' e => by
        rw [List.lookup_cons] at e
        cases q : y == n with
        | true => rw [q] at e; cases e; rw [eq_of_beq q]; exact hc
        | false => rw [q] at e; exact h2 y c' e
      obtain ⟨cl, e1, e2, e3, e4⟩ := closure_ex r ((n, c) :: cs) (fun p hp => h1 p (by simp [hp])) h2'
      refine ⟨cl, ?_, e2, fun p hp hf => ?_, fun y c' e => ?_⟩
      · rw [List.forIn_cons]
        simp only [beq_self_eq_true, if_true, cellOf, hc, pure_bind]
        exact e1
      · rcases List.mem_cons.mp hp with rfl | hp
        · exact e4 n c (by simp [List.lookup_cons])
        · exact e3 p hp hf
      · by_cases q : y = n
        · subst q; exact e4 y c (by simp [List.lookup_cons])
        · exact e4 y c' (by rw [List.lookup_cons]; have : (y == n) = false := by simpa using q
                            rw [this]; exact e)
    · obtain ⟨cl, e1, e2, e3, e4⟩ := closure_ex r cs (fun p hp => h1 p (by simp [hp])) h2
      refine ⟨cl, ?_, e2, fun p hp hf => ?_, e4⟩
      · rw [List.forIn_cons]
        have hb : (k == NameKind.free) = false := by simpa using hk
        simp only [hb, Bool.false_eq_true, if_false, pure_bind]
        exact e1
      · rcases List.mem_cons.mp hp with rfl | hp
        · exact absurd hf hk
        · exact e3 p hp hf
theorem closure_of {sc : Scope} {env : Env} (h : ∀ p ∈ sc.names, p.2 = .free → ∃ c, env.cells.lookup p.1 = some c) :
    ∃ cl : List (Str × Addr), closureFor sc env = pure cl ∧ (∀ y c, cl.lookup y = some c → env.cells.lookup y = some c) ∧ ∀ p ∈ sc.names, p.2 = .free → ∃ c, cl.lookup p.1 = some c := by
  obtain ⟨cl, e1, e2, e3, _⟩ := closure_ex (env := env) sc.names [] h (fun y c e => by simp at e)
  refine ⟨cl, ?_, e2, e3⟩
  simp only [closureFor]
  rw [bind_pure]
  exact e1
theorem lookup_relabel {env : Env} : ∀ {names : List (Str × NameKind)} {x : Str} {k : NameKind},
    (names.map fun (n, k) => if (k == NameKind.free && env.scope.kind == .function && env.kindOf n == some .cell) then (n, NameKind.cell) else (n, k)).lookup x = some k →
    ∃ k0, names.lookup x = some k0 ∧ (k = k0 ∨ (k0 = .free ∧ k = .cell))
  | [], x, k, h => by simp at h
  | (n, k0) :: r, x, k, h => by
    have ih := @lookup_relabel env r x k
    have h' : List.lookup x ((if (k0 == NameKind.free && env.scope.kind == .function && env.kindOf n == some .cell) = true then (n, NameKind.cell) else (n, k0)) ::
      r.map fun (n, k) => if (k == NameKind.free && env.scope.kind == .function && env.kindOf n == some .cell) then (n, NameKind.cell) else (n, k)) = some k := h
    by_cases hc : (k0 == NameKind.free && env.scope.kind == .function && env.kindOf n == some .cell) = true
    · rw [if_pos hc] at h'
      simp only [List.lookup_cons] at h' ⊢
      cases hx : x == n with
      | true =>
        rw [hx] at h'
        simp only [Bool.and_eq_true, beq_iff_eq] at hc
        exact ⟨k0, rfl, .inr ⟨hc.1.1, (Option.some.inj h').symm⟩⟩
      | false => rw [hx] at h'; exact ih h'
    · rw [if_neg hc] at h'
      simp only [List.lookup_cons] at h' ⊢
      cases hx : x == n with
      | true => rw [hx] at h'; exact ⟨k0, rfl, .inl (Option.some.inj h').symm⟩
      | false => rw [hx] at h'; exact ih h'

/-- the context of a comprehension's block -/
abbrev cxB (X : Cx) (sc : Scope) (cl : List (Str × Addr)) (x : Str) (C : Addr) (s : Shared) (H : Hp) (fp : List Addr) (pins : List (Addr × Obj)) : Cx where
  prog := X.prog
  w := X.w
  K := X.K
  mg := X.mg
  base := X.base
  A := X.A
  N := x :: X.N
  s₀ := s
  H₀ := H
  env := compEnvC sc cl C X.env
  outer := X.stack
  stack := X.stack
  ex := fp
  fn := fun _ => false
  calm := X.calm
  pn := X.pn ++ pins
  xe := fun _ _ => False

def PIfs (X : Cx) (ifs : List Expr) (tt : TT) : Prop :=
  ∀ (pins : List (Addr × Obj)) (s : Shared) (σ : St) (H : Hp) (Q : Bool → Hp → Prop), Inv X pins σ H s → tt σ H Q →
    wpAny (model X.prog X.w) X.A (forIn ifs true fun c r => if r = true then do let ok ← isTrue c X.env (eval c X.env); pure (ForInStep.yield ok) else pure (ForInStep.yield r)) (TP X pins σ Q) X.xe s
def tAll : TT := fun _ H Q => Q true H
theorem pifs_nil {X : Cx} : PIfs X [] tAll := fun _ _ _ H _ I h => wpAny_tests_nil ⟨H, I, h⟩
theorem pifs_one {X : Cx} {c : Expr} {t : TT} (h : PT X c t) : PIfs X [c] t := fun pins s σ H Q I hq => wpAny_tests_one (h pins s σ H Q I hq)

/-- the reading of a comprehension behind its iterator: D the new list; W the invariant by the turn, a measure, what is collected -/
def CompRd (J : It) (tt : TT) (te : TE) (σ : St) (Q : VK) (H1 : Hp) : Prop := ∀ D, H1 D = none →
  ∃ W : Nat → Nat → List V → Hp → Prop, (∃ m, W 0 m [] (upd H1 D (.lst []))) ∧ ∀ i m ys H, W i m ys H → H D = some (.lst ys) ∧
    ((J.stop i H ∧ Q (.ref D) H) ∨ (J.go i H ∧ ys.length < sizeLine ∧ ∀ x H', J.yld i H x H' → tt (some x :: σ) H' fun b H2 => if b = true then te (some x :: σ) H2 fun y H3 => H3 D = some (.lst ys) ∧ ∃ m', m' < m ∧ W (i + 1) m' (ys ++ [y]) (upd H3 D (.lst (ys ++ [y])))
      else ∃ m', m' < m ∧ W (i + 1) m' ys H2))
def tComp (wi : TI) (tt : TT) (te : TE) : TE := fun σ H Q => wi σ H fun J H1 => CompRd J tt te σ Q H1

section
variable {X : Cx}
/-- the block's start -/
theorem block_inv {sc : Scope} {cl : List (Str × Addr)} {x : Str} {C : Addr} {s3 s4 : Shared} {H3 : Hp} {fp : List Addr} {pins : List (Addr × Obj)} {σ : St} {m : Str → Option Value}
    (ok : OkB sc X.env.scope x X.N) (I : Inv X pins σ H3 s3) (hcl : ∀ y c, cl.lookup y = some c → X.env.cells.lookup y = some c) (hcl2 : ∀ p ∈ sc.names, p.2 = .free → ∃ c, cl.lookup p.1 = some c)
    (hfp : ∀ b ∈ fp, FpOk X pins H3 b) (hfl : ∀ b ∈ fp, b < s3.heap.objs.size) (hC : C = s3.heap.objs.size) (hos : s4.os = s3.os) (hg : s4.gens = s3.gens) (hk : ∀ b o, s3.heap.get? b = some o → s4.heap.get? b = some o) (hn : s4.heap.Ns C m) :
    Inv (cxB X sc cl x C s3 H3 fp pins) [] (none :: σ) H3 s4 := by
  have kind : (cxB X sc cl x C s3 H3 fp pins).env.scope.kind = .function := ok.kind
  have lk : ∀ {y : Str} {k : NameKind}, (relabel sc X.env).names.lookup y = some k → ∃ k0, sc.names.lookup y = some k0 ∧ (k = k0 ∨ (k0 = .free ∧ k = .cell)) := fun h => lookup_relabel h
  have fr : ∀ {y : Str}, (relabel sc X.env).names.lookup y = some .cell ∨ (relabel sc X.env).names.lookup y = some .free → sc.names.lookup y = some .free := fun {y} h => by
    rcases h with h | h
    · obtain ⟨k0, e, q | q⟩ := lk h
      · subst q; exact absurd rfl (ok.nocell _ (PySem.mem_of_lookup e))
      · rw [e, q.1]
    · obtain ⟨k0, e, q | q⟩ := lk h
      · rw [e, ← q]
      · cases q.2
  refine ⟨⟨I.ok.mod, kind, I.ok.glob, I.ok.blt, by show s3.heap.objs.size ≤ C; rw [hC]; exact Nat.le_refl _, fun y z c h1 h2 => I.ok.inj y z c (hcl y c h1) (hcl z c h2), fun y hy => ?_, fun y c h _ => absurd h Bool.false_ne_true, I.ok.hd, I.ok.frames, .inl rfl, fun b hb => ?_, I.bs, Nat.le_trans I.ok.bsz I.sz, fun b o e hb => ?_, fun b hb => ?_, I.stack, I.stkFree⟩,
    hos, by rw [hg]; exact I.bare, Un.kept hk, ⟨m, hn, fun i y v h1 h2 h3 => ?_⟩, fun y c h => ?_, ?_, fun y c h => I.freeC y c (hcl y c h), fun p hp => ?_, I.hok.kept hk, ?_⟩
  · exact hcl2 _ (PySem.mem_of_lookup (fr hy)) rfl
  · refine ⟨by show b ≠ C; rw [hC]; exact Nat.ne_of_lt (hfl b hb), fun y c h => (hfp b hb).2.2.2.2.1 y c (hcl y c h)⟩
  · rcases (hfp b hb).2.2.2.1 with z | z
    · exact I.ok.noex b o e z
    · exact absurd (Nat.lt_of_lt_of_le (Heap.lt_size e) (Nat.le_trans I.ok.bsz z)) (Nat.lt_irrefl _)
  · intro z
    rcases List.mem_cons.mp (I.stkSub b z) with q | q
    · exact (hfp b hb).2.1 q
    · exact (hfp b hb).2.2.1 q
  · cases i with
    | zero => cases h2
    | succ i =>
      have h1 : X.N[i]? = some y := h1
      have h2 : σ[i]? = some (some v) := h2
      have yN : y ∈ X.N := List.mem_of_getElem? h1
      have h3 : (relabel sc X.env).names.lookup y = some .local ∨ (relabel sc X.env).names.lookup y = some .cell ∨ (relabel sc X.env).names.lookup y = some .free := h3
      have hf : sc.names.lookup y = some .free := by
        rcases h3 with q | q
        · obtain ⟨k0, e, r | r⟩ := lk q
          · subst r
            rcases ok.locN _ (PySem.mem_of_lookup e) rfl with r | r
            · exact absurd (r ▸ yN) ok.xN
            · exact absurd yN r
          · cases r.2
        · exact fr q
      obtain ⟨c, hc⟩ := hcl2 _ (PySem.mem_of_lookup hf) rfl
      have hcX := hcl y c hc
      have hkX : X.env.scope.names.lookup y = some .cell := ok.free _ (PySem.mem_of_lookup hf) rfl
      obtain ⟨mX, hnX, hl⟩ := I.loc
      obtain ⟨u, r, l⟩ := hl i y v h1 h2 (.inr (.inl hkX))
      refine ⟨u, r, .inr ⟨?_, c, hc, ?_⟩⟩
      · rcases h3 with q | q
        · obtain ⟨k0, e, z | z⟩ := lk q
          · subst z; rw [hf] at e; cases e
          · cases z.2
        · exact q
      · rcases l with ⟨q, _⟩ | ⟨_, c', e, o, ho, hd⟩
        · have q : X.env.scope.names.lookup y = some .local := q
          rw [hkX] at q; cases q
        · rw [hcX] at e; cases e
          exact ⟨o, hk _ o ho, hd⟩
  · obtain ⟨v, o, ho, hd⟩ := I.cell y c (hcl y c h)
    exact ⟨v, o, hk _ o ho, hd⟩
  · show H3 C = none
    rw [hC]; exact I.hok.fresh (Nat.le_refl _)
  · have hp : p ∈ X.pn ++ pins := by simpa using hp
    obtain ⟨e, n, ne, nf, d⟩ := I.pin p hp
    refine ⟨hk _ _ e, n, by show p.1 ≠ C; rw [hC]; exact Nat.ne_of_lt (Heap.lt_size e), fun z => ?_, d⟩
    rcases List.mem_cons.mp (I.stkSub p.1 z) with q | q
    · exact ne q
    · exact nf q
  · show (none :: σ).length = (x :: X.N).length
    rw [List.length_cons, List.length_cons, I.len]

/-- behind the block -/
theorem block_back {sc : Scope} {cl : List (Str × Addr)} {x : Str} {C : Addr} {s3 s' : Shared} {H3 H' : Hp} {fp : List Addr} {pins : List (Addr × Obj)} {σ σ' : St}
    (I : Inv X pins σ H3 s3) (hfp : ∀ b ∈ fp, FpOk X pins H3 b) (J : Inv (cxB X sc cl x C s3 H3 fp pins) [] σ' H' s') : Inv X pins σ H' s' :=
  I.call' (ch := fp) J.os J.base J.hok J.bare fun b hb => ⟨(hfp b hb).2.2.2.1, (hfp b hb).2.1, (hfp b hb).2.2.2.2.1, (hfp b hb).2.2.2.2.2⟩
theorem block_gone {C : Addr} {s3 s' : Shared} {H3 H' : Hp} {pins : List (Addr × Obj)} {σ σ1 : St} {h' : Heap} (I3 : Inv X pins σ H3 s3) (hC : C = s3.heap.objs.size) (hfree : H' C = none) (I' : Inv X pins σ1 H' s') (hs : Heap.SameBut C s'.heap h') :
    Inv X pins σ1 H' { s' with heap := h' } :=
  I'.turned (t' := s'.toks) (it := C) (fun b o hb e => hs.extBut b o hb e) hfree (by rw [hC]; exact Nat.ne_of_gt I3.lt) (.inr (by rw [hC]; exact I3.sz))
    (fun y c e z => by
      obtain ⟨v, q⟩ := I3.cell y c e
      exact absurd q.lt (by rw [z, hC]; exact Nat.lt_irrefl _))
    fun p hp z => absurd (Heap.lt_size (I3.pin p hp).1) (by rw [z, hC]; exact Nat.lt_irrefl _)

/-- the loop -/
theorem comp_loop {elt iter : Expr} {ifs : List Expr} {x : Str} {px : Pos} {sc : Scope} {pos : Pos} {cl : List (Str × Addr)} {C D it : Addr} {s3 s4 : Shared} {H3 : Hp} {fp : List Addr} {pins : List (Addr × Obj)} {σ : St} {J : It} {tn : Nat → Heap → Prop} {tt : TT} {te : TE}
    {Q : VK} {R : Result → Shared → Prop} {W : Nat → Nat → List V → Hp → Prop} {m0 : Nat} (hc : X.calm = true) (nd : X.N.Nodup) (ok : OkB sc X.env.scope x X.N) (I : Inv X pins σ H3 s3) (hC : C = s3.heap.objs.size)
    (hcl : ∀ y c, cl.lookup y = some c → X.env.cells.lookup y = some c)
    (hfp : ∀ b ∈ fp, FpOk X pins H3 b) (hfl : ∀ b ∈ fp, b < s3.heap.objs.size)
    (T : Turn X.prog X.w X.K (.Name x px) J fp it tn) (hT : PIfs (cxB X sc cl x C s3 H3 fp pins) ifs tt) (hE : PE (cxB X sc cl x C s3 H3 fp pins) elt te)
    (w0 : W 0 m0 [] H3)
    (turn : ∀ i m ys H, W i m ys H → H D = some (.lst ys) ∧
      ((J.stop i H ∧ Q (.ref D) H) ∨ (J.go i H ∧ ys.length < sizeLine ∧ ∀ x H', J.yld i H x H' → tt (some x :: σ) H' fun b H2 => if b = true then te (some x :: σ) H2 fun y H3 => H3 D = some (.lst ys) ∧ ∃ m', m' < m ∧ W (i + 1) m' (ys ++ [y]) (upd H3 D (.lst (ys ++ [y])))
        else ∃ m', m' < m ∧ W (i + 1) m' ys H2)))
    (I4 : Inv (cxB X sc cl x C s3 H3 fp pins) [] (none :: σ) H3 s4) (st4 : tn 0 s4.heap)
    (hR : ∀ σ' H' s', Inv (cxB X sc cl x C s3 H3 fp pins) [] σ' H' s' → Q (.ref D) H' → R (.ok .next) s') :
    codeAny (model X.prog X.w) X.A (.compLoop (.ListComp elt [⟨.Name x px, iter, ifs, 0⟩] sc pos) 0 (.ref it) (.ref D) (compEnvC sc cl C X.env)) R s4 := by
  have stat : ∀ {H' : Hp}, (∀ b ∈ fp, H' b = none) → ∀ b ∈ fp, FpOk (cxB X sc cl x C s3 H3 fp pins) [] H' b := fun hn b hb => by
    refine ⟨hn b hb, by show b ≠ C; rw [hC]; exact Nat.ne_of_lt (hfl b hb), fun z => ?_, .inl hb, fun y c e => (hfp b hb).2.2.2.2.1 y c (hcl y c e), fun p hp => (hfp b hb).2.2.2.2.2 p (by simpa using hp)⟩
    rcases List.mem_cons.mp (I.stkSub b z) with q | q
    · exact (hfp b hb).2.1 q
    · exact (hfp b hb).2.2.1 q
  have hxl : (cxB X sc cl x C s3 H3 fp pins).env.scope.names.lookup x = some .local := lookup_relabel_local ok.hx
  have hN : (cxB X sc cl x C s3 H3 fp pins).N.Nodup := List.nodup_cons.mpr ⟨ok.xN, nd⟩
  have no : ∀ (e : Value) (s' : Shared), (cxB X sc cl x C s3 H3 fp pins).xe e s' → notedBy (model X.prog X.w) X.A (compEnvC sc cl C X.env) (fun e s' => R (.error e) s') e s' := fun _ _ h => False.elim h
  refine compLoop_go (fun n s' => ∃ i H' ys o, Inv (cxB X sc cl x C s3 H3 fp pins) [] (o :: σ) H' s' ∧ tn i s'.heap ∧ (∀ b ∈ fp, H' b = none) ∧ W i n ys H') ?_ m0 ⟨0, H3, [], none, I4, st4, fun b hb => (hfp b hb).1, w0⟩
  rintro n s' ⟨i, H', ys, o, I', st', fr', w'⟩
  obtain ⟨hD, ⟨stop, q⟩ | ⟨go, hz, step⟩⟩ := turn i n ys H' w'
  · refine wpAny_mono (T.done (cxB X sc cl x C s3 H3 fp pins) rfl rfl rfl hc i [] s' _ H' (fun _ _ => False) I' (stat fr') st' stop) (fun r s1 ⟨hr, I1⟩ => ?_) fun _ _ h => False.elim h
    subst hr
    exact hR _ _ s1 I1 q
  · refine wpAny_mono (T.item (cxB X sc cl x C s3 H3 fp pins) rfl rfl rfl hc i [] s' _ H' (fun _ _ => False) I' (stat fr') st' go) (fun r s1 ⟨u, hr, h1⟩ => ?_) fun _ _ h => False.elim h
    subst hr
    refine wpAny_mono h1 (fun _ s2 ⟨v, H2, I2, r2, y2, st2, fr2⟩ => ?_) fun _ _ h => False.elim h
    have I2' := I2.pinned (stat fr2) (T.obj _ _ st2)
    have again : ∀ {s7 : Shared} {H7 : Hp} {o7 : Option V} {ys7 : List V} {m' : Nat}, Inv (cxB X sc cl x C s3 H3 fp pins) ([] ++ pinsAt fp s2.heap) (o7 :: σ) H7 s7 → m' < n → W (i + 1) m' ys7 H7 →
        ∃ m, m < n ∧ ∃ i H' ys o, Inv (cxB X sc cl x C s3 H3 fp pins) [] (o :: σ) H' s7 ∧ tn i s7.heap ∧ (∀ b ∈ fp, H' b = none) ∧ W i m ys H' := fun {s7 H7 o7 ys7 m'} I7 hm w7 => by
      refine ⟨m', hm, i + 1, H7, ys7, o7, I7.unpinned, T.keep _ _ _ st2 fun b hb o e => (I7.pin (b, o) (List.mem_append_right _ (List.mem_append_right _ (mem_pinsAt hb e)))).1, fun b hb => ?_, w7⟩
      obtain ⟨o, e, d⟩ := T.obj _ _ st2 b hb
      exact (I7.pin (b, o) (List.mem_append_right _ (List.mem_append_right _ (mem_pinsAt hb e)))).2.1
    refine wpAny_mono (pg_name (X := cxB X sc cl x C s3 H3 fp pins) (i := 0) hN rfl (Or.inl hxl) (Or.inr hxl) _ s2 _ H2 v u (fun σ'' H'' => σ'' = some v :: σ ∧ H'' = H2) I2' r2 ⟨rfl, rfl⟩) (fun _ s3' ⟨σ3, H3', I3, e3, e3'⟩ => ?_) no
    subst e3 e3'
    refine wpAny_mono (hT _ s3' _ H3' _ I3 (step v H3' y2)) (fun ok s4' ⟨H4, I4', q4⟩ => ?_) no
    cases ok with
    | false =>
      rw [if_neg Bool.false_ne_true] at q4 ⊢
      obtain ⟨m', hm, w4⟩ := q4
      exact again I4' hm w4
    | true =>
      rw [if_pos rfl] at q4 ⊢
      refine wpAny_mono (hE _ s4' _ H4 _ I4' q4) (fun y s5 ⟨v5, H5, I5, r5, hD5, m', hm, w5⟩ => ?_) no
      refine wpAny_mono (mt_append (X := cxB X sc cl x C s3 H3 fp pins) _ s5 _ H5 (.ref D) [v5] (.ref D) [y] (fun _ H6 => H6 = upd H5 D (.lst (ys ++ [v5]))) I5 rfl (.cons r5 .nil) ⟨D, ys, v5, rfl, rfl, hD5, hz, rfl⟩) (fun _ s6 ⟨_, H6, I6, _, e6⟩ => ?_) no
      subst e6
      exact again I6 hm w5
theorem pe_comp {elt iter : Expr} {ifs : List Expr} {x : Str} {px : Pos} {sc : Scope} {pos : Pos} {wi : TI} {tt : TT} {te : TE} (hc : X.calm = true) (nd : X.N.Nodup) (okb : okB sc X.env.scope x X.N = true) (hi : PI X (.Name x px) iter wi)
    (hB : ∀ cl C s H fp pins, PIfs (cxB X sc cl x C s H fp pins) ifs tt ∧ PE (cxB X sc cl x C s H fp pins) elt te) (hs : ∀ v, foldedSetIterable iter X.env v = pure v := by intro _; rfl) :
    PE X (.ListComp elt [⟨.Name x px, iter, ifs, 0⟩] sc pos) (tComp wi tt te) := by
  intro pins s σ H Q I h
  have ok := OkB.of okb
  obtain ⟨cl, hclos, hcl, hcl2⟩ := closure_of (sc := sc) (env := X.env) fun p hp hf => I.ok.has p.1 (.inl (ok.free p hp hf))
  rw [eval_ListComp]
  refine wpAny_comprehension_free (use := none) rfl hs hclos ok.kind ok.names (thn (hi pins s σ H _ I h) fun v s1 h1 => thn h1 fun itv s2 h2 => ?_)
  obtain ⟨it, fp, tn, J, H2, rfl, I2, T, st2, f2, hq⟩ := h2
  obtain ⟨W, ⟨m0, w0⟩, turn⟩ := hq s2.heap.objs.size (I2.hok.fresh (Nat.le_refl _))
  refine wpAny_newObj_type (wpAny_newFunctionEnv ok.nocell (by intro y hy; simp at hy) (fun h₁ hns₁ hsb₁ => ?_) ok.kind)
  dsimp only at hns₁ hsb₁ ⊢
  have I3 : Inv X pins σ (upd H2 s2.heap.objs.size (.lst [])) { s2 with heap := s2.heap.push { cls := .type "list", dict := none, data := .seq ([] : List Value).toArray } } := I2.lnew (t' := s2.toks) .nil (Nat.zero_le _)
  generalize hs3 : ({ s2 with heap := s2.heap.push { cls := .type "list", dict := none, data := .seq ([] : List Value).toArray } } : Shared) = s3 at I3
  have hH3 : s2.heap.push { cls := .type "list", dict := none, data := .seq ([] : List Value).toArray } = s3.heap := by rw [← hs3]
  rw [hH3] at hns₁ hsb₁ ⊢
  have old2 : ∀ b o, s2.heap.get? b = some o → s3.heap.get? b = some o := fun b o e => by rw [← hH3]; exact Heap.get?_push_of_some _ e
  have old3 : ∀ b o, s3.heap.get? b = some o → h₁.get? b = some o := fun b o e => hsb₁.extBut b o (Nat.ne_of_lt (Heap.lt_size e)) (Heap.get?_push_of_some _ e)
  have hfl : ∀ b ∈ fp, b < s2.heap.objs.size := fun b hb => by
    obtain ⟨o, e, _⟩ := T.obj _ _ st2 b hb
    exact Heap.lt_size e
  have hfp : ∀ b ∈ fp, FpOk X pins (upd H2 s2.heap.objs.size (.lst [])) b := fun b hb => by
    obtain ⟨a1, a2⟩ := f2 b hb
    exact ⟨by rw [upd_ne (Nat.ne_of_lt (hfl b hb))]; exact a1, a2⟩
  have hfl3 : ∀ b ∈ fp, b < s3.heap.objs.size := fun b hb => by rw [← hH3, Heap.size_push]; exact Nat.lt_succ_of_lt (hfl b hb)
  have st4 : tn 0 h₁ := T.keep _ _ _ st2 fun b hb o e => old3 b o (old2 b o e)
  have loop : ∀ s4 : Shared, s4 = { s2 with heap := h₁, toks := s2.toks + ([] : List (Str × Value)).length } →
      codeAny (model X.prog X.w) X.A (.compLoop (.ListComp elt [⟨.Name x px, iter, ifs, 0⟩] sc pos) 0 (.ref it) (.ref s2.heap.objs.size) (compEnvC sc cl s3.heap.objs.size X.env))
        (compPost (model X.prog X.w) X.A X.xe none (EP X pins σ Q) (.ref s2.heap.objs.size) s3.heap.objs.size) s4 := by
    rintro s4 rfl
    have I4 : Inv (cxB X sc cl x s3.heap.objs.size s3 (upd H2 s2.heap.objs.size (.lst [])) fp pins) [] (none :: σ) (upd H2 s2.heap.objs.size (.lst [])) { s2 with heap := h₁, toks := s2.toks + ([] : List (Str × Value)).length } :=
      block_inv ok I3 hcl hcl2 hfp hfl3 rfl (by rw [← hs3]) (by rw [← hs3]) old3 hns₁
    refine comp_loop hc nd ok I3 rfl hcl hfp hfl3 T (hB _ _ _ _ _ _).1 (hB _ _ _ _ _ _).2 w0 turn I4 st4 fun σ' H' s' J' q => ?_
    obtain ⟨m', hm', _⟩ := J'.loc
    refine ⟨m', hm', fun h' hs' => ?_⟩
    exact ⟨.ref s2.heap.objs.size, H', block_gone I3 rfl J'.free (block_back I3 hfp J') hs', rfl, q⟩
  exact codeAny_compStart_list (loop _ rfl) (T.self _ 0 _ _ _ st4 (loop _ rfl))
theorem pe_compF {elt iter : Expr} {ifs : List Expr} {x : Str} {px : Pos} {sc : Scope} {pos : Pos} {wi : TI} {tt : TT} (esc : Scope) (N : List Str) (te : TE) (hc : X.calm = true) (nd : X.N.Nodup) (okb : okB sc esc x N = true) (hi : PI X (.Name x px) iter wi)
    (hB : ∀ cl C s H fp pins, PIfs (cxB X sc cl x C s H fp pins) ifs tt ∧ PE (cxB X sc cl x C s H fp pins) elt te) (he : X.env.scope = esc := by rfl) (hN : X.N = N := by rfl) (hs : ∀ v, foldedSetIterable iter X.env v = pure v := by intro _; rfl) :
    PE X (.ListComp elt [⟨.Name x px, iter, ifs, 0⟩] sc pos) (tComp wi tt te) := pe_comp hc nd (by rw [he, hN]; exact okb) hi hB hs
/-- y = [..] -/
theorem ps_setC {elt iter : Expr} {ifs : List Expr} {x y : Str} {px py : Pos} {sc : Scope} {pos spos : Pos} {wi : TI} {tt : TT} {te : TE} {j : Nat} (hc : X.calm = true) (nd : X.N.Nodup) (okb : okB sc X.env.scope x X.N = true) (hi : PI X (.Name x px) iter wi)
    (hB : ∀ cl C s H fp pins, PIfs (cxB X sc cl x C s H fp pins) ifs tt ∧ PE (cxB X sc cl x C s H fp pins) elt te) (hj : X.N[j]? = some y) (hy : Loc X.env.scope y)
    (hsw : swapsWith (.ListComp elt [⟨.Name x px, iter, ifs, 0⟩] sc pos) (some (.Name y py)) spos.line X.env = pure true := by rfl)
    (hf : X.fn y = true ∨ X.env.scope.names.lookup y = some .local := by first | exact .inl rfl | exact .inr rfl | assumption)
    (hs : ∀ v, foldedSetIterable iter X.env v = pure v := by intro _; rfl) :
    PS X (.Assign [.Name y py] (.ListComp elt [⟨.Name x px, iter, ifs, 0⟩] sc pos) spos) (tAsg (tComp wi tt te) (gName j)) := by
  intro pins s σ H DD I h
  have ok := OkB.of okb
  obtain ⟨cl, hclos, hcl, hcl2⟩ := closure_of (sc := sc) (env := X.env) fun p hp hf => I.ok.has p.1 (.inl (ok.free p hp hf))
  rw [exec_Assign_Name_used _ _ _ _ hsw]
  refine wpAny_bind (wpAny_standAt (wpAny_bind ?_))
  show wpAny _ X.A (do let _ ← comprehension (.ListComp elt [⟨.Name x px, iter, ifs, 0⟩] sc pos) sc X.env _ (newList []) false (eval iter X.env) (some (assign (.Name y py) X.env))) _ _ s
  refine wpAny_bind (wpAny_mono (wpAny_comprehension_free (use := some (assign (.Name y py) X.env)) (Q := fun _ s' => SP X pins DD .next s') rfl hs hclos ok.kind ok.names
    (thn (hi pins s σ H _ I h) fun v s1 h1 => thn h1 fun itv s2 h2 => ?_)) (fun _ s' hq => wpAny_pure (wpAny_pure hq)) fun _ _ e => e)
  obtain ⟨it, fp, tn, J, H2, rfl, I2, T, st2, f2, hq⟩ := h2
  obtain ⟨W, ⟨m0, w0⟩, turn⟩ := hq s2.heap.objs.size (I2.hok.fresh (Nat.le_refl _))
  refine wpAny_newObj_type (wpAny_newFunctionEnv ok.nocell (by intro y hy; simp at hy) (fun h₁ hns₁ hsb₁ => ?_) ok.kind)
  dsimp only at hns₁ hsb₁ ⊢
  have I3 : Inv X pins σ (upd H2 s2.heap.objs.size (.lst [])) { s2 with heap := s2.heap.push { cls := .type "list", dict := none, data := .seq ([] : List Value).toArray } } := I2.lnew (t' := s2.toks) .nil (Nat.zero_le _)
  generalize hs3 : ({ s2 with heap := s2.heap.push { cls := .type "list", dict := none, data := .seq ([] : List Value).toArray } } : Shared) = s3 at I3
  have hH3 : s2.heap.push { cls := .type "list", dict := none, data := .seq ([] : List Value).toArray } = s3.heap := by rw [← hs3]
  rw [hH3] at hns₁ hsb₁ ⊢
  have old2 : ∀ b o, s2.heap.get? b = some o → s3.heap.get? b = some o := fun b o e => by rw [← hH3]; exact Heap.get?_push_of_some _ e
  have old3 : ∀ b o, s3.heap.get? b = some o → h₁.get? b = some o := fun b o e => hsb₁.extBut b o (Nat.ne_of_lt (Heap.lt_size e)) (Heap.get?_push_of_some _ e)
  have hfl : ∀ b ∈ fp, b < s2.heap.objs.size := fun b hb => by
    obtain ⟨o, e, _⟩ := T.obj _ _ st2 b hb
    exact Heap.lt_size e
  have hfp : ∀ b ∈ fp, FpOk X pins (upd H2 s2.heap.objs.size (.lst [])) b := fun b hb => by
    obtain ⟨a1, a2⟩ := f2 b hb
    exact ⟨by rw [upd_ne (Nat.ne_of_lt (hfl b hb))]; exact a1, a2⟩
  have hfl3 : ∀ b ∈ fp, b < s3.heap.objs.size := fun b hb => by rw [← hH3, Heap.size_push]; exact Nat.lt_succ_of_lt (hfl b hb)
  have st4 : tn 0 h₁ := T.keep _ _ _ st2 fun b hb o e => old3 b o (old2 b o e)
  have loop : ∀ s4 : Shared, s4 = { s2 with heap := h₁, toks := s2.toks + ([] : List (Str × Value)).length } →
      codeAny (model X.prog X.w) X.A (.compLoop (.ListComp elt [⟨.Name x px, iter, ifs, 0⟩] sc pos) 0 (.ref it) (.ref s2.heap.objs.size) (compEnvC sc cl s3.heap.objs.size X.env))
        (compPost (model X.prog X.w) X.A X.xe (some (assign (.Name y py) X.env)) (fun _ s' => SP X pins DD .next s') (.ref s2.heap.objs.size) s3.heap.objs.size) s4 := by
    rintro s4 rfl
    have I4 : Inv (cxB X sc cl x s3.heap.objs.size s3 (upd H2 s2.heap.objs.size (.lst [])) fp pins) [] (none :: σ) (upd H2 s2.heap.objs.size (.lst [])) { s2 with heap := h₁, toks := s2.toks + ([] : List (Str × Value)).length } :=
      block_inv ok I3 hcl hcl2 hfp hfl3 rfl (by rw [← hs3]) (by rw [← hs3]) old3 hns₁
    refine comp_loop (Q := fun v H' => gName j v σ H' DD.nx) hc nd ok I3 rfl hcl hfp hfl3 T (hB _ _ _ _ _ _).1 (hB _ _ _ _ _ _).2 w0 turn I4 st4 fun σ' H' s' J' q => ?_
    obtain ⟨m', hm', _⟩ := J'.loc
    have B := block_back I3 hfp J'
    show wpAny _ X.A (assign (.Name y py) X.env (.ref s2.heap.objs.size)) _ _ _
    refine wpAny_assign_Name (store_ok2 B nd hj hy (v := .ref s2.heap.objs.size) rfl (fun s'' I'' hch => ?_) hf)
    obtain ⟨a, sb, ha⟩ := hch
    have aC : s3.heap.objs.size ≠ a := by
      rcases ha with rfl | ha
      · exact Nat.ne_of_gt I3.lt
      · obtain ⟨v, q⟩ := I3.cell y a ha
        exact Nat.ne_of_gt q.lt
    refine ⟨m', hm'.sameBut sb aC, fun h' hs' => ?_⟩
    exact ⟨_, H', block_gone I3 rfl J'.free I'' hs', q⟩
  exact codeAny_compStart_list (loop _ rfl) (T.self _ 0 _ _ _ st4 (loop _ rfl))

theorem ps_setF {elt iter : Expr} {ifs : List Expr} {x y : Str} {px py : Pos} {sc : Scope} {pos spos : Pos} {wi : TI} {tt : TT} (esc : Scope) (N : List Str) (te : TE) (j : Nat) (hc : X.calm = true) (nd : X.N.Nodup) (okb : okB sc esc x N = true) (hi : PI X (.Name x px) iter wi)
    (hB : ∀ cl C s H fp pins, PIfs (cxB X sc cl x C s H fp pins) ifs tt ∧ PE (cxB X sc cl x C s H fp pins) elt te) (hj : X.N[j]? = some y) (hy : Loc X.env.scope y) (he : X.env.scope = esc := by rfl) (hN : X.N = N := by rfl)
    (hsw : swapsWith (.ListComp elt [⟨.Name x px, iter, ifs, 0⟩] sc pos) (some (.Name y py)) spos.line X.env = pure true := by rfl)
    (hf : X.fn y = true ∨ X.env.scope.names.lookup y = some .local := by first | exact .inl rfl | exact .inr rfl | assumption)
    (hs : ∀ v, foldedSetIterable iter X.env v = pure v := by intro _; rfl) :
    PS X (.Assign [.Name y py] (.ListComp elt [⟨.Name x px, iter, ifs, 0⟩] sc pos) spos) (tAsg (tComp wi tt te) (gName j)) := ps_setC hc nd (by rw [he, hN]; exact okb) hi hB hj hy hsw hf hs

/-! ### the form one uses -/
/-- an iterator that goes through a fixed row -/
structure Runs (J : It) (xs : List V) (S : Hp → Prop) : Prop where
  go : ∀ i H, i < xs.length → S H → J.go i H
  yld : ∀ i H y H', i < xs.length → S H → J.yld i H y H' → H' = H ∧ xs[i]? = some y
  stop : ∀ i H, xs.length ≤ i → S H → J.stop i H
theorem runs_tup {K : PySem.W.Frag} {a : Addr} {xs : List V} : Runs (Itt K a) xs fun H => SqT K H a xs :=
  ⟨fun i H hi h => ⟨xs, xs[i], h, by simp [hi]⟩, fun i H y H' _ h hy => ⟨hy.1, hy.2 xs h⟩, fun i H hi h => ⟨xs, h, hi⟩⟩
theorem runs_list {K : PySem.W.Frag} {a : Addr} {xs : List V} : Runs (Itl K a) xs fun H => SqL K H a xs :=
  ⟨fun i H hi h => ⟨xs, xs[i], h, by simp [hi]⟩, fun i H y H' _ h hy => ⟨hy.1, hy.2 xs h⟩, fun i H hi h => ⟨xs, h, hi⟩⟩
/-- one turn further -/
def NextP (n i : Nat) (P : Prop) : Prop := ∃ m', m' < n - i ∧ m' = n - (i + 1) ∧ i + 1 ≤ n ∧ P
theorem NextP.mk {n i : Nat} {P : Prop} (h : i < n) (p : P) : NextP n i P := ⟨n - (i + 1), by omega, rfl, h, p⟩
theorem comp_run {J : It} {xs : List V} {S : Hp → Prop} {tt : TT} {te : TE} {σ : St} {H1 : Hp} {Q : VK} (R : Runs J xs S) (Pv : Addr → Nat → List V → Hp → Prop)
    (h0 : ∀ D, H1 D = none → Pv D 0 [] (upd H1 D (.lst [])))
    (hl : ∀ D i ys H, i ≤ xs.length → Pv D i ys H → H D = some (.lst ys) ∧ S H ∧ (i < xs.length → ys.length < sizeLine))
    (ht : ∀ D i ys H x, xs[i]? = some x → i < xs.length → Pv D i ys H → tt (some x :: σ) H fun b H2 => if b = true then te (some x :: σ) H2 fun y H3 => H3 D = some (.lst ys) ∧ NextP xs.length i (Pv D (i + 1) (ys ++ [y]) (upd H3 D (.lst (ys ++ [y])))) else NextP xs.length i (Pv D (i + 1) ys H2))
    (hd : ∀ D ys H, Pv D xs.length ys H → Q (.ref D) H) :
    CompRd J tt te σ Q H1 := by
  intro D hD
  refine ⟨fun i m ys H => m = xs.length - i ∧ i ≤ xs.length ∧ Pv D i ys H, ⟨xs.length, by simp, Nat.zero_le _, h0 D hD⟩, ?_⟩
  rintro i m ys H ⟨rfl, hi, p⟩
  obtain ⟨a1, a3, a2⟩ := hl D i ys H hi p
  refine ⟨a1, ?_⟩
  by_cases hlt : i < xs.length
  · refine .inr ⟨R.go i H hlt a3, a2 hlt, fun x H' hy => ?_⟩
    obtain ⟨e, hy'⟩ := R.yld i H x H' hlt a3 hy
    subst e
    exact ht D i ys H' x hy' hlt p
  · have e : i = xs.length := by omega
    subst e
    exact .inl ⟨R.stop _ H (Nat.le_refl _) a3, hd D ys H p⟩
end
end L2
set_option linter.all false
namespace NM

/-- a nest: its members as a list, told as nothing or a first member and the rest -/
inductive T where
  | nil
  | cons (h t : T)
  deriving DecidableEq

namespace T
def toList : T → List T
  | nil => []
  | cons h t => h :: t.toList
def ofList : List T → T
  | [] => nil
  | h :: t => cons h (ofList t)
theorem of_to : ∀ t : T, ofList t.toList = t
  | nil => rfl
  | cons h t => by rw [toList, ofList, of_to t]
theorem to_of : ∀ l : List T, (ofList l).toList = l
  | [] => rfl
  | h :: t => by rw [ofList, toList, to_of t]
theorem to_inj {a b : T} (h : a.toList = b.toList) : a = b := by rw [← of_to a, ← of_to b, h]
def depth : T → Nat
  | nil => 0
  | cons h t => max (h.depth + 1) t.depth
theorem mem_depth : ∀ {t m : T}, m ∈ t.toList → m.depth < t.depth
  | nil, m, h => by simp [toList] at h
  | cons a t, m, h => by
    simp only [toList, List.mem_cons] at h
    simp only [depth]
    rcases h with rfl | h
    · omega
    · have := mem_depth h; omega
theorem depth_le : ∀ {t : T} {n : Nat}, (∀ m ∈ t.toList, m.depth < n) → t.depth ≤ n
  | nil, n, _ => by simp [depth]
  | cons a t, n, h => by
    have h1 := h a (by simp [toList])
    have h2 := depth_le (t := t) (n := n) fun m hm => h m (by simp [toList, hm])
    simp only [depth]; omega
theorem ind {P : T → Prop} (H : ∀ t, (∀ m ∈ t.toList, P m) → P t) : ∀ t, P t := by
  have A : ∀ t : T, ∀ m ∈ t.toList, P m := by
    intro t
    induction t with
    | nil => intro m hm; simp [toList] at hm
    | cons a t iha iht =>
      intro m hm
      simp only [toList, List.mem_cons] at hm
      rcases hm with rfl | hm
      · exact H _ iha
      · exact iht m hm
  exact fun t => H t (A t)

/-- the order of tuples -/
def lt : T → T → Bool
  | nil, nil => false
  | nil, cons _ _ => true
  | cons _ _, nil => false
  | cons a b, cons c d => if a = c then lt b d else lt a c
theorem lt_irr : ∀ a : T, lt a a = false
  | nil => rfl
  | cons a b => by simp [lt, lt_irr b]
theorem lt_tri : ∀ a b : T, a ≠ b → lt a b = !lt b a
  | nil, nil, h => absurd rfl h
  | nil, cons _ _, _ => rfl
  | cons _ _, nil, _ => rfl
  | cons a b, cons c d, h => by
    by_cases e : a = c
    · subst e
      have : b ≠ d := fun q => h (by rw [q])
      simp [lt, lt_tri b d this]
    · have e' : c ≠ a := fun q => e q.symm
      simp [lt, e, e', lt_tri a c e]
theorem lt_tr : ∀ a b c : T, lt a b = true → lt b c = true → lt a c = true
  | nil, nil, _, h, _ => by simp [lt] at h
  | nil, cons _ _, nil, _, h => by simp [lt] at h
  | nil, cons _ _, cons _ _, _, _ => rfl
  | cons _ _, nil, _, h, _ => by simp [lt] at h
  | cons _ _, cons _ _, nil, _, h => by simp [lt] at h
  | cons a b, cons c d, cons e f, h1, h2 => by
    simp only [lt] at h1 h2 ⊢
    by_cases ac : a = c
    · subst ac
      rw [if_pos rfl] at h1
      by_cases ae : a = e
      · subst ae
        rw [if_pos rfl] at h2 ⊢
        exact lt_tr b d f h1 h2
      · rw [if_neg ae] at h2 ⊢; exact h2
    · rw [if_neg ac] at h1
      by_cases ce : c = e
      · subst ce
        rw [if_neg ac]; exact h1
      · rw [if_neg ce] at h2
        have := lt_tr a c e h1 h2
        have ae : a ≠ e := by
          rintro rfl
          rw [lt_irr] at this; cases this
        rw [if_neg ae]; exact this

/-- each nest the other way round, at every depth -/
def mirA : T → T → T
  | nil, acc => acc
  | cons h t, acc => mirA t (cons (mirA h nil) acc)
def mir (t : T) : T := mirA t nil
theorem mirA_to : ∀ t acc : T, (mirA t acc).toList = (t.toList.map mir).reverse ++ acc.toList
  | nil, acc => by simp [mirA, toList]
  | cons h t, acc => by
    rw [mirA, mirA_to t]
    simp [toList, mir]
theorem mir_to (t : T) : (mir t).toList = t.toList.reverse.map mir := by
  rw [mir, mirA_to]; simp [toList]
theorem mir_mir : ∀ t : T, mir (mir t) = t := ind fun t ih => to_inj (by
  rw [mir_to, mir_to, ← List.map_reverse, List.reverse_reverse, List.map_map]
  have e : t.toList.map (mir ∘ mir) = t.toList.map id := List.map_congr_left fun m hm => ih m hm
  simpa using e)
theorem mir_inj {a b : T} (h : mir a = mir b) : a = b := by rw [← mir_mir a, ← mir_mir b, h]

/-- less, as nests -/
def ml (a b : T) : Bool := lt (mir a) (mir b)
theorem ml_irr (a : T) : ml a a = false := lt_irr _
theorem ml_tri (a b : T) (h : a ≠ b) : ml a b = !ml b a := lt_tri _ _ fun e => h (mir_inj e)
theorem ml_tr (a b c : T) (h : ml a b = true) (h' : ml b c = true) : ml a c = true := lt_tr _ _ _ h h'
end T

/-! ### lists under a strict total order -/
section
variable {α : Type} [DecidableEq α] (lt : α → α → Bool)
def lex : List α → List α → Bool
  | [], [] => false
  | [], _ :: _ => true
  | _ :: _, [] => false
  | a :: x, b :: y => if a = b then lex x y else lt a b
def Asc (l : List α) : Prop := l.Pairwise fun a b => lt a b = true
def Desc (l : List α) : Prop := l.Pairwise fun a b => lt b a = true
structure Tot : Prop where
  irr : ∀ a, lt a a = false
  tri : ∀ a b, a ≠ b → lt a b = !lt b a
  tr : ∀ a b c, lt a b = true → lt b c = true → lt a c = true
variable {lt}
theorem Tot.as (h : Tot lt) {a b : α} (q : lt a b = true) : lt b a = false := by
  cases e : lt b a with
  | false => rfl
  | true => have := h.tr _ _ _ q e; rw [h.irr] at this; cases this
theorem Tot.ne (h : Tot lt) {a b : α} (q : lt a b = true) : a ≠ b := by
  rintro rfl; rw [h.irr] at q; cases q
theorem Tot.conn (h : Tot lt) {a b : α} (q : a ≠ b) : lt a b = true ∨ lt b a = true := by
  have := h.tri a b q
  cases e : lt b a with
  | false => rw [e] at this; exact .inl this
  | true => exact .inr rfl
/-- the greatest of what only one has tells which is greater -/
theorem lex_sub (h : Tot lt) : ∀ {A B : List α}, Desc lt A → Desc lt B → (∀ x ∈ A, x ∈ B) → lex lt B A = false
  | [], [], _, _, _ => rfl
  | [], _ :: _, _, _, _ => rfl
  | a :: x, [], _, _, s => by have := s a (by simp); simp at this
  | a :: x, b :: y, hA, hB, s => by
    rw [Desc, List.pairwise_cons] at hA hB
    have ha := s a (by simp)
    simp only [List.mem_cons] at ha
    simp only [lex]
    by_cases e : b = a
    · subst e
      rw [if_pos rfl]
      refine lex_sub h hA.2 hB.2 fun z hz => ?_
      rcases List.mem_cons.mp (s z (by simp [hz])) with rfl | q
      · have := hA.1 z hz; rw [h.irr] at this; cases this
      · exact q
    · rw [if_neg e]
      rcases ha with ha | ha
      · exact absurd ha.symm e
      · exact h.as (hB.1 a ha)
theorem lex_sup (h : Tot lt) : ∀ {A B : List α}, Desc lt A → Desc lt B → (∀ x ∈ B, x ∈ A) → (∃ x ∈ A, x ∉ B) → lex lt B A = true
  | [], _, _, _, _, s => by obtain ⟨_, q, _⟩ := s; simp at q
  | a :: x, [], _, _, _, _ => rfl
  | a :: x, b :: y, hA, hB, s, w => by
    rw [Desc, List.pairwise_cons] at hA hB
    simp only [lex]
    by_cases e : b = a
    · subst e
      rw [if_pos rfl]
      refine lex_sup h hA.2 hB.2 (fun z hz => ?_) ?_
      · rcases List.mem_cons.mp (s z (by simp [hz])) with rfl | q
        · have := hB.1 z hz; rw [h.irr] at this; cases this
        · exact q
      · obtain ⟨z, h1, h2⟩ := w
        simp only [List.mem_cons, not_or] at h1 h2
        rcases h1 with rfl | h1
        · exact absurd rfl h2.1
        · exact ⟨z, h1, h2.2⟩
    · rw [if_neg e]
      have := s b (by simp)
      simp only [List.mem_cons] at this
      rcases this with q | q
      · exact absurd q e
      · exact hA.1 b q
theorem lex_max (h : Tot lt) : ∀ {A B : List α} {m y : α}, Desc lt A → Desc lt B → m ∈ A → m ∉ B → (∀ x ∈ A, x ∉ B → x = m ∨ lt x m = true) → y ∈ B → y ∉ A → (∀ x ∈ B, x ∉ A → x = y ∨ lt x y = true) → lex lt B A = lt y m
  | [], _, _, _, _, _, h1, _, _, _, _, _ => by simp at h1
  | _ :: _, [], _, _, _, _, _, _, _, h1, _, _ => by simp at h1
  | a :: A, b :: B, m, y, hA, hB, m1, m2, m3, y1, y2, y3 => by
    rw [Desc, List.pairwise_cons] at hA hB
    simp only [lex]
    by_cases e : b = a
    · subst e
      rw [if_pos rfl]
      simp only [List.mem_cons, not_or] at m1 m2 y1 y2
      refine lex_max h hA.2 hB.2 (m1.resolve_left m2.1) m2.2 (fun x hx hx' => ?_) (y1.resolve_left y2.1) y2.2 (fun x hx hx' => ?_)
      · have : x ≠ b := by rintro rfl; have := hA.1 x hx; rw [h.irr] at this; cases this
        exact m3 x (by simp [hx]) (by simp [this, hx'])
      · have : x ≠ b := by rintro rfl; have := hB.1 x hx; rw [h.irr] at this; cases this
        exact y3 x (by simp [hx]) (by simp [this, hx'])
    · rw [if_neg e]
      rcases h.conn e with q | q
      · -- b < a: a is not in B, so m = a
        have na : a ∉ b :: B := by
          intro z
          rcases List.mem_cons.mp z with z | z
          · exact e z.symm
          · have := h.tr _ _ _ q (hB.1 a z); rw [h.irr] at this; cases this
        have em : m = a := by
          rcases List.mem_cons.mp m1 with z | z
          · exact z
          · rcases m3 a (by simp) na with w | w
            · exact w.symm
            · have := h.tr _ _ _ w (hA.1 m z); rw [h.irr] at this; cases this
        subst em
        rw [q]
        rcases List.mem_cons.mp y1 with z | z
        · rw [z, q]
        · rw [h.tr _ _ _ (hB.1 y z) q]
      · have nb : b ∉ a :: A := by
          intro z
          rcases List.mem_cons.mp z with z | z
          · exact e z
          · have := h.tr _ _ _ q (hA.1 b z); rw [h.irr] at this; cases this
        have ey : y = b := by
          rcases List.mem_cons.mp y1 with z | z
          · exact z
          · rcases y3 b (by simp) nb with w | w
            · exact w.symm
            · have := h.tr _ _ _ w (hB.1 y z); rw [h.irr] at this; cases this
        subst ey
        rw [h.as q]
        rcases List.mem_cons.mp m1 with z | z
        · rw [z, h.as q]
        · rw [h.as (h.tr _ _ _ (hA.1 m z) q)]
theorem asc_uniq (h : Tot lt) : ∀ {A B : List α}, Asc lt A → Asc lt B → (∀ x, x ∈ A ↔ x ∈ B) → A = B
  | [], [], _, _, _ => rfl
  | [], b :: B, _, _, s => by have := (s b).2 (by simp); simp at this
  | a :: A, [], _, _, s => by have := (s a).1 (by simp); simp at this
  | a :: A, b :: B, hA, hB, s => by
    rw [Asc, List.pairwise_cons] at hA hB
    have e : a = b := by
      by_cases e : a = b
      · exact e
      · have h1 := (s a).1 (by simp)
        have h2 := (s b).2 (by simp)
        simp only [List.mem_cons] at h1 h2
        have h1 := h1.resolve_left e
        have h2 := h2.resolve_left fun q => e q.symm
        have := h.tr _ _ _ (hB.1 a h1) (hA.1 b h2)
        rw [h.irr] at this; cases this
    subst e
    congr 1
    refine asc_uniq h hA.2 hB.2 fun x => ⟨fun hx => ?_, fun hx => ?_⟩
    · rcases List.mem_cons.mp ((s x).1 (by simp [hx])) with rfl | q
      · have := hA.1 x hx; rw [h.irr] at this; cases this
      · exact q
    · rcases List.mem_cons.mp ((s x).2 (by simp [hx])) with rfl | q
      · have := hB.1 x hx; rw [h.irr] at this; cases this
      · exact q
/-- put x in its place -/
def ins (g : α → α → Bool) (x : α) (l : List α) : List α :=
  if x ∈ l then l else l.take (l.filter fun o => g x o).length ++ x :: l.drop (l.filter fun o => g x o).length
theorem ins_mem (g : α → α → Bool) (x : α) (l : List α) : ∀ z, z ∈ ins g x l ↔ z = x ∨ z ∈ l := by
  intro z
  unfold ins
  split
  · rename_i hx
    constructor
    · exact .inr
    · rintro (rfl | q)
      · exact hx
      · exact q
  · have e := List.take_append_drop (l.filter fun o => g x o).length l
    have : z ∈ l ↔ z ∈ l.take (l.filter fun o => g x o).length ∨ z ∈ l.drop (l.filter fun o => g x o).length := by
      rw [← List.mem_append, e]
    rw [List.mem_append, List.mem_cons, this]
    constructor
    · rintro (q | q | q)
      · exact .inr (.inl q)
      · exact .inl q
      · exact .inr (.inr q)
    · rintro (q | q | q)
      · exact .inr (.inl q)
      · exact .inl q
      · exact .inr (.inr q)
theorem ins_len (g : α → α → Bool) (x : α) (l : List α) : (ins g x l).length ≤ l.length + 1 := by
  unfold ins
  split
  · omega
  · rw [List.length_append, List.length_cons, List.length_take, List.length_drop]
    have := List.length_filter_le (fun o => g x o) l
    omega
theorem asc_ins' (h : Tot lt) (x : α) : ∀ {l : List α}, Asc lt l → x ∉ l → Asc lt (l.take (l.filter fun o => lt o x).length ++ x :: l.drop (l.filter fun o => lt o x).length)
  | [], _, _ => by simp [Asc]
  | a :: l, hl, hx => by
    rw [Asc, List.pairwise_cons] at hl
    simp only [List.mem_cons, not_or] at hx
    by_cases c : lt a x = true
    · rw [List.filter_cons_of_pos (by simpa using c)]
      simp only [List.length_cons, List.take_succ_cons, List.drop_succ_cons, List.cons_append]
      rw [Asc, List.pairwise_cons]
      refine ⟨fun z hz => ?_, asc_ins' h x hl.2 hx.2⟩
      rcases List.mem_append.mp hz with q | q
      · exact hl.1 z (List.mem_of_mem_take q)
      · rcases List.mem_cons.mp q with rfl | q
        · exact c
        · exact hl.1 z (List.mem_of_mem_drop q)
    · have c' : lt x a = true := (h.conn hx.1).resolve_right c
      have e : (a :: l).filter (fun o => lt o x) = [] := by
        rw [List.filter_eq_nil_iff]
        intro z hz
        rcases List.mem_cons.mp hz with rfl | q
        · exact c
        · have := h.as (h.tr _ _ _ c' (hl.1 z q)); rw [this]; exact Bool.false_ne_true
      rw [e]
      simp only [List.length_nil, List.take_zero, List.drop_zero, List.nil_append]
      rw [Asc, List.pairwise_cons, List.pairwise_cons]
      refine ⟨fun z hz => ?_, hl⟩
      rcases List.mem_cons.mp hz with rfl | q
      · exact c'
      · exact h.tr _ _ _ c' (hl.1 z q)
theorem asc_ins (h : Tot lt) {g : α → α → Bool} (x : α) {l : List α} (hl : Asc lt l) (hg : ∀ o ∈ l, g x o = lt o x) : Asc lt (ins g x l) := by
  unfold ins
  split
  · exact hl
  · rename_i hx
    have e : (l.filter fun o => g x o) = l.filter fun o => lt o x := List.filter_congr hg
    rw [e]
    exact asc_ins' h x hl hx
/-- the greatest of a row, found from the left -/
def best (g : α → α → Bool) (l : List α) (f : α) : α := l.foldl (fun f o => if g o f = true then o else f) f
theorem best_spec (h : Tot lt) {g : α → α → Bool} : ∀ (l : List α) (f : α), (∀ x ∈ f :: l, ∀ y ∈ f :: l, g x y = lt y x) → best g l f ∈ f :: l ∧ ∀ x ∈ f :: l, x = best g l f ∨ lt x (best g l f) = true
  | [], f, _ => by simp [best]
  | a :: l, f, hg => by
    have e := hg a (by simp) f (by simp)
    have eb : best g (a :: l) f = best g l (if g a f = true then a else f) := rfl
    rw [eb]
    cases c : lt f a with
    | true =>
      rw [e, c, if_pos rfl]
      have ih := best_spec h l a fun x hx y hy => hg x (by simp at hx ⊢; exact .inr hx) y (by simp at hy ⊢; exact .inr hy)
      refine ⟨List.mem_cons_of_mem _ ih.1, fun x hx => ?_⟩
      rcases List.mem_cons.mp hx with rfl | hx
      · rcases ih.2 a (by simp) with q | q
        · exact .inr (by rw [← q]; exact c)
        · exact .inr (h.tr _ _ _ c q)
      · exact ih.2 x hx
    | false =>
      rw [e, c, if_neg Bool.false_ne_true]
      have sub : ∀ x, x ∈ f :: l → x ∈ f :: a :: l := fun x hx => by
        rcases List.mem_cons.mp hx with rfl | hx
        · simp
        · simp [hx]
      have ih := best_spec h l f fun x hx y hy => hg x (sub x hx) y (sub y hy)
      refine ⟨sub _ ih.1, fun x hx => ?_⟩
      rcases List.mem_cons.mp hx with rfl | hx
      · exact ih.2 x (by simp)
      · rcases List.mem_cons.mp hx with rfl | hx
        · have d : x = f ∨ lt x f = true := by
            by_cases z : x = f
            · exact .inl z
            · exact .inr ((h.conn z).resolve_right (by rw [c]; exact Bool.false_ne_true))
          rcases d with rfl | d
          · exact ih.2 x (by simp)
          · rcases ih.2 f (by simp) with q | q
            · exact .inr (by rw [← q]; exact d)
            · exact .inr (h.tr _ _ _ d q)
        · exact ih.2 x (by simp [hx])
end

/-! ### nests by hand -/
open T
theorem tot : Tot ml := ⟨ml_irr, ml_tri, ml_tr⟩
def ris : List T → Bool
  | a :: b :: r => ml a b && ris (b :: r)
  | _ => true
theorem ris_asc : ∀ l : List T, ris l = true ↔ Asc ml l
  | [] => by simp [ris, Asc]
  | [a] => by simp [ris, Asc]
  | a :: b :: r => by
    have ih := ris_asc (b :: r)
    rw [ris, Bool.and_eq_true, ih, Asc, Asc, List.pairwise_cons (a := a)]
    constructor
    · rintro ⟨h1, h2⟩
      refine ⟨fun z hz => ?_, h2⟩
      rcases List.mem_cons.mp hz with rfl | hz
      · exact h1
      · exact ml_tr _ _ _ h1 ((List.pairwise_cons.mp h2).1 z hz)
    · rintro ⟨h1, h2⟩
      exact ⟨h1 b (by simp), h2⟩
def canA : T → Bool
  | nil => true
  | cons h t => (canA h && ris h.toList) && canA t
/-- a nest in its one form -/
def canon (t : T) : Bool := canA t && ris t.toList
theorem canA_all : ∀ t : T, canA t = t.toList.all canon
  | nil => rfl
  | cons h t => by rw [canA, canA_all t]; rfl
theorem canon_iff (t : T) : canon t = true ↔ (∀ m ∈ t.toList, canon m = true) ∧ Asc ml t.toList := by
  rw [canon, Bool.and_eq_true, canA_all, List.all_eq_true, ris_asc]
theorem canon_of {l : List T} (h : ∀ m ∈ l, canon m = true) (h2 : Asc ml l) : canon (ofList l) = true := by
  rw [canon_iff, to_of]; exact ⟨h, h2⟩

def mine (a b : T) : List T := a.toList.filter fun m => decide (m ∉ b.toList)
def gr : Nat → T → T → Bool
  | 0, _, _ => false
  | n + 1, a, b => if mine a b = [] ∨ mine b a = [] then decide (0 < (mine a b).length) else gr n (best (gr n) (mine a b) ((mine a b).headD nil)) (best (gr n) (mine b a) ((mine b a).headD nil))
def grt (n : Nat) (l : List T) : T := best (gr n) l (l.headD nil)
theorem mem_mine {a b x : T} : x ∈ mine a b ↔ x ∈ a.toList ∧ x ∉ b.toList := by
  unfold mine; rw [List.mem_filter, decide_eq_true_iff]
theorem lt_lex : ∀ a b : T, T.lt a b = lex T.lt a.toList b.toList
  | nil, nil => rfl
  | nil, cons _ _ => rfl
  | cons _ _, nil => rfl
  | cons a b, cons c d => by simp only [T.lt, toList, lex, lt_lex b d]
theorem lex_mir : ∀ a b : List T, lex T.lt (a.map mir) (b.map mir) = lex ml a b
  | [], [] => rfl
  | [], _ :: _ => rfl
  | _ :: _, [] => rfl
  | a :: x, b :: y => by
    simp only [List.map_cons, lex, lex_mir x y]
    by_cases e : a = b
    · subst e; rw [if_pos rfl, if_pos rfl]
    · rw [if_neg e, if_neg fun q => e (mir_inj q)]; rfl
theorem ml_lex (a b : T) : ml a b = lex ml a.toList.reverse b.toList.reverse := by
  rw [ml, lt_lex, mir_to, mir_to, lex_mir]
theorem desc_rev {l : List T} (h : Asc ml l) : Desc ml l.reverse := by
  rw [Desc, List.pairwise_reverse]; exact h
theorem gr_eq : ∀ (n : Nat) (a b : T), a.depth ≤ n → b.depth ≤ n → canon a = true → canon b = true → gr (n + 1) a b = ml b a := by
  intro n
  induction n with
  | zero =>
    intro a b ha hb _ _
    have na : a = nil := by cases a with
      | nil => rfl
      | cons h t => simp only [depth] at ha; omega
    have nb : b = nil := by cases b with
      | nil => rfl
      | cons h t => simp only [depth] at hb; omega
    subst na nb; rfl
  | succ n ih =>
    intro a b ha hb ca cb
    rw [canon_iff] at ca cb
    have dA := desc_rev ca.2
    have dB := desc_rev cb.2
    have ha' : ∀ x ∈ a.toList, x.depth ≤ n ∧ canon x = true := fun x hx => ⟨by have := mem_depth hx; omega, ca.1 x hx⟩
    have hb' : ∀ x ∈ b.toList, x.depth ≤ n ∧ canon x = true := fun x hx => ⟨by have := mem_depth hx; omega, cb.1 x hx⟩
    rw [ml_lex]
    show (if mine a b = [] ∨ mine b a = [] then decide (0 < (mine a b).length) else gr (n + 1) (best (gr (n + 1)) (mine a b) ((mine a b).headD nil)) (best (gr (n + 1)) (mine b a) ((mine b a).headD nil))) = _
    by_cases e1 : mine a b = []
    · rw [if_pos (.inl e1), e1]
      have : lex ml b.toList.reverse a.toList.reverse = false := lex_sub tot dA dB fun x hx => by
        rw [List.mem_reverse] at hx ⊢
        by_cases q : x ∈ b.toList
        · exact q
        · have : x ∈ mine a b := mem_mine.2 ⟨hx, q⟩
          rw [e1] at this; simp at this
      rw [this]; rfl
    · by_cases e2 : mine b a = []
      · rw [if_pos (.inr e2)]
        obtain ⟨z, hz⟩ := List.exists_mem_of_ne_nil _ e1
        have : lex ml b.toList.reverse a.toList.reverse = true := lex_sup tot dA dB (fun x hx => by
          rw [List.mem_reverse] at hx ⊢
          by_cases q : x ∈ a.toList
          · exact q
          · have : x ∈ mine b a := mem_mine.2 ⟨hx, q⟩
            rw [e2] at this; simp at this) ⟨z, by rw [List.mem_reverse]; exact (mem_mine.1 hz).1, by rw [List.mem_reverse]; exact (mem_mine.1 hz).2⟩
        rw [this, decide_eq_true]
        exact List.length_pos_of_mem hz
      · rw [if_neg (by rintro (q | q); exact e1 q; exact e2 q)]
        have key : ∀ (a b : T), (∀ x ∈ a.toList, x.depth ≤ n ∧ canon x = true) → mine a b ≠ [] →
            best (gr (n + 1)) (mine a b) ((mine a b).headD nil) ∈ mine a b ∧ ∀ x ∈ mine a b, x = best (gr (n + 1)) (mine a b) ((mine a b).headD nil) ∨ ml x (best (gr (n + 1)) (mine a b) ((mine a b).headD nil)) = true := by
          intro a b ha' e
          obtain ⟨x, l, q⟩ := List.exists_cons_of_ne_nil e
          have hh : (mine a b).headD nil = x := by rw [q]; rfl
          rw [hh]
          have hx : x ∈ mine a b := by rw [q]; simp
          have sub : ∀ y, y ∈ x :: mine a b → y ∈ mine a b := fun y hy => by
            rcases List.mem_cons.mp hy with rfl | hy
            · exact hx
            · exact hy
          have sp := best_spec tot (g := gr (n + 1)) (mine a b) x fun u hu v hv => by
            have hu := ha' u (mem_mine.1 (sub u hu)).1
            have hv := ha' v (mem_mine.1 (sub v hv)).1
            exact ih u v hu.1 hv.1 hu.2 hv.2
          exact ⟨sub _ sp.1, fun y hy => sp.2 y (List.mem_cons_of_mem _ hy)⟩
        have kA := key a b ha' e1
        have kB := key b a hb' e2
        have mA := mem_mine.1 kA.1
        have mB := mem_mine.1 kB.1
        rw [ih _ _ (ha' _ mA.1).1 (hb' _ mB.1).1 (ha' _ mA.1).2 (hb' _ mB.1).2]
        symm
        refine lex_max tot dA dB (by rw [List.mem_reverse]; exact mA.1) (by rw [List.mem_reverse]; exact mA.2) (fun x hx hx' => ?_) (by rw [List.mem_reverse]; exact mB.1) (by rw [List.mem_reverse]; exact mB.2) (fun x hx hx' => ?_)
        · rw [List.mem_reverse] at hx hx'
          exact kA.2 x (mem_mine.2 ⟨hx, hx'⟩)
        · rw [List.mem_reverse] at hx hx'
          exact kB.2 x (mem_mine.2 ⟨hx, hx'⟩)
/-- the nest of some, by hand -/
def hnl (n : Nat) (some : List T) (f : List T) : List T := some.foldl (fun f o => ins (gr n) o f) f
theorem hnl_spec (n : Nat) : ∀ (l f : List T), (∀ x ∈ l, x.depth ≤ n ∧ canon x = true) → (∀ x ∈ f, x.depth ≤ n ∧ canon x = true) → Asc ml f → Asc ml (hnl (n + 1) l f) ∧ ∀ z, z ∈ hnl (n + 1) l f ↔ z ∈ l ∨ z ∈ f
  | [], f, _, _, h => ⟨h, fun z => by simp [hnl]⟩
  | a :: l, f, hl, hf, h => by
    have ha := hl a (by simp)
    have a1 : Asc ml (ins (gr (n + 1)) a f) := asc_ins tot a h fun o ho => gr_eq n a o ha.1 (hf o ho).1 ha.2 (hf o ho).2
    have m1 := ins_mem (gr (n + 1)) a f
    have r := hnl_spec n l (ins (gr (n + 1)) a f) (fun x hx => hl x (by simp [hx])) (fun x hx => by
      rcases (m1 x).1 hx with rfl | q
      · exact ha
      · exact hf x q) a1
    refine ⟨r.1, fun z => ?_⟩
    have := r.2 z
    rw [m1 z] at this
    show z ∈ hnl (n + 1) l (ins (gr (n + 1)) a f) ↔ _
    rw [this, List.mem_cons]
    constructor
    · rintro (q | q | q)
      · exact .inl (.inr q)
      · exact .inl (.inl q)
      · exact .inr q
    · rintro ((q | q) | q)
      · exact .inr (.inl q)
      · exact .inl q
      · exact .inr (.inr q)
/-- the nest of some: the one rising row with just these -/
theorem hn_uniq (n : Nat) {l r : List T} (hl : ∀ x ∈ l, x.depth ≤ n ∧ canon x = true) (hr : Asc ml r) (hm : ∀ z, z ∈ r ↔ z ∈ l) : hnl (n + 1) l [] = r := by
  have s := hnl_spec n l [] hl (fun _ h => by simp at h) (by simp [Asc])
  refine asc_uniq tot s.1 hr fun x => ?_
  rw [s.2 x, hm x]; simp
theorem hnl_len (n : Nat) : ∀ (l f : List T), (hnl n l f).length ≤ l.length + f.length
  | [], f => by simp [hnl]
  | a :: l, f => by
    have := hnl_len n l (ins (gr n) a f)
    have := ins_len (gr n) a f
    show (hnl n l (ins (gr n) a f)).length ≤ _
    rw [List.length_cons]; omega
end NM
set_option Elab.async false
set_option linter.all false
set_option maxRecDepth 100000
/-! ### nests on the heap: same, less, hash -/
namespace ND
open PySem NM

/-- the items of a tuple are the nests of a row -/
def Items (h : Heap) : T → List Value → Prop
  | .nil, vs => vs = []
  | .cons x t, vs => ∃ a r, vs = Value.ref a :: r ∧ (∃ o items n, h.get? a = some o ∧ o.cls = .type "tuple" ∧ o.data = .seq items n ∧ Items h x items.toList) ∧ Items h t r
/-- at a stands the nest t -/
def At (h : Heap) (t : T) (a : Addr) : Prop := ∃ o items n, h.get? a = some o ∧ o.cls = .type "tuple" ∧ o.data = .seq items n ∧ Items h t items.toList
/-- a row of nests -/
abbrev Row (h : Heap) : List T → List Value → Prop := Paired fun t v => ∃ a, v = Value.ref a ∧ At h t a
theorem items_row {h : Heap} : ∀ {t : T} {vs : List Value}, Items h t vs ↔ Row h t.toList vs
  | .nil, vs => ⟨fun e => by have e : vs = [] := e; subst e; exact .nil, fun e => by cases e; exact rfl⟩
  | .cons x t, vs => by
    constructor
    · rintro ⟨a, r, rfl, hx, ht⟩
      exact .cons ⟨a, rfl, hx⟩ (items_row.mp ht)
    · intro e
      cases e with
      | cons h1 h2 =>
        obtain ⟨a, rfl, hx⟩ := h1
        exact ⟨a, _, rfl, hx, items_row.mpr h2⟩
theorem Row.length {h : Heap} {ts : List T} {vs : List Value} (r : Row h ts vs) : ts.length = vs.length := Paired.length r
theorem At.row {h : Heap} {t : T} {a : Addr} (x : At h t a) : ∃ o items n, h.get? a = some o ∧ o.cls = .type "tuple" ∧ o.data = .seq items n ∧ Row h t.toList items.toList := by
  obtain ⟨o, items, n, h1, h2, h3, h4⟩ := x
  exact ⟨o, items, n, h1, h2, h3, items_row.mp h4⟩
theorem At.of {h : Heap} {t : T} {a : Addr} {o : Obj} {items : Array Value} {n : Nat} (h1 : h.get? a = some o) (h2 : o.cls = .type "tuple") (h3 : o.data = .seq items n) (h4 : Row h t.toList items.toList) : At h t a := ⟨o, items, n, h1, h2, h3, items_row.mpr h4⟩
theorem At.typeIs {s : Shared} {t : T} {a : Addr} (x : At s.heap t a) : s.TypeIs (.ref a) "tuple" := let ⟨o, _, _, ho, hc, _⟩ := x; ⟨o, ho, hc⟩
theorem row_inj {h : Heap} {vs : List Value} : ∀ {x y : List T}, (∀ m ∈ x, ∀ y a, At h m a → At h y a → m = y) → Row h x vs → Row h y vs → x = y := by
  induction vs with
  | nil => intro x y _ h1 h2; cases h1; cases h2; rfl
  | cons v vs ih =>
    intro x y hm h1 h2
    cases h1 with
    | cons p1 r1 =>
      cases h2 with
      | cons p2 r2 =>
        obtain ⟨a, rfl, q1⟩ := p1
        obtain ⟨b, e, q2⟩ := p2
        cases e
        rw [hm _ (by simp) _ _ q1 q2, ih (fun m hm' => hm m (by simp [hm'])) r1 r2]
theorem At.inj {h : Heap} : ∀ (x : T) (y : T) (a : Addr), At h x a → At h y a → x = y := T.ind fun x ih y a hx hy => by
  obtain ⟨o, items, n, h1, _, h3, h4⟩ := hx.row
  obtain ⟨o', items', n', h1', _, h3', h4'⟩ := hy.row
  rw [h1] at h1'; cases h1'
  rw [h3] at h3'
  injection h3' with e _
  subst e
  exact T.to_inj (row_inj ih h4 h4')
theorem row_mono {h h' : Heap} : ∀ {ts : List T} {vs : List Value}, (∀ m ∈ ts, ∀ a, At h m a → At h' m a) → Row h ts vs → Row h' ts vs
  | [], _, _, r => by cases r; exact .nil
  | t :: ts, _, hm, r => by
    cases r with
    | cons p q =>
      obtain ⟨a, rfl, p⟩ := p
      exact .cons ⟨a, rfl, hm t (by simp) a p⟩ (row_mono (fun m hm' => hm m (by simp [hm'])) q)
/-- kept where all tuples are -/
theorem At.mono {h h' : Heap} (k : ∀ b o, h.get? b = some o → o.cls = .type "tuple" → (∃ i n, o.data = .seq i n) → h'.get? b = some o) : ∀ (t : T) (a : Addr), At h t a → At h' t a := T.ind fun t ih a x => by
  obtain ⟨o, items, n, h1, h2, h3, h4⟩ := x.row
  exact .of (k a o h1 h2 ⟨_, _, h3⟩) h2 h3 (row_mono ih h4)

/-! hash -/
def hashL : T → List Int
  | .nil => []
  | .cons x t => reduceHash (Builtin.Tuple.tupleHashOf (hashL x)) :: hashL t
def hash (t : T) : Int := reduceHash (Builtin.Tuple.tupleHashOf (hashL t))
theorem hashL_map : ∀ t : T, hashL t = t.toList.map hash
  | .nil => rfl
  | .cons x t => by rw [hashL, hashL_map t]; rfl
def drawsL : T → Nat
  | .nil => 0
  | .cons x t => (drawsL x + 1) + drawsL t
def draws (t : T) : Nat := drawsL t + 1
theorem drawsL_sum : ∀ t : T, drawsL t = (t.toList.map draws).sum
  | .nil => rfl
  | .cons x t => by rw [drawsL, drawsL_sum t]; simp [T.toList, draws]

section
variable {prog : Program} {w : World}
theorem pyHash_nest : ∀ (t : T) {A : Around} {E : Value → Shared → Prop} {s : Shared} {a : Addr} {Q : Int → Shared → Prop}, A.units + t.depth < cLine → At s.heap t a → Q (hash t) { s with toks := s.toks + draws t } →
    wpAny (model prog w) A (pyHash (.ref a)) Q E s := T.ind fun t ih {A E s a Q} hu hk h => by
  have hT := hk.typeIs
  obtain ⟨o, items, n, ho, _, hd, hi⟩ := hk.row
  have hu0 : A.units < cLine := by omega
  unfold pyHash
  first | unfold pyHashByItsType | skip
  first | refine wpAny_bind (wpAny_cRoomFor_or (.inr hu0) ?_) | skip
  refine wpAny_bind (wpAny_specialOf hT F.slot_tuple_hash.lookup ?_)
  show wpAny _ _ (if (some (Value.builtin "tuple.__hash__") == some Value.none) = true then _ else _) Q E s
  rw [if_neg (by rw [beq_builtin_none]; exact Bool.false_ne_true)]
  refine wpAny_bind (wpAny_specialOf hT F.slot_tuple_hash.lookup ?_)
  show wpAny _ _ (callSpecialIfBoundUnlessNone? (.ref a) "__hash__" _ >>= _) Q E s
  refine wpAny_bind (wpAny_callSpecialIfBoundUnlessNone?_slot hT F.slot_tuple_hash (wpAny_call_entry F.slot_tuple_hash hT F.entry_tuple_hash ?_ (F.args_tuple_hash_1 _)))
  show wpAny _ _ (Builtin.Tuple.tupleItemsOf (.ref a) >>= _) _ _ s
  refine wpAny_bind (wpAny_tupleItemsOf ho hd ?_)
  refine wpAny_bind ?_
  rw [← Array.forIn_toList]
  refine wpAny_forIn_list _
    (fun rest (b : Array Int) s' => ∃ done left, t.toList = done ++ left ∧ Row s.heap left rest ∧ b.toList = done.map hash ∧ s' = { s with toks := s.toks + (done.map draws).sum })
    _ ?_ ?_ _ _ ⟨[], t.toList, rfl, hi, rfl, rfl⟩
  · rintro x rest b s' ⟨done, left, e, hl, hb, rfl⟩
    cases hl with
    | @cons k _ ks' _ h1 hl' =>
      obtain ⟨c, rfl, h1⟩ := h1
      have hm : k ∈ t.toList := by rw [e]; simp
      have hdp := T.mem_depth hm
      refine wpAny_bind (ih k hm (by show A.units + 1 + k.depth < cLine; omega) h1 ?_)
      first
        | exact wpAny_pure ⟨done ++ [k], ks', by simp [e], hl', by simp [hb], by simp [Nat.add_assoc]⟩
        | exact wpAny_bind (wpAny_pure (wpAny_pure ⟨done ++ [k], ks', by simp [e], hl', by simp [hb], by simp [Nat.add_assoc]⟩))
  · rintro b s' ⟨done, left, e, hl, hb, rfl⟩
    cases hl
    rw [List.append_nil] at e
    rw [← e] at hb ⊢
    have h' : Q (reduceHash (Builtin.Tuple.tupleHashOf (t.toList.map hash))) { s with toks := s.toks + (t.toList.map draws).sum + 1 } := by
      have := h
      unfold hash draws at this
      rw [hashL_map, drawsL_sum] at this
      rw [Nat.add_assoc]
      exact this
    show wpAny _ _ (retInt (Builtin.Tuple.tupleHashOf b.toList)) _ _ _
    rw [hb]
    refine wpAny_ret_mkInt ?_
    show wpAny _ _ (if (decide (-(2 : Int) ^ 63 ≤ Builtin.Tuple.tupleHashOf (t.toList.map hash)) && decide (Builtin.Tuple.tupleHashOf (t.toList.map hash) < 2 ^ 63)) = true then _ else _) Q E _
    unfold reduceHash at h'
    by_cases hr : (decide (-(2 : Int) ^ 63 ≤ Builtin.Tuple.tupleHashOf (t.toList.map hash)) && decide (Builtin.Tuple.tupleHashOf (t.toList.map hash) < 2 ^ 63)) = true
    · rw [if_pos hr]
      rw [if_pos hr] at h'
      exact wpAny_pure h'
    · rw [if_neg hr]
      rw [if_neg hr] at h'
      exact wpAny_bind (wpAny_rule (wpAny_pure h'))

/-! same -/
theorem eq_nest : ∀ (x y : T) {A : Around} {E : Value → Shared → Prop} {s : Shared} {a b : Addr} {Q : Bool → Shared → Prop}, A.units + x.depth < cLine → At s.heap x a → At s.heap y b → Q (decide (x = y)) s →
    wpAny (model prog w) A (eqBool (.ref a) (.ref b)) Q E s := T.ind fun x ih y {A E s a b Q} hu hx hy h => by
  have hTa := hx.typeIs
  have hTb := hy.typeIs
  have hu0 : A.units < cLine := by omega
  unfold eqBool
  try with_reducible refine wpAny_holding ?_
  show wpAny _ _ (if (Value.ref a == Value.ref b) = true then _ else _) Q E s
  by_cases hab : (Value.ref a == Value.ref b) = true
  · rw [if_pos hab]
    have e : a = b := by have := eq_of_beq hab; injection this
    subst e
    obtain rfl := At.inj _ _ _ hx hy
    exact wpAny_bind (wpAny_rule (wpAny_pure (by simpa using h)))
  · rw [if_neg hab]
    obtain ⟨oa, xs, na, hoa, _, hda, hia⟩ := hx.row
    obtain ⟨ob, ys, nb, hob, _, hdb, hib⟩ := hy.row
    have tree : ∀ {P : PySem.Fin → Shared → Prop} {E' : Value → Shared → Prop}, P (.done (.ret (.bool (decide (x = y))))) s → wpAny (model prog w) A.in1 (Builtin.«tuple.__eq__» ⟨[.ref a, .ref b], []⟩) P E' s := fun {P E'} h => by
      show wpAny _ _ (isInstance (.ref b) (.type "tuple") >>= _) _ _ s
      refine wpAny_bind (wpAny_isInstance hTb isSubtype_tuple_tuple ?_)
      simp only [Bool.not_true, Bool.false_eq_true, if_false]
      refine wpAny_bind (wpAny_tupleItemsOf hoa hda ?_)
      refine wpAny_bind (wpAny_tupleItemsOf hob hdb ?_)
      refine wpAny_bind ?_
      refine wpAny_forIn_list _
        (fun rest r s' => r.1 = none ∧ s' = s ∧ ∃ (x' y' : List T) (xs' ys' : List Value), rest = List.zip xs' ys' ∧ (∀ m ∈ x', m ∈ x.toList) ∧ Row s.heap x' xs' ∧ Row s.heap y' ys' ∧ decide (x' = y') = decide (x = y) ∧ (xs'.length == ys'.length) = (xs.size == ys.size))
        _ ?_ ?_ _ _ ⟨rfl, rfl, x.toList, y.toList, xs.toList, ys.toList, rfl, fun _ h => h, hia, hib, ?_, by simp⟩
      · rintro ⟨u, v⟩ rest r s' ⟨hr, rfl, x', y', xs', ys', hz, hsub, hx', hy', hdec, hlen⟩
        cases hx' with
        | nil => simp at hz
        | @cons k1 u' x'' xs'' h1 hx'' =>
          cases hy' with
          | nil => simp at hz
          | @cons k2 v' y'' ys'' h2 hy'' =>
            simp only [List.zip_cons_cons, List.cons.injEq, Prod.mk.injEq] at hz
            obtain ⟨⟨rfl, rfl⟩, rfl⟩ := hz
            obtain ⟨c1, rfl, q1⟩ := h1
            obtain ⟨c2, rfl, q2⟩ := h2
            have hm := hsub k1 (by simp)
            have hdp := T.mem_depth hm
            refine wpAny_bind (ih k1 hm k2 (by show A.units + 1 + k1.depth < cLine; omega) q1 q2 ?_)
            by_cases hk : k1 = k2
            · subst hk
              rw [decide_eq_true rfl]
              simp only [Bool.not_true, Bool.false_eq_true, if_false]
              refine wpAny_pure ⟨rfl, rfl, x'', y'', xs'', ys'', rfl, fun m hm => hsub m (by simp [hm]), hx'', hy'', ?_, by simpa using hlen⟩
              rw [← hdec]
              by_cases hxy : x'' = y''
              · simp [hxy]
              · simp [hxy]
            · rw [decide_eq_false hk]
              simp only [Bool.not_false, if_true]
              have hf : decide (x = y) = false := by rw [← hdec]; simp [hk]
              rw [hf] at h
              exact wpAny_bind (wpAny_pure (wpAny_pure (wpAny_pure h)))
      · rintro ⟨r1, r2⟩ s' ⟨hr, rfl, x', y', xs', ys', hz, hsub, hx', hy', hdec, hlen⟩
        simp only at hr
        subst hr
        refine wpAny_pure ?_
        have hfin : (xs.size == ys.size) = decide (x = y) := by
          rw [← hdec, ← hlen]
          cases hx' with
          | nil =>
            cases hy' with
            | nil => simp
            | cons _ _ => simp
          | cons _ _ =>
            cases hy' with
            | nil => simp
            | cons _ _ => simp at hz
        show P (.done (.ret (.bool (xs.size == ys.size)))) s'
        rw [hfin]; exact h
      · by_cases e : x = y
        · subst e; simp
        · have : x.toList ≠ y.toList := fun q => e (T.to_inj q)
          simp [e, this]
    exact wpAny_bind (wpAny_richCompare_same_room (op := .Eq) hTa hTb F.slot_tuple_eq
      (wpAny_call_entry F.slot_tuple_eq hTa F.entry_tuple_eq (tree ⟨_, rfl, (fun e => nomatch e), wpAny_truthy_bool h⟩) (F.args_tuple_eq_2 _ _)) hu0)
theorem quiet_nest : ∀ (t : T) (n : Nat) {A : Around} {E : Value → Shared → Prop} {s : Shared} {a : Addr} {Q : Bool → Shared → Prop}, t.depth < n → At s.heap t a → Q true s → wpAny (model prog w) A (eqIsQuiet n (.ref a)) Q E s := T.ind fun t ih n {A E s a Q} hn hk h => by
  have hT := hk.typeIs
  obtain ⟨o, items, n', ho, _, hd, hi⟩ := hk.row
  cases n with
  | zero => omega
  | succ n =>
    unfold eqIsQuiet
    refine wpAny_bind (wpAny_specialOf hT F.slot_tuple_eq.lookup ?_)
    show wpAny _ _ (isInstance (.ref a) (.type "tuple") >>= _) _ _ s
    refine wpAny_bind (wpAny_isInstance hT isSubtype_tuple_tuple ?_)
    simp only [Bool.not_true, Bool.false_eq_true, if_false]
    refine wpAny_bind (wpAny_seqItems ho hd ?_)
    refine wpAny_bind ?_
    show wpAny _ _ (forIn items _ _) _ _ s
    rw [← Array.forIn_toList]
    refine wpAny_forIn_list _ (fun rest r s' => r.1 = none ∧ s' = s ∧ ∃ left : List T, (∀ m ∈ left, m ∈ t.toList) ∧ Row s.heap left rest) _ ?_ ?_ _ _ ⟨rfl, rfl, t.toList, fun _ h => h, hi⟩
    · rintro v rest r s' ⟨hr, rfl, left, hsub, hrow⟩
      cases hrow with
      | @cons k _ ks _ p q =>
        obtain ⟨c, rfl, p⟩ := p
        have hm := hsub k (by simp)
        have hdp := T.mem_depth hm
        refine wpAny_bind (ih k hm n (by omega) p ?_)
        simp only [Bool.not_true, Bool.false_eq_true, if_false]
        exact wpAny_pure ⟨rfl, rfl, ks, fun m hm => hsub m (by simp [hm]), q⟩
    · rintro ⟨r1, r2⟩ s' ⟨hr, rfl, _⟩
      simp only at hr
      subst hr
      exact wpAny_pure h
end
/-- nests as keys of a dict -/
def nestKind (prog : Program) (w : World) : HeapKind prog w T where
  is := fun h t a => At h t a ∧ t.depth ≤ 7
  hash := hash
  draws := draws
  room := fun A => A.units + 10 < cLine
  inj := fun hx hy => At.inj _ _ _ hx.1 hy.1
  keeps := fun {h h' k a d o es ep} x ho hd hs => ⟨At.mono (fun b o' e _ hq => by
    have hne : b ≠ d := by
      rintro rfl
      obtain rfl : o' = o := Option.some.inj (e.symm.trans ho)
      obtain ⟨i, n, hq⟩ := hq
      rw [hd] at hq; cases hq
    exact (hs.2 b hne).trans e) _ _ x.1, x.2⟩
  pyHash := fun {A E s k a Q} hu hk h => pyHash_nest k (by have := hk.2; omega) hk.1 h
  eqBool := fun {A E s x y a b Q} hu hx hy h => eq_nest x y (by have := hx.2; omega) hx.1 hy.1 h
  quiet := fun {A E s k a Q} hk h => quiet_nest k 8 (by have := hk.2; omega) hk.1 h
theorem eqAt_nest {x y : T} {A : Around} {s : Shared} {a b : Addr} (hu : A.units + x.depth < cLine) (hx : At s.heap x a) (hy : At s.heap y b) : SeqAt.EqAt A s (.ref a) (.ref b) (decide (x = y)) := fun prog w E Q h => eq_nest x y hu hx hy h
end ND
set_option Elab.async false
set_option linter.all false
set_option maxRecDepth 100000
namespace ND
open PySem NM
section
open PySem.SeqAt
open PySem.AutoSeq1 (wpAny_loadPart')
open PySem.MeetsSeq PySem.MeetsSeq2 PySem.MeetsSeq3

theorem At.isTuple {h : Heap} {t : T} {a : Addr} (x : At h t a) : ∃ items : Array Value, h.IsTuple a items ∧ Row h t.toList items.toList := by
  obtain ⟨o, items, n, h1, h2, h3, h4⟩ := x.row
  exact ⟨items, ⟨o, h1, h2, n, h3⟩, h4⟩
theorem Row.get {h : Heap} : ∀ {ts : List T} {vs : List Value} {j : Nat}, Row h ts vs → (hj : j < vs.length) → ∃ (hj' : j < ts.length) (a : Addr), vs[j] = Value.ref a ∧ At h ts[j] a
  | _, _, 0, .cons p _, _ => by obtain ⟨a, e, q⟩ := p; exact ⟨by simp, a, e, q⟩
  | _, _, j + 1, .cons _ r, hj => by
    obtain ⟨h1, a, e, q⟩ := Row.get (j := j) r (by simpa using hj)
    exact ⟨by simpa using h1, a, by simpa using e, by simpa using q⟩
theorem all_zip (x y : List T) : ((List.range (min x.length y.length)).all (fun j => decide (x[j]? = y[j]?)) && x.length == y.length) = decide (x = y) := by
  by_cases e : x = y
  · subst e; simp
  · rw [decide_eq_false e, Bool.and_eq_false_iff]
    by_cases hl : x.length = y.length
    · left
      cases q : (List.range (min x.length y.length)).all (fun j => decide (x[j]? = y[j]?)) with
      | false => rfl
      | true =>
        exfalso
        apply e
        rw [List.all_eq_true] at q
        apply List.ext_getElem?
        intro i
        by_cases hi : i < min x.length y.length
        · exact of_decide_eq_true (q i (by simpa using hi))
        · rw [List.getElem?_eq_none (by omega), List.getElem?_eq_none (by omega)]
    · right; simpa using hl
theorem eqs_nest {x y : T} {A : Around} {s : Shared} {xs ys : Array Value} (hu : A.units + x.depth < cLine) (h1 : Row s.heap x.toList xs.toList) (h2 : Row s.heap y.toList ys.toList) :
    ∀ j (_ : j < xs.size) (_ : j < ys.size), EqAt A.in1 s xs[j] ys[j] (decide (x.toList[j]? = y.toList[j]?)) := by
  intro j a1 a2
  obtain ⟨b1, c1, e1, q1⟩ := h1.get (j := j) (by simpa using a1)
  obtain ⟨b2, c2, e2, q2⟩ := h2.get (j := j) (by simpa using a2)
  have e1 : xs[j] = Value.ref c1 := by simpa using e1
  have e2 : ys[j] = Value.ref c2 := by simpa using e2
  rw [e1, e2]
  have hd := T.mem_depth (List.getElem_mem b1)
  have := eqAt_nest (A := A.in1) (by show A.units + 1 + _ < cLine; omega) q1 q2
  have e : decide (x.toList[j]? = y.toList[j]?) = decide (x.toList[j] = y.toList[j]) := by
    rw [List.getElem?_eq_getElem b1, List.getElem?_eq_getElem b2]
    simp
  rw [e]; exact this
section
variable {prog : Program} {w : World} {A : Around} {E : Value → Shared → Prop} {s : Shared}
theorem ceq_nest {x y : T} {a b : Addr} {Q : Value → Shared → Prop} (hu : A.units + x.depth < cLine) (hx : At s.heap x a) (hy : At s.heap y b) (h : Q (.bool (decide (x = y))) s) : wpAny (model prog w) A (compareOp .Eq (.ref a) (.ref b)) Q E s := by
  obtain ⟨xs, t1, r1⟩ := hx.isTuple
  obtain ⟨ys, t2, r2⟩ := hy.isTuple
  refine eq_tupleAt t1 t2 (by omega) (eqs_nest hu r1 r2) ?_
  have l1 := r1.length
  have l2 := r2.length
  simp only [Array.length_toList] at l1 l2
  have := all_zip x.toList y.toList
  rw [← l1, ← l2, this]
  have e : decide (x.toList = y.toList) = decide (x = y) := by
    by_cases z : x = y
    · subst z; simp
    · have : x.toList ≠ y.toList := fun q => z (T.to_inj q)
      simp [z, this]
  rw [e]; exact h
theorem cne_nest {x y : T} {a b : Addr} {Q : Value → Shared → Prop} (hu : A.units + x.depth < cLine) (hx : At s.heap x a) (hy : At s.heap y b) (h : Q (.bool (!decide (x = y))) s) : wpAny (model prog w) A (compareOp .NotEq (.ref a) (.ref b)) Q E s := by
  obtain ⟨xs, t1, r1⟩ := hx.isTuple
  obtain ⟨ys, t2, r2⟩ := hy.isTuple
  refine RcNeAt.tuples t1 t2 (by omega) (eqs_nest hu r1 r2) prog w E Q ?_
  have l1 := r1.length
  have l2 := r2.length
  simp only [Array.length_toList] at l1 l2
  have := all_zip x.toList y.toList
  rw [← l1, ← l2, this]
  have e : decide (x.toList = y.toList) = decide (x = y) := by
    by_cases z : x = y
    · subst z; simp
    · have : x.toList ≠ y.toList := fun q => z (T.to_inj q)
      simp [z, this]
  rw [e]; exact h
end
theorem tuple_lt_row (l b : Addr) (items items2 : Array Value) (n n2 : Nat) (dd dd2 : Option Addr) (sl sl2 : Array (Option Value)) (x y : List T)
    (ih : ∀ m ∈ x, ∀ (m' : T) {prog : Program} {w : World} {A : Around} {E : Value → Shared → Prop} {s : Shared} {a b : Addr} {Q : Value → Shared → Prop}, A.units + m.depth < cLine → At s.heap m a → At s.heap m' b → Q (.bool (T.lt m m')) s → wpAny (model prog w) A (compareOp .Lt (.ref a) (.ref b)) Q E s) :
    Meets (Builtin.«tuple.__lt__» ⟨[.ref l, .ref b], []⟩)
      (fun A R s => (∀ m ∈ x, A.units + 1 + m.depth < cLine) ∧ Row s.heap x items.toList ∧ Row s.heap y items2.toList ∧ s.heap.get? l = some { cls := .type "tuple", dict := dd, data := .seq items n, slots := sl } ∧ s.heap.get? b = some { cls := .type "tuple", dict := dd2, data := .seq items2 n2, slots := sl2 } ∧
        R (.ok (.ret (.bool (lex T.lt x y)))) s) :=
  .of_wp fun prog w A R s h => by
    obtain ⟨hp, g, d, tk, os⟩ := s; obtain ⟨hu, hi, hj, hl, hb, h⟩ := h
    have f2 := AutoSeq1.sub_tuple_tuple
    have z1 : items.size = x.length := by rw [hi.length]; simp
    have z2 : items2.size = y.length := by rw [hj.length]; simp
    wp_walk using wpAny_loadPart' hl, wpAny_loadPart' hb, wpAny_forIn_list _ (fun rest b s' => b.1 = none ∧ s' = ⟨hp, g, d, tk, os⟩ ∧ ∃ (vs ws : List Value) (ns' ms' : List T), rest = vs.zip ws ∧ (∀ m ∈ ns', m ∈ x) ∧
      Row hp ns' vs ∧ Row hp ms' ws ∧ ns'.length + items2.size = ms'.length + items.size ∧ R (.ok (.ret (.bool (lex T.lt ns' ms')))) ⟨hp, g, d, tk, os⟩) _
    case turn =>
      rintro ⟨v, u⟩ rest b s' ⟨hb', rfl, vs, ws, ns', ms', hz, hsub, hvi, hwi, hlen, hR⟩
      cases hvi with
      | nil => rw [List.zip_nil_left] at hz; cases hz
      | @cons k1 _ _ _ p1 hvi' =>
        cases hwi with
        | nil => rw [List.zip_nil_right] at hz; cases hz
        | @cons k2 _ _ _ p2 hwi' =>
          obtain ⟨c1, rfl, p1⟩ := p1
          obtain ⟨c2, rfl, p2⟩ := p2
          rw [List.zip_cons_cons] at hz
          injection hz with hyx hrest
          injection hyx with hy hx
          subst hy hx
          simp only [lex] at hR
          simp only [List.length_cons] at hlen
          have hm := hsub k1 (by simp)
          have he := eqAt_nest (A := A.in1) (s := ⟨hp, g, d, tk, os⟩) (hu k1 hm) p1 p2
          refine wpAny_bind (he prog w _ _ ?_)
          by_cases e : k1 = k2
          · rw [decide_eq_true e]
            rw [if_pos e] at hR
            wp_walk
            exact ⟨rfl, rfl, _, _, _, _, hrest, fun m hm => hsub m (by simp [hm]), hvi', hwi', by omega, hR⟩
          · rw [decide_eq_false e]
            rw [if_neg e] at hR
            have hri : ∀ {E' : Value → Shared → Prop} {Q' : Value → Shared → Prop}, Q' (.bool (T.lt k1 k2)) ⟨hp, g, d, tk, os⟩ → wpAny (model prog w) A.in1 (richCompare .Lt (.ref c1) (.ref c2)) Q' E' ⟨hp, g, d, tk, os⟩ := fun {E' Q'} hq => ih k1 hm k2 (A := A.in1) (s := ⟨hp, g, d, tk, os⟩) (hu k1 hm) p1 p2 hq
            wp_walk using hri
            exact ⟨_, rfl, by simpa using hR⟩
    case fin =>
      rintro ⟨b1, b2⟩ s' ⟨hb', rfl, vs, ws, ns', ms', hz, hsub, hvi, hwi, hlen, hR⟩
      simp only at hb'
      subst hb'
      have hv : lex T.lt ns' ms' = decide (items.size < items2.size) := by
        cases hvi with
        | nil =>
          cases hwi with
          | nil =>
            simp only [List.length_nil] at hlen
            exact (decide_eq_false (by omega)).symm
          | cons _ hw =>
            simp only [List.length_nil, List.length_cons] at hlen
            exact (decide_eq_true (by omega)).symm
        | cons _ hv =>
          cases hwi with
          | nil =>
            simp only [List.length_nil, List.length_cons] at hlen
            exact (decide_eq_false (by omega)).symm
          | cons _ hw =>
            rw [List.zip_cons_cons] at hz
            cases hz
      rw [hv] at hR
      wp_walk
      exact ⟨_, rfl, by simpa [Builtin.Tuple.tupleCompareSizes] using hR⟩
    case h =>
      exact ⟨rfl, rfl, items.toList, items2.toList, x, y, rfl, fun _ h => h, hi, hj, by omega, h⟩
theorem clt_nest : ∀ (x : T) (y : T) {prog : Program} {w : World} {A : Around} {E : Value → Shared → Prop} {s : Shared} {a b : Addr} {Q : Value → Shared → Prop}, A.units + x.depth < cLine → At s.heap x a → At s.heap y b → Q (.bool (T.lt x y)) s → wpAny (model prog w) A (compareOp .Lt (.ref a) (.ref b)) Q E s := T.ind fun x ih y {prog w A E s a b Q} hu hx hy h => by
  obtain ⟨xs, t1, r1⟩ := hx.isTuple
  obtain ⟨ys, t2, r2⟩ := hy.isTuple
  obtain ⟨⟨cls, dd, data, sl⟩, ho, hc, n, hd⟩ := id t1
  obtain ⟨⟨cls2, dd2, data2, sl2⟩, ho2, hc2, n2, hd2⟩ := id t2
  simp only at hc hd hc2 hd2
  subst hc hd hc2 hd2
  rw [lt_lex] at h
  exact richCompare_meets_room (op := .Lt) ⟨_, ho, rfl⟩ ⟨_, ho2, rfl⟩ PySem.F.slot_tuple_lt PySem.F.entry_tuple_lt (PySem.F.args_tuple_lt_2 _ _) (tuple_lt_row a b xs ys n n2 dd dd2 sl sl2 x.toList y.toList ih)
    ⟨fun m hm => by have := T.mem_depth hm; omega, r1, r2, ho, ho2, show Value.bool (lex T.lt x.toList y.toList) ≠ Value.notImplemented ∧ Q (.bool (lex T.lt x.toList y.toList)) s from ⟨(fun x => nomatch x), h⟩⟩ (by omega)
end
end ND
set_option Elab.async false
set_option linter.all false
set_option maxRecDepth 100000
/-! ### nests over the layer -/
namespace L2
open PySem PySem.Spec PyProof.Rows NM ND

def AreV (H : Hp) : T → List V → Prop
  | .nil, xs => xs = []
  | .cons x t, xs => ∃ a ys r, xs = V.ref a :: r ∧ H a = some (.tup ys) ∧ AreV H x ys ∧ AreV H t r
/-- v is the nest t -/
def IsN (H : Hp) (v : V) (t : T) : Prop := ∃ a ys, v = V.ref a ∧ H a = some (.tup ys) ∧ AreV H t ys
abbrev RowV (H : Hp) : List T → List V → Prop := Paired fun t v => IsN H v t
theorem areV_row {H : Hp} : ∀ {t : T} {xs : List V}, AreV H t xs ↔ RowV H t.toList xs
  | .nil, xs => ⟨fun e => by have e : xs = [] := e; subst e; exact .nil, fun e => by cases e; exact rfl⟩
  | .cons x t, xs => by
    constructor
    · rintro ⟨a, ys, r, rfl, hx, hy, ht⟩
      exact .cons ⟨a, ys, rfl, hx, hy⟩ (areV_row.mp ht)
    · intro e
      cases e with
      | cons h1 h2 =>
        obtain ⟨a, ys, rfl, hx, hy⟩ := h1
        exact ⟨a, ys, _, rfl, hx, hy, areV_row.mpr h2⟩
theorem IsN.row {H : Hp} {v : V} {t : T} (h : IsN H v t) : ∃ a ys, v = V.ref a ∧ H a = some (.tup ys) ∧ RowV H t.toList ys := by
  obtain ⟨a, ys, e, h1, h2⟩ := h
  exact ⟨a, ys, e, h1, areV_row.mp h2⟩
theorem IsN.of {H : Hp} {a : Addr} {ys : List V} {t : T} (h : H a = some (.tup ys)) (h2 : RowV H t.toList ys) : IsN H (.ref a) t := ⟨a, ys, rfl, h, areV_row.mpr h2⟩
theorem IsN.ofL {H : Hp} {a : Addr} {ys : List V} {ts : List T} (h : H a = some (.tup ys)) (h2 : RowV H ts ys) : IsN H (.ref a) (T.ofList ts) := .of h (by rw [T.to_of]; exact h2)
/-- tuples stay -/
def SameT (H H' : Hp) : Prop := ∀ b xs, H b = some (.tup xs) → H' b = some (.tup xs)
theorem Same.t {H H' : Hp} (h : Same H H') : SameT H H' := fun b xs e => h b _ e
theorem SameT.refl (H : Hp) : SameT H H := fun _ _ e => e
theorem SameT.trans {H H1 H2 : Hp} (a : SameT H H1) (b : SameT H1 H2) : SameT H H2 := fun c xs h => b c xs (a c xs h)
theorem rowV_mono {H H' : Hp} : ∀ {ts : List T} {vs : List V}, (∀ m ∈ ts, ∀ v, IsN H v m → IsN H' v m) → RowV H ts vs → RowV H' ts vs
  | [], _, _, r => by cases r; exact .nil
  | t :: ts, _, hm, r => by
    cases r with
    | cons p q => exact .cons (hm t (by simp) _ p) (rowV_mono (fun m hm' => hm m (by simp [hm'])) q)
theorem isN_mono {H H' : Hp} (k : SameT H H') : ∀ (t : T) (v : V), IsN H v t → IsN H' v t := T.ind fun t ih v x => by
  obtain ⟨a, ys, rfl, h1, h2⟩ := x.row
  exact .of (k a ys h1) (rowV_mono ih h2)
theorem IsN.mono {H H' : Hp} {v : V} {t : T} (x : IsN H v t) (k : SameT H H') : IsN H' v t := isN_mono k t v x
theorem RowV.mono {H H' : Hp} {ts : List T} {vs : List V} (x : RowV H ts vs) (k : SameT H H') : RowV H' ts vs := rowV_mono (fun m _ v h => h.mono k) x
theorem RowV.length {H : Hp} {ts : List T} {vs : List V} (x : RowV H ts vs) : ts.length = vs.length := Paired.length x
theorem RowV.get {H : Hp} : ∀ {ts : List T} {vs : List V} {i : Nat} {v : V}, RowV H ts vs → vs[i]? = some v → ∃ t, ts[i]? = some t ∧ IsN H v t
  | _, _, _, _, .nil, e => by simp at e
  | _, _, 0, _, .cons p _, e => by simp at e; subst e; exact ⟨_, rfl, p⟩
  | _, _, i + 1, v, .cons _ r, e => by
    obtain ⟨t, h1, h2⟩ := RowV.get (i := i) (v := v) r (by simpa using e)
    exact ⟨t, by simpa using h1, h2⟩
theorem RowV.append {H : Hp} : ∀ {ts us : List T} {vs ws : List V}, RowV H ts vs → RowV H us ws → RowV H (ts ++ us) (vs ++ ws)
  | _, _, _, _, .nil, s => s
  | _, _, _, _, .cons r t, s => .cons r (RowV.append t s)
theorem RowV.one {H : Hp} {t : T} {v : V} (h : IsN H v t) : RowV H [t] [v] := .cons h .nil
theorem RowV.take {H : Hp} : ∀ {ts : List T} {vs : List V} (n : Nat), RowV H ts vs → RowV H (ts.take n) (vs.take n)
  | _, _, 0, _ => .nil
  | _, _, _ + 1, .nil => .nil
  | _, _, n + 1, .cons r t => .cons r (RowV.take n t)
theorem RowV.drop {H : Hp} : ∀ {ts : List T} {vs : List V} (n : Nat), RowV H ts vs → RowV H (ts.drop n) (vs.drop n)
  | _, _, 0, r => r
  | _, _, _ + 1, .nil => .nil
  | _, _, n + 1, .cons _ t => RowV.drop n t
theorem RowV.reverse {H : Hp} {ts : List T} {vs : List V} (h : RowV H ts vs) : RowV H ts.reverse vs.reverse := by
  induction h with
  | nil => exact .nil
  | cons r t ih => rw [List.reverse_cons, List.reverse_cons]; exact RowV.append ih (.cons r .nil)
/-- a new object: what was tracked stays -/
theorem same_new {H : Hp} {p : Addr} (h : H p = none) (o : HO) : Same H (upd H p o) := fun b u q => by rw [upd_ne (ne_of_none q h)]; exact q
theorem same_upd {H H' : Hp} {p : Addr} (h : H p = none) (k : Same H H') (o : HO) : Same H (upd H' p o) := fun b u q => by rw [upd_ne (ne_of_none q h)]; exact k b u q
theorem sameT_lst {H : Hp} {p : Addr} {xs : List V} (h : H p = some (.lst xs)) (o : HO) : SameT H (upd H p o) := fun b u q => by
  rw [upd_ne (ne_of q h (by intro z; cases z))]; exact q
section
variable {X : Cx} {pins : List (Addr × Obj)} {σ : St} {H : Hp} {s : Shared}
theorem row_of {h : Heap} : ∀ {ts : List T} {ys : List V} {its : List Value}, (∀ m ∈ ts, ∀ v, IsN H v m → ∀ a, v = .ref a → At h m a) → RowV H ts ys → Vals ys its → Row h ts its
  | _, _, _, _, .nil, .nil => .nil
  | t :: ts, _, _, hm, .cons p q, .cons r rr => by
    obtain ⟨a, _, rfl, _⟩ := id p
    cases r
    exact .cons ⟨a, rfl, hm t (by simp) _ p a rfl⟩ (row_of (fun m hm' => hm m (by simp [hm'])) q rr)
theorem Inv.nest (I : Inv X pins σ H s) : ∀ (t : T) (v : V), IsN H v t → ∀ a, v = .ref a → At s.heap t a := T.ind fun t ih v x a e => by
  obtain ⟨b, ys, rfl, h1, h2⟩ := x.row
  cases e
  obtain ⟨_, its, rv, o, g1, g2, n, g3⟩ := I.hok a _ h1
  exact .of g1 g2 g3 (by simpa using row_of ih h2 rv)
theorem Inv.nests (I : Inv X pins σ H s) {ts : List T} {ys : List V} {its : List Value} (h : RowV H ts ys) (rv : Vals ys its) : Row s.heap ts its := row_of (fun m _ v h => I.nest m v h) h rv
end

section
variable {X : Cx}
def rEqN (f : T → T → Bool) : R2 := fun x y H Q => ∃ t u, IsN H x t ∧ IsN H y u ∧ t.depth ≤ 50 ∧ Q (.bl (f t u)) H
theorem op_eqN (hu : X.A.units + 64 < cLine) : OpR X (compareOp .Eq) (rEqN fun t u => decide (t = u)) := by
  intro pins s σ H x y v u Q I rx ry h
  obtain ⟨t, t', h1, h2, hd, q⟩ := h
  obtain ⟨a, _, rfl, _⟩ := id h1
  obtain ⟨b, _, rfl, _⟩ := id h2
  cases rx
  cases ry
  exact ceq_nest (by omega) (I.nest _ _ h1 a rfl) (I.nest _ _ h2 b rfl) ⟨.bl _, H, I, rfl, q⟩
theorem op_neN (hu : X.A.units + 64 < cLine) : OpR X (compareOp .NotEq) (rEqN fun t u => !decide (t = u)) := by
  intro pins s σ H x y v u Q I rx ry h
  obtain ⟨t, t', h1, h2, hd, q⟩ := h
  obtain ⟨a, _, rfl, _⟩ := id h1
  obtain ⟨b, _, rfl, _⟩ := id h2
  cases rx
  cases ry
  exact cne_nest (by omega) (I.nest _ _ h1 a rfl) (I.nest _ _ h2 b rfl) ⟨.bl _, H, I, rfl, q⟩
/-- a nest in a row of nests -/
def rInN (K : PySem.W.Frag) (neg : Bool) : R2 := fun x y H Q => ∃ p xs ts t, y = .ref p ∧ (SqL K H p xs ∨ SqT K H p xs) ∧ RowV H ts xs ∧ IsN H x t ∧ (∀ m ∈ ts, m.depth ≤ 50) ∧ Q (.bl (if neg then !decide (t ∈ ts) else decide (t ∈ ts))) H
open Classical in
noncomputable def eN (h : Heap) (t : T) (u : Value) : Bool := decide (∃ c, u = Value.ref c ∧ At h t c)
open Classical in
theorem eN_eq {h : Heap} {t m : T} {c : Addr} (hm : At h m c) : eN h t (.ref c) = decide (m = t) := by
  unfold eN
  by_cases e : m = t
  · subst e; rw [decide_eq_true rfl, decide_eq_true ⟨c, rfl, hm⟩]
  · rw [decide_eq_false e, decide_eq_false]
    rintro ⟨c', q, q2⟩
    cases q
    exact e (At.inj _ _ _ hm q2)
theorem eN_any {h : Heap} {t : T} : ∀ {ts : List T} {its : List Value}, Row h ts its → its.any (eN h t) = decide (t ∈ ts)
  | _, _, .nil => by simp
  | m :: ts, _, .cons p r => by
    obtain ⟨c, rfl, q⟩ := p
    rw [List.any_cons, eN_any r, eN_eq q]
    by_cases e : m = t
    · subst e; simp
    · have : ¬ t = m := fun z => e z.symm
      simp [e, this]
theorem eN_at {h : Heap} {t : T} {A : Around} {s : Shared} {b : Addr} (hs : s.heap = h) (hu : A.units + 64 < cLine) (hb : At s.heap t b) : ∀ {ts : List T} {its : List Value}, (∀ m ∈ ts, m.depth ≤ 50) → Row h ts its → ∀ u ∈ its, SeqAt.EqAt A.in1 s u (.ref b) (eN h t u)
  | _, _, _, .nil, u, hu' => by simp at hu'
  | m :: ts, _, hd, .cons p r, u, hu' => by
    subst hs
    rcases List.mem_cons.mp hu' with rfl | hu'
    · obtain ⟨c, rfl, q⟩ := p
      rw [eN_eq q]
      have := hd m (by simp)
      exact eqAt_nest (by show A.units + 1 + m.depth < cLine; omega) q hb
    · exact eN_at rfl hu hb (fun m hm => hd m (by simp [hm])) r u hu'
theorem op_inN (hu : X.A.units + 64 < cLine) : OpR X (compareOp .In) (rInN X.K false) := by
  intro pins s σ H x y v u Q I rx ry h
  obtain ⟨p, xs, ts, t, rfl, hq, hr, hx, hd, q⟩ := h
  obtain ⟨b, _, rfl, _⟩ := id hx
  cases rx
  cases ry
  have hb := I.nest _ _ hx b rfl
  rcases hq with hq | hq
  · obtain ⟨its, r, pl, hz⟩ := I.list hq
    have row := I.nests hr r
    refine SeqAt.in_listAt (eN s.heap t) pl.isList (fun w hw => eN_at rfl hu hb hd row w (by simpa using hw)) ⟨.bl _, H, I, rfl, ?_⟩
    rw [show its.toArray.any (eN s.heap t) = its.any (eN s.heap t) by simp, eN_any row]
    exact q
  · obtain ⟨its, r, pl, hz⟩ := I.tuple hq
    have row := I.nests hr r
    refine SeqAt.in_tupleAt (eN s.heap t) pl (fun w hw => eN_at rfl hu hb hd row w (by simpa using hw)) ⟨.bl _, H, I, rfl, ?_⟩
    rw [show its.toArray.any (eN s.heap t) = its.any (eN s.heap t) by simp, eN_any row]
    exact q
theorem op_notInN (hu : X.A.units + 64 < cLine) : OpR X (compareOp .NotIn) (rInN X.K true) := by
  intro pins s σ H x y v u Q I rx ry h
  obtain ⟨p, xs, ts, t, rfl, hq, hr, hx, hd, q⟩ := h
  obtain ⟨b, _, rfl, _⟩ := id hx
  cases rx
  cases ry
  have hb := I.nest _ _ hx b rfl
  rcases hq with hq | hq
  · obtain ⟨its, r, pl, hz⟩ := I.list hq
    have row := I.nests hr r
    refine SeqAt.notIn_listAt (eN s.heap t) pl.isList (fun w hw => eN_at rfl hu hb hd row w (by simpa using hw)) ⟨.bl _, H, I, rfl, ?_⟩
    rw [show its.toArray.any (eN s.heap t) = its.any (eN s.heap t) by simp, eN_any row]
    exact q
  · obtain ⟨its, r, pl, hz⟩ := I.tuple hq
    have row := I.nests hr r
    refine SeqAt.notIn_tupleAt (eN s.heap t) pl (fun w hw => eN_at rfl hu hb hd row w (by simpa using hw)) ⟨.bl _, H, I, rfl, ?_⟩
    rw [show its.toArray.any (eN s.heap t) = its.any (eN s.heap t) by simp, eN_any row]
    exact q

/-! is, is not of truths -/
/-! all(a list of truths) -/
theorem call_allB (hc : X.calm = true) : CallR X (.builtin "all") (fun xs H Q => ∃ (p : Addr) (bs : List Bool), xs = [.ref p] ∧ SqL X.K H p (bs.map V.bl) ∧ Q (.bl (bs.all id)) H) := by
  intro pins s σ H xs us Q I r h
  obtain ⟨p, bs, rfl, hq, q⟩ := h
  obtain ⟨u, rfl, rx⟩ := vals1 r
  cases rx
  obtain ⟨its, rv, pl, hz⟩ := I.list hq
  have hp : p < s.heap.objs.size := by obtain ⟨o, _, e, _⟩ := pl; exact Heap.lt_size e
  refine call_all_walk (wpAny_pyIter_list pl.isList ?_)
  have st : (s.heap.push { cls := .type "list_iterator", data := .fields #[.ref p, .int 0 0] }).IsListIter s.heap.objs.size p 0 := ⟨_, Heap.get?_push_size _ rfl, rfl, rfl⟩
  refine ⟨s.heap.objs.size, _, _, _, _, _, fun i => bs.getD i true, rfl, Walks.list (A := X.A.in1) (I.ok.hd hc) s.heap.objs.size p (Nat.ne_of_lt hp) its.toArray, ⟨st, ?_⟩, fun i v s' Q' E' hv hq' => ?_, fun h' tk hk => ?_⟩
  · obtain ⟨o, n, e, r⟩ := pl.isList
    exact ⟨o, Heap.get?_push_of_some _ n, e, r⟩
  · have hv : its[i]? = some v := by simpa using hv
    have hb : (bs.map V.bl)[i]? = some (V.bl (bs.getD i true)) := by
      have hl := rv.length
      have hi : i < its.length := (List.getElem?_eq_some_iff.mp hv).1
      have hi' : i < bs.length := by rw [List.length_map] at hl; omega
      rw [List.getElem?_map, List.getElem?_eq_getElem hi']
      simp [List.getD, hi']
    obtain ⟨w', e1, e2⟩ := rv.get hb
    rw [hv] at e1; cases e1
    cases e2
    exact wpAny_truthy_bool hq'
  · refine ⟨.bl (bs.all id), H, ?_, ?_, q⟩
    · exact I.kept (h' := h') (t' := tk) fun b o e => hk b o (by simp only [List.mem_singleton]; exact Nat.ne_of_lt (Heap.lt_size e)) (Heap.get?_push_of_some _ e)
    · have hl := rv.length
      rw [List.length_map] at hl
      show Value.bool _ = Value.bool _
      congr 1
      rw [List.size_toArray, ← hl]
      apply Bool.eq_iff_iff.mpr
      rw [List.all_eq_true, List.all_eq_true]
      constructor
      · intro h x hx
        obtain ⟨i, hi, e⟩ := List.getElem_of_mem hx
        have := h i (by simpa using hi)
        simp [List.getD, hi] at this
        rw [← e]; exact this
      · intro h i hi
        have hi : i < bs.length := by simpa using hi
        simp [List.getD, hi]
        exact h _ (List.getElem_mem hi)

/-! xs.insert(k, y) -/
def rInsert : V → List V → Hp → VK → Prop := fun x vs H Q => ∃ (l : Addr) (xs : List V) (k : Nat) (y : V), x = .ref l ∧ vs = [.int (k : Int), y] ∧ H l = some (.lst xs) ∧ k ≤ xs.length ∧ xs.length < sizeLine ∧ Q .non (upd H l (.lst (xs.take k ++ y :: xs.drop k)))
theorem mt_insert : MtM X "list.insert" rInsert := by
  intro pins s σ H x vs v us Q I rx rv h
  obtain ⟨l, xs, k, y, rfl, rfl, hH, hk, hz, q⟩ := h
  cases rx
  obtain ⟨u, w', rfl, ⟨t, rfl⟩, ry⟩ := rv.two
  obtain ⟨z, its, n, r, hl, e⟩ := I.lstM hH
  have hfit : ¬ (!Builtin.List.listFitsIndex (k : Int)) = true := by
    have := line63
    unfold Builtin.List.listFitsIndex
    simp
    omega
  have hsz : its.toArray.size ≤ sizeLine := by rw [List.size_toArray]; omega
  have hkk : (if ((k : Nat) : Int) < 0 then (((k : Nat) : Int) + ((its.toArray.size : Nat) : Int)).toNat else min ((k : Nat) : Int).toNat its.toArray.size) = k := by
    rw [if_neg (by omega), Int.toNat_natCast, List.size_toArray]; omega
  generalize ((k : Nat) : Int) = x at hfit hkk ⊢
  have M := AutoSeq1.list_insert_list_int_val_1 l its.toArray n x t w' hfit hsz
  refine call_meets F.slot_list_insert ⟨_, e, rfl⟩ F.entry_list_insert (F.args_list_insert_3 _ _ _) M ⟨e, ?_⟩
  refine ⟨.non, _, I.lset (its' := its.take k ++ w' :: its.drop k) hH e ?_ ((r.take k).append (.cons ry (r.drop k))) ?_, rfl, q⟩
  · show (its.toArray.extract 0 _).push w' ++ its.toArray.extract _ = _
    rw [hkk]
    apply Array.toList_inj.mp
    simp
    exact List.take_of_length_le (by rw [List.length_drop]; omega)
  · rw [List.length_append, List.length_cons, List.length_take, List.length_drop]
    omega

/-! isinstance(x, T) -/
def rIsi (K : PySem.W.Frag) (c : Value) : List V → Hp → VK → Prop := fun xs H Q => ∃ x y t b, xs = [x, y] ∧ (∀ u, RelV y u → u = c) ∧ TyOf K H x t ∧ PySem.W.kitOne K t c = some b ∧ Q (.bl b) H
theorem call_isi {c : Value} : CallR X (.builtin "isinstance") (rIsi X.K c) := by
  intro pins s σ H xs us Q I r h
  obtain ⟨x, y, t, b, rfl, hy, ty, e, q⟩ := h
  obtain ⟨u, w', rfl, r1, r2⟩ := vals2 r
  obtain rfl := hy _ r2
  exact isinst_ok I r1 ty e fun tk => ⟨.bl b, H, I.tok tk, (show RelV (.bl b) (.bool b) from rfl), q⟩
end
end L2
set_option Elab.async false
set_option linter.all false
set_option maxRecDepth 100000
/-! ### reversed(a tuple) -/
namespace NRV
open PySem
theorem rv_owner : Manifest.owners.lookup (String.ofList ['d', 'e', 's', 'r', 'e', 'v', 'e', 'r'].reverse) = some Manifest.sig_reversed := by kernel_rfl
theorem rv_slot_next : Slot "reversed" "__next__" "reversed.__next__" :=
  .of (owner := "reversed") (n := "__next__") (by rw [typeLookup_type, builtinLookup_eq_fast]; kernel_rfl) (by decide +kernel) (by decide +kernel) (by decide +kernel)
    (by first | exact .inl (by decide +kernel) | exact .inr (by decide +kernel)) (by rw [isSubtype_type]; kernel_rfl)
theorem rv_entry_next : entryFor table "reversed.__next__" = some Builtin.«reversed.__next__» := entryFor_of_tree (by kernel_rfl)
theorem rv_args_next (a : Value) : argsOk "reversed.__next__" ⟨[a], []⟩ := by
  unfold argsOk; rw [signature?_of (id := "reversed.__next__") (n := ['_', '_', 't', 'x', 'e', 'n', '_', '_']) (o := ['d', 'e', 's', 'r', 'e', 'v', 'e', 'r']) (by kernel_rfl) rv_owner]; kernel_rfl
theorem rv_slot_iter : Slot "reversed" "__iter__" "reversed.__iter__" :=
  .of (owner := "reversed") (n := "__iter__") (by rw [typeLookup_type, builtinLookup_eq_fast]; kernel_rfl) (by decide +kernel) (by decide +kernel) (by decide +kernel)
    (by first | exact .inl (by decide +kernel) | exact .inr (by decide +kernel)) (by rw [isSubtype_type]; kernel_rfl)
theorem rv_args_iter (a : Value) : argsOk "reversed.__iter__" ⟨[a], []⟩ := by
  unfold argsOk; rw [signature?_of (id := "reversed.__iter__") (n := ['_', '_', 'r', 'e', 't', 'i', '_', '_']) (o := ['d', 'e', 's', 'r', 'e', 'v', 'e', 'r']) (by kernel_rfl) rv_owner]; kernel_rfl
theorem rv_entry_iter : entryFor table "reversed.__iter__" = some Builtin.«dict_keyiterator.__iter__» :=
  entryFor_alias (id' := "dict_keyiterator.__iter__") (by kernel_rfl) (by first | rfl | decide +kernel | (unfold String.splitOn; simp +decide [String.splitOnAux])) (by decide +kernel) (by kernel_rfl)
theorem rv_slot_init : Slot "reversed" "__init__" "object.__init__" :=
  .of (owner := "object") (n := "__init__") (by rw [typeLookup_type, builtinLookup_eq_fast]; kernel_rfl) (by decide +kernel) (by decide +kernel) (by decide +kernel)
    (by first | exact .inl (by decide +kernel) | exact .inr (by decide +kernel)) (by rw [isSubtype_type]; kernel_rfl)
theorem rv_mro : mroOf (.type "reversed") = pure [.type "reversed", .type "object"] := by rw [mroOf_type]; kernel_rfl
theorem rv_lookup_new : typeLookup (.type "reversed") "__new__" = pure (some (.builtin "reversed.__new__")) := by rw [typeLookup_type, builtinLookup_eq_fast]; kernel_rfl
theorem rv_called : TypeCalled "reversed" "reversed.__new__" "object.__init__" :=
  ⟨by decide +kernel, by decide +kernel, ⟨_, _, rv_mro⟩, madeBy_type rv_mro rv_lookup_new (by decide +kernel), by decide +kernel, by rw [isSubtype_type]; kernel_rfl, rv_slot_init⟩
theorem rv_typeCall (a : Value) : checkTypeCall "reversed" ⟨[a], []⟩ = pure () := by kernel_rfl
theorem rv_newCall (a : Value) : checkBuiltinCall "reversed.__new__" ⟨[.type "reversed", a], []⟩ = pure () := by kernel_rfl
theorem rv_entry_new : entryFor table "reversed.__new__" = some Builtin.«reversed.__new__» := entryFor_of_tree (by kernel_rfl)
theorem rv_none : typeLookup (.type "tuple") "__reversed__" = pure none := by rw [typeLookup_type, builtinLookup_eq_fast]; kernel_rfl
theorem rv_sub : isSubtype (.type "reversed") (.type "reversed") = pure true := by rw [isSubtype_type]; kernel_rfl
theorem rv_nodict : isSubtype (.type "tuple") (.type "dict") = pure false := by rw [isSubtype_type]; kernel_rfl
theorem rv_newClass (a : Value) : Builtin.SmallTypes.newClass "reversed" ⟨[.type "reversed", a], []⟩ = pure (.type "reversed", [a]) := by
  unfold Builtin.SmallTypes.newClass
  simp only [isType, rv_sub, pure_bind, Bool.not_true, Bool.false_eq_true, if_false]
def rvObj (t : Addr) (i : Int) : Obj := { cls := .type "reversed", data := .fields #[.ref t, rawInt i] }
def IsRv (h : Heap) (a t : Addr) (i : Int) : Prop := ∃ o, h.get? a = some o ∧ o.cls = .type "reversed" ∧ o.data = .fields #[.ref t, rawInt i]
theorem IsRv.typeIs {s : Shared} {a t : Addr} {i : Int} (x : IsRv s.heap a t i) : s.TypeIs (.ref a) "reversed" := let ⟨o, ho, hc, _⟩ := x; ⟨o, ho, hc⟩
theorem IsRv.at {h h' : Heap} {a t : Addr} {i : Int} (x : IsRv h a t i) (e : ∀ o, h.get? a = some o → h'.get? a = some o) : IsRv h' a t i := let ⟨o, ho, r⟩ := x; ⟨o, e _ ho, r⟩
end NRV
set_option Elab.async false
set_option linter.all false
set_option maxRecDepth 100000
namespace NRV
open PySem
theorem meets_rv_new (t : Addr) (items : Array Value) (hz : items.size < 2 ^ 63) :
    Meets (Builtin.«reversed.__new__» ⟨[.type "reversed", .ref t], []⟩)
      (fun _ R s => s.heap.IsTuple t items ∧ R (.ok (.ret (.ref s.heap.objs.size))) { s with heap := s.heap.push (rvObj t ((items.size : Int) - 1)), toks := s.toks + 1 + 1 }) :=
  .of_wp fun prog w A R s h => by
    obtain ⟨hT, h⟩ := h
    have ty : s.TypeIs (.ref t) "tuple" := let ⟨o, ho, hc, _⟩ := hT; ⟨o, ho, hc⟩
    unfold Builtin.«reversed.__new__»
    refine wpAny_bind (wpAny_of_eq (rv_newClass _) ?_)
    try dsimp only
    refine wpAny_bind (wpAny_of_eq (a := ()) (by first | rfl | kernel_rfl) ?_)
    refine wpAny_bind (wpAny_of_eq (a := ()) (by first | rfl | kernel_rfl) ?_)
    try dsimp only
    refine wpAny_bind (wpAny_specialOf ty rv_none ?_)
    try dsimp only
    refine wpAny_bind ?_
    show wpAny _ _ (isInstance (.ref t) (.type "dict") >>= _) _ _ s
    refine wpAny_bind (wpAny_isInstance ty rv_nodict ?_)
    try simp only [Bool.false_eq_true, if_false]
    refine wpAny_bind (wpAny_specialOf ty F.slot_tuple_getitem.lookup ?_)
    try dsimp only
    rw [if_pos (by decide +kernel)]
    refine wpAny_pure ?_
    try simp only [Bool.not_true, Bool.false_eq_true, if_false]
    refine wpAny_bind (PyProof.Rows.len_tuple hT (by omega) ?_)
    refine wpAny_bind (wpAny_of_eq (a := some (items.size : Int)) rfl ?_)
    try dsimp only
    refine wpAny_bind (m := Builtin.SmallTypes.newRecord (Value.type "reversed") _) ?_
    unfold Builtin.SmallTypes.newRecord
    exact wpAny_newObj_type (wpAny_pure ⟨_, rfl, h⟩)
theorem next_item {prog : Program} {w : World} {A : Around} {E : Value → Shared → Prop} {s : Shared} {it t : Addr} {i : Nat} {items : Array Value} {x : Value} {Q : Option Value → Shared → Prop} (hit : IsRv s.heap it t (i : Int)) (ht : s.heap.IsTuple t items) (hx : items[i]? = some x) (hz : items.size < 2 ^ 63)
    (hQ : ∀ h', IsRv h' it t ((i : Int) - 1) → Heap.SameBut it s.heap h' → Q (some x) { s with heap := h', toks := s.toks + 1 }) : wpAny (model prog w) A (pyNext (.ref it)) Q E s := by
  obtain ⟨o, ho, hc, hd⟩ := id hit
  obtain ⟨ot, hot, hct, nt, hdt⟩ := id ht
  unfold pyNext
  refine wpAny_bind (wpAny_attempt (wpAny_callSpecial?_slot (name := Str.ofString "__next__") hit.typeIs rv_slot_next
    (wpAny_call_entry rv_slot_next hit.typeIs rv_entry_next ?_ (rv_args_next _))))
  unfold Builtin.«reversed.__next__»
  refine wpAny_bind (wpAny_of_eq (a := (Value.ref it, [])) rfl ?_)
  try dsimp only
  refine wpAny_bind (wpAny_field ho hd (x := .ref t) rfl ?_)
  refine wpAny_bind (wpAny_field ho hd (x := rawInt (i : Int)) rfl ?_)
  show wpAny _ _ (if (i : Int) < 0 then _ else _) _ _ s
  rw [if_neg (by omega)]
  have ty : s.TypeIs (.ref t) "tuple" := ⟨ot, hot, hct⟩
  refine wpAny_bind (wpAny_specialOf ty F.slot_tuple_getitem.lookup ?_)
  try dsimp only
  rw [if_neg (by simp)]
  refine wpAny_bind (wpAny_mkInt ?_)
  have hi : i < items.size := by
    rcases Nat.lt_or_ge i items.size with h | h
    · exact h
    · rw [Array.getElem?_eq_none h] at hx; cases hx
  have hix : seqIndex? (i : Int) items.size = some i := by
    have z : ¬ ((i : Int) < 0) := by omega
    simp [seqIndex?, z, hi]
  refine wpAny_bind (wpAny_attempt (PyProof.Rows.getItem_tuple (s := { s with toks := s.toks + 1 }) (k := (i : Int)) (j := i) ht (by omega) (by omega) hix hx ?_))
  try dsimp only
  refine wpAny_bind (wpAny_field (s := { s with toks := s.toks + 1 }) ho hd (x := rawInt (i : Int)) rfl ?_)
  show wpAny _ _ (setField (.ref it) 1 (rawInt ((i : Int) - 1)) >>= _) _ _ _
  refine wpAny_bind (wpAny_setField (s := { s with toks := s.toks + 1 }) ho hd (by simp) ?_)
  refine wpAny_pure ⟨x, rfl, wpAny_pure (hQ _ ?_ (Heap.SameBut.update ..))⟩
  exact ⟨_, Heap.get?_update_self _ ho (Obj.isFreed_of_fields (Obj.data_mapFields hd _)), (Obj.cls_mapFields ..).trans hc, by
    rw [Obj.data_mapFields hd]; simp⟩
theorem next_end {prog : Program} {w : World} {A : Around} {E : Value → Shared → Prop} {s : Shared} {it t : Addr} {Q : Option Value → Shared → Prop} (hh : A.handled = none) (hit : IsRv s.heap it t (-1))
    (hQ : ∀ h', Heap.ExtBut it s.heap h' → Q none { s with heap := h' }) : wpAny (model prog w) A (pyNext (.ref it)) Q E s := by
  obtain ⟨o, ho, hc, hd⟩ := id hit
  unfold pyNext
  refine wpAny_bind (wpAny_attempt (wpAny_callSpecial?_slot (name := Str.ofString "__next__") hit.typeIs rv_slot_next
    (wpAny_call_entry rv_slot_next hit.typeIs rv_entry_next ?_ (rv_args_next _))))
  unfold Builtin.«reversed.__next__»
  refine wpAny_bind (wpAny_of_eq (a := (Value.ref it, [])) rfl ?_)
  try dsimp only
  refine wpAny_bind (wpAny_field ho hd (x := .ref t) rfl ?_)
  refine wpAny_bind (wpAny_field ho hd (x := rawInt (-1)) rfl ?_)
  show wpAny _ _ (if (-1 : Int) < 0 then _ else _) _ _ s
  rw [if_pos (by decide)]
  refine wpAny_bind (wpAny_rule ?_)
  refine wpAny_bind ?_
  show wpAny _ _ (setField (.ref it) 1 (rawInt (-1)) >>= _) _ _ s
  refine wpAny_bind (wpAny_setField ho hd (by simp) ?_)
  have ho1 := Heap.get?_update_self (h := s.heap) (Obj.mapFields fun vs => vs.setIfInBounds 1 (rawInt (-1))) ho (Obj.isFreed_of_fields (Obj.data_mapFields hd _))
  have hd1 := Obj.data_mapFields hd fun vs => vs.setIfInBounds 1 (rawInt (-1))
  refine wpAny_setField ho1 hd1 (by simp) ?_
  refine wpAny_bind ?_
  show wpAny _ _ (newExc (.type "StopIteration") [] >>= _) _ _ _
  refine wpAny_bind ?_
  simp only [newExc, newTuple]
  refine wpAny_bind (wpAny_newObj_type ?_ (by size_fits))
  refine wpAny_bind (m := firstArgMember _ _) (wpAny_of_eq (a := Value.none) (by first | rfl | (simp only [firstArgMember]; rfl)) ?_)
  refine wpAny_newObj_type ?_ (by size_fits)
  simp only [raiseNew]
  refine wpAny_bind (wpAny_handled ?_)
  first | rw [show A.in1.handled = none from hh] | rw [hh]
  refine wpAny_bind (wpAny_pure (wpAny_throw ?_))
  refine wpAny_bind (wpAny_isInstance (T := "StopIteration") (b := true) ⟨_, Heap.get?_push_size _ rfl, rfl⟩ isSubtype_stop ?_)
  refine wpAny_pure (hQ _ ?_)
  exact ((((Heap.SameBut.update ..).trans (Heap.SameBut.update ..)).extBut).push _).push _
theorem self_iter {prog : Program} {w : World} {A : Around} {E : Value → Shared → Prop} {s : Shared} {it t : Addr} {i : Int} {Q : Value → Shared → Prop} (hit : IsRv s.heap it t i) (h : Q (.ref it) s) : wpAny (model prog w) A (pyIter (.ref it)) Q E s := by
  refine wpAny_pyIter_slot hit.typeIs rv_slot_iter (wpAny_call_entry rv_slot_iter hit.typeIs rv_entry_iter ?_ (rv_args_iter _))
  show wpAny _ _ (ret (.ref it)) _ _ s
  exact wpAny_pure ⟨_, rfl, "reversed", _, hit.typeIs, rv_slot_next.lookup, h⟩
theorem call_rv {prog : Program} {w : World} {A : Around} {E : Value → Shared → Prop} {s : Shared} {t : Addr} {items : Array Value} {Q : Value → Shared → Prop} (ht : s.heap.IsTuple t items) (hz : items.size < 2 ^ 63)
    (h : Q (.ref s.heap.objs.size) { s with heap := s.heap.push (rvObj t ((items.size : Int) - 1)), toks := s.toks + 1 + 1 }) : wpAny (model prog w) A (call (.type "reversed") [.ref t]) Q E s :=
  callType_new rv_called (by decide) (rv_typeCall _) (rv_newCall _) (fun obj => F.args_object_init_2 obj _) rv_entry_new (meets_rv_new t items hz) ⟨ht, ⟨_, Heap.get?_push_size _ rfl, rfl⟩, h⟩
end NRV
set_option Elab.async false
set_option linter.all false
set_option maxRecDepth 100000
/-! ### sorting by keys that are nests: what kind of keys, and how two are compared -/
namespace ND
open PySem NM PyProof.Rows
section
variable {prog : Program} {w : World} {A : Around} {E : Value → Shared → Prop} {s : Shared}
theorem nsk_first {v : Value} {t : T} {Q : Option Value → Shared → Prop} (h : ∃ a, v = Value.ref a ∧ At s.heap t a) (hq : ∀ f, (f = none ↔ t = .nil) → (∀ u, f = some u → ∃ m c, u = Value.ref c ∧ At s.heap m c) → Q f s) : wpAny (model prog w) A (firstOfTuple' v) Q E s := by
  obtain ⟨a, rfl, h⟩ := h
  obtain ⟨o, items, n, h1, h2, h3, h4⟩ := h.row
  show wpAny _ _ (typeOf (.ref a) >>= _) _ _ s
  refine wpAny_bind (wpAny_typeOf h.typeIs ?_)
  show wpAny _ _ (if (Value.type "tuple" != Value.type "tuple") = true then _ else _) _ _ _
  rw [if_neg (by decide)]
  refine wpAny_bind (listItems_at h1 h3 (wpAny_pure (hq _ ?_ fun u hu => ?_)))
  · have hl := h4.length
    cases t with
    | nil =>
      simp only [T.toList, List.length_nil, Array.length_toList] at hl
      have : items[0]? = none := Array.getElem?_eq_none (by omega)
      simp [this]
    | cons x t =>
      simp only [T.toList, List.length_cons, Array.length_toList] at hl
      have : items[0]? = some items[0] := Array.getElem?_eq_getElem (by omega)
      simp [this]
  · have hu' : items.toList[0]? = some u := by simpa using hu
    obtain ⟨hj, e⟩ := List.getElem?_eq_some_iff.mp hu'
    obtain ⟨_, c, e2, q⟩ := h4.get hj
    exact ⟨_, c, by rw [← e, e2], q⟩
theorem nsk_firsts : ∀ {ks : List Value} {ts : List T} {Q : List (Option Value) → Shared → Prop}, Row s.heap ts ks →
    (∀ fs : List (Option Value), fs.length = ks.length → (∀ f ∈ fs, ∀ u, f = some u → ∃ m c, u = Value.ref c ∧ At s.heap m c) → Q fs s) → wpAny (model prog w) A (ks.mapM firstOfTuple') Q E s
  | [], _, Q, _, h => by rw [List.mapM_nil]; exact wpAny_pure (h [] rfl fun f hf => by simp at hf)
  | k :: ks, _, Q, .cons p r, h => by
    rw [List.mapM_cons]
    refine wpAny_bind (nsk_first p fun f _ hf => ?_)
    refine wpAny_bind (nsk_firsts (Q := fun bs s' => wpAny (model prog w) A (pure (f :: bs)) Q E s') r fun fs hl hfs => wpAny_pure (h (f :: fs) (by simp [hl]) fun g hg => ?_))
    rcases List.mem_cons.mp hg with rfl | hg
    · exact hf
    · exact hfs g hg
theorem nsk_types : ∀ {ks : List Value} {Q : List Value → Shared → Prop}, (∀ k ∈ ks, ∃ m c, k = Value.ref c ∧ At s.heap m c) → Q (ks.map fun _ => Value.type "tuple") s → wpAny (model prog w) A (ks.mapM typeOf) Q E s
  | [], Q, _, h => by rw [List.mapM_nil]; exact wpAny_pure h
  | k :: ks, Q, hk, h => by
    rw [List.mapM_cons]
    obtain ⟨m, c, rfl, q⟩ := hk _ List.mem_cons_self
    refine wpAny_bind (wpAny_typeOf q.typeIs ?_)
    exact wpAny_bind (nsk_types (Q := fun bs s' => wpAny (model prog w) A (pure (Value.type "tuple" :: bs)) Q E s') (fun k hk' => hk k (List.mem_cons_of_mem _ hk')) (wpAny_pure h))
theorem nsk_one {ks : List Value} {Q : Option Value → Shared → Prop} (hk : ∀ k ∈ ks, ∃ m c, k = Value.ref c ∧ At s.heap m c) (hne : ks ≠ []) (h : Q (some (.type "tuple")) s) : wpAny (model prog w) A (oneTypeOnly' ks.toArray) Q E s := by
  rw [oneTypeOnly'_eq, List.mapM_toArray, map_eq_pure_bind]
  refine wpAny_bind (wpAny_bind (nsk_types hk (wpAny_pure ?_)))
  obtain ⟨k, r, rfl⟩ := List.exists_cons_of_ne_nil hne
  have h0 : (List.map (fun _ => Value.type "tuple") (k :: r)).toArray[0]? = some (Value.type "tuple") := by simp
  rw [h0]
  have hall : ((List.map (fun _ => Value.type "tuple") (k :: r)).toArray.all fun x => x == Value.type "tuple") = true := by
    simp
  simp only [hall, if_true]
  exact wpAny_pure h
/-- the kinds of keys that nests make -/
def NK (κ : SortKind) : Prop := κ = tuples' false ∨ κ = general' ∨ κ = oneType'
theorem nsk_kind {ks : List Value} {ts : List T} {Q : SortKind → Shared → Prop} (r : Row s.heap ts ks) (hne : ks ≠ []) (h : ∀ κ, NK κ → Q κ s) : wpAny (model prog w) A (keyKind' ks.toArray) Q E s := by
  have hks : ∀ k ∈ ks, ∃ m c, k = Value.ref c ∧ At s.heap m c := by
    clear hne h
    induction r with
    | nil => intro k hk; simp at hk
    | cons p _ ih =>
      intro k hk
      rcases List.mem_cons.mp hk with rfl | hk
      · obtain ⟨c, e, q⟩ := p
        exact ⟨_, c, e, q⟩
      · exact ih k hk
  rw [keyKind'_eq, List.mapM_toArray, map_eq_pure_bind]
  refine wpAny_bind (wpAny_bind (nsk_firsts r fun fs hl hfs => wpAny_pure ?_))
  by_cases ha : (fs.toArray.all fun x => x.isSome) = true
  · rw [if_pos ha]
    refine wpAny_bind (wpAny_rule ?_)
    have hfm : (fs.toArray.filterMap id) = (fs.filterMap id).toArray := by simp
    rw [hfm]
    have hfn : fs.filterMap id ≠ [] := by
      obtain ⟨k, r', rfl⟩ := List.exists_cons_of_ne_nil hne
      cases fs with
      | nil => simp at hl
      | cons f fs =>
        simp at ha
        obtain ⟨u, hu⟩ := Option.isSome_iff_exists.mp ha.1
        rw [hu]; simp
    refine wpAny_bind (nsk_one (fun k hk => ?_) hfn (wpAny_pure (h _ (.inl ?_))))
    · obtain ⟨f, hf, e⟩ := List.mem_filterMap.mp hk
      exact hfs f hf k e
    · simp
  · rw [if_neg ha]
    by_cases hb : (((fs.toArray)[0]?).bind id).isSome = true
    · rw [if_pos hb]
      exact wpAny_pure (h _ (.inr (.inl rfl)))
    · rw [if_neg hb]
      refine wpAny_bind (nsk_one hks hne ?_)
      exact wpAny_pure (h _ (.inr (.inr rfl)))
theorem nsk_oneF {x y : T} {a b : Addr} {Q : Bool → Shared → Prop} (hu : A.units + x.depth < cLine) (hx : At s.heap x a) (hy : At s.heap y b) (h : Q (T.lt x y) s) : wpAny (model prog w) A (oneLt' false (.ref a) (.ref b)) Q E s := by
  rw [oneLt'_eq]
  simp only [Bool.false_eq_true, if_false]
  exact wpAny_bind (show wpAny (model prog w) A (richCompare .Lt (.ref a) (.ref b)) _ E s from clt_nest x y hu hx hy (wpAny_truthy_bool h))
theorem nsk_oneT {x y : T} {a b : Addr} {Q : Bool → Shared → Prop} (hu : A.units + x.depth < cLine) (hx : At s.heap x a) (hy : At s.heap y b) (h : Q (T.lt x y) s) : wpAny (model prog w) A (oneLt' true (.ref a) (.ref b)) Q E s := by
  obtain ⟨xs, t1, r1⟩ := hx.isTuple
  obtain ⟨ys, t2, r2⟩ := hy.isTuple
  obtain ⟨⟨cls, dd, data, sl⟩, ho, hc, n, hd⟩ := id t1
  obtain ⟨⟨cls2, dd2, data2, sl2⟩, ho2, hc2, n2, hd2⟩ := id t2
  simp only at hc hd hc2 hd2
  subst hc hd hc2 hd2
  rw [lt_lex] at h
  rw [oneLt'_eq]
  simp only [if_true]
  refine wpAny_bind (wpAny_cRoomFor (by omega) ?_)
  refine wpAny_bind (wpAny_callSpecialIfBound?_slot hx.typeIs PySem.F.slot_tuple_lt (call_meets PySem.F.slot_tuple_lt ⟨_, ho, rfl⟩ PySem.F.entry_tuple_lt (PySem.F.args_tuple_lt_2 _ _) (tuple_lt_row a b xs ys n n2 dd dd2 sl sl2 x.toList y.toList fun m _ m' {prog w A E s a b Q} => clt_nest m m') ⟨fun m hm => ?_, r1, r2, ho, ho2, ?_⟩))
  · have := T.mem_depth hm; show A.units + 1 + m.depth < cLine; omega
  · exact wpAny_truthy_bool h
theorem nsk_lt {κ : SortKind} (hk : NK κ) {x y : T} {a b : Addr} {Q : Bool → Shared → Prop} (hu : A.units + x.depth < cLine) (hx : At s.heap x a) (hy : At s.heap y b) (h : Q (T.lt x y) s) : wpAny (model prog w) A (keyLt' κ (.ref a) (.ref b)) Q E s := by
  rcases hk with rfl | rfl | rfl
  · obtain ⟨o, xs, n, h1, _, h3, r1⟩ := hx.row
    obtain ⟨o2, ys, n2, g1, _, g3, r2⟩ := hy.row
    show wpAny _ _ (Builtin.List.listItems (.ref a) >>= _) _ _ s
    refine wpAny_bind (listItems_at h1 h3 (wpAny_bind (listItems_at g1 g3 ?_)))
    refine wpAny_bind ?_
    have key : ∀ (vs ws : List Value) (i : Nat) (xs' ys' : List T), (∀ m ∈ xs', m ∈ x.toList) → Row s.heap xs' vs → Row s.heap ys' ws → xs'.length + ys.size = ys'.length + xs.size → lex T.lt xs' ys' = T.lt x y →
        wpAny (model prog w) A (forIn ((vs.zip ws).zipIdx i) ((none, ()) : Option Bool × Unit) fun (z : (Value × Value) × Nat) (_ : Option Bool × Unit) => (match z with
          | ((p, q), i) => do
            let e ← eqBool p q
            if (!e) = true then do let r ← oneLt' (false && i == 0) p q; pure (ForInStep.done (some r, ())) else pure (ForInStep.yield (none, ())) : Sem (ForInStep (Option Bool × Unit))))
          (fun r s' => s' = s ∧ (r = (some (T.lt x y), ()) ∨ (r = (none, ()) ∧ decide (xs.size < ys.size) = T.lt x y))) E s := by
      intro vs
      induction vs with
      | nil =>
        intro ws i xs' ys' hs hr hr2 hl he
        cases hr
        rw [List.zip_nil_left, List.zipIdx_nil, List.forIn_nil]
        refine wpAny_pure ⟨rfl, .inr ⟨rfl, ?_⟩⟩
        rw [← he]
        cases hr2 with
        | nil => simp only [List.length_nil] at hl; exact decide_eq_false (by omega)
        | cons _ _ => simp only [List.length_nil, List.length_cons] at hl; exact decide_eq_true (by omega)
      | cons v vs ih =>
        intro ws i xs' ys' hs hr hr2 hl he
        cases hr with
        | @cons k1 _ ks1 _ p1 q1 =>
          cases hr2 with
          | nil =>
            rw [List.zip_nil_right, List.zipIdx_nil, List.forIn_nil]
            refine wpAny_pure ⟨rfl, .inr ⟨rfl, ?_⟩⟩
            rw [← he]
            simp only [List.length_nil, List.length_cons] at hl
            exact decide_eq_false (by omega)
          | @cons k2 u ks2 us p2 q2 =>
            obtain ⟨c1, rfl, p1⟩ := p1
            obtain ⟨c2, rfl, p2⟩ := p2
            simp only [List.length_cons] at hl
            simp only [lex] at he
            have hm := hs k1 (by simp)
            have hd := T.mem_depth hm
            rw [List.zip_cons_cons, List.zipIdx_cons, List.forIn_cons]
            refine wpAny_bind (wpAny_bind (eq_nest k1 k2 (by omega) p1 p2 ?_))
            by_cases e : k1 = k2
            · rw [decide_eq_true e]
              rw [if_pos e] at he
              simp only [Bool.not_true, Bool.false_eq_true, if_false]
              exact wpAny_pure (ih us (i + 1) ks1 ks2 (fun m hm => hs m (by simp [hm])) q1 q2 (by omega) he)
            · rw [decide_eq_false e]
              rw [if_neg e] at he
              simp only [Bool.not_false, if_true, Bool.false_and]
              exact wpAny_bind (nsk_oneF (by omega) p1 p2 (wpAny_pure (wpAny_pure ⟨rfl, .inl (by rw [he])⟩)))
    have hl1 := r1.length
    have hl2 := r2.length
    simp only [Array.length_toList] at hl1 hl2
    refine wpAny_mono (key xs.toList ys.toList 0 x.toList y.toList (fun _ h => h) r1 r2 (by omega) (by rw [lt_lex])) (fun r s' hr => ?_) fun _ _ h => h
    obtain ⟨rfl, rfl | ⟨rfl, e⟩⟩ := hr
    · exact wpAny_pure h
    · refine wpAny_pure ?_
      show Q (decide (xs.size < ys.size)) s'
      rw [e]; exact h
  · exact nsk_oneF hu hx hy h
  · exact nsk_oneT hu hx hy h
end
end ND
set_option Elab.async false
set_option linter.all false
set_option maxRecDepth 100000
/-! ### walking a dict whatever its keys are -/
namespace ND
open PySem NM
/-- the dict at d, by its entries -/
def RawD (h : Heap) (d : Addr) (es : Array DictEntry) (ep : Nat) : Prop := ∃ o, h.get? d = some o ∧ o.ExactDict ∧ o.data = .dict es ep
theorem RawD.typeIs {s : Shared} {d : Addr} {es : Array DictEntry} {ep : Nat} (x : RawD s.heap d es ep) : s.TypeIs (.ref d) "dict" := let ⟨o, ho, hc, _⟩ := x; ⟨o, ho, hc.1⟩
theorem RawD.at {h h' : Heap} {d : Addr} {es : Array DictEntry} {ep : Nat} (x : RawD h d es ep) (e : ∀ o, h.get? d = some o → h'.get? d = some o) : RawD h' d es ep := let ⟨o, ho, r⟩ := x; ⟨o, e o ho, r⟩
theorem RawD.lt {h : Heap} {d : Addr} {es : Array DictEntry} {ep : Nat} (x : RawD h d es ep) : d < h.objs.size := let ⟨_, ho, _⟩ := x; Heap.lt_size ho
section
variable {prog : Program} {w : World} {A : Around} {E : Value → Shared → Prop} {s : Shared} {d it : Addr} {es : Array DictEntry} {ep i : Nat}
theorem raw_iter {Q : Value → Shared → Prop} (nsys : (d == sysModules) = false) (raw : RawD s.heap d es ep)
    (fin : Q (.ref s.heap.objs.size) { s with heap := s.heap.push { cls := .type "dict_keyiterator", data := .fields #[.ref d, .int 0 0, .int es.size 0, .int ep 0] } }) : wpAny (model prog w) A (pyIter (.ref d)) Q E s := by
  obtain ⟨o, at_d, _, dat⟩ := id raw
  have ty := raw.typeIs
  refine wpAny_pyIter_slot ty F.slot_dict_iter (wpAny_call_entry F.slot_dict_iter ty F.entry_dict_iter ?go (F.args_dict_iter_1 _))
  case go =>
    unfold Builtin.«dict.__iter__»
    refine wpAny_bind ?plain
    case plain =>
      unfold Builtin.Dict.dictSlotNone
      refine wpAny_bind (wpAny_notOrdered_dict ty (show wpAny _ _ (pure (Value.ref d)) _ _ s from wpAny_pure ?all))
      case all =>
        show wpAny _ _ (Builtin.Dict.showsAll d >>= _) _ _ s
        unfold Builtin.Dict.showsAll
        rw [nsys]
        simp only [Bool.false_eq_true, if_false]
        refine wpAny_bind (wpAny_pure (wpAny_bind (wpAny_dictEntries at_d dat (wpAny_bind (wpAny_dictEpoch at_d dat ?_)))))
        refine wpAny_bind (wpAny_newObj_type (wpAny_pure ⟨_, rfl, "dict_keyiterator", _, ⟨_, Heap.get?_push_size _ rfl, rfl⟩, F.slot_dict_keyiterator_next.lookup, ?_⟩))
        simpa [rawInt] using fin
theorem raw_item {Q : Option Value → Shared → Prop} (st : s.heap.IsKeyIter it d i es.size ep) (raw : RawD s.heap d es ep) (hi : i < es.size)
    (fin : ∀ h', h'.IsKeyIter it d (i + 1) es.size ep → Heap.SameBut it s.heap h' → Q (some es[i].key) { s with heap := h' }) : wpAny (model prog w) A (pyNext (.ref it)) Q E s := by
  obtain ⟨o, at_i, ci, di⟩ := id st
  obtain ⟨od, at_d, _, dat⟩ := id raw
  have ty := st.typeIs
  unfold pyNext
  refine wpAny_bind (wpAny_attempt (wpAny_callSpecial?_slot (name := Str.ofString "__next__") ty F.slot_dict_keyiterator_next (wpAny_call_entry F.slot_dict_keyiterator_next ty F.entry_dict_keyiterator_next ?go (F.args_dict_keyiterator_next_1 _))))
  case go =>
    refine wpAny_bind (wpAny_pure (wpAny_bind (wpAny_bind ?_)))
    first | refine wpAny_bind (wpAny_typeNameOfWhole_keyiter ty (wpAny_pure ?_)) | refine wpAny_bind (wpAny_typeNameOf_keyiter ty (wpAny_pure ?_))
    refine wpAny_bind (wpAny_fieldsOf at_i di ?_)
    simp only [show Builtin.Dict_items.ownsTuple "dict_keyiterator" = false by decide, Bool.false_eq_true, if_false]
    show wpAny _ _ (if (Value.ref d == Value.none) = true then _ else _) _ _ s
    rw [if_neg (show ¬ (Value.ref d == Value.none) = true from Bool.false_ne_true)]
    refine wpAny_bind (wpAny_pure (wpAny_bind (wpAny_dictEntries at_d dat ?_)))
    rw [if_neg (by simp)]
    refine wpAny_bind (wpAny_pure (wpAny_bind (wpAny_dictEpoch at_d dat ?_)))
    rw [if_neg (by simp)]
    refine wpAny_pure ?_
    simp only [show ¬ ((i : Int) < 0) by omega, if_false, Int.toNat_natCast, Array.getElem?_eq_getElem hi]
    refine wpAny_bind ?_
    first | refine wpAny_bind (wpAny_typeNameOfWhole_keyiter ty (wpAny_pure ?_)) | refine wpAny_bind (wpAny_typeNameOf_keyiter ty (wpAny_pure ?_))
    refine wpAny_bind (wpAny_isOneOf_keyiter ty (show wpAny _ _ (setField (.ref it) 1 (rawInt ((i : Int) + 1)) >>= _) _ _ s from wpAny_bind (wpAny_setField at_i di (by simp) ?_)))
    have st' : (s.heap.update it (Obj.mapFields (·.setIfInBounds 1 (rawInt ((i : Int) + 1))))).IsKeyIter it d (i + 1) es.size ep := by
      refine ⟨_, Heap.get?_update_self _ at_i (Obj.isFreed_of_fields (Obj.data_mapFields di _)), (Obj.cls_mapFields ..).trans ci, ?_⟩
      rw [Obj.data_mapFields di]
      simp [rawInt]
    refine wpAny_bind (wpAny_holding (wpAny_bind (wpAny_isOneOf_keyiter (s := { s with heap := s.heap.update it (Obj.mapFields (·.setIfInBounds 1 (rawInt ((i : Int) + 1)))) }) st'.typeIs ?_)))
    show wpAny _ _ (pure es[i].key) _ _ _
    exact wpAny_pure (wpAny_pure ⟨_, rfl, wpAny_pure (fin _ st' (Heap.SameBut.update ..))⟩)
theorem raw_end {Q : Option Value → Shared → Prop} (hh : A.handled = none) (st : s.heap.IsKeyIter it d i es.size ep) (raw : RawD s.heap d es ep) (hi : es.size ≤ i)
    (fin : ∀ h', Heap.ExtBut it s.heap h' → Q none { s with heap := h' }) : wpAny (model prog w) A (pyNext (.ref it)) Q E s := by
  obtain ⟨o, at_i, ci, di⟩ := id st
  obtain ⟨od, at_d, _, dat⟩ := id raw
  have ty := st.typeIs
  unfold pyNext
  refine wpAny_bind (wpAny_attempt (wpAny_callSpecial?_slot (name := Str.ofString "__next__") ty F.slot_dict_keyiterator_next (wpAny_call_entry F.slot_dict_keyiterator_next ty F.entry_dict_keyiterator_next ?go (F.args_dict_keyiterator_next_1 _))))
  case go =>
    refine wpAny_bind (wpAny_pure (wpAny_bind (wpAny_bind ?_)))
    first | refine wpAny_bind (wpAny_typeNameOfWhole_keyiter ty (wpAny_pure ?_)) | refine wpAny_bind (wpAny_typeNameOf_keyiter ty (wpAny_pure ?_))
    refine wpAny_bind (wpAny_fieldsOf at_i di ?_)
    simp only [show Builtin.Dict_items.ownsTuple "dict_keyiterator" = false by decide, Bool.false_eq_true, if_false]
    show wpAny _ _ (if (Value.ref d == Value.none) = true then _ else _) _ _ s
    rw [if_neg (show ¬ (Value.ref d == Value.none) = true from Bool.false_ne_true)]
    refine wpAny_bind (wpAny_pure (wpAny_bind (wpAny_dictEntries at_d dat ?_)))
    rw [if_neg (by simp)]
    refine wpAny_bind (wpAny_pure (wpAny_bind (wpAny_dictEpoch at_d dat ?_)))
    rw [if_neg (by simp)]
    refine wpAny_pure ?_
    simp only [show ¬ ((i : Int) < 0) by omega, if_false, Int.toNat_natCast, Array.getElem?_eq_none hi]
    refine wpAny_bind ?_
    first | refine wpAny_bind (wpAny_typeNameOfWhole_keyiter ty (wpAny_pure ?_)) | refine wpAny_bind (wpAny_typeNameOf_keyiter ty (wpAny_pure ?_))
    show wpAny _ _ (setField (.ref it) 0 .none >>= _) _ _ s
    refine wpAny_bind (wpAny_setField at_i di (by simp) (show wpAny _ _ (newExc (.type "StopIteration") [] >>= _) _ _ _ from wpAny_bind ?_))
    simp only [newExc, newTuple]
    refine wpAny_bind (wpAny_newObj_type (wpAny_bind (m := firstArgMember _ _) (wpAny_of_eq (a := Value.none) (by first | rfl | (simp only [firstArgMember]; rfl)) (wpAny_newObj_type ?_ (by size_fits)))) (by size_fits))
    simp only [raiseNew]
    refine wpAny_bind (wpAny_handled ?_)
    rw [show A.in1.handled = none from hh]
    refine wpAny_bind (wpAny_pure (wpAny_throw ?_))
    refine wpAny_bind (wpAny_isInstance (b := true) (T := "StopIteration") ⟨_, Heap.get?_push_size _ rfl, rfl⟩ isSubtype_stop ?_)
    exact wpAny_pure (fin _ (((Heap.SameBut.update ..).extBut.push _).push _))
end
theorem raw_walks {prog : Program} {w : World} {A : Around} (hh : A.handled = none) (it d : Addr) (hne : d ≠ it) (es : Array DictEntry) (ep : Nat) :
    Walks prog w A it [it, d] [it] es.size (fun i v => ∃ hi : i < es.size, v = es[i].key) (fun i h => h.IsKeyIter it d i es.size ep ∧ RawD h d es ep) where
  sub := fun b hb => by simp at hb; simp [hb]
  frame := fun _ _ _ st hk => ⟨st.1.at fun o e => hk it (by simp) o e, st.2.at fun o e => hk d (by simp) o e⟩
  item := fun i s Q E hi st hQ => raw_item st.1 st.2 hi fun h' st' hs' => hQ _ h' s.toks ⟨hi, rfl⟩ ⟨st', st.2.at fun o e => (hs'.2 d hne).trans e⟩ fun b o hb e => hs'.extBut b o (fun z => hb (by simp [z])) e
  done := fun s Q E st hQ => raw_end hh st.1 st.2 (Nat.le_refl _) fun h' he' => hQ h' s.toks fun b o hb e => he' b o (fun z => hb (by simp [z])) e
  self := fun _ _ _ _ st hQ => wpAny_pyIter_keyiter st.1 hQ
end ND
set_option Elab.async false
set_option linter.all false
set_option maxRecDepth 100000
namespace L2
open PySem PySem.Spec PyProof.Rows NM ND

/-! ### reversed(a tuple), walked -/
def Itv (a : Addr) (n : Nat) : It := ⟨fun i H => ∃ xs, H a = some (.tup xs) ∧ xs.length = n ∧ i < n, fun i H x H' => H' = H ∧ ∀ xs, H a = some (.tup xs) → xs.reverse[i]? = some x, fun i H => n ≤ i⟩
theorem turn_rev {P : Program} {w : World} {K : PySem.W.Frag} {tg : Expr} (a it : Addr) (n : Nat) : Turn P w K tg (Itv a n) [it] it (fun i h => i ≤ n ∧ NRV.IsRv h it a ((n : Int) - 1 - (i : Nat))) where
  mem := by simp
  obj := fun i h st b hb => by
    have e : b = it := by simpa using hb
    subst e
    obtain ⟨_, o, e, c, d⟩ := st
    exact ⟨o, e, fun v z => by rw [d] at z; cases z⟩
  keep := fun i h h' st k => ⟨st.1, st.2.at fun o e => k it (by simp) o e⟩
  item := by
    intro X hP hw hK hc i pins s σ H E I hf st hg
    subst hP hw hK
    obtain ⟨xs, hH, hl, hi⟩ := hg
    obtain ⟨its, rv, p, hz⟩ := I.tuple (SqT.of (K := X.K) hH)
    have hrl := rv.length
    have hn := line63
    have hx : xs[n - 1 - i]? = some (xs[n - 1 - i]'(by omega)) := List.getElem?_eq_getElem (by omega)
    obtain ⟨u, hu, ru⟩ := rv.get hx
    obtain ⟨f0, f1, f2, f3, f4, f5⟩ := hf it (by simp)
    have hit : NRV.IsRv s.heap it a ((n - 1 - i : Nat) : Int) := by
      have := st.2
      rwa [show (n : Int) - 1 - ((i : Nat) : Int) = ((n - 1 - i : Nat) : Int) by omega] at this
    refine NRV.next_item hit p (x := u) (by simpa using hu) (by rw [List.size_toArray]; omega) fun h' st' sb => ?_
    have I1 : Inv X pins σ H { s with heap := h', toks := s.toks + 1 } := I.turned (fun b o hb e => (sb.2 b hb).trans e) f0 f1 f3 f4 f5
    have st2 : NRV.IsRv h' it a ((n : Int) - 1 - ((i + 1 : Nat) : Int)) := by
      rwa [show ((n - 1 - i : Nat) : Int) - 1 = (n : Int) - 1 - ((i + 1 : Nat) : Int) by omega] at st'
    obtain ⟨o, e, c, d⟩ := id st2
    refine ⟨u, rfl, go_of (s := { s with heap := h', toks := s.toks + 1 }) e c d (by decide) ⟨_, H, I1, ru, ⟨rfl, fun ys hy => ?_⟩, ⟨hi, st2⟩, fun b hb => (hf b hb).1⟩⟩
    rw [hH] at hy; cases hy
    rw [List.getElem?_reverse (by omega)]
    subst hl
    exact hx
  done := by
    intro X hP hw hK hc i pins s σ H E I hf st hg
    subst hP hw hK
    have hg : n ≤ i := hg
    obtain ⟨f0, f1, f2, f3, f4, f5⟩ := hf it (by simp)
    have hit : NRV.IsRv s.heap it a (-1) := by
      have := st.2
      have h1 := st.1
      rwa [show (n : Int) - 1 - ((i : Nat) : Int) = -1 by omega] at this
    exact NRV.next_end (I.ok.hd hc) hit fun h' eb => ⟨rfl, I.turned (t' := s.toks) (fun b o hb e => eb b o hb e) f0 f1 f3 f4 f5⟩
  self := fun _ _ _ _ _ st h => NRV.self_iter st.2 h
section
variable {X : Cx} {tg : Expr}
def iRev (ta : TA) : TI := fun σ H R => ta σ H fun vs H1 => ∃ a xs, vs = [.ref a] ∧ H1 a = some (.tup xs) ∧ (xs.length ≤ sizeLine → R (Itv a xs.length) H1)
theorem pi_rev {e : Expr} {ta : TA} {p pos : Pos} (hg : Gl X "reversed") (hm : X.mg "reversed" = none) (ha : PA X [e] ta) (hs : starEach [e] X.env = [(false, eval e X.env)] := by rfl) : PI X tg (.Call (.Name "reversed" p) [e] [] pos) (iRev ta) := by
  intro pins s σ H R I h
  refine Call_ (ld_blt I hg hm boot_reversed (PyProof.Rows.callWith_type1 (thn (ha pos pins s σ H _ I h) fun us s1 ⟨vs, H1, I1, r1, q1⟩ => ?_) hs rfl))
  obtain ⟨a, xs, e, hH, q⟩ := q1
  subst e
  obtain ⟨u, rfl, ru⟩ := vals1 r1
  cases ru
  obtain ⟨its, rv, pl, hz⟩ := I1.tuple (SqT.of (K := X.K) hH)
  have hn := line63
  have hrl := rv.length
  refine NRV.call_rv pl (by rw [List.size_toArray]; omega) ?_
  have st : NRV.IsRv (s1.heap.push (NRV.rvObj a ((its.toArray.size : Int) - 1))) s1.heap.objs.size a ((xs.length : Int) - 1 - ((0 : Nat) : Int)) := by
    refine ⟨_, Heap.get?_push_size _ rfl, rfl, ?_⟩
    show Data.fields #[.ref a, rawInt ((its.toArray.size : Int) - 1)] = _
    rw [List.size_toArray, ← hrl]
    simp
  refine NRV.self_iter st ?_
  refine ⟨s1.heap.objs.size, [s1.heap.objs.size], _, _, H1, rfl, I1.kept (t' := s1.toks + 1 + 1) fun b o e => Heap.get?_push_of_some _ e, turn_rev a _ xs.length, ⟨Nat.zero_le _, st⟩, fun b hb => ?_, q hz⟩
  have e : b = s1.heap.objs.size := by simpa using hb
  subst e
  exact I1.fpOk (Nat.le_refl _) (I1.hok.fresh (Nat.le_refl _))
/-- a tuple, a list walked; how long it is -/
def iTupB (K : PySem.W.Frag) (tl : TE) : TI := fun σ H R => tl σ H fun x H1 => ∃ a xs, x = .ref a ∧ SqT K H1 a xs ∧ (xs.length ≤ sizeLine → R (Itt K a) H1)
def iLstB (K : PySem.W.Frag) (tl : TE) : TI := fun σ H R => tl σ H fun x H1 => ∃ a xs, x = .ref a ∧ SqL K H1 a xs ∧ (xs.length ≤ sizeLine → R (Itl K a) H1)
theorem pi_tupB {l : Expr} {tl : TE} (hl : PE X l tl) : PI X tg l (iTupB X.K tl) := by
  intro pins s σ H R I h
  refine thn (hl pins s σ H _ I h) fun v s1 ⟨x, H1, I1, r1, q1⟩ => ?_
  obtain ⟨a, xs, e, hq, q⟩ := q1
  subst e
  cases r1
  obtain ⟨its, rv, p, hz⟩ := I1.tuple hq
  refine wpAny_pyIter_tuple (show s1.heap.IsTuple a its.toArray from p) ?_
  refine ⟨s1.heap.objs.size, [s1.heap.objs.size], _, _, H1, rfl, I1.kept (t' := s1.toks) fun b o e => Heap.get?_push_of_some _ e, turn_tuple a _, ⟨_, Heap.get?_push_size _ rfl, rfl, rfl⟩, fun b hb => ?_, q hz⟩
  have e : b = s1.heap.objs.size := by simpa using hb
  subst e
  exact I1.fpOk (Nat.le_refl _) (I1.hok.fresh (Nat.le_refl _))
theorem pi_lstB {l : Expr} {tl : TE} (hl : PE X l tl) : PI X tg l (iLstB X.K tl) := by
  intro pins s σ H R I h
  refine thn (hl pins s σ H _ I h) fun v s1 ⟨x, H1, I1, r1, q1⟩ => ?_
  obtain ⟨a, xs, e, hq, q⟩ := q1
  subst e
  cases r1
  obtain ⟨its, rv, p, hz⟩ := I1.list hq
  refine wpAny_pyIter_list p.isList ?_
  refine ⟨s1.heap.objs.size, [s1.heap.objs.size], _, _, H1, rfl, I1.kept (t' := s1.toks) fun b o e => Heap.get?_push_of_some _ e, turn_list a _, ⟨_, Heap.get?_push_size _ rfl, rfl, rfl⟩, fun b hb => ?_, q hz⟩
  have e : b = s1.heap.objs.size := by simpa using hb
  subst e
  exact I1.fpOk (Nat.le_refl _) (I1.hok.fresh (Nat.le_refl _))
theorem call_lenB : CallR X (.builtin "len") (fun xs H Q => ∃ p ys, xs = [.ref p] ∧ (SqL X.K H p ys ∨ SqT X.K H p ys) ∧ (ys.length ≤ sizeLine → Q (.int ys.length) H)) := by
  intro pins s σ H xs us Q I r h
  obtain ⟨p, ys, rfl, hq, q⟩ := h
  have hz : ys.length ≤ sizeLine := by
    rcases hq with hq | hq
    · exact (I.list hq).choose_spec.2.2
    · exact (I.tuple hq).choose_spec.2.2
  exact call_len_seq pins s σ H [.ref p] us Q I r ⟨p, ys, rfl, hq, q hz⟩
end
theorem runs_rev {a : Addr} {xs : List V} : Runs (Itv a xs.length) xs.reverse fun H => H a = some (.tup xs) :=
  ⟨fun i H hi h => ⟨xs, h, rfl, by simpa using hi⟩, fun i H y H' _ h hy => ⟨hy.1, hy.2 xs h⟩, fun i H hi h => by (show xs.length ≤ i); simpa using hi⟩

/-! ### enumerate(a list), walked -/
/-- untracked records turn, and a new object is laid -/
theorem Inv.turnLaid {X : Cx} {pins : List (Addr × Obj)} {σ : St} {H : Hp} {s : Shared} {ch : List Addr} {a : Addr} {o : HO} {h' : Heap} {t' : Nat} (I : Inv X pins σ H s) (hf : ∀ b ∈ ch, FpOk X pins H b) (k : ∀ b u, b ∉ ch → s.heap.get? b = some u → h'.get? b = some u)
    (hp : s.heap.objs.size ≤ a) (new : ObjOk X.prog X.w (upd H a o) h' a o) : Inv X pins σ (upd H a o) { s with heap := h', toks := t' } := by
  have hn : H a = none := I.hok.fresh hp
  have nt : ∀ b u, H b = some u → b ∉ ch := fun b u e z => by rw [(hf b z).1] at e; cases e
  have nL : X.env.locals ∉ ch := fun z => (hf _ z).2.1 rfl
  refine I.step (g' := s.gens) (d' := s.drawn) (ch := ch) (fun b hb => ?_) (fun b ob _ _ hc e _ => k b ob hc e) (fun b ob _ _ hc e _ => ⟨ob.slots, k b ob hc e⟩) (fun b ob hc e n => ?_) (fun b ob hc e => ⟨ob, k b ob hc e⟩) (fun b xs e => ?_) (fun b ob u e => ?_) (fun b ps e => ⟨#[], ?_⟩) (fun m hm => hm.at' fun ob e => k _ ob nL e) (fun b u e => ?_) I.bare
  · obtain ⟨_, z1, _, z3, z4, z5⟩ := hf b hb
    exact ⟨z3, z1, z4, z5⟩
  · rw [upd_ne (Nat.ne_of_lt (Nat.lt_of_lt_of_le (Heap.lt_size e) hp))]; exact n
  · rw [upd_ne (ne_of_none e hn)]; exact e
  · rw [upd_ne (ne_of_none e hn)]; exact e
  · rw [upd_ne (ne_of_none e hn), e]; simp
  · by_cases hb : b = a
    · subst hb; rw [upd_same] at e; cases e; exact new
    · rw [upd_ne hb] at e
      refine (I.hok b u e).stay (fun c v hc q => k c v ?_ q) (fun c q => by rw [upd_ne (ne_of_none q hn)]; exact q) fun c xs q => by rw [upd_ne (ne_of_none q hn)]; exact q
      rcases hc with rfl | hc
      · exact nt _ _ e
      · exact nt _ _ hc
def Ite (K : PySem.W.Frag) (a : Addr) (xs : List V) : It := ⟨fun i H => SqL K H a xs ∧ i < xs.length, fun i H x H' => ∃ T v, H T = none ∧ x = .ref T ∧ H' = upd H T (.tup [.int (i : Int), v]) ∧ xs[i]? = some v, fun i H => SqL K H a xs ∧ xs.length ≤ i⟩
section
variable {X : Cx} {es : List Expr} {k : Nat} {pos' : Pos}
def iEnum (K : PySem.W.Frag) (ta : TA) : TI := fun σ H R => ta σ H fun vs H1 => ∃ a xs, vs = [.ref a] ∧ SqL K H1 a xs ∧ R (Ite K a xs) H1
end
end L2
set_option linter.all false
/-! ### sorting under a strict total order, by what it asks -/
namespace KSP
open PySem PySem.W PyProof.Rows

/-- along the answers b: only places below n are asked, and the end has P -/
def RunP (b : Nat → Nat → Bool) (n : Nat) {α : Type} : KasT α → (α → Prop) → Prop
  | .ret a, P => P a
  | .ask i j k, P => i < n ∧ j < n ∧ RunP b n (k (b i j)) P
theorem RunP.bind {b : Nat → Nat → Bool} {n : Nat} {α β : Type} {f : α → KasT β} {P : β → Prop} : ∀ (t : KasT α), RunP b n t (fun a => RunP b n (f a) P) → RunP b n (t.bind f) P
  | .ret _, h => h
  | .ask i j k, h => ⟨h.1, h.2.1, RunP.bind (k (b i j)) h.2.2⟩
theorem RunP.mono {b : Nat → Nat → Bool} {n : Nat} {α : Type} {P P' : α → Prop} (hp : ∀ a, P a → P' a) : ∀ (t : KasT α), RunP b n t P → RunP b n t P'
  | .ret a, h => hp a h
  | .ask i j k, h => ⟨h.1, h.2.1, RunP.mono hp (k (b i j)) h.2.2⟩
theorem RunP.wp {b : Nat → Nat → Bool} {n : Nat} {α : Type} {P : α → Prop} {cmp : Nat → Nat → (Bool → Shared → Prop) → Shared → Prop} {Q : α → Shared → Prop} {s : Shared}
    (hc : ∀ i j (C : Bool → Shared → Prop), i < n → j < n → C (b i j) s → cmp i j C s) (hq : ∀ a, P a → Q a s) : ∀ (t : KasT α), RunP b n t P → t.kasWp cmp Q s
  | .ret a, h => hq a h
  | .ask i j k, h => hc i j _ h.1 h.2.1 (RunP.wp hc hq (k (b i j)) h.2.2)

structure TotN (b : Nat → Nat → Bool) (n : Nat) : Prop where
  tri : ∀ i j, i < n → j < n → i ≠ j → b i j = !b j i
  tr : ∀ i j k, i < n → j < n → k < n → b i j = true → b j k = true → b i k = true
structure Good (n : Nat) (p : Array Nat) : Prop where
  perm : p.toList.Perm (List.range n)
theorem Good.size {n : Nat} {p : Array Nat} (g : Good n p) : p.size = n := by
  have := g.perm.length_eq
  simpa using this
theorem getD_eq (p : Array Nat) (i : Nat) : p.getD i 0 = (p[i]?).getD 0 := by simp [Array.getD_eq_getD_getElem?]
theorem Good.lt {n : Nat} {p : Array Nat} (g : Good n p) (i : Nat) (h : 0 < n) : p.getD i 0 < n := by
  by_cases hi : i < p.size
  · rw [getD_eq, Array.getElem?_eq_getElem hi]
    have : p[i] ∈ p.toList := by simp
    have := (g.perm.mem_iff).mp this
    simpa using this
  · rw [getD_eq, Array.getElem?_eq_none (by omega)]
    exact h
theorem Good.ne {n : Nat} {p : Array Nat} (g : Good n p) {i j : Nat} (hi : i < n) (hj : j < n) (h : i ≠ j) : p.getD i 0 ≠ p.getD j 0 := by
  have nd : p.toList.Nodup := g.perm.nodup_iff.mpr List.nodup_range
  have hs := g.size
  have hi' : i < p.toList.length := by simp; omega
  have hj' : j < p.toList.length := by simp; omega
  rw [getD_eq, getD_eq, Array.getElem?_eq_getElem (by omega), Array.getElem?_eq_getElem (by omega)]
  intro e
  apply h
  have e' : p.toList[i] = p.toList[j] := by simpa using e
  exact (List.getElem_inj nd).mp e'
section
variable {b : Nat → Nat → Bool} {n : Nat} {p : Array Nat}
def Up (b : Nat → Nat → Bool) (p : Array Nat) (k : Nat) : Prop := ∀ i j, i < j → j < k → b (p.getD i 0) (p.getD j 0) = true
def Dn (b : Nat → Nat → Bool) (p : Array Nat) (k : Nat) : Prop := ∀ i j, i < j → j < k → b (p.getD j 0) (p.getD i 0) = true
theorem flip (h : TotN b n) (g : Good n p) {i j : Nat} (hi : i < n) (hj : j < n) (hne : i ≠ j) (hb : b (p.getD i 0) (p.getD j 0) = false) : b (p.getD j 0) (p.getD i 0) = true := by
  have := h.tri _ _ (g.lt j (by omega)) (g.lt i (by omega)) (g.ne hj hi (Ne.symm hne))
  rw [this, hb]; rfl
theorem asc (h : TotN b n) (g : Good n p) : ∀ (f m : Nat), 1 ≤ m → m + f ≤ n → Up b p m → RunP b n (kas_asc p f m) (fun m' => m ≤ m' ∧ m' ≤ m + f ∧ Up b p m' ∧ (m' < m + f → b (p.getD m' 0) (p.getD (m' - 1) 0) = true))
  | 0, m, h1, h2, u => ⟨Nat.le_refl _, Nat.le_refl _, u, fun z => by omega⟩
  | f + 1, m, h1, h2, u => by
    refine ⟨g.lt _ (by omega), g.lt _ (by omega), ?_⟩
    cases c : b (p.getD m 0) (p.getD (m - 1) 0) with
    | true => dsimp only; rw [if_pos rfl]; exact ⟨Nat.le_refl _, by omega, u, fun _ => c⟩
    | false =>
      dsimp only
      rw [if_neg Bool.false_ne_true]
      have q := flip h g (by omega) (by omega) (by omega) c
      refine RunP.mono (fun m' ⟨a1, a2, a3, a4⟩ => ⟨by omega, by omega, a3, fun z => a4 (by omega)⟩) _ (asc h g f (m + 1) (by omega) (by omega) fun i j hij hj => ?_)
      by_cases e : j = m
      · subst e
        by_cases e2 : i = j - 1
        · subst e2; exact q
        · exact h.tr _ _ _ (g.lt _ (by omega)) (g.lt _ (by omega)) (g.lt _ (by omega)) (u i (j - 1) (by omega) (by omega)) q
      · exact u i j hij (by omega)
theorem desc (h : TotN b n) (g : Good n p) : ∀ (f m : Nat), 1 ≤ m → m + f ≤ n → Dn b p m → RunP b n (kas_desc f p m 0) (fun r => r.1 = p ∧ r.2.2 = 0 ∧ m ≤ r.2.1 ∧ r.2.1 ≤ m + f ∧ Dn b p r.2.1)
  | 0, m, h1, h2, u => ⟨rfl, rfl, Nat.le_refl _, Nat.le_refl _, u⟩
  | f + 1, m, h1, h2, u => by
    refine ⟨g.lt _ (by omega), g.lt _ (by omega), ?_⟩
    cases c : b (p.getD m 0) (p.getD (m - 1) 0) with
    | true =>
      dsimp only
      rw [if_pos rfl, if_neg (by omega)]
      refine RunP.mono (fun r ⟨a1, a2, a3, a4, a5⟩ => ⟨a1, a2, by omega, by omega, a5⟩) _ (desc h g f (m + 1) (by omega) (by omega) fun i j hij hj => ?_)
      by_cases e : j = m
      · subst e
        by_cases e2 : i = j - 1
        · subst e2; exact c
        · exact h.tr _ _ _ (g.lt _ (by omega)) (g.lt _ (by omega)) (g.lt _ (by omega)) c (u i (j - 1) (by omega) (by omega))
      · exact u i j hij (by omega)
    | false =>
      dsimp only
      rw [if_neg Bool.false_ne_true]
      refine ⟨g.lt _ (by omega), g.lt _ (by omega), ?_⟩
      rw [flip h g (by omega) (by omega) (by omega) c]
      dsimp only
      rw [if_pos rfl]
      exact ⟨rfl, rfl, Nat.le_refl _, Nat.le_add_right _ _, u⟩
theorem good_rev (g : Good n p) (i j : Nat) : Good n (kas_rev p i j) := ⟨(mirror_perm p i j _).toList.trans g.perm⟩
theorem good_bubble (g : Good n p) (k d : Nat) : Good n (bubble p k d) := ⟨(bubble_perm p k d).toList.trans g.perm⟩
theorem rev_getD (g : Good n p) {m k : Nat} (hm : m ≤ n) : (kas_rev p 0 m).getD k 0 = if k < m then p.getD (m - 1 - k) 0 else p.getD k 0 := by
  rw [getD_eq]
  unfold kas_rev
  rw [getElem?_mirror_all (by rw [g.size]; exact hm)]
  by_cases hk : k < m
  · rw [if_pos ⟨Nat.zero_le _, hk⟩, if_pos hk, getD_eq, show 0 + m - 1 - k = m - 1 - k by omega]
  · rw [if_neg (by omega), if_neg hk, getD_eq]
theorem tail3 (h : TotN b n) (g : Good n p) {m : Nat} (h1 : 1 ≤ m) (hm : m ≤ n) (u : Dn b p m) : RunP b n (kas_tail3 m n p) (fun r => 1 ≤ r.1 ∧ r.1 ≤ n ∧ Good n r.2 ∧ Up b r.2 r.1) := by
  refine RunP.bind _ (RunP.mono (fun m' ⟨a1, a2, a3, _⟩ => ?x) _ (asc h (good_rev g 0 m) (n - m) m h1 (by omega) fun i j hij hj => ?y))
  case x => exact ⟨by omega, by omega, good_rev g 0 m, a3⟩
  case y =>
    rw [rev_getD g hm, rev_getD g hm, if_pos (by omega), if_pos hj]
    exact u _ _ (by omega) (by omega)
theorem count (h : TotN b n) (g : Good n p) (hn : 2 ≤ n) : RunP b n (kas_count n p) (fun r => 1 ≤ r.1 ∧ r.1 ≤ n ∧ Good n r.2 ∧ Up b r.2 r.1) := by
  refine RunP.bind _ (RunP.mono (fun m ⟨a1, a2, a3, a4⟩ => ?_) _ (asc h g (n - 1) 1 (Nat.le_refl _) (by omega) fun i j hij hj => by omega))
  by_cases e : m = n
  · rw [if_pos (by simpa using e)]; exact ⟨a1, by omega, g, a3⟩
  · rw [if_neg (by simpa using e)]
    by_cases e1 : m > 1
    · rw [if_pos e1]
      refine ⟨g.lt _ (by omega), g.lt _ (by omega), ?_⟩
      rw [a3 0 (m - 1) (by omega) (by omega)]
      dsimp only
      rw [if_pos rfl]
      exact ⟨a1, by omega, g, a3⟩
    · rw [if_neg e1]
      have em : m = 1 := by omega
      subst em
      have c := a4 (by omega)
      refine RunP.bind _ (RunP.mono (fun r ⟨b1, b2, b3, b4, b5⟩ => ?x) _ (desc h g (n - (1 + 1)) (1 + 1) (by omega) (by omega) fun i j hij hj => ?y))
      case x =>
        rw [if_neg (by omega), b1]
        exact tail3 h g (by omega) (by omega) b5
      case y =>
        have ei : i = 0 := by omega
        have ej : j = 1 := by omega
        subst ei ej; exact c
theorem place (h : TotN b n) (g : Good n p) {k : Nat} (hk : k < n) (u : Up b p k) : ∀ (f l r : Nat), l ≤ r → r ≤ k → r - l ≤ f → (∀ i, i < l → b (p.getD i 0) (p.getD k 0) = true) → (∀ i, r ≤ i → i < k → b (p.getD k 0) (p.getD i 0) = true) →
    RunP b n (kas_place p k f l r) (fun l' => l' ≤ k ∧ (∀ i, i < l' → b (p.getD i 0) (p.getD k 0) = true) ∧ ∀ i, l' ≤ i → i < k → b (p.getD k 0) (p.getD i 0) = true)
  | 0, l, r, h1, h2, h3, h4, h5 => ⟨by omega, h4, fun i hi => h5 i (by omega)⟩
  | f + 1, l, r, h1, h2, h3, h4, h5 => by
    unfold kas_place
    by_cases e : l ≥ r
    · rw [if_pos e]; exact ⟨by omega, h4, fun i hi => h5 i (by omega)⟩
    · rw [if_neg e]
      refine ⟨g.lt _ (by omega), g.lt _ (by omega), ?_⟩
      cases c : b (p.getD k 0) (p.getD ((l + r) / 2) 0) with
      | true =>
        dsimp only
        rw [if_pos rfl]
        refine place h g hk u f l ((l + r) / 2) (by omega) (by omega) (by omega) h4 fun i hi hik => ?_
        by_cases e2 : i = (l + r) / 2
        · rw [e2]; exact c
        · exact h.tr _ _ _ (g.lt _ (by omega)) (g.lt _ (by omega)) (g.lt _ (by omega)) c (u _ i (by omega) hik)
      | false =>
        dsimp only
        rw [if_neg Bool.false_ne_true]
        have q := flip h g (by omega) (by omega) (by omega) c
        refine place h g hk u f ((l + r) / 2 + 1) r (by omega) h2 (by omega) (fun i hi => ?_) h5
        by_cases e2 : i = (l + r) / 2
        · rw [e2]; exact q
        · exact h.tr _ _ _ (g.lt _ (by omega)) (g.lt _ (by omega)) (g.lt _ (by omega)) (u i _ (by omega) (by omega)) q
theorem bubble_getD (g : Good n p) {k l j : Nat} (hk : k < n) (hl : l ≤ k) : (bubble p k (k - l)).getD j 0 = if j = l then p.getD k 0 else if l < j ∧ j ≤ k then p.getD (j - 1) 0 else p.getD j 0 := by
  rw [getD_eq, getElem?_bubble (by rw [g.size]; exact hk) _ (by omega), show k - (k - l) = l by omega]
  by_cases e1 : j = l
  · rw [if_pos e1, if_pos e1, getD_eq]
  · rw [if_neg e1, if_neg e1]
    by_cases e2 : l < j ∧ j ≤ k
    · rw [if_pos e2, if_pos e2, getD_eq]
    · rw [if_neg e2, if_neg e2, getD_eq]
theorem bin (h : TotN b n) : ∀ (f : Nat) (p : Array Nat) (k : Nat), Good n p → k + f ≤ n → Up b p k → RunP b n (kas_bin f p k) (fun p' => Good n p' ∧ Up b p' (k + f))
  | 0, p, k, g, _, u => ⟨g, u⟩
  | f + 1, p, k, g, hk, u => by
    refine RunP.bind _ (RunP.mono (fun l ⟨a1, a2, a3⟩ => ?_) _ (place h g (by omega) u k 0 k (Nat.zero_le _) (Nat.le_refl _) (by omega) (fun i hi => by omega) fun i h1 h2 => by omega))
    have e : k + (f + 1) = k + 1 + f := by omega
    rw [e]
    refine bin h f _ (k + 1) (good_bubble g k (k - l)) (by omega) fun i j hij hj => ?_
    rw [bubble_getD g (by omega) a1, bubble_getD g (by omega) a1]
    by_cases i1 : i = l
    · rw [if_pos i1, if_neg (by omega), if_pos (by omega)]
      exact a3 _ (by omega) (by omega)
    · rw [if_neg i1]
      by_cases i2 : l < i ∧ i ≤ k
      · rw [if_pos i2, if_neg (by omega), if_pos (by omega)]
        exact u _ _ (by omega) (by omega)
      · rw [if_neg i2]
        by_cases j1 : j = l
        · rw [if_pos j1]; exact a2 i (by omega)
        · rw [if_neg j1]
          by_cases j2 : l < j ∧ j ≤ k
          · rw [if_pos j2]
            exact u i (j - 1) (by omega) (by omega)
          · rw [if_neg j2]; exact u i j hij (by omega)
theorem sort (h : TotN b n) (hn : 2 ≤ n) : RunP b n (kas_sort n) (fun p => p.toList.Perm (List.range n) ∧ p.toList.Pairwise fun i j => b i j = true) := by
  have g0 : Good n (List.toArray (List.range n)) := ⟨by simp⟩
  refine RunP.bind _ (RunP.mono (fun r ⟨a1, a2, a3, a4⟩ => ?_) _ (count h g0 hn))
  have fin : ∀ p : Array Nat, Good n p → Up b p n → p.toList.Perm (List.range n) ∧ p.toList.Pairwise fun i j => b i j = true := fun p g u => by
    refine ⟨g.perm, List.pairwise_iff_getElem.mpr fun i j hi hj hij => ?_⟩
    have hs := g.size
    have q := u i j hij (by simpa [hs] using hj)
    rw [getD_eq, getD_eq, Array.getElem?_eq_getElem (by simpa using hi), Array.getElem?_eq_getElem (by simpa using hj)] at q
    simpa using q
  by_cases c : r.1 < n
  · rw [if_pos c, show max r.1 1 = r.1 by omega]
    refine RunP.mono (fun p ⟨g, u⟩ => fin p g (by rwa [show r.1 + (n - r.1) = n by omega] at u)) _ (bin h (n - r.1) r.2 r.1 a3 (by omega) a4)
  · rw [if_neg c]
    exact fin r.2 a3 (by rwa [show r.1 = n by omega] at a4)
end
end KSP
set_option Elab.async false
set_option linter.all false
set_option maxRecDepth 100000
namespace L2
open PySem PySem.Spec PyProof.Rows NM ND

/-! ### a dict with nests as keys, each told true -/
abbrev Ks := List (T × Addr)
def kx (ps : Ks) : List (T × Addr × Value) := ps.map fun p => (p.1, p.2, Value.bool true)
def DNφ (d : Addr) (ps : Ks) (h : Heap) : Prop := (d == sysModules) = false ∧ ∃ o es ep, h.get? d = some o ∧ o.ExactDict ∧ o.data = .dict es ep ∧ es.toList = ps.map fun p => (⟨ND.hash p.1, Value.ref p.2, Value.bool true⟩ : DictEntry)
def DN (d : Addr) (ps : Ks) : HO := .ext (DNφ d ps)
theorem DNφ.stay {d : Addr} {ps : Ks} {h1 h2 : Heap} (x : DNφ d ps h1) (k : ∀ o, h1.get? d = some o → h2.get? d = some o) : DNφ d ps h2 := by
  obtain ⟨a, o, es, ep, e, r⟩ := x
  exact ⟨a, o, es, ep, k o e, r⟩
theorem dn_ok {P : Program} {w : World} {H : Hp} {h : Heap} {d : Addr} {ps : Ks} (x : DNφ d ps h) : ObjOk P w H h d (DN d ps) := by
  obtain ⟨a, o, es, ep, e, r⟩ := id x
  exact ⟨x, ⟨o, e⟩, fun h1 h2 y k => y.stay k⟩
/-- its keys -/
structure KeysN (H : Hp) (ps : Ks) : Prop where
  nest : ∀ p ∈ ps, IsN H (.ref p.2) p.1
  depth : ∀ p ∈ ps, p.1.depth ≤ 7
  nd : (ps.map (·.1)).Nodup
theorem KeysN.mono {H H' : Hp} {ps : Ks} (k : KeysN H ps) (s : SameT H H') : KeysN H' ps := ⟨fun p hp => (k.nest p hp).mono s, k.depth, k.nd⟩
def putN (ps : Ks) (k : T) (a : Addr) : Ks := if k ∈ ps.map (·.1) then ps else ps ++ [(k, a)]
theorem KeysN.put {H : Hp} {ps : Ks} (K : KeysN H ps) {k : T} {a : Addr} (h : IsN H (.ref a) k) (hd : k.depth ≤ 7) : KeysN H (putN ps k a) := by
  unfold putN
  split
  · exact K
  · rename_i hk
    refine ⟨fun p hp => ?_, fun p hp => ?_, ?_⟩
    · rcases List.mem_append.mp hp with hp | hp
      · exact K.nest p hp
      · simp at hp; subst hp; exact h
    · rcases List.mem_append.mp hp with hp | hp
      · exact K.depth p hp
      · simp at hp; subst hp; exact hd
    · rw [List.map_append]
      refine List.nodup_append.mpr ⟨K.nd, by simp, fun x hx y hy e => ?_⟩
      simp at hy
      subst hy
      exact hk (e ▸ hx)
theorem kx_keys (ps : Ks) : (kx ps).map (·.1) = ps.map (·.1) := by simp [kx, Function.comp_def]
theorem atKey_kx (ps : Ks) (k : T) : (atKey (kx ps) k).isSome = decide (k ∈ ps.map (·.1)) := by
  induction ps with
  | nil => simp [kx, atKey]
  | cons p ps ih =>
    simp only [kx, atKey, List.map_cons, List.find?_cons, Option.isSome_map] at ih ⊢
    by_cases e : p.1 = k
    · subst e; simp
    · have e' : ¬ k = p.1 := fun z => e z.symm
      simp only [decide_eq_false e]
      rw [ih]
      simp [e']
theorem stored_kx (ps : Ks) (k : T) (a : Addr) : storedH (kx ps) k a (.bool true) = kx (putN ps k a) := by
  have h := atKey_kx ps k
  unfold storedH putN
  by_cases e : k ∈ ps.map (·.1)
  · rw [if_pos (by rw [h]; simpa using e), if_pos e]
    unfold kx
    rw [List.map_map]
    refine List.map_congr_left fun p _ => ?_
    show putAt k (.bool true) (p.1, p.2, Value.bool true) = _
    unfold putAt
    split <;> rfl
  · rw [if_neg (by rw [h]; simpa using e), if_neg e]
    simp [kx]
section
variable {X : Cx} {pins : List (Addr × Obj)} {σ : St} {H : Hp} {s : Shared}
theorem Inv.big' (I : Inv X pins σ H s) : sysModules < s.heap.objs.size := Nat.lt_trans (by decide) (I.mod.glob.keeps I.bk).lt
theorem Inv.dn (I : Inv X pins σ H s) {d : Addr} {ps : Ks} (h : H d = some (DN d ps)) : DNφ d ps s.heap := (I.hok d _ h).1
def tDNew : TE := fun _ H Q => ∀ p, H p = none → Q (.ref p) (upd H p (DN p []))
theorem pe_dnewN {pos : Pos} : PE X (.Dict [] [] pos) tDNew := fun pins s σ H Q I h =>
  wpAny_Dict_empty ⟨.ref s.heap.objs.size, _, I.laid (a := s.heap.objs.size) (o := DN s.heap.objs.size []) (t' := s.toks) (fun _ _ q => Heap.get?_push_of_some _ q) (Nat.le_refl _)
    (dn_ok ⟨beq_eq_false_iff_ne.mpr (Ne.symm (Nat.ne_of_lt I.big')), _, #[], 0, Heap.get?_push_size _ rfl, ⟨rfl, rfl, rfl⟩, rfl, rfl⟩), rfl, h _ (I.hok.fresh (Nat.le_refl _))⟩
theorem dictOf_dn (I : Inv X pins σ H s) {d : Addr} {ps : Ks} (h : H d = some (DN d ps)) (K : KeysN H ps) : s.heap.DictOfH (nestKind X.prog X.w) d (kx ps) := by
  obtain ⟨_, o, es, ep, e1, e2, e3, e4⟩ := I.dn h
  refine ⟨o, es, ep, e1, e2, e3, ?_, fun x hx => ?_, by rw [kx_keys]; exact K.nd⟩
  · rw [e4]; unfold kx; rw [List.map_map]; rfl
  · obtain ⟨p, hp, rfl⟩ := List.mem_map.mp hx
    exact ⟨I.nest _ _ (K.nest p hp) _ rfl, K.depth p hp⟩
/-- d[nest] = True -/
def rPutN : TSet := fun o i v H Q => ∃ d ps a k, o = .ref d ∧ i = .ref a ∧ v = .bl true ∧ H d = some (DN d ps) ∧ KeysN H ps ∧ IsN H (.ref a) k ∧ k.depth ≤ 7 ∧ ps.length < sizeLine ∧ Q (upd H d (DN d (putN ps k a)))
theorem set_dn (hu : X.A.units + 64 < cLine) : PSet X rPutN := by
  intro pins s σ H o i v ov iv u Q I ro ri rv h
  obtain ⟨d, ps, a, k, rfl, rfl, rfl, hH, K, hk, hd, hz, q⟩ := h
  cases ro
  cases ri
  cases rv
  have hm := dictOf_dn I hH K
  obtain ⟨ns, _⟩ := I.dn hH
  refine wpAny_setItem_heap (knd := nestKind X.prog X.w) (k := k) (xs := kx ps) (show X.A.units + 1 + 10 < cLine by omega) ⟨I.nest _ _ hk _ rfl, hd⟩ hm (fun h' hm' hs => ?_) (by rw [kx, List.length_map]; omega)
  rw [stored_kx] at hm'
  obtain ⟨o', es, ep, e1, e2, e3, e4, e5, e6⟩ := hm'
  refine ⟨_, I.write (x := d) (e := d) (o := DN d (putN ps k a)) (by rw [hH]; exact trivial) (.inl rfl) (fun b w hb e => (hs.2 b hb).trans e) ⟨o', e1⟩ (dn_ok ⟨ns, o', es, ep, e1, e2, e3, ?_⟩), q⟩
  rw [e4]; unfold kx; rw [List.map_map]; rfl
end
end L2
set_option Elab.async false
set_option linter.all false
set_option maxRecDepth 100000
namespace L2
open PySem PySem.Spec PyProof.Rows NM ND PySem.W

/-- what mirrored promises: the nest turned about, all else as it was -/
def spMir (n : Nat) : Sp := fun vs H Q _ => ∃ v t, vs = [v] ∧ IsN H v t ∧ t.depth < n ∧ ∀ r H', Same H H' → IsN H' r (T.mir t) → Q r H'
theorem mir_depth : ∀ t : T, (T.mir t).depth ≤ t.depth := T.ind fun t ih => by
  refine T.depth_le fun m hm => ?_
  rw [T.mir_to] at hm
  obtain ⟨x, hx, rfl⟩ := List.mem_map.mp hm
  rw [List.mem_reverse] at hx
  have := ih x hx
  have := T.mem_depth hx
  omega
section
variable {X : Cx} {pins : List (Addr × Obj)} {σ : St} {k n : Nat} {f : Addr} {fd : FuncData}
theorem Inv.turnK {H : Hp} {s : Shared} {it : Addr} {h' : Heap} {t' : Nat} (I : Inv X pins σ H s) (hf : FpOk X pins H it) (k : ∀ b o, b ≠ it → s.heap.get? b = some o → h'.get? b = some o) : Inv X pins σ H { s with heap := h', toks := t' } := by
  obtain ⟨f0, f1, f2, f3, f4, f5⟩ := hf
  exact I.turned k f0 f1 f3 f4 f5
/-- one key -/
theorem key_one {H : Hp} {s : Shared} {A : Around} {v : V} {u : Value} {t : T} {Q : Value → Shared → Prop} {E : Value → Shared → Prop} (F : FnOk X.prog X.w X.K X.mg X.base CX0 k f fd ["one"] (spMir n)) (hA : A = X.A.in1.in1) (hr : Room k A) (hb : Binds X.K fd ["one"] [])
    (I : Inv X pins σ H s) (r : RelV v u) (hv : IsN H v t) (hd : t.depth < n)
    (fin : ∀ w' u' H' s', Inv X pins σ H' s' → Same H H' → RelV w' u' → IsN H' w' (T.mir t) → (∀ b o, s.heap.get? b = some o → H b = none → b ∉ X.env.locals :: X.fs → s'.heap.get? b = some o ∧ H' b = none) → Q u' s') :
    wpAny (model X.prog X.w) A (call (.ref f) [u]) Q E s := by
  subst hA
  refine wpAny_call (codeAny_mono (F.run X.A.in1.in1 X.stack s H ⟨[u], []⟩ [u] [v] (fun r H' => Same H H' ∧ IsN H' r (T.mir t)) E0 hr I.env0.in1.in1 (hb s [u] I.kIn rfl) (.cons r .nil) ⟨v, t, rfl, hv, hd, fun r H' a b => ⟨a, b⟩⟩) fun r s' hq => ?_)
  cases r with
  | error e => exact False.elim hq
  | ok fl =>
    cases fl with
    | ret u' =>
      obtain ⟨w', H', os, bare, un, hok, r', q1, q2⟩ := hq
      obtain ⟨hh, g, d, t', os'⟩ := s'
      obtain rfl : os' = s.os := os
      refine fin w' u' H' _ (I.call (h' := hh) (g' := g) (d' := d) (t' := t') (ch := []) un hok bare (fun b z => absurd z (by simp))) q1 r' q2 fun b o e hn hb => ?_
      have hb' : b ∉ frs X.stack := fun z => hb (I.stkSub b z)
      exact ⟨un.keep b o e hn hb' (by simp), un.free b o e hn (by simp)⟩
    | next => exact False.elim hq
    | brk => exact False.elim hq
    | cont => exact False.elim hq
/-- what stands while the keys are made: D the emptied list, S the keys so far -/
structure AtK (X : Cx) (pins : List (Addr × Obj)) (σ : St) (D S : Addr) (e1 : Nat) (H0 H : Hp) (s : Shared) (ts : List T) (ks : List Value) (e : Nat) : Prop where
  inv : Inv X pins σ H s
  same : Same H0 H
  fD : FpOk X pins H D
  fS : FpOk X pins H S
  hD : s.heap.get? D = some (seqObj "list" #[] e1)
  hS : s.heap.get? S = some (seqObj "list" ks.toArray e)
  keys : ∃ vs, RowV H (ts.map T.mir) vs ∧ Vals vs ks
theorem keys_go {A : Around} {E : Value → Shared → Prop} {D S : Addr} {e1 : Nat} {H0 : Hp} (F : FnOk X.prog X.w X.K X.mg X.base CX0 k f fd ["one"] (spMir n)) (hA : A = X.A.in1.in1) (hr : Room k A) (hb : Binds X.K fd ["one"] []) (hDS : D ≠ S) {body : Value → PUnit → Sem (ForInStep PUnit)}
    (hbody : ∀ x ks e (s : Shared) (Q : ForInStep PUnit → Shared → Prop), List.length ks < 64 → wpAny (model X.prog X.w) A (call (.ref f) [x]) (fun k' s' => s'.heap.get? S = some (seqObj "list" (List.toArray ks) e) ∧ Q (.yield ⟨⟩) { s' with heap := s'.heap.update S (Obj.mapSeq (·.push k')) }) (fun _ _ => False) s → wpAny (model X.prog X.w) A (body x ⟨⟩) Q E s) :
    ∀ (rest : Ks) (done : List T) (H : Hp) (s : Shared) (ks : List Value) (e : Nat), done.length + rest.length < 64 → KeysN H0 rest → (∀ p ∈ rest, p.1.depth < n) → AtK X pins σ D S e1 H0 H s done ks e →
      wpAny (model X.prog X.w) A (forIn (rest.map fun p => Value.ref p.2) PUnit.unit body) (fun _ s' => ∃ H' ks' e', AtK X pins σ D S e1 H0 H' s' (done ++ rest.map (·.1)) ks' e') E s
  | [], done, H, s, ks, e, _, _, _, a => by
    rw [List.map_nil, List.forIn_nil]
    exact wpAny_pure ⟨H, ks, e, by simpa using a⟩
  | p :: rest, done, H, s, ks, e, hl, K, hd, a => by
    rw [List.map_cons, List.forIn_cons]
    obtain ⟨vs, rv, va⟩ := a.keys
    have hks : ks.length = done.length := by rw [← va.length, ← rv.length, List.length_map]
    rw [List.length_cons] at hl
    have hp : IsN H (.ref p.2) p.1 := (K.nest p (by simp)).mono a.same.t
    refine wpAny_bind (hbody _ ks e s _ (by omega) (key_one (v := .ref p.2) F hA hr hb a.inv (show RelV (.ref p.2) (Value.ref p.2) from rfl) hp (hd p (by simp)) fun w' u' H' s' I' sm r' hn keep => ?_))
    have nD : D ∉ X.env.locals :: X.fs := fun z => (List.mem_cons.mp z).elim a.fD.2.1 a.fD.2.2.1
    have nS : S ∉ X.env.locals :: X.fs := fun z => (List.mem_cons.mp z).elim a.fS.2.1 a.fS.2.2.1
    have kD := keep D _ a.hD a.fD.1 nD
    have kS := keep S _ a.hS a.fS.1 nS
    refine ⟨kS.1, ?_⟩
    have K' : KeysN H0 rest := ⟨fun q hq => K.nest q (by simp [hq]), fun q hq => K.depth q (by simp [hq]), (List.nodup_cons.mp (by simpa using K.nd)).2⟩
    have fS' : FpOk X pins H' S := ⟨kS.2, a.fS.2⟩
    have oth : ∀ b o, b ≠ S → s'.heap.get? b = some o → (s'.heap.update S (Obj.mapSeq (·.push u'))).get? b = some o := fun b o hb e => (Heap.get?_update_other _ _ (Ne.symm hb)).trans e
    obtain ⟨c2, hc2⟩ : ∃ c2, (s'.heap.update S (Obj.mapSeq (·.push u'))).get? S = some (seqObj "list" (List.toArray (ks ++ [u'])) c2) := ⟨_, by rw [show List.toArray (ks ++ [u']) = (List.toArray ks).push u' by simp]; exact get?_update_seq kS.1 (·.push u')⟩
    have a' : AtK X pins σ D S e1 H0 H' { s' with heap := s'.heap.update S (Obj.mapSeq (·.push u')) } (done ++ [p.1]) (ks ++ [u']) c2 := by
      refine ⟨I'.turnK (t' := s'.toks) fS' oth, a.same.trans sm, ⟨kD.2, a.fD.2⟩, fS', oth D _ hDS kD.1, hc2, vs ++ [w'], ?_, va.append (.cons r' .nil)⟩
      rw [List.map_append]
      exact RowV.append (RowV.mono rv sm.t) (RowV.one hn)
    have := keys_go F hA hr hb hDS hbody rest (done ++ [p.1]) H' _ (ks ++ [u']) c2 (by rw [List.length_append, List.length_singleton]; omega) K' (fun q hq => hd q (by simp [hq])) a'
    simpa using this
/-- an untracked record of ours is tracked from now on -/
theorem Inv.promote {H : Hp} {s : Shared} {a : Addr} {o : HO} {h' : Heap} {t' : Nat} (I : Inv X pins σ H s) (hf : FpOk X pins H a) (k : ∀ b u, b ≠ a → s.heap.get? b = some u → h'.get? b = some u)
    (new : ObjOk X.prog X.w (upd H a o) h' a o) : Inv X pins σ (upd H a o) { s with heap := h', toks := t' } := by
  obtain ⟨hn, z1, z2, z3, z4, z5⟩ := hf
  refine I.step (g' := s.gens) (d' := s.drawn) (ch := [a]) (fun b hb => ?_) (fun b ob _ _ hc e _ => k b ob (by simpa using hc) e) (fun b ob _ _ hc e _ => ⟨ob.slots, k b ob (by simpa using hc) e⟩) (fun b ob hc e n => ?_) (fun b ob hc e => ⟨ob, k b ob (by simpa using hc) e⟩) (fun b xs e => ?_) (fun b ob u e => ?_) (fun b ps e => ⟨#[], ?_⟩) (fun m hm => hm.at' fun ob e => k _ ob (Ne.symm z1) e) (fun b u e => ?_) I.bare
  · have e : b = a := by simpa using hb
    subst e
    exact ⟨z3, z1, z4, z5⟩
  · rw [upd_ne (by simpa using hc)]; exact n
  · rw [upd_ne (ne_of_none e hn)]; exact e
  · rw [upd_ne (ne_of_none e hn)]; exact e
  · rw [upd_ne (ne_of_none e hn), e]; simp
  · by_cases hb : b = a
    · subst hb; rw [upd_same] at e; cases e; exact new
    · rw [upd_ne hb] at e
      refine (I.hok b u e).stay (fun c v hc q => k c v ?_ q) (fun c q => by rw [upd_ne (ne_of_none q hn)]; exact q) fun c xs q => by rw [upd_ne (ne_of_none q hn)]; exact q
      rcases hc with rfl | hc
      · exact hb
      · exact ne_of_none hc hn
/-- the end: the row is laid into D -/
theorem sort_tail {A : Around} {E : Value → Shared → Prop} {D S : Addr} {e1 e : Nat} {H0 H : Hp} {s : Shared} {ts : List T} {ks out : List Value} {ov : List V} {st : SortSt} {P : PySem.Fin → Shared → Prop} (hDS : D ≠ S) (a : AtK X pins σ D S e1 H0 H s ts ks e)
    (hout : (arrOf st).map (·.2) = List.toArray out) (hf : failedOf st = none) (hz : out.length < 64) (hkz : ks.length < 64) (ro : Vals ov out)
    (fin : ∀ s', Inv X pins σ (upd H D (.lst ov)) s' → P (.done (.ret .none)) s') : wpAny (model X.prog X.w) A (ksk_tail D false e1 (.ref S) st) P E s := by
  have oS : ∀ b o, b ≠ S → s.heap.get? b = some o → (s.heap.update S (Obj.mapSeq fun _ => (#[] : Array Value))).get? b = some o := fun b o hb e => (Heap.get?_update_other _ _ (Ne.symm hb)).trans e
  have hD' := oS D _ hDS a.hD
  have I1 : Inv X pins σ H { s with heap := s.heap.update S (Obj.mapSeq fun _ => (#[] : Array Value)) } := a.inv.turnK (t' := s.toks) a.fS oS
  obtain ⟨c2, hc2⟩ : ∃ c2, ((s.heap.update S (Obj.mapSeq fun _ => (#[] : Array Value))).update D (Obj.mapSeq fun _ => List.toArray out)).get? D = some (seqObj "list" (List.toArray out) c2) := ⟨_, get?_update_seq hD' fun _ => List.toArray out⟩
  have I2 : Inv X pins σ (upd H D (.lst ov)) { s with heap := (s.heap.update S (Obj.mapSeq fun _ => (#[] : Array Value))).update D (Obj.mapSeq fun _ => List.toArray out) } := by
    refine I1.promote (t' := s.toks) a.fD (fun b o hb e => (Heap.get?_update_other _ _ (Ne.symm hb)).trans e) ⟨?_, out, c2, ro, hc2⟩
    rw [ro.length, sizeLine_eq]; omega
  unfold ksk_tail
  try dsimp only
  rw [hout]
  simp only [Bool.false_eq_true, if_false]
  refine wpAny_bind (listUpdate_at a.hS rfl ?_ (by rw [List.size_toArray, sizeLine_eq]; omega) (Nat.zero_le _))
  refine wpAny_bind (wpAny_letGo ?_)
  refine wpAny_bind (seqEpoch_at hD' rfl ?_)
  refine wpAny_bind (listUpdate_at hD' rfl ?_ (Nat.zero_le _) (by rw [List.size_toArray, sizeLine_eq]; omega))
  rw [hf]
  simp only [bne_self_eq_false, Bool.false_eq_true, if_false]
  exact wpAny_pure (fin _ I2)
/-- the keys are there: the row is sorted -/
theorem sort_end {A : Around} {E : Value → Shared → Prop} {D S : Addr} {e1 e : Nat} {H0 H : Hp} {s : Shared} {ps : Ks} {ks : List Value} {P : PySem.Fin → Shared → Prop} (hu : A.units + 20 < cLine) (hDS : D ≠ S) (K : KeysN H0 ps) (h64 : ps.length < 64) (a : AtK X pins σ D S e1 H0 H s (ps.map (·.1)) ks e)
    (fin : ∀ s' ov ts, Inv X pins σ (upd H D (.lst ov)) s' → RowV H ts ov → ts.Perm (ps.map (·.1)) → Asc T.ml ts → P (.done (.ret .none)) s') :
    wpAny (model X.prog X.w) A (ksk_end D false (List.toArray (ps.map fun p => Value.ref p.2)) e1 (.ref S) (List.toArray ks)) P E s := by
  obtain ⟨vs, rv, va⟩ := a.keys
  have hks : ks.length = ps.length := by rw [← va.length, ← rv.length, List.length_map, List.length_map]
  have hlen : (ps.map fun p => Value.ref p.2).length = ps.length := List.length_map _
  have row := a.inv.nests rv va
  unfold ksk_end
  try dsimp only
  simp only [Bool.false_eq_true, if_false]
  by_cases h2 : ps.length < 2
  · have hn2 : (List.toArray (ps.map fun p => Value.ref p.2)).size < 2 := by rw [List.size_toArray, hlen]; exact h2
    rw [if_pos hn2, if_pos hn2]
    refine wpAny_bind (wpAny_pure ?_)
    refine wpAny_bind (show wpAny _ _ (StateT.run (pure () : StateT SortSt Sem Unit) _) _ _ _ from ?_)
    rw [StateT.run_pure]
    refine wpAny_pure ?_
    try dsimp only
    refine sort_tail (out := ps.map fun p => Value.ref p.2) (ov := ps.map fun p => V.ref p.2) hDS a ?_ rfl (by omega) (by omega) ?_ fun s' I' => fin s' _ (ps.map (·.1)) I' ?_ (List.Perm.refl _) ?_
    · show ((List.toArray ks).zip (List.toArray (ps.map fun p => Value.ref p.2))).map (·.2) = _
      apply Array.toList_inj.mp
      simp only [Array.toList_map, Array.toList_zip, List.toList_toArray]
      rw [List.map_snd_zip (by omega)]
    · clear fin hlen row hks h2 hn2 h64 K a rv va
      induction ps with
      | nil => exact .nil
      | cons p ps ih => exact .cons rfl ih
    · have hK : ∀ p ∈ ps, IsN H (.ref p.2) p.1 := fun p hp => (K.nest p hp).mono a.same.t
      clear I' fin hlen row hks h2 hn2 h64 K a rv va
      induction ps with
      | nil => exact .nil
      | cons p ps ih => exact .cons (hK p (by simp)) (ih fun q hq => hK q (by simp [hq]))
    · match ps, h2 with
      | [], _ => simp [Asc]
      | [_], _ => simp [Asc]
  · have hn2 : ¬ (List.toArray (ps.map fun p => Value.ref p.2)).size < 2 := by rw [List.size_toArray, hlen]; exact h2
    rw [if_neg hn2, if_neg hn2]
    have hne : ks ≠ [] := by intro z; rw [z] at hks; simp at hks; omega
    refine wpAny_bind (nsk_kind row hne fun κ hκ => ?_)
    have hT : KSP.TotN (fun i j => T.ml ((ps.map (·.1)).getD i .nil) ((ps.map (·.1)).getD j .nil)) ps.length := by
      refine ⟨fun i j hi hj hij => T.ml_tri _ _ fun e => hij ?_, fun i j k' _ _ _ h1 h2 => T.ml_tr _ _ _ h1 h2⟩
      have hi' : i < (ps.map (·.1)).length := by rw [List.length_map]; exact hi
      have hj' : j < (ps.map (·.1)).length := by rw [List.length_map]; exact hj
      rw [List.getD_eq_getElem?_getD, List.getD_eq_getElem?_getD, List.getElem?_eq_getElem hi', List.getElem?_eq_getElem hj'] at e
      exact (List.getElem_inj (h₀ := hi') (h₁ := hj') K.nd).mp (by simpa using e)
    have hrun := KSP.RunP.wp (s := s) (cmp := kas_ask X.prog X.w A κ ks) (Q := fun (p : Array Nat) s' => s' = s ∧ (p.toList.Perm (List.range ps.length) ∧ p.toList.Pairwise fun i j => T.ml ((ps.map (·.1)).getD i .nil) ((ps.map (·.1)).getD j .nil) = true)) (fun i j C hi hj hC => ?_) (fun p hp => ⟨rfl, hp⟩) _ (KSP.sort hT (by omega))
    · refine wpAny_bind (wpAny_mono (kat_run (Q := fun st' s' => ∃ p : Array Nat, p.size = ps.length ∧ arrOf st' = p.map (kas_item ((List.toArray ks).zip (List.toArray (ps.map fun p => Value.ref p.2)))) ∧ failedOf st' = none ∧ s' = s ∧ p.toList.Perm (List.range ps.length) ∧ p.toList.Pairwise fun i j => T.ml ((ps.map (·.1)).getD i .nil) ((ps.map (·.1)).getD j .nil) = true)
        (by rw [hlen]; exact hks) (by rw [hlen]; omega) (by rw [hlen]; exact h64) (fun p' st' s' a1 a2 a3 a4 => ⟨p', by rw [a1, hlen], a2, a3, a4⟩) (by rw [hlen]; exact hrun)) ?_ fun _ _ x => x)
      rintro ⟨⟨⟩, st'⟩ s' ⟨p, hp, har, hf, rfl, hperm, hpw⟩
      try dsimp only
      have hpl : ∀ i ∈ p.toList, i < ps.length := fun i hi => by simpa using hperm.mem_iff.mp hi
      have hsn := kat_snds (by rw [hlen]; exact hks) har
      refine sort_tail (out := p.toList.map fun i => (ps.map fun p => Value.ref p.2).getD i Value.none) (ov := p.toList.map fun i => (ps.map fun p => V.ref p.2).getD i V.non) hDS a hsn hf ?_ (by omega) ?_ fun s' I' => fin s' _ (p.toList.map fun i => (ps.map (·.1)).getD i .nil) I' ?_ ?_ ?_
      · rw [List.length_map, hperm.length_eq, List.length_range]; exact h64
      · clear hperm hpw hsn har hp
        generalize p.toList = l at hpl
        induction l with
        | nil => exact .nil
        | cons i l ih =>
          have hi := hpl i (by simp)
          refine .cons ?_ (ih fun j hj => hpl j (by simp [hj]))
          simp [List.getD_eq_getElem?_getD, hi]
          exact rfl
      · clear hperm hpw hsn har hp
        generalize p.toList = l at hpl
        induction l with
        | nil => exact .nil
        | cons i l ih =>
          have hi := hpl i (by simp)
          refine .cons ?_ (ih fun j hj => hpl j (by simp [hj]))
          have := (K.nest ps[i] (List.getElem_mem hi)).mono a.same.t
          simpa [List.getD_eq_getElem?_getD, hi] using this
      · have e : (List.range ps.length).map (fun i => (ps.map (·.1)).getD i T.nil) = ps.map (·.1) := by
          apply List.ext_getElem
          · simp
          · intro i h1 h2
            have h2' : i < ps.length := by simpa using h2
            simp [List.getD_eq_getElem?_getD, h2']
        have q := hperm.map fun i => (ps.map (·.1)).getD i T.nil
        rw [e] at q
        exact q
      · rw [Asc, List.pairwise_map]
        exact hpw
    · show wpAny _ _ (keyLt' κ (ks.getD i Value.none) (ks.getD j Value.none)) _ _ s
      have hi' : i < ks.length := by omega
      have hj' : j < ks.length := by omega
      obtain ⟨b1, c1, x1, y1⟩ := row.get hi'
      obtain ⟨b2, c2, x2, y2⟩ := row.get hj'
      rw [show ks.getD i Value.none = Value.ref c1 by simp [List.getD_eq_getElem?_getD, hi', x1], show ks.getD j Value.none = Value.ref c2 by simp [List.getD_eq_getElem?_getD, hj', x2]]
      have hd : ((ps.map (·.1)).map T.mir)[i].depth ≤ 7 := by
        rw [List.getElem_map]
        refine Nat.le_trans (mir_depth _) ?_
        rw [List.getElem_map]
        exact K.depth _ (List.getElem_mem _)
      refine nsk_lt hκ (by omega) y1 y2 ?_
      have hi2 : i < ps.length := hi
      have hj2 : j < ps.length := hj
      have e1 : ((ps.map (·.1)).map T.mir)[i] = T.mir ((ps.map (·.1)).getD i .nil) := by simp [List.getD_eq_getElem?_getD, hi2]
      have e2 : ((ps.map (·.1)).map T.mir)[j] = T.mir ((ps.map (·.1)).getD j .nil) := by simp [List.getD_eq_getElem?_getD, hj2]
      rw [e1, e2]
      exact hC
/-- the dict as a source of keys -/
theorem src_raw {prog : Program} {w : World} {d : Addr} {es : Array DictEntry} {ep : Nat} (lo : (d == sysModules) = false) : KdlSrc prog w "dict" d d es.size (fun i v => ∃ hi : i < es.size, v = es[i].key) (fun h => RawD h d es ep) where
  type := fun _ hm => hm.typeIs
  there := fun _ hm => ⟨hm.lt, hm.lt⟩
  keep := fun _ _ hm hk => hm.at fun o e => hk d (.inl rfl) o e
  notList := by decide
  notTuple := by decide
  hint := fun _ _ _ _ hm hq => kdl_hint_dict hm.typeIs hq
  iter := fun _ _ hh hm => ⟨_, _, (fun _ _ hq => raw_iter lo hm hq), raw_walks hh _ d (Nat.ne_of_lt hm.lt) es ep, ⟨⟨_, Heap.get?_push_size _ rfl, rfl, rfl⟩, hm.at fun o e => Heap.get?_push_of_some _ e⟩⟩
theorem sortN {H : Hp} {s : Shared} {d : Addr} {ps : Ks} {Q : Value → Shared → Prop} (F : FnOk X.prog X.w X.K X.mg X.base CX0 k f fd ["one"] (spMir n)) (hn : 8 ≤ n) (hr : Room (k + 2) X.A) (hb : Binds X.K fd ["one"] []) (hc : X.calm = true)
    (I : Inv X pins σ H s) (hH : H d = some (DN d ps)) (K : KeysN H ps) (h64 : ps.length < 64)
    (fin : ∀ l H2 ov ts s', Inv X pins σ H2 s' → H l = none → Same H H2 → H2 l = some (.lst ov) → RowV H2 ts ov → ts.Perm (ps.map (·.1)) → Asc T.ml ts → Q (.ref l) s') :
    wpAny (model X.prog X.w) X.A (call (.builtin "sorted") [.ref d] [(Str.ofString "key", .ref f)]) Q X.xe s := by
  obtain ⟨lo, o, es, ep, e1, e2, e3, e4⟩ := I.dn hH
  have hes : es.size = ps.length := by
    have := congrArg List.length e4
    simpa using this
  refine call_function_entry_kw kind_sorted plain_sorted entry_sorted (ksk_s1 _ _) ?_
  unfold Builtin.«sorted»
  refine wpAny_bind (m := checkCount "sorted" 1 1 _) (wpAny_pure ?_)
  refine wpAny_bind (kdu_collect (A := X.A.in1) (src_raw lo) (I.ok.hd hc) ⟨o, e1, e2, e3⟩ (by rw [hes, sizeLine_eq]; omega) fun h' tk acc hk hacc => ?_)
  have hal : acc.toList = ps.map fun p => Value.ref p.2 := by
    apply List.ext_getElem
    · rw [Array.length_toList, hacc.1, hes, List.length_map]
    · intro i h1 h2
      have hi : i < acc.size := by simpa using h1
      obtain ⟨hi2, e⟩ := hacc.2 i acc[i] (Array.getElem?_eq_getElem hi)
      rw [Array.getElem_toList, e]
      have : es.toList[i]'(by simpa using hi2) = (ps.map fun p => (⟨ND.hash p.1, Value.ref p.2, Value.bool true⟩ : DictEntry))[i]'(by rw [List.length_map, ← hes]; exact hi2) := by
        simp only [e4]
      rw [Array.getElem_toList] at this
      rw [this]
      simp
  have I1 : Inv X pins σ H { s with heap := h', toks := tk } := I.kept hk
  rw [hal]
  have hll : (ps.map fun p => Value.ref p.2).length = ps.length := List.length_map _
  refine wpAny_bind (wpAny_newList ?_ (by rw [hll, sizeLine_eq]; omega))
  have fresh1 : H h'.objs.size = none := I1.hok.fresh (Nat.le_refl _)
  have fp1 : FpOk X pins H h'.objs.size := I1.fpOk (Nat.le_refl _) fresh1
  generalize hs2 : ({ s with heap := h'.push { cls := .type "list", data := .seq (ps.map fun p => Value.ref p.2).toArray }, toks := tk } : Shared) = s2
  have I2 : Inv X pins σ H s2 := by
    rw [← hs2]
    exact I1.kept (t' := tk) fun b o e => Heap.get?_push_of_some _ e
  have hoD : s2.heap.get? h'.objs.size = some (seqObj "list" (ps.map fun p => Value.ref p.2).toArray 0) := by rw [← hs2]; exact Heap.get?_push_size _ rfl
  dsimp only
  generalize hD : h'.objs.size = D at *
  refine wpAny_bind (wpAny_holding (wpAny_call_entry_kw slot_list_sort ⟨_, hoD, rfl⟩ entry_list_sort ?body (ksk_l1 _ _)))
  show wpAny (model X.prog X.w) X.A.in1.in1 (Builtin.«list.sort» ⟨[.ref D], [(Str.ofString "key", .ref f)]⟩) _ _ _
  rw [ksk_t1]
  unfold ksk_tree
  have oD : ∀ b o, b ≠ D → s2.heap.get? b = some o → (s2.heap.update D (Obj.mapSeq fun _ => (#[] : Array Value))).get? b = some o := fun b o hb e => (Heap.get?_update_other _ _ (Ne.symm hb)).trans e
  obtain ⟨e1', ho1⟩ : ∃ e1, (s2.heap.update D (Obj.mapSeq fun _ => (#[] : Array Value))).get? D = some (seqObj "list" #[] e1) := ⟨_, get?_update_seq hoD fun _ => #[]⟩
  have I3 : Inv X pins σ H { s2 with heap := s2.heap.update D (Obj.mapSeq fun _ => (#[] : Array Value)) } := I2.turnK (t' := s2.toks) fp1 oD
  refine wpAny_bind (listItems_at hoD rfl ?_)
  refine wpAny_bind (listUpdate_at hoD rfl ?_ (by rw [List.size_toArray, hll, sizeLine_eq]; omega) (Nat.zero_le _))
  refine wpAny_bind (seqEpoch_at ho1 rfl ?_)
  refine wpAny_bind (wpAny_newTuple ?_ (by show (ps.map fun p => Value.ref p.2).length ≤ _; rw [hll, sizeLine_eq]; omega))
  refine wpAny_bind (wpAny_newList ?_ (Nat.zero_le _))
  refine wpAny_holding ?_
  generalize hh3 : (s2.heap.update D (Obj.mapSeq fun _ => (#[] : Array Value))).push { cls := .type "tuple", data := .seq (List.toArray (ps.map fun p => Value.ref p.2)) } = h3
  have I4 : Inv X pins σ H { s2 with heap := h3 } := by
    rw [← hh3]
    exact I3.kept (t' := s2.toks) fun b o e => Heap.get?_push_of_some _ e
  have I5 : Inv X pins σ H { s2 with heap := h3.push { cls := .type "list", data := .seq ([] : List Value).toArray } } := I4.kept (t' := s2.toks) fun b o e => Heap.get?_push_of_some _ e
  have hD3 : h3.get? D = some (seqObj "list" #[] e1') := by rw [← hh3]; exact Heap.get?_push_of_some _ ho1
  have hDS : D ≠ h3.objs.size := Nat.ne_of_lt (Heap.lt_size hD3)
  have fpS : FpOk X pins H h3.objs.size := I4.fpOk (Nat.le_refl _) (I4.hok.fresh (Nat.le_refl _))
  have at0 : AtK X pins σ D h3.objs.size e1' H H { s2 with heap := h3.push { cls := .type "list", data := .seq ([] : List Value).toArray } } [] [] 0 :=
    ⟨I5, Same.refl _, fp1, fpS, Heap.get?_push_of_some _ hD3, Heap.get?_push_size _ rfl, [], .nil, .nil⟩
  unfold ksk_rest
  refine wpAny_bind (wpAny_rule ?_)
  first
    | rw [List.forIn_toArray]
    | (rw [← Array.forIn_toList]; simp only [List.toList_toArray])
    | rw [← Array.forIn_toList]
  have hr2 : Room k X.A.in1.in1 := hr.in1.in1
  refine wpAny_bind (wpAny_mono (keys_go (n := n) F rfl hr2 hb hDS (fun x ks e s' C hz hx => ?bd) ps [] H _ [] 0 (by simpa using h64) K (fun p hp => Nat.lt_of_le_of_lt (K.depth p hp) (by omega)) at0) (fun _ s' hd => ?_) fun _ _ x => x)
  case bd =>
    refine wpAny_bind (wpAny_attempt (wpAny_mono hx (fun k' s'' hk' => ?_) fun _ _ hF => hF.elim))
    try dsimp only
    refine wpAny_bind (listUpdate_at hk'.1 rfl ?_ (by rw [List.size_toArray, sizeLine_eq]; omega) (Nat.le_trans (Nat.le_of_eq (Array.size_push ..)) (by rw [List.size_toArray, sizeLine_eq]; omega)))
    exact wpAny_pure hk'.2
  obtain ⟨H', ks', e', at1⟩ := hd
  refine wpAny_bind (listItems_at at1.hS rfl ?_)
  have hu := hr2.units
  refine sort_end (by omega) hDS K h64 (by simpa using at1) fun s3 ov ts I' rv hp ha => ?_
  refine ⟨_, rfl, wpAny_pure ⟨_, rfl, ?_⟩⟩
  have hDn : H' D = none := at1.fD.1
  exact fin D _ ov ts s3 I' fresh1 (same_upd fresh1 at1.same _) upd_same (RowV.mono rv (same_new hDn _).t) hp ha
end
end L2
set_option Elab.async false
set_option linter.all false
set_option maxRecDepth 100000
namespace L2
open PySem PySem.Spec PyProof.Rows NM ND PySem.W
section
variable {X : Cx} {k n : Nat} {f : Addr} {fd : FuncData}
/-- sorted(d, key=mirrored) -/
def tSortN (ta : TA) : TE := fun σ H Q => ta σ H fun vs H1 => ∃ d ps, vs = [.ref d] ∧ H1 d = some (DN d ps) ∧ KeysN H1 ps ∧ ps.length < 64 ∧
  ∀ l H2 ov ts, H1 l = none → Same H1 H2 → H2 l = some (.lst ov) → RowV H2 ts ov → ts.Perm (ps.map (·.1)) → Asc T.ml ts → Q (.ref l) H2
theorem pe_sortN {e : Expr} {ta : TA} {x : Str} {p p2 kp pos : Pos} (F : FnOk X.prog X.w X.K X.mg X.base CX0 k f fd ["one"] (spMir n)) (hn : 8 ≤ n) (hr : Room (k + 2) X.A) (hb : Binds X.K fd ["one"] []) (hc : X.calm = true) (hg : Gl X "sorted") (hm : X.mg "sorted" = none)
    (hgf : Gl X x) (hmf : X.mg x = some (.ref f)) (ha : PA X [e] ta) (hdb : (x == ("__debug__" : Str)) = false := by decide)
    (he : backTo pos (starEach [e] X.env) = (false, eval e X.env) :: backTo pos (starEach [] X.env) := by rfl) (hpl : (backTo pos (starEach [e] X.env)).any (·.1) = false := by rfl) :
    PE X (.Call (.Name "sorted" p) [e] [⟨some "key", .Name x p2, kp⟩] pos) (tSortN ta) := by
  intro pins s σ H Q I h
  refine wpAny_Call_Name_kw (ld_blt I hg hm boot_sorted ?_)
  refine callWith_kw (thn (ha pos pins s σ H _ I h) fun us s1 ⟨vs, H1, I1, r1, q1⟩ => ?_) he hpl
  refine thn (pk_cons (pe_glob (v := .ref f) hgf hmf (show RelV (.ref f) (Value.ref f) from rfl) hdb) pk_nil pos pins s1 σ H1 (fun zs H2 => zs = [.ref f] ∧ H2 = H1) I1 ⟨rfl, rfl⟩) fun ks s2 ⟨zs, H2, I2, rz, z1, z2⟩ => ?_
  subst z1 z2
  obtain ⟨d, ps, rfl, hH, K, h64, q⟩ := q1
  obtain ⟨u, rfl, ru⟩ := vals1 r1
  obtain ⟨u2, rfl, ru2⟩ := vals1 rz
  cases ru
  cases ru2
  exact sortN F hn hr hb hc I2 hH K h64 fun l H2 ov ts s' I' a1 a2 a3 a4 a5 a6 => ⟨.ref l, H2, I', rfl, q l H2 ov ts a1 a2 a3 a4 a5 a6⟩
end
/-! ### tuple(reversed(a list)) -/
section
variable {prog : Program} {w : World} {A : Around} {E : Value → Shared → Prop} {s : Shared}
end
section
variable {X : Cx}
def tTupRev (K : PySem.W.Frag) (ta : TA) : TE := fun σ H Q => ta σ H fun vs H1 => ∃ a xs, vs = [.ref a] ∧ SqL K H1 a xs ∧ ∀ l, H1 l = none → Q (.ref l) (upd H1 l (.tup xs.reverse))
end
end L2
set_option Elab.async false
set_option linter.all false
set_option maxRecDepth 100000
namespace L2
open PySem PySem.Spec PyProof.Rows NM ND PySem.W
section
variable {X : Cx}
end
end L2
set_option Elab.async false
set_option linter.all false
set_option maxRecDepth 100000
namespace L2
open PySem PySem.Spec PyProof.Rows NM ND PySem.W
/-! ### a list or a tuple, walked -/
section
variable {X : Cx} {tg : Expr}
def Sq (K : Frag) (H : Hp) (a : Addr) (xs : List V) : Prop := SqL K H a xs ∨ SqT K H a xs
theorem Sq.l {K : Frag} {H : Hp} {a : Addr} {xs : List V} (h : H a = some (.lst xs)) : Sq K H a xs := .inl (.of h)
theorem Sq.tp {K : Frag} {H : Hp} {a : Addr} {xs : List V} (h : H a = some (.tup xs)) : Sq K H a xs := .inr (.of h)
theorem Sq.mono {K : Frag} {H H' : Hp} {a : Addr} {xs : List V} (s : Same H H') (h : Sq K H a xs) : Sq K H' a xs := by
  rcases h with h | h
  · exact .inl (s.seq h)
  · refine .inr ?_
    rcases h with (h | ⟨o, h⟩) | h
    · exact .inl (.inl (s _ _ h))
    · exact .inl (.inr ⟨o, s _ _ h⟩)
    · exact .inr h
/-- the turns of either -/
def Its (K : Frag) (a : Addr) : It := ⟨fun i H => ∃ xs v, Sq K H a xs ∧ xs[i]? = some v, fun i H x H' => H' = H ∧ ∀ xs, Sq K H a xs → xs[i]? = some x, fun i H => ∃ xs, Sq K H a xs ∧ xs.length ≤ i⟩
def iSeq (K : Frag) (tl : TE) : TI := fun σ H R => tl σ H fun x H1 => ∃ a xs, x = .ref a ∧ ((SqL K H1 a xs ∧ (xs.length ≤ sizeLine → R (Itl K a) H1)) ∨ (SqT K H1 a xs ∧ (xs.length ≤ sizeLine → R (Itt K a) H1)))
theorem pi_seq {l : Expr} {tl : TE} (hl : PE X l tl) : PI X tg l (iSeq X.K tl) := by
  intro pins s σ H R I h
  refine thn (hl pins s σ H _ I h) fun v s1 ⟨x, H1, I1, r1, q1⟩ => ?_
  obtain ⟨a, xs, e, hq⟩ := q1
  subst e
  cases r1
  rcases hq with ⟨hq, q⟩ | ⟨hq, q⟩
  · obtain ⟨its, rv, p, hz⟩ := I1.list hq
    refine wpAny_pyIter_list p.isList ?_
    refine ⟨s1.heap.objs.size, [s1.heap.objs.size], _, _, H1, rfl, I1.kept (t' := s1.toks) fun b o e => Heap.get?_push_of_some _ e, turn_list a _, ⟨_, Heap.get?_push_size _ rfl, rfl, rfl⟩, fun b hb => ?_, q hz⟩
    have e : b = s1.heap.objs.size := by simpa using hb
    subst e
    exact I1.fpOk (Nat.le_refl _) (I1.hok.fresh (Nat.le_refl _))
  · obtain ⟨its, rv, p, hz⟩ := I1.tuple hq
    refine wpAny_pyIter_tuple (show s1.heap.IsTuple a its.toArray from p) ?_
    refine ⟨s1.heap.objs.size, [s1.heap.objs.size], _, _, H1, rfl, I1.kept (t' := s1.toks) fun b o e => Heap.get?_push_of_some _ e, turn_tuple a _, ⟨_, Heap.get?_push_size _ rfl, rfl, rfl⟩, fun b hb => ?_, q hz⟩
    have e : b = s1.heap.objs.size := by simpa using hb
    subst e
    exact I1.fpOk (Nat.le_refl _) (I1.hok.fresh (Nat.le_refl _))
end
/-- over either: the list is as it was -/
theorem for_seq {K : Frag} {a : Addr} {xs : List V} {g : TG} {tb : TS} {D : Ends} {σ : St} {H : Hp} (ha : H a = some (.lst xs) ∨ H a = some (.tup xs)) (Pv : Nat → St → Hp → Prop) (h0 : Pv 0 σ H) (hl : ∀ i σ H', i ≤ xs.length → Pv i σ H' → ∀ o, H a = some o → H' a = some o)
    (hs : ∀ i x σ H, xs[i]? = some x → Pv i σ H → g x σ H fun σ2 H2 => tb { D with nx := Pv (i + 1), ct := Pv (i + 1), bk := D.nx } σ2 H2) (hd : ∀ σ H, Pv xs.length σ H → D.nx σ H) :
    (SqL K H a xs ∧ (xs.length ≤ sizeLine → ∃ W : Nat → Nat → St → Hp → Prop, (∃ m, W 0 m σ H) ∧ ∀ i m σ H, W i m σ H →
      ((Itl K a).stop i H ∧ D.nx σ H) ∨ ((Itl K a).go i H ∧ ∃ N : St → Hp → Prop, (∀ σ' H', N σ' H' → ∃ m', m' < m ∧ W (i + 1) m' σ' H') ∧ ∀ x H', (Itl K a).yld i H x H' → g x σ H' fun σ2 H2 => tb { D with nx := N, ct := N, bk := D.nx } σ2 H2))) ∨
    (SqT K H a xs ∧ (xs.length ≤ sizeLine → ∃ W : Nat → Nat → St → Hp → Prop, (∃ m, W 0 m σ H) ∧ ∀ i m σ H, W i m σ H →
      ((Itt K a).stop i H ∧ D.nx σ H) ∨ ((Itt K a).go i H ∧ ∃ N : St → Hp → Prop, (∀ σ' H', N σ' H' → ∃ m', m' < m ∧ W (i + 1) m' σ' H') ∧ ∀ x H', (Itt K a).yld i H x H' → g x σ H' fun σ2 H2 => tb { D with nx := N, ct := N, bk := D.nx } σ2 H2))) := by
  rcases ha with ha | ha
  · exact .inl ⟨.of ha, fun _ => for_list Pv h0 (fun i σ H' hi p => .of (hl i σ H' hi p _ ha)) hs hd⟩
  · exact .inr ⟨.of ha, fun _ => for_tup Pv h0 (fun i σ H' hi p => .of (hl i σ H' hi p _ ha)) hs hd⟩
section
variable {X : Cx}
/-- t + u of tuples, whatever is empty -/
def rCatA : R2 := fun x y H Q => ∃ a b xs ys, x = .ref a ∧ y = .ref b ∧ H a = some (.tup xs) ∧ H b = some (.tup ys) ∧ xs.length + ys.length ≤ sizeLine ∧ ∀ r H', Same H H' → H' r = some (.tup (xs ++ ys)) → Q (.ref r) H'
end
end L2
set_option Elab.async false
set_option linter.all false
set_option maxRecDepth 100000
/-! ### exceptions over the layer -/
namespace L2
open PySem PySem.Spec PyProof.Rows

theorem ObjOk.there {P : Program} {w : World} {H : Hp} {h : Heap} {a : Addr} {o : HO} (x : ObjOk P w H h a o) : ∃ u, h.get? a = some u := by
  cases o with
  | lst xs => obtain ⟨_, _, _, _, e⟩ := x; exact ⟨_, e⟩
  | tup xs => obtain ⟨_, _, _, o, e, _⟩ := x; exact ⟨o, e⟩
  | dK kvs => obtain ⟨_, _, _, _, o, _, _, e, _⟩ := x; exact ⟨_, e⟩
  | dT kvs => obtain ⟨_, _, _, _, o, _, _, e, _⟩ := x; exact ⟨_, e⟩
  | set S n => obtain ⟨o, _, _, _, e, _⟩ := x; exact ⟨_, e⟩
  | ins C dx fs => obtain ⟨_, _, _, e, _⟩ := x; exact ⟨_, e⟩
  | own y => obtain ⟨_, e⟩ := x; exact ⟨_, e⟩
  | xd fs => obtain ⟨_, ⟨_, _, _, e, _⟩, _⟩ := x; exact ⟨_, e⟩
  | rng lo hi => obtain ⟨_, _, _, e⟩ := x; exact ⟨_, e⟩
  | frz ob u => obtain ⟨e, _⟩ := x; exact ⟨_, e⟩
  | tbl ps => exact ⟨_, (show h.get? a = some _ from x)⟩
  | met f y => exact ⟨_, (show h.get? a = some _ from x)⟩
  | ext φ => obtain ⟨_, e, _⟩ := x; exact e
theorem HOk.no {P : Program} {w : World} {H : Hp} {h : Heap} (x : HOk P w H h) {a : Addr} (e : h.get? a = none) : H a = none := by
  cases q : H a with
  | none => rfl
  | some o => obtain ⟨u, z⟩ := (x a o q).there; rw [e] at z; cases z

/-- an exception: not there ahead, not tracked, its class; tr: some frame has noted it -/
def ExcO (h0 : Heap) (pn : List (Addr × Obj)) (H : Hp) (h : Heap) (x : Addr) (cls : Value) (tr : Bool) : Prop :=
  (h0.get? x = none ∧ H x = none ∧ ∀ p ∈ pn, p.1 ≠ x) ∧ ∃ oe vs a0, h.get? x = some oe ∧ oe.cls = cls ∧ oe.data = .fields vs ∧ vs[0]? = some a0 ∧
    ((tr = false ∧ vs[1]? = some .none) ∨ ∃ T oT ts f, vs[1]? = some (.ref T) ∧ T ≠ x ∧ h0.get? T = none ∧ H T = none ∧ (∀ p ∈ pn, p.1 ≠ T) ∧ h.get? T = some oT ∧ oT.data = .fields ts ∧ ts[3]? = some f)
section
variable {X : Cx} {σ : St} {H : Hp} {s : Shared} {h' : Heap}
/-- the frames' slots and some records of ours change -/
theorem Inv.slots {ch : List Addr} {t' : Nat} (I : Inv X [] σ H s) (hch : ∀ b ∈ ch, X.s₀.heap.get? b = none ∧ H b = none ∧ (∀ p ∈ X.pn, p.1 ≠ b) ∧ ∃ o vs, s.heap.get? b = some o ∧ o.data = .fields vs)
    (keep : ∀ b o, b ∉ ch → b ∉ frs X.stack → s.heap.get? b = some o → h'.get? b = some o) (slot : ∀ b o, b ∈ frs X.stack → s.heap.get? b = some o → ∃ sl, h'.get? b = some { o with slots := sl })
    : Inv X [] σ H { s with heap := h', toks := t' } := by
  have any : ∀ b o, b ∉ ch → s.heap.get? b = some o → ∃ sl, h'.get? b = some { o with slots := sl } := fun b o hb e => by
    by_cases q : b ∈ frs X.stack
    · exact slot b o q e
    · exact ⟨o.slots, keep b o hb q e⟩
  have nch : ∀ b o, s.heap.get? b = some o → (∀ vs, o.data ≠ .fields vs) → b ∉ ch := fun b o e n z => by
    obtain ⟨_, _, _, o', vs, e', d⟩ := hch b z
    rw [e] at e'; cases e'
    exact n vs d
  have neL : ∀ b o, X.s₀.heap.get? b = some o → b ≠ X.env.locals := fun b o e => Nat.ne_of_lt (Nat.lt_of_lt_of_le (Heap.lt_size e) I.ok.above)
  have neC : ∀ b o, X.s₀.heap.get? b = some o → b ∉ ch := fun b o e z => by rw [(hch b z).1] at e; cases e
  have out : ∀ b o, X.s₀.heap.get? b = some o → b ∉ X.fs → b ∉ frs X.stack := fun b o e hb z => by
    rcases List.mem_cons.mp (I.stkSub b z) with q | q
    · exact neL b o e q
    · exact hb q
  have cellK : ∀ x c, X.env.cells.lookup x = some c → ∀ v, s.heap.IsCell c v → h'.IsCell c v := fun x c e v ⟨o, ho, hd⟩ => by
    obtain ⟨sl, q⟩ := any c o (nch c o ho fun vs z => by rw [hd] at z; cases z) ho
    exact ⟨_, q, hd⟩
  refine ⟨I.ok, I.os, I.bare, ⟨fun b o e n hb hx => ?_, fun b o e n hb hx => ?_, I.base.free, fun b o e hx => ?_, I.base.tups, I.base.frzs, I.base.tbls⟩, ?_, fun x c e => ?_, I.free, I.freeC, fun p hp => ?_, fun a o e => ?_, I.len⟩
  · exact keep b o (neC b o e) (out b o e hb) (I.base.keep b o e n hb hx)
  · obtain ⟨sl, e1⟩ := I.base.slot b o e n hb hx
    obtain ⟨sl', e2⟩ := any b _ (neC b o e) e1
    exact ⟨sl', e2⟩
  · obtain ⟨o', e1⟩ := I.base.there b o e hx
    obtain ⟨sl, e2⟩ := any b o' (neC b o e) e1
    exact ⟨_, e2⟩
  · obtain ⟨m, ⟨o, es, ep, ho, hd, r⟩, hl⟩ := I.loc
    obtain ⟨sl, e2⟩ := any _ o (nch _ o ho fun vs z => by rw [hd] at z; cases z) ho
    refine ⟨m, ⟨_, es, ep, e2, hd, r⟩, fun i x v e1 e2 e3 => ?_⟩
    obtain ⟨u, r, l⟩ := hl i x v e1 e2 e3
    refine ⟨u, r, ?_⟩
    rcases l with l | ⟨k, c, e, z⟩
    · exact .inl l
    · exact .inr ⟨k, c, e, cellK x c e _ z⟩
  · obtain ⟨v, z⟩ := I.cell x c e
    exact ⟨v, cellK x c e v z⟩
  · obtain ⟨e, n, ne, nf, d⟩ := I.pin p hp
    have hp' : p ∈ X.pn := by simpa using hp
    have hk : h'.get? p.1 = some p.2 := keep p.1 p.2 (fun z => (hch p.1 z).2.2.1 p hp' rfl) (fun z => by
      rcases List.mem_cons.mp (I.stkSub p.1 z) with q | q
      · exact ne q
      · exact nf q) e
    exact ⟨hk, n, ne, nf, d⟩
  · refine (I.hok a o e).stay (fun b u hb q => ?_) (fun b q => q) fun b xs q => q
    have hne : H b ≠ none := by
      rcases hb with rfl | hb
      · rw [e]; simp
      · rw [hb]; simp
    exact keep b u (fun z => hne (hch b z).2.1) (fun z => hne (I.stkFree b z)) q
end

section
variable {M : Model} {A : Around} {E : Value → Shared → Prop} {s : Shared} {X : Cx} {σ : St} {H : Hp}
theorem note_env {e : Value} {env env' : Env} (h : env.frame = env'.frame) : noteFrame e env = noteFrame e env' := by
  unfold noteFrame PySem.frameOf
  rw [h]
/-- what a station leaves -/
theorem note_end {fenv : Env} {outer : List Env} {x L : Addr} {cls a0 : Value} {l : List Addr} {h1 h' : Heap} (I : Inv X [] σ H s) (hex : X.ex = []) (hst : X.stack = fenv :: outer)
    (hx0 : X.s₀.heap.get? x = none) (hHx : H x = none) (hpx : ∀ p ∈ X.pn, p.1 ≠ x) (hl : ∀ b ∈ l, X.s₀.heap.get? b = none ∧ H b = none ∧ (∀ p ∈ X.pn, p.1 ≠ b) ∧ ∃ o vs, s.heap.get? b = some o ∧ o.data = .fields vs) (hxl : x ∈ l)
    (hh : ∀ b, b ∉ l → h1.get? b = s.heap.get? b) (hN : Heap.NotedW (PySem.W.hideAll s.heap (l ++ frs X.stack)) (fenv :: outer) x cls a0 (rawInt L) h1 h') :
    (Inv X [] σ H { s with heap := h' } ∧ ExcO X.s₀.heap X.pn H h' x cls true) ∧ s.heap.UpToSlots h' := by
  obtain ⟨k1, k2, ⟨oe, vs, T, oT, ts, a1, ⟨a2, a3⟩, a4, a5, a6, a7, a8, a9, a10⟩, k4⟩ := hN
  have nf : ∀ b ∈ frs X.stack, b ∉ l := fun b hb z => by
    obtain ⟨_, o, e, n⟩ := I.stack.mem hb
    obtain ⟨_, _, _, o', vs', e', d⟩ := hl b z
    rw [e] at e'; cases e'
    exact n vs' d
  have up : s.heap.UpToSlots h' := fun b o e n => k4 b o ((hh b fun z => by
    obtain ⟨_, _, _, o', vs', e', d⟩ := hl b z
    rw [e] at e'; cases e'
    exact n vs' d).trans e) n
  refine ⟨⟨I.slots (t' := s.toks) hl (fun b o hb hf e => k1 b o (PySem.W.hideAll_get _ e (by simp [hb, hf]))) (fun b o hb e => ?_), ⟨hx0, hHx, hpx⟩, oe, vs, a0, a1, a2, a4, a3, .inr ⟨T, oT, ts, rawInt L, a5, a7, ?_⟩⟩, up⟩
  · obtain ⟨_, o', e', n⟩ := I.stack.mem hb
    rw [e] at e'; cases e'
    exact k4 b o ((hh b (nf b hb)).trans e) n
  · have hT : T ∈ l ∨ s.heap.get? T = none := by
      by_cases z : T ∈ l
      · exact .inl z
      · cases q : s.heap.get? T with
        | none => exact .inr rfl
        | some o =>
          have hTf : T ∉ frs X.stack := fun z' => by
            rw [hst] at z'
            obtain ⟨_, o', e', n⟩ := k2.mem z'
            rw [a8] at e'; cases e'
            exact n ts a9
          have := PySem.W.hideAll_get (l ++ frs X.stack) q (by simp [z, hTf])
          rw [a6] at this; cases this
    rcases hT with z | z
    · exact ⟨(hl T z).1, (hl T z).2.1, (hl T z).2.2.1, a8, a9, a10⟩
    · have pz : ∀ p ∈ X.pn, p.1 ≠ T := fun p hp q => by
        have e := (I.pin p (by simpa using hp)).1
        rw [q, z] at e; cases e
      refine ⟨?_, I.hok.no z, pz, a8, a9, a10⟩
      cases q : X.s₀.heap.get? T with
      | none => rfl
      | some o => obtain ⟨o', e'⟩ := I.base.there T o q (by rw [hex]; simp); rw [z] at e'; cases e'
theorem note_exc {env' fenv : Env} {outer : List Env} {x L : Addr} {cls : Value} {tr : Bool} {Q : Unit → Shared → Prop} (I : Inv X [] σ H s) (hex : X.ex = []) (hst : X.stack = fenv :: outer) (hf : fenv.frame = some L) (hf' : env'.frame = some L)
    (hA : A.frames = some X.stack) (hx : ExcO X.s₀.heap X.pn H s.heap x cls tr) (k : ∀ h', Inv X [] σ H { s with heap := h' } → ExcO X.s₀.heap X.pn H h' x cls true → s.heap.UpToSlots h' → Q () { s with heap := h' }) :
    wpAny M A (noteFrame (.ref x) env') Q E s := by
  rw [note_env (hf'.trans hf.symm)]
  obtain ⟨⟨hx0, hHx, hpx⟩, oe, vs, a0, he, hcls, hd, h0, hv⟩ := hx
  subst hcls
  rw [hst] at hA
  have hin : ∀ l : List Addr, ∀ env ∈ fenv :: outer, ∀ a, env.frame = some a → a ∈ l ++ frs X.stack := fun l env he a ha => by
    rw [hst]
    exact List.mem_append_right _ (List.mem_filterMap.mpr ⟨env, he, ha⟩)
  have I0 := I.stack
  rw [hst] at I0
  unfold noteFrame
  simp only [hf]
  rcases hv with ⟨_, h1⟩ | ⟨T, oT, ts, f, h1, hTx, hT0, hHT, hpT, hT, hdT, h3⟩
  · refine wpAny_bind (wpAny_field he hd h1 ?_)
    rw [if_neg (by decide)]
    refine wpAny_entryW (base := PySem.W.hideAll s.heap ([x] ++ frs X.stack)) hA (PySem.W.funFrames_hide I0 (hin [x])) hf he (fun b o q => PySem.W.of_hideAll _ q) (PySem.W.hideAll_none _ (by simp)) hd (Array.getElem?_eq_some_iff.mp h1).1 h0 fun h' hN => ?_
    obtain ⟨⟨r1, r2⟩, r3⟩ := note_end (l := [x]) (h1 := s.heap) I hex hst hx0 hHx hpx (fun b hb => by
      have e : b = x := by simpa using hb
      subst e; exact ⟨hx0, hHx, hpx, oe, vs, he, hd⟩) (by simp) (fun _ _ => rfl) hN
    exact k h' r1 r2 r3
  · refine wpAny_bind (wpAny_field he hd h1 ?_)
    rw [if_pos (show (Value.ref T != Value.none) = true from by simp)]
    refine wpAny_bind (wpAny_field hT hdT h3 ?_)
    by_cases hfl : (f == rawInt L) = true
    · rw [if_pos hfl]
      exact wpAny_pure (k s.heap I ⟨⟨hx0, hHx, hpx⟩, oe, vs, a0, he, rfl, hd, h0, .inr ⟨T, oT, ts, f, h1, hTx, hT0, hHT, hpT, hT, hdT, h3⟩⟩ (.refl _))
    · rw [if_neg hfl]
      refine wpAny_bind (wpAny_setField hT hdT (Array.getElem?_eq_some_iff.mp h3).1 ?_)
      have other : ∀ b, b ≠ T → (s.heap.update T (Obj.mapFields (·.setIfInBounds 3 Value.none))).get? b = s.heap.get? b := fun b hb => Heap.get?_update_other _ _ (Ne.symm hb)
      have noRec : ∀ b o, s.heap.get? b = some o → (∀ vs, o.data ≠ .fields vs) → b ≠ T := fun b o hb hnf q => by
        rw [q, hT] at hb; injection hb with hb; subst hb; exact hnf ts hdT
      refine wpAny_entryW (base := PySem.W.hideAll s.heap ([x, T] ++ frs X.stack)) hA ((PySem.W.funFrames_hide I0 (hin [x, T])).of_keeps fun b o hb hnf => ⟨o, (other b (noRec b o hb hnf)).trans hb, rfl⟩) hf ((other x (Ne.symm hTx)).trans he)
        (fun b o q => (other b fun z => by rw [z, PySem.W.hideAll_none _ (by simp)] at q; cases q).trans (PySem.W.of_hideAll _ q)) (PySem.W.hideAll_none _ (by simp)) hd (Array.getElem?_eq_some_iff.mp h1).1 h0 fun h' hN => ?_
      have hll : ∀ b ∈ [x, T], X.s₀.heap.get? b = none ∧ H b = none ∧ (∀ p ∈ X.pn, p.1 ≠ b) ∧ ∃ o vs, s.heap.get? b = some o ∧ o.data = .fields vs := fun b hb => by
        have e : b = x ∨ b = T := by simpa using hb
        rcases e with rfl | rfl
        · exact ⟨hx0, hHx, hpx, oe, vs, he, hd⟩
        · exact ⟨hT0, hHT, hpT, oT, ts, hT, hdT⟩
      obtain ⟨⟨r1, r2⟩, r3⟩ := note_end (l := [x, T]) (h1 := s.heap.update T (Obj.mapFields (·.setIfInBounds 3 Value.none))) I hex hst hx0 hHx hpx hll (by simp) (fun b hb => other b fun z => hb (by simp [z])) hN
      exact k h' r1 r2 r3
end
end L2
set_option Elab.async false
set_option linter.all false
set_option maxRecDepth 100000
namespace L2
open PySem PySem.Spec PyProof.Rows
section
variable {M : Model} {A : Around} {E : Value → Shared → Prop} {s : Shared} {X : Cx} {σ : St} {H : Hp}
theorem flight_exc {fr : Option Addr} {x : Addr} {cls : Value} {Q : Unit → Shared → Prop} (I : Inv X [] σ H s) (hx : ExcO X.s₀.heap X.pn H s.heap x cls true)
    (k : ∀ h', Inv X [] σ H { s with heap := h' } → ExcO X.s₀.heap X.pn H h' x cls true → (∀ b o, s.heap.get? b = some o → (∀ vs, o.data ≠ .fields vs) → h'.get? b = some o) → Q () { s with heap := h' }) : wpAny M A (setFlight (.ref x) fr) Q E s := by
  obtain ⟨⟨hx0, hHx, hpx⟩, oe, vs, a0, he, hcls, hd, h0, ⟨hv, _⟩ | ⟨T, oT, ts, f, h1, hTx, hT0, hHT, hpT, hT, hdT, h3⟩⟩ := hx
  · cases hv
  have hsz3 : 3 < ts.size := (Array.getElem?_eq_some_iff.mp h3).1
  unfold setFlight
  refine wpAny_bind (wpAny_field he hd h1 ?_)
  rw [if_pos (show (Value.ref T != Value.none) = true from by simp)]
  refine wpAny_setField hT hdT hsz3 ?_
  generalize hv : (fr.elim Value.none fun f => rawInt f) = v
  have other : ∀ b, b ≠ T → (s.heap.update T (Obj.mapFields (·.setIfInBounds 3 v))).get? b = s.heap.get? b := fun b hb => Heap.get?_update_other _ _ (Ne.symm hb)
  have hT' : (s.heap.update T (Obj.mapFields (·.setIfInBounds 3 v))).get? T = some (oT.mapFields (·.setIfInBounds 3 v)) := Heap.get?_update_self _ hT (Obj.isFreed_of_fields (Obj.data_mapFields hdT _))
  refine k _ (I.slots (t' := s.toks) (ch := [T]) (fun b hb => ?_) (fun b o hb _ e => (other b (by simpa using hb)).trans e) (fun b o hb e => ?_)) ⟨⟨hx0, hHx, hpx⟩, oe, vs, a0, (other x (Ne.symm hTx)).trans he, hcls, hd, h0, .inr ⟨T, _, _, v, h1, hTx, hT0, hHT, hpT, hT', Obj.data_mapFields hdT _, by simp [hsz3]⟩⟩ fun b o e n => (other b fun z => by rw [z, hT] at e; cases e; exact n ts hdT).trans e
  · have e : b = T := by simpa using hb
    subst e
    exact ⟨hT0, hHT, hpT, oT, ts, hT, hdT⟩
  · obtain ⟨_, o', e', n⟩ := I.stack.mem hb
    have hne : b ≠ T := fun z => by rw [z, hT] at e'; cases e'; exact n ts hdT
    exact ⟨o.slots, (other b hne).trans e⟩
theorem ExcO.rebase {h0 h1 h : Heap} {pn pn' : List (Addr × Obj)} {x : Addr} {cls : Value} {tr : Bool} (e : ExcO h1 pn H h x cls tr) (k : ∀ b, h1.get? b = none → h0.get? b = none ∧ ∀ p ∈ pn', p.1 ≠ b) : ExcO h0 pn' H h x cls tr := by
  obtain ⟨⟨a1, a2, _⟩, oe, vs, a0, b, c, d, e, f⟩ := e
  refine ⟨⟨(k _ a1).1, a2, (k _ a1).2⟩, oe, vs, a0, b, c, d, e, ?_⟩
  rcases f with f | ⟨T, oT, ts, f, f1, f2, f3, f4, _, r⟩
  · exact .inl f
  · exact .inr ⟨T, oT, ts, f, f1, f2, (k _ f3).1, f4, (k _ f3).2, r⟩
end

/-- a def's own body (not a comprehension's block) -/
structure FnCx (X : Cx) : Prop where
  ex : X.ex = []
  stk : X.stack = X.env :: X.outer
  fr : X.env.frame = some X.env.locals
theorem FnCx.of {CX : CXT} {P : Program} {w : World} {K : PySem.W.Frag} {mg : Str → Option Value} {base : Heap} {N : List Str} {qual : Str} {scope : Scope} {f : Addr} {cd : Value} {A : Around} {outer : List Env} {s : Shared} {H : Hp} {E : XK} :
    FnCx (cxOf CX P w K mg base N qual scope f cd A outer s H E) := ⟨rfl, rfl, rfl⟩
/-- how an exception lies behind a call -/
def CXE (P : Program) (w : World) : CXT := fun outer H s E e s' => ∃ x cls H', e = .ref x ∧ s'.os = s.os ∧ AllBare s'.gens ∧ Un (frs outer) [] H H' s.heap s'.heap ∧ HOk P w H' s'.heap ∧ ExcO s.heap [] H' s'.heap x cls true ∧ E cls none H'
/-- .. and within the body that it leaves -/
def XE (X : Cx) (E : XK) : Value → Shared → Prop := fun e s' => ∃ x cls σ H tr, e = .ref x ∧ Inv X.nox [] σ H s' ∧ ExcO X.s₀.heap X.pn H s'.heap x cls tr ∧ E cls none H
section
variable {X : Cx} {E : XK}
theorem Inv.gone {pins : List (Addr × Obj)} {σ : St} {H : Hp} {s : Shared} (I : Inv X pins σ H s) (hex : X.ex = []) : ∀ b, s.heap.get? b = none → X.s₀.heap.get? b = none := fun b e => by
  cases q : X.s₀.heap.get? b with
  | none => rfl
  | some o => obtain ⟨o', e'⟩ := I.base.there b o q (by rw [hex]; simp); rw [e] at e'; cases e'
theorem Inv.pnew {pins : List (Addr × Obj)} {σ : St} {H : Hp} {s : Shared} (I : Inv X pins σ H s) {b : Addr} (e : s.heap.get? b = none) : ∀ p ∈ X.pn, p.1 ≠ b := fun p hp z => by
  have := (I.pin p (List.mem_append_left _ hp)).1
  rw [z, e] at this; cases this
theorem Inv.nopins {pins : List (Addr × Obj)} {σ : St} {H : Hp} {s : Shared} (I : Inv X pins σ H s) : Inv X [] σ H s := I.pins_of fun p hp => by simp at hp
/-- an exception of a callee -/
theorem passX (F : FnCx X) : Passes (CXE X.prog X.w) (X.wish (XE X E)) E := by
  intro pins σ H s e s' I h
  obtain ⟨x, cls, H', rfl, os, bare, un, hok, hx, q⟩ := h
  obtain ⟨hh, g, d, t', os'⟩ := s'
  obtain rfl : os' = s.os := os
  have I' := I.call (h' := hh) (g' := g) (d' := d) (t' := t') (ch := []) un hok bare (fun b z => absurd z (by simp))
  exact ⟨x, cls, σ, H', true, rfl, I'.nopins.unwish.wish _, hx.rebase fun b e => ⟨I.gone F.ex b e, I.pnew e⟩, q⟩
/-- it is noted here, and goes on -/
theorem noteX {A : Around} {env' : Env} {E' : Value → Shared → Prop} {e : Value} {s : Shared} {M : Model} (F : FnCx X) (hA : A.frames = some X.stack) (hf : env'.frame = X.env.frame) (h : XE X E e s) {Q : Unit → Shared → Prop}
    (k : ∀ x cls σ H h', e = .ref x → Inv X.nox [] σ H { s with heap := h' } → ExcO X.s₀.heap X.pn H h' x cls true → E cls none H → s.heap.UpToSlots h' → Q () { s with heap := h' }) : wpAny M A (noteFrame e env') Q E' s := by
  obtain ⟨x, cls, σ, H, tr, rfl, I, hx, q⟩ := h
  exact note_exc (X := X.nox) I F.ex F.stk F.fr (hf.trans F.fr) hA hx fun h' I' x' u' => k x cls σ H h' rfl I' x' q u'
theorem ownX (F : FnCx X) : PassesOwn (model X.prog X.w) X.A X.env (XE X E) := by
  intro e s' h
  have hA : X.A.frames = some X.stack := by obtain ⟨_, _, _, _, _, _, I, _⟩ := h; exact I.ok.frames
  refine noteX F hA rfl h fun x cls σ H h' he I hx q _ => ?_
  subst he
  obtain ⟨_, oe, vs, a0, hoe, hcls, hd, h0, ⟨hv, _⟩ | ⟨T, oT, ts, f, h1, r⟩⟩ := id hx
  · cases hv
  unfold cameBackBy
  refine wpAny_bind (wpAny_field (s := { s' with heap := h' }) hoe hd h1 ?_)
  rw [if_neg (show ¬ ((Value.ref T == Value.none) = true) from by simp)]
  exact flight_exc (X := X.nox) I hx fun h'' I' x' _ => ⟨x, cls, σ, H, true, rfl, I', x', q⟩
theorem ownW (F : FnCx X) : PassesOwn (model (X.wish (XE X E)).prog (X.wish (XE X E)).w) (X.wish (XE X E)).A (X.wish (XE X E)).env (X.wish (XE X E)).xe := ownX (X := X) (E := E) F
/-- the exception leaves the frame -/
theorem leaveX {P : Program} {w : World} {K : PySem.W.Frag} {mg : Str → Option Value} {base : Heap} {N : List Str} {qual : Str} {scope : Scope} {f : Addr} {cd : Value} {A : Around} {outer : List Env} {s s' : Shared} {H : Hp} {E : XK} {e : Value}
    (h : XE (cxOf (CXE P w) P w K mg base N qual scope f cd A outer s H E) E e s') : (cxOf (CXE P w) P w K mg base N qual scope f cd A outer s H E).xe e s' := by
  have hA : (cxOf (CXE P w) P w K mg base N qual scope f cd A outer s H E).A.frames = some (cxOf (CXE P w) P w K mg base N qual scope f cd A outer s H E).stack := by
    obtain ⟨_, _, _, _, _, _, I, _⟩ := h
    exact I.ok.frames
  show wpAny (model P w) _ (leaving _ e) _ _ s'
  unfold leaving
  refine wpAny_bind (noteX FnCx.of hA rfl h fun x cls σ H1 h' he I hx q _ => ?_)
  subst he
  exact flight_exc (X := (cxOf (CXE P w) P w K mg base N qual scope f cd A outer s H E).nox) I hx fun h'' I' x' _ => ⟨x, cls, H1, rfl, I'.os, I'.bare, I'.base, I'.hok, x', q⟩
end
/-- a body that may raise -/
theorem PSs.raise {P : Program} {w : World} {K : PySem.W.Frag} {mg : Str → Option Value} {base : Heap} {N : List Str} {qual : Str} {scope : Scope} {f : Addr} {cd : Value} {A : Around} {outer : List Env} {s : Shared} {H : Hp} {E : XK} {st : List Stmt} {t : TS}
    (h : PSs ((cxOf (CXE P w) P w K mg base N qual scope f cd A outer s H E).wish (XE (cxOf (CXE P w) P w K mg base N qual scope f cd A outer s H E) E)) st t) : PSs (cxOf (CXE P w) P w K mg base N qual scope f cd A outer s H E) st t := fun pins s σ H D I hw =>
  wpAny_mono (h pins s σ H D (I.wish _) hw) (fun _ _ q => q.unwish) fun _ _ z => leaveX z
/-- THE RULE for a def that may raise: E cls none H is what is wanted of an exception of the class cls -/
theorem Fun.okX {P : Program} {w : World} {K : PySem.W.Frag} {mg : Str → Option Value} {base : Heap} {x qual : Str} {st : Stmt} {f : Addr} {fd : FuncData} {N ps : List Str} {k : Nat} {sp : Sp} (F : Fun K x qual st f fd) (S : FnScope N ps (defScope st)) (len : ∀ vs H Q E, sp vs H Q E → vs.length = ps.length)
    (hbody : ∀ (cdv : Value) (A : Around) (outer : List Env) (s : Shared) (H : Hp) (vs : List V) (Q : VK) (E : XK), Room k (A.deeper (envOfC qual (defScope st) s.heap.objs.size f cdv)) → sp vs H Q E →
      ∃ t, PSs ((cxOf (CXE P w) P w K mg base N qual (defScope st) f cdv A outer s H E).wish (XE (cxOf (CXE P w) P w K mg base N qual (defScope st) f cdv A outer s H E) E)) (defBody st) t ∧ t { nx := fun _ H' => Q .non H', rt := Q } (start N vs) H) : FnOk P w K mg base (CXE P w) (k + 1) f fd ps sp := by
  obtain ⟨oc, od, kV, doc, pm, an, cdv, ct, osl, rfl, lk, hcd⟩ := F.ex
  refine fn_of lk hcd S len fun A outer s H vs Q E hr hsp => ?_
  obtain ⟨t, h, q⟩ := hbody cdv A outer s H vs Q E hr hsp
  exact ⟨t, h.raise, q⟩
/-- a def that raises nothing, where one is wanted that may -/
theorem FnOk.calm {P : Program} {w : World} {K : PySem.W.Frag} {mg : Str → Option Value} {base : Heap} {CX : CXT} {k : Nat} {f : Addr} {fd : FuncData} {ps : List Str} {sp : Sp} (F : FnOk P w K mg base CX0 k f fd ps sp) : FnOk P w K mg base CX k f fd ps sp :=
  ⟨F.len, fun A outer s H args us vs Q E hr he hb hv hs => codeAny_mono (F.run A outer s H args us vs Q E hr he hb hv hs) fun r s' hq => by
    cases r with
    | error e => exact hq.elim
    | ok fl => cases fl <;> exact hq⟩
/-- a def that may raise, but will not here -/
theorem FnOk.sure {P : Program} {w : World} {K : PySem.W.Frag} {mg : Str → Option Value} {base : Heap} {k : Nat} {f : Addr} {fd : FuncData} {ps : List Str} {sp : Sp} (F : FnOk P w K mg base (CXE P w) k f fd ps sp) :
    FnOk P w K mg base CX0 k f fd ps (fun vs H Q _ => sp vs H Q E0) :=
  ⟨fun vs H Q _ h => F.len vs H Q E0 h, fun A outer s H args us vs Q E hr he hb hv hs => codeAny_mono (F.run A outer s H args us vs Q E0 hr he hb hv hs) fun r s' hq => by
    cases r with
    | error e => obtain ⟨_, _, _, _, _, _, _, _, _, z⟩ := hq; exact z.elim
    | ok fl => cases fl <;> exact hq⟩
end L2
set_option Elab.async false
set_option linter.all false
set_option maxRecDepth 100000
namespace L2
open PySem PySem.Spec PyProof.Rows
/-! ### raise C(..), C an own class below ValueError -/
abbrev bmV : List Value := [.type "ValueError", .type "Exception", .type "BaseException", .type "object"]
abbrev ExcC (K : PySem.W.Frag) (C : Addr) : Prop := PySem.W.excIn K C bmV "ValueError.__new__" = true
theorem own_obj {K : PySem.W.Frag} {h : Heap} {C : Addr} (X : K.In h) (q : ExcC K C) : ∃ bm N nm qn bs hdct sn sub ab col dd k0 k1 k2 k3 k5 mN, h.get? C = some (excClassObj nm qn C N bs bm hdct sn sub ab col dd k0 k1 k2 k3 k5 "ValueError.__new__") ∧ h.Ns N mN ∧ mN "__init__" = none ∧ OwnTail h bmV bm := by
  unfold ExcC PySem.W.excIn at q
  split at q
  · rename_i dd cd sl ho
    split at q
    · rename_i C' bm k0 k1 k2 k3 n k5 hm hs
      simp only [Bool.and_eq_true, beq_iff_eq, Bool.not_eq_true'] at q
      obtain ⟨⟨⟨⟨⟨rfl, rfl⟩, hdel⟩, ht⟩, hok⟩, hni⟩ := q
      obtain ⟨nm, bs, mro, ns, qn, hd, sn, sub, ab, col, del⟩ := cd
      dsimp only at hm hdel hok hni
      subst hm hdel
      have hsl : sl = #[k0, k1, k2, k3, some (.builtin "ValueError.__new__"), k5] := by
        obtain ⟨l⟩ := sl
        simp only at hs
        rw [hs]
      subst hsl
      exact ⟨bm, ns, nm, qn, bs, hd, sn, sub, ab, col, dd, k0, k1, k2, k3, k5, _, X _ _ ho, .of_isNs (PySem.W.isNs_of_in X hok), PySem.W.nsMap_none_of_in X hok hni, PySem.W.tail_of_in X ht⟩
    · cases q
  · cases q
def tRaise (C : Addr) (E : XK) (ta : TA) : TS := fun _ σ H => ta σ H fun vs H1 => vs.length ≤ 1000 ∧ E (.ref C) none H1
section
variable {X : Cx} {E : XK} {x : Str} {C : Addr} {e : Expr} {es : List Expr} {ta : TA} {np cpos pos : Pos}
theorem ps_raise (F : FnCx X) (hc : X.calm = true) (hg : Gl X x) (hm : X.mg x = some (.ref C)) (hC : ExcC X.K C) (ha : PA (X.wish (XE X E)) (e :: es) ta) (hdb : (x == ("__debug__" : Str)) = false := by decide)
    (he : starEach (e :: es) X.env = (false, eval e X.env) :: starEach es X.env := by rfl) (hpl : (backTo cpos (starEach es X.env)).any (·.1) = false := by rfl) :
    PS (X.wish (XE X E)) (.Raise (some (.Call (.Name x np) (e :: es) [] cpos)) none pos) (tRaise C E ta) := by
  intro pins s σ H D I h
  obtain ⟨tl, N, nm, q, bs, hdct, sn, sub, ab, col, dd, k0, k1, k2, k3, k5, mN, hCo, hN, hni, T⟩ := own_obj I.ok.mod.kin hC
  refine wpAny_Raise_call_subT (C := C) (nm := nm) (q := q) (N := N) (bs := bs) (bm := tl) (hdct := hdct) (sn := sn) (sub := sub) (ab := ab) (col := col) (dd := dd) (k0 := k0) (k1 := k1) (k2 := k2) (k3 := k3) (k5 := k5)
    PySem.F.excBase_ValueError (mN := mN) (T.hasType PySem.F.excBase_ValueError.hasBase) (I.ok.hd hc) (by rw [show starEach (e :: es) (X.wish (XE X E)).env = _ from he]; show (false || (backTo cpos (starEach es X.env)).any (·.1)) = false; rw [hpl]; rfl) hni
    (ld_glob I hg hm ⟨rfl, ?_⟩ hdb)
  have hsp := ha cpos pins s σ H _ I h
  rw [show starEach (e :: es) (X.wish (XE X E)).env = _ from he] at hsp ⊢
  refine Calls.evalArgs_plain (wpAny_mono hsp (fun us s2 ⟨vs, H1, I1, r1, q1, q2⟩ => ?_) fun _ _ y => y)
  refine ⟨rfl, ?_, I1.bk _ _ hCo, hN.keeps I1.bk, T.keeps I1.bk, fun h' x' mk => ?_⟩
  · show us.length ≤ sizeLine
    rw [← r1.length]
    exact Nat.le_of_lt (small1000 q1)
  · obtain ⟨t, ht, _, _⟩ := mk.there
    have I2 : Inv (X.wish (XE X E)) pins σ H1 { s2 with heap := h' } := I1.kept (t' := s2.toks) mk.keeps
    exact ⟨x', .ref C, σ, H1, false, rfl, I2.nopins.unwish.wish _, ⟨⟨I1.gone F.ex _ mk.new, I1.hok.no mk.new, I1.pnew mk.new⟩, _, _, _, ht, rfl, rfl, rfl, .inl ⟨rfl, rfl⟩⟩, q2⟩
end
end L2
set_option Elab.async false
set_option linter.all false
set_option maxRecDepth 100000
/-! ### comprehensions whose items may raise -/
namespace L2
open PySem PySem.Spec PyProof.Rows
section
variable {X : Cx}
/-- an exception within the block, whose names stand at C -/
def XB (X : Cx) (E : XK) (C : Addr) : Value → Shared → Prop := fun e s' => ∃ x cls σ H tr, e = .ref x ∧ Inv X.nox [] σ H s' ∧ ExcO X.s₀.heap X.pn H s'.heap x cls tr ∧ E cls none H ∧ H C = none ∧ ∃ m, s'.heap.Ns C m
end
end L2
set_option Elab.async false
set_option linter.all false
set_option maxRecDepth 100000
/-! ### try .. except C as n -/
namespace L2
open PySem PySem.Spec PyProof.Rows
section
variable {M : Model} {A : Around} {E : Value → Shared → Prop} {s : Shared} {K : PySem.W.Frag}
/-- what stands behind a handler's class -/
structure ExcS (K : PySem.W.Frag) (S : Addr) : Prop where
  ty : PySem.W.typeIn K (.ref S) = some (.type "type")
  cl : (PySem.W.clsIn K S).isSome = true
  be : PySem.W.subIn K (.ref S) (.type "BaseException") = some true
theorem ExcS.isT {h : Heap} {S : Addr} (Z : ExcS K S) (X : K.In h) : PySem.W.Looks M h (isType (.ref S)) true := by
  have z := Z.cl
  unfold PySem.W.clsIn at z
  split at z
  · rename_i ho
    intro A' Q' E' s' k q
    unfold isType loadHead
    exact wpAny_bind (wpAny_loadPart (k _ _ (X _ _ ho)) (wpAny_pure q))
  · cases z
theorem exc_match {e S d : Addr} {oe : Obj} {b : Bool} {Q : Bool → Shared → Prop} (X : K.In s.heap) (Z : ExcS K S) (he : s.heap.get? e = some oe) (hcls : oe.cls = .ref d) (hd : PySem.W.subIn K (.ref d) (.ref S) = some b) (h : Q b s) :
    wpAny M A (excMatches (.ref e) (.ref S)) Q E s := by
  have L1 : PySem.W.Looks M s.heap (isInstance (.ref S) (.type "tuple")) false := (PySem.W.looks_typeIn X Z.ty).andThen (PySem.W.Looks.of_pure tc_notTuple)
  have L2 : PySem.W.Looks M s.heap (isExcClass (.ref S)) true := (Z.isT X).andThen (PySem.W.looks_subIn X Z.be)
  have L3 : PySem.W.Looks M s.heap (typeOf (.ref e)) (.ref d) := hcls ▸ (PySem.W.Looks.ld he).andThen .now
  have L4 : PySem.W.Looks M s.heap (isSubtype (.ref d) (.ref S)) b := PySem.W.looks_subIn X hd
  unfold excMatches
  refine wpAny_bind (L1.here ?_)
  simp only [Bool.false_eq_true, if_false, pure_bind, List.forIn_cons, List.forIn_nil]
  refine wpAny_bind (wpAny_bind (wpAny_bind (L2.here ?_)))
  simp only [Bool.not_true, Bool.false_eq_true, if_false, pure_bind]
  refine wpAny_pure ?_
  dsimp only
  refine wpAny_pure ?_
  refine wpAny_bind (L3.here ?_)
  refine wpAny_bind (wpAny_bind (wpAny_bind (L4.here ?_)))
  cases b with
  | true => exact wpAny_pure (wpAny_pure (wpAny_pure h))
  | false => exact wpAny_pure (wpAny_pure (wpAny_pure h))
end

/-- an exception that is looked at -/
def EXφ (x : Addr) (cls : Value) (h : Heap) : Prop := ∃ oe vs, h.get? x = some oe ∧ oe.cls = cls ∧ oe.data = .fields vs
def EXO (x : Addr) (cls : Value) : HO := .ext (EXφ x cls)
theorem exo_ok {P : Program} {w : World} {H : Hp} {h : Heap} {x : Addr} {cls : Value} (e : EXφ x cls h) : ObjOk P w H h x (EXO x cls) := by
  obtain ⟨oe, vs, e1, e2⟩ := id e
  exact ⟨e, ⟨oe, e1⟩, fun h1 h2 ⟨o, v, y, z⟩ k => ⟨o, v, k o y, z⟩⟩
section
variable {X : Cx} {σ : St} {H : Hp} {s : Shared} {pins : List (Addr × Obj)}
theorem Inv.promoteX {x : Addr} {cls : Value} {tr : Bool} (I : Inv X [] σ H s) (hx : ExcO X.s₀.heap X.pn H s.heap x cls tr) : Inv X [] σ (upd H x (EXO x cls)) s := by
  obtain ⟨⟨hx0, hHx, hpx⟩, oe, vs, a0, he, hcls, hd, h0, _⟩ := hx
  have ne : ∀ b o, s.heap.get? b = some o → (∀ vs, o.data ≠ .fields vs) → b ≠ x := fun b o e n z => by rw [z, he] at e; cases e; exact n vs hd
  refine ⟨I.ok, I.os, I.bare, ⟨I.base.keep, I.base.slot, fun b o e n hb => ?_, I.base.there, fun b xs e => ?_, fun b o u e => ?_, fun b ps e => ?_⟩, I.loc, I.cell, ?_, fun y c e => ?_, fun p hp => ?_, fun a o e => ?_, I.len⟩
  · rw [upd_ne (fun z => by rw [z, hx0] at e; cases e)]; exact I.base.free b o e n hb
  · have := I.base.tups b xs e
    rw [upd_ne (ne_of_none this hHx)]; exact this
  · have := I.base.frzs b o u e
    rw [upd_ne (ne_of_none this hHx)]; exact this
  · obtain ⟨m, this⟩ := I.base.tbls b ps e
    exact ⟨m, by rw [upd_ne (ne_of_none this hHx)]; exact this⟩
  · obtain ⟨m, ⟨o, es, ep, ho, hdd, _⟩, _⟩ := I.loc
    rw [upd_ne (ne _ o ho fun vs z => by rw [hdd] at z; cases z)]; exact I.free
  · obtain ⟨v, o, ho, hdd⟩ := I.cell y c e
    rw [upd_ne (ne _ o ho fun vs z => by rw [hdd] at z; cases z)]; exact I.freeC y c e
  · obtain ⟨e, n, r⟩ := I.pin p hp
    exact ⟨e, by rw [upd_ne (hpx p (by simpa using hp))]; exact n, r⟩
  · by_cases hb : a = x
    · subst hb; rw [upd_same] at e; cases e; exact exo_ok ⟨oe, vs, he, hcls, hd⟩
    · rw [upd_ne hb] at e
      exact (I.hok a o e).stay (fun c v _ q => q) (fun c q => by rw [upd_ne (ne_of_none q hHx)]; exact q) fun c xs q => by rw [upd_ne (ne_of_none q hHx)]; exact q
/-- names are forgotten -/
theorem Inv.forget (I : Inv X pins σ H s) : Inv X pins (List.replicate X.N.length none) H s := by
  refine ⟨I.ok, I.os, I.bare, I.base, ?_, I.cell, I.free, I.freeC, I.pin, I.hok, by simp⟩
  obtain ⟨m, hn, _⟩ := I.loc
  refine ⟨m, hn, fun i x v _ e _ => ?_⟩
  rw [List.getElem?_replicate] at e
  split at e <;> cases e
/-- a name goes -/
theorem Inv.unbind {i : Nat} {n : Str} {v : Option Value} {m : Str → Option Value} {h' : Heap} {t' : Nat} (I : Inv X pins σ H s) (hi : X.N[i]? = some n) (hN : X.N.Nodup) (hn' : h'.Ns X.env.locals (fun x => if x = n then v else m x)) (hs : Heap.SameBut X.env.locals s.heap h')
    (hl : ∀ (i : Nat) (x : Str) (v : V), X.N[i]? = some x → σ[i]? = some (some v) → Vis X.env.scope x → ∃ u, RelV v u ∧ Look X.env s.heap m x u) : Inv X pins (σ.set i none) H { s with heap := h', toks := t' } := by
  have neL : ∀ b o, X.s₀.heap.get? b = some o → b ≠ X.env.locals := fun b o e => Nat.ne_of_lt (Nat.lt_of_lt_of_le (Heap.lt_size e) I.ok.above)
  have cne := I.cne
  refine ⟨I.ok, I.os, I.bare, ⟨fun b o e n hb hx => ?_, fun b o e n hb hx => ?_, I.base.free, fun b o e hx => ?_, I.base.tups, I.base.frzs, I.base.tbls⟩, ⟨_, hn', fun j y v' e1 e2 e3 => ?_⟩, fun y c e => ?_, I.free, I.freeC, fun p hp => ?_, fun b ob e => ?_, by simpa using I.len⟩
  · exact (hs.2 b (neL b o e)).trans (I.base.keep b o e n hb hx)
  · obtain ⟨sl, e1⟩ := I.base.slot b o e n hb hx
    exact ⟨sl, (hs.2 b (neL b o e)).trans e1⟩
  · obtain ⟨o', e1⟩ := I.base.there b o e hx
    exact ⟨o', (hs.2 b (neL b o e)).trans e1⟩
  · by_cases hj : j = i
    · subst hj
      rw [List.getElem?_set] at e2
      simp at e2
    · rw [List.getElem?_set_ne (Ne.symm hj)] at e2
      obtain ⟨u', r', q⟩ := hl j y v' e1 e2 e3
      refine ⟨u', r', ?_⟩
      rcases q with ⟨k, e⟩ | ⟨k, c, e, z⟩
      · refine .inl ⟨k, ?_⟩
        have : y ≠ n := fun e => hj (nodup_ix hN e1 (e ▸ hi))
        simp [this, e]
      · exact .inr ⟨k, c, e, z.sameBut hs (cne y c e)⟩
  · obtain ⟨w', z⟩ := I.cell y c e
    exact ⟨w', z.sameBut hs (cne y c e)⟩
  · obtain ⟨e, n, ne, nf, d⟩ := I.pin p hp
    exact ⟨(hs.2 p.1 ne).trans e, n, ne, nf, d⟩
  · refine (I.hok b ob e).stay (fun c w' hc q => (hs.2 c ?_).trans q) (fun _ q => q) fun _ _ q => q
    rintro rfl
    have hf := I.free
    rcases hc with hc | hc
    · rw [hc, e] at hf; cases hf
    · rw [hc] at hf; cases hf
end
/-- the context of an except suite -/
abbrev Cx.suite (X : Cx) (x : Addr) : Cx := { X with A := X.A.mark (some (.ref x)), calm := false, xe := fun _ _ => False }
/-- .. of a try in a loop: the loop's records -/
abbrev Cx.pinBy (X : Cx) (pins : List (Addr × Obj)) : Cx := { X with pn := X.pn ++ pins }
section
variable {X : Cx} {σ : St} {H : Hp} {s : Shared} {pins : List (Addr × Obj)} {x : Addr}
theorem Inv.suite (I : Inv X [] σ H s) (x : Addr) : Inv (X.suite x) [] σ H s :=
  ⟨⟨I.ok.mod, I.ok.kind, I.ok.glob, I.ok.blt, I.ok.above, I.ok.inj, I.ok.has, I.ok.cab, fun z => (Bool.false_ne_true z).elim, I.ok.frames, I.ok.stk, I.ok.exf, I.ok.bs, I.ok.bsz, I.ok.noex, I.ok.exfs, I.ok.funs, I.ok.frf⟩, I.os, I.bare, I.base, I.loc, I.cell, I.free, I.freeC, I.pin, I.hok, I.len⟩
theorem Inv.unsuite (ok : X.Ok) (I : Inv (X.suite x) [] σ H s) : Inv X [] σ H s := ⟨ok, I.os, I.bare, I.base, I.loc, I.cell, I.free, I.freeC, I.pin, I.hok, I.len⟩
theorem Inv.pinBy (I : Inv X pins σ H s) : Inv (X.pinBy pins) [] σ H s :=
  ⟨⟨I.ok.mod, I.ok.kind, I.ok.glob, I.ok.blt, I.ok.above, I.ok.inj, I.ok.has, I.ok.cab, I.ok.hd, I.ok.frames, I.ok.stk, I.ok.exf, I.ok.bs, I.ok.bsz, I.ok.noex, I.ok.exfs, I.ok.funs, I.ok.frf⟩, I.os, I.bare, I.base, I.loc, I.cell, I.free, I.freeC, fun p hp => I.pin p (by simpa using hp), I.hok, I.len⟩
theorem Inv.unpinBy (I : Inv (X.pinBy pins) [] σ H s) : Inv X pins σ H s :=
  ⟨⟨I.ok.mod, I.ok.kind, I.ok.glob, I.ok.blt, I.ok.above, I.ok.inj, I.ok.has, I.ok.cab, I.ok.hd, I.ok.frames, I.ok.stk, I.ok.exf, I.ok.bs, I.ok.bsz, I.ok.noex, I.ok.exfs, I.ok.funs, I.ok.frf⟩, I.os, I.bare, I.base, I.loc, I.cell, I.free, I.freeC, fun p hp => I.pin p (by simpa using hp), I.hok, I.len⟩
end
def tTry (K : PySem.W.Frag) (S : Addr) (j N : Nat) (tb : XK → TS) (th to : TS) : TS := fun D σ H =>
  tb (fun cls _ H' => ∃ d, cls = .ref d ∧ PySem.W.subIn K (.ref d) (.ref S) = some true ∧ ∀ x, H' x = none → th { nx := fun σ' H2 => D.nx (σ'.set j none) H2, rt := D.rt, bk := fun σ' H2 => D.bk (σ'.set j none) H2, ct := fun σ' H2 => D.ct (σ'.set j none) H2 } ((List.replicate N none).set j (some (.ref x))) (upd H' x (EXO x cls))) { D with nx := to D } σ H
section
variable {X : Cx} {c n : Str} {S : Addr} {j : Nat} {body suite orelse : List Stmt} {b₀ : Stmt} {np hpos pos : Pos} {tb : XK → TS} {th to : TS}
theorem ps_try (F : FnCx X) (hc : X.calm = true) (hN : X.N.Nodup) (hg : Gl X c) (hm : X.mg c = some (.ref S)) (Z : ExcS X.K S) (hj : X.N[j]? = some n) (hn : X.env.scope.names.lookup n = some .local)
    (hb : ∀ pins E1, PSs ((X.pinBy pins).wish (XE (X.pinBy pins) E1)) body (tb E1)) (hs : ∀ pins x, PSs ((X.pinBy pins).suite x) (b₀ :: suite) th) (ho : PSs X orelse to) (hdb : (c == ("__debug__" : Str)) = false := by decide) :
    PS X (.Try body [.ExceptHandler (some (.Name c np)) (some n) (b₀ :: suite) hpos] orelse [] pos) (tTry X.K S j X.N.length tb th to) := by
  intro pins s σ H D I h
  have F' : FnCx (X.pinBy pins) := ⟨F.ex, F.stk, F.fr⟩
  refine wpAny_Try_except (wpAny_mono (hb pins _ [] s σ H _ (I.pinBy.wish _) h) (fun f s1 q => ?_) (fun e s1 q => ?_))
  · have q := q.unwish
    cases f with
    | next => obtain ⟨σ', H', I', q⟩ := q; exact ho pins s1 σ' H' D I'.unpinBy q
    | brk => obtain ⟨σ', H', I', q⟩ := q; exact ⟨σ', H', I'.unpinBy, q⟩
    | cont => obtain ⟨σ', H', I', q⟩ := q; exact ⟨σ', H', I'.unpinBy, q⟩
    | ret u => obtain ⟨v, σ', H', I', r, q⟩ := q; exact ⟨v, σ', H', I'.unpinBy, r, q⟩
  · obtain ⟨x, cls, σ1, H1, tr, rfl, I0, x0, d, rfl, hd, hq⟩ := q
    refine note_exc (X := (X.pinBy pins).nox) I0 F'.ex F'.stk F'.fr F'.fr I.ok.frames x0 fun h1 I1 x1 _ => ?_
    refine flight_exc (X := (X.pinBy pins).nox) (s := { s1 with heap := h1 }) I1 x1 fun h2 I2 x2 _ => ?_
    obtain ⟨_, oe, vs, a0, hoe, hcls, hdd, _⟩ := id x2
    refine wpAny_handleBy_cons (codeAny_handlers_test (ld_glob (X := (X.pinBy pins).suite x) (I2.suite x) hg hm ?_ hdb)) (by intro q; cases q)
    refine exc_match (s := { s1 with heap := h2 }) I2.kIn Z hoe hcls hd ?_
    refine codeAny_handlers_suite_as ?_
    refine flight_exc (X := (X.pinBy pins).nox) (s := { s1 with heap := h2 }) I2 x2 fun h3 I3 x3 _ => ?_
    have I4 : Inv (X.pinBy pins).nox [] (List.replicate X.N.length none) (upd H1 x (EXO x (.ref d))) { s1 with heap := h3 } := (I3.promoteX x3).forget
    refine store_ok2 (X := (X.pinBy pins).suite x) (v := .ref x) (I4.suite x) hN hj (Or.inl hn) rfl (fun s4 I5 _ => ?_) (Or.inr hn)
    refine wpAny_mono (hs pins x [] s4 _ _ _ I5 (hq x x3.1.2.1)) (fun f s5 q5 => ?_) fun _ _ z => z.elim
    have un : ∀ {σ' : St} {H' : Hp} {Q' : Unit → Shared → Prop} {E' : Value → Shared → Prop}, Inv ((X.pinBy pins).suite x) [] σ' H' s5 → (∀ s6, Inv X pins (σ'.set j none) H' s6 → Q' () s6) → wpAny (model X.prog X.w) X.A (do bindName X.env n .none; unbindBehindTheSuite X.env n hpos) Q' E' s5 := fun {σ' H' Q' E'} J k => by
      have J' : Inv X pins σ' H' s5 := (J.unsuite (X := (X.pinBy pins).nox) I4.ok).unwish.unpinBy
      obtain ⟨m, hm', hl⟩ := id J'.loc
      exact wpAny_nameGoes_keeps hn hm' (by rw [J'.ok.kind]; rfl) fun h' v hn' hs' => k _ (J'.unbind hj hN hn' hs' hl)
    cases f with
    | next => obtain ⟨σ', H', J, q⟩ := q5; exact un J fun s6 K6 => ⟨_, _, K6, q⟩
    | brk => obtain ⟨σ', H', J, q⟩ := q5; exact un J fun s6 K6 => ⟨_, _, K6, q⟩
    | cont => obtain ⟨σ', H', J, q⟩ := q5; exact un J fun s6 K6 => ⟨_, _, K6, q⟩
    | ret u => obtain ⟨v, σ', H', J, r, q⟩ := q5; exact un J fun s6 K6 => ⟨v, _, _, K6, r, q⟩
end
end L2
set_option Elab.async false
set_option linter.all false
set_option maxRecDepth 100000
/-! ### isinstance of an exception -/
namespace L2
open PySem PySem.Spec PyProof.Rows PySem.W
section
variable {prog : Program} {w : World} {A : Around} {E : Value → Shared → Prop} {h : Heap} {g : Array GenState} {d : Drawn} {t : Nat} {os : OsState} {x C : Addr} {o : Obj} {K : Frag}
theorem xc_get {R : Result → Shared → Prop} {tp : Value} (X : K.In h) (hx : h.get? x = some o) (hc : o.cls = .ref C) (hm : mroIn K C (.type "object") = some true) (hq : R (.ok (.ret (.ref C))) ⟨h, g, d, t, os⟩) :
    codeAny (model prog w) A (.call (.builtin "getset_descriptor.__get__") ⟨[.builtin "object.__class__", .ref x, tp], []⟩) R ⟨h, g, d, t, os⟩ := by
  have L0 : Looks (model prog w) h (typeOf (.ref x)) (.ref C) := hc ▸ (Looks.ld hx).andThen .now
  have L1 : Looks (model prog w) h (isSubtype (.ref C) (.type (".".intercalate ("object.__class__".cutAt '.').dropLast))) true := by rw [F.owner_object_class]; exact looks_mroIn X hm
  have hT5 : (⟨h, g, d, t, os⟩ : Shared).TypeIs (.builtin "object.__class__") "getset_descriptor" := F.typeOf_object_class
  refine codeAny_call_builtin F.slot_gs_get.plain F.entry_gs_get (F.slot_gs_get.check _ _ _ _ _ _ _ _ hT5 (F.args_gs_get _ _ _) ?_)
  repeat (any_goals (first | assumption | (with_reducible refine wpAny_loadPart_at hx ?_; rw [hc]) | with_reducible refine L0.at ?_ | with_reducible refine L1.at ?_ | wp_step))
  refine ⟨Code.quiet_builtin _ (by decide +kernel), codeAny_builtin F.entry_object_class ?_⟩
  repeat (any_goals (first | assumption | (with_reducible refine wpAny_loadPart_at hx ?_; rw [hc]) | with_reducible refine L0.at ?_ | wp_step))
theorem xc_entry {tk : Tok} {Q : Fin → Shared → Prop} (X : K.In h) (hx : h.get? x = some o) (hc : o.cls = .ref C) (hm : mroIn K C (.type "object") = some true) (f3 : findIn K (.ref C) "__class__" = some (some (.builtin "object.__class__"))) (hq : Q (.done (.ret (.ref C))) ⟨h, g, d, t, os⟩) :
    wpAny (model prog w) A (Builtin.«object.__getattribute__» ⟨[.ref x, .str "__class__" tk], []⟩) Q E ⟨h, g, d, t, os⟩ := by
  have L0 : Looks (model prog w) h (typeOf (.ref x)) (.ref C) := hc ▸ (Looks.ld hx).andThen .now
  have L3 := looks_findIn (M := model prog w) X f3
  have hT5 : (⟨h, g, d, t, os⟩ : Shared).TypeIs (.builtin "object.__class__") "getset_descriptor" := F.typeOf_object_class
  have f5 := F.typeOf_object_class
  have f6 := F.slot_gs_get.lookup
  have f7 := F.slot_gs_set.lookup
  repeat (any_goals (first | assumption | (with_reducible refine wpAny_loadPart_at hx ?_; rw [hc]) | with_reducible refine L0.at ?_ | with_reducible refine L3.at ?_ | wp_step))
  refine xc_get X hx hc hm ?_
  repeat (any_goals (first | assumption | wp_step))
theorem xc_check {M : Model} {nameV : Value} {Q : Unit → Shared → Prop} (X : K.In h) (hx : h.get? x = some o) (hc : o.cls = .ref C) (hB : mroIn K C (.type "BaseException") = some true) (hq : Q () ⟨h, g, d, t, os⟩) :
    wpAny M A (checkBuiltinCall "BaseException.__getattribute__" ⟨[.ref x, nameV], []⟩) Q E ⟨h, g, d, t, os⟩ := by
  have hk : builtinKind "BaseException.__getattribute__" = some .slot := by decide +kernel
  have hsplit : splitId "BaseException.__getattribute__" = some ("BaseException", "__getattribute__") := by decide +kernel
  have L1 := looks_mroIn (M := M) X hB
  have ha := F.args_bexc_ga (.ref x) nameV
  simp only [checkBuiltinCall, hk, hsplit]
  refine wpAny_bind ?_
  · unfold isInstance
    repeat (first | (with_reducible refine wpAny_loadPart_at hx ?_; rw [hc]) | with_reducible refine L1.at ?_ | wp_step)
    exact hq
theorem xc_call {tk : Tok} {R : Result → Shared → Prop} (X : K.In h) (hx : h.get? x = some o) (hc : o.cls = .ref C) (hm : mroIn K C (.type "object") = some true) (hB : mroIn K C (.type "BaseException") = some true) (f3 : findIn K (.ref C) "__class__" = some (some (.builtin "object.__class__"))) (hq : R (.ok (.ret (.ref C))) ⟨h, g, d, t, os⟩) :
    codeAny (model prog w) A (.call (.builtin "BaseException.__getattribute__") ⟨[.ref x, .str "__class__" tk], []⟩) R ⟨h, g, d, t, os⟩ :=
  codeAny_call_builtin PySem.F.attr_ValueError.ga.plain F.entry_bexc_ga (xc_check X hx hc hB (xc_entry X hx hc hm f3 hq))
theorem xc_by {tk : Tok} {Q : Value → Shared → Prop} (X : K.In h) (hx : h.get? x = some o) (hc : o.cls = .ref C) (hm : mroIn K C (.type "object") = some true) (hB : mroIn K C (.type "BaseException") = some true) (f1 : findIn K (.ref C) "__getattribute__" = some (some (.builtin "BaseException.__getattribute__")))
    (f2 : findIn K (.ref C) "__getattr__" = some none) (f3 : findIn K (.ref C) "__class__" = some (some (.builtin "object.__class__"))) (hq : Q (.ref C) ⟨h, g, d, t, os⟩) :
    wpAny (model prog w) A (getAttrBy (.ref x) (.str "__class__" tk) false) Q E ⟨h, g, d, t, os⟩ := by
  have b3 := PySem.F.attr_ValueError.ga.bind (.ref x)
  have L1 := looks_findIn (M := model prog w) X f1
  have L2 := looks_findIn (M := model prog w) X f2
  have hx2 : (Value.builtin "BaseException.__getattribute__" == Value.builtin "object.__getattribute__") = false := by decide +kernel
  have hx1 : (onTheHeap (Value.ref C) && Value.builtin "BaseException.__getattribute__" == Value.builtin "object.__getattribute__") = false := by rw [hx2]; rfl
  repeat (any_goals (first | assumption | (with_reducible refine wpAny_loadPart_at hx ?_; rw [hc]) | with_reducible refine L1.at ?_ | with_reducible refine L2.at ?_ | wp_step))
  refine xc_call X hx hc hm hB f3 ?_
  repeat (any_goals (first | assumption | wp_step))
theorem xc_attr {Q : Option Value → Shared → Prop} (X : K.In h) (hx : h.get? x = some o) (hc : o.cls = .ref C) (hm : mroIn K C (.type "object") = some true) (hB : mroIn K C (.type "BaseException") = some true) (f1 : findIn K (.ref C) "__getattribute__" = some (some (.builtin "BaseException.__getattribute__")))
    (f2 : findIn K (.ref C) "__getattr__" = some none) (f3 : findIn K (.ref C) "__class__" = some (some (.builtin "object.__class__"))) (hq : Q (some (.ref C)) ⟨h, g, d, t + 1, os⟩) : wpAny (model prog w) A (getAttr? (.ref x) "__class__") Q E ⟨h, g, d, t, os⟩ := by
  unfold getAttr? getAttrBy?
  repeat (any_goals (first | assumption | with_reducible apply xc_by X hx hc hm hB f1 f2 f3 | wp_step))
end
/-- the class of an exception, as isinstance asks it -/
structure ExcQ (K : Frag) (C : Addr) : Prop where
  om : mroIn K C (.type "object") = some true
  be : mroIn K C (.type "BaseException") = some true
  ga : findIn K (.ref C) "__getattribute__" = some (some (.builtin "BaseException.__getattribute__"))
  gt : findIn K (.ref C) "__getattr__" = some none
  cl : findIn K (.ref C) "__class__" = some (some (.builtin "object.__class__"))
  cs : (clsIn K C).isSome = true
theorem kitx_exc {K : Frag} {x C : Addr} (Z : ExcQ K C) : KitX K (.ref x) (.ref C) (EXφ x (.ref C)) where
  ty := fun M h _ ⟨o, vs, e, c, _⟩ => c ▸ (Looks.ld e).andThen .now
  it := fun M h X _ => by
    have z := Z.cs
    unfold clsIn at z
    split at z
    · rename_i ho
      intro A' Q' E' s' k q
      unfold isType loadHead
      exact wpAny_bind (wpAny_loadPart (k _ _ (X _ _ ho)) (wpAny_pure q))
    · cases z
  ne := fun h tp dd its n sl X htp => by
    refine Bool.eq_false_iff.mpr fun q => ?_
    have e : C = tp := Value.ref.inj (beq_iff_eq.mp q)
    subst e
    have z := Z.cs
    unfold clsIn at z
    split at z
    · rename_i ho
      have z := (X _ _ ho).symm.trans htp
      cases z
    · cases z
  ca := fun {prog w A E Q s} X ⟨o, vs, e, c, _⟩ k => by
    obtain ⟨h, g, d, t, os⟩ := s
    exact xc_attr X e c Z.om Z.be Z.ga Z.gt Z.cl k
def rIsiX (K : Frag) : List V → Hp → VK → Prop := fun xs H Q => ∃ x C y b, xs = [.ref x, y] ∧ H x = some (EXO x (.ref C)) ∧ ExcQ K C ∧
  ((∃ c, (∀ u, RelV y u → u = c) ∧ kitOne K (.ref C) c = some b) ∨ ∃ (tp : Addr) (vs : List Addr), y = .ref tp ∧ H tp = some (.tup (vs.map V.ref)) ∧ kitAny K (.ref C) (vs.map Value.ref) = some b) ∧ Q (.bl b) H
theorem vals_refs : ∀ {vs : List Addr} {its : List Value}, Vals (vs.map V.ref) its → its = vs.map Value.ref
  | [], _, r => by cases r; rfl
  | v :: vs, _, r => by
    cases r with
    | cons r1 r2 => rw [show _ = Value.ref v from r1, vals_refs r2]; rfl
theorem call_isiX {X : Cx} : CallR X (.builtin "isinstance") (rIsiX X.K) := by
  intro pins s σ H xs us Q I r h
  obtain ⟨x, C, y, b, rfl, hx, Z, hy, q⟩ := h
  obtain ⟨u, w', rfl, r1, r2⟩ := vals2 r
  cases r1
  have hφ : EXφ x (.ref C) s.heap := (I.hok x _ hx).1
  rcases hy with ⟨c, hc, e⟩ | ⟨tp, vs, rfl, htp, e⟩
  · obtain rfl := hc _ r2
    exact kia_one (kitx_exc Z) I.kIn hφ e (fun z => nomatch z) fun tk => ⟨.bl b, H, I.tok tk, (show RelV (.bl b) (.bool b) from rfl), q⟩
  · cases r2
    obtain ⟨_, its, rv, o, e1, e2, n, e3⟩ := I.hok tp _ htp
    obtain rfl := vals_refs rv
    obtain ⟨oc, od, oda, osl⟩ := o
    dsimp only at e2 e3
    subst e2 e3
    exact kia_tup (kitx_exc Z) I.kIn hφ e1 e (fun z => nomatch z) fun tk => ⟨.bl b, H, I.tok tk, (show RelV (.bl b) (.bool b) from rfl), q⟩
end L2
set_option linter.all false
namespace NM
open T
/-! ### nests as numbers -/
def shareOf (o : Option Nat) : Option Nat := o.bind fun a => if a ≤ 63 then some (2 ^ a) else none
def num : T → Option Nat
  | nil => some 0
  | cons h t => (shareOf (num h)).bind fun c => (num t).map (c + ·)
def nsum (l : List T) : Option Nat := num (ofList l)
/-! ### numbers as nests -/
def lim : Nat → Nat
  | 0 => 1
  | f + 1 => 2 ^ lim f
def bits (n : Nat) : List Nat := (List.range 64).filter fun k => n.testBit k
def ofF : Nat → Nat → T
  | 0, _ => nil
  | f + 1, n => ofList ((bits n).map (ofF f))
def ofN (n : Nat) : T := ofF 5 n
theorem mem_bits {n k : Nat} : k ∈ bits n ↔ k < 64 ∧ n.testBit k = true := by
  unfold bits; rw [List.mem_filter, List.mem_range]
theorem bits_lt {n k m : Nat} (h : k ∈ bits n) (hn : n < 2 ^ m) : k < m := by
  have h2 := Nat.ge_two_pow_of_testBit (mem_bits.1 h).2
  by_cases c : k < m
  · exact c
  · exact absurd (Nat.lt_of_lt_of_le hn (Nat.pow_le_pow_right (by decide) (Nat.le_of_not_lt c))) (Nat.not_lt.mpr h2)
/-- small enough, told so that nothing is reckoned -/
structure LtLim (f n : Nat) : Prop where
  h : n < lim f
def ssum (l : List Nat) : Nat := (l.map fun k => 2 ^ k).sum
abbrev ltn : Nat → Nat → Bool := fun a b => decide (a < b)
end NM
set_option Elab.async false
set_option linter.all false
set_option maxRecDepth 100000
namespace L2
open PySem PySem.Spec PyProof.Rows NM ND PySem.W
/-! ### xs.extend(a tuple) -/
section
variable {X : Cx}
def rExtendT : V → List V → Hp → VK → Prop := fun x vs H Q => ∃ l b xs zs, x = .ref l ∧ vs = [.ref b] ∧ H l = some (.lst xs) ∧ H b = some (.tup zs) ∧ xs.length + zs.length ≤ sizeLine ∧ Q .non (upd H l (.lst (xs ++ zs)))
end
/-! ### [f, g][i](e): one of two defs -/
section
variable {X : Cx} {CX CX' : CXT} {k k' : Nat} {f f' : Addr} {fd fd' : FuncData} {ps ps' : List Str} {sp sp' : Sp} {E : XK} {p pos : Pos} {e a b : Expr} {es : List Expr} {tf : TE} {t : TA}
def tCall2 (f f' : Addr) (sp sp' : Sp) (E : XK) (tf : TE) (t : TA) : TE := fun σ H Q => tf σ H fun x H1 => (x = .ref f ∧ t σ H1 fun vs H2 => sp vs H2 Q E) ∨ (x = .ref f' ∧ t σ H1 fun vs H2 => sp' vs H2 Q E)
end
end L2
set_option Elab.async false
set_option linter.all false
set_option maxRecDepth 100000
namespace L2
open PySem PySem.Spec PyProof.Rows NM ND PySem.W
/-! ### max(a list of ints, default=0) -/
section
variable {prog : Program} {w : World} {A : Around} {R : Result → Shared → Prop} {it : Addr} {fp wr : List Addr} {n : Nat} {P : Nat → Value → Prop} {St : Nat → Heap → Prop}
def MxTop (P : Nat → Value → Prop) (val : Nat → Int) (n : Nat) (v : Value) : Prop := ∃ i, i < n ∧ P i v ∧ ∀ i', i' < n → val i' ≤ val i
end
section
variable {prog : Program} {w : World} {A : Around} {E : Value → Shared → Prop} {s : Shared}
end
section
variable {X : Cx}
def tMaxD (K : Frag) (d : Int) (ta : TA) : TE := fun σ H Q => ta σ H fun vs H1 => ∃ (p : Addr) (ns : List Int), vs = [.ref p] ∧ SqL K H1 p (ns.map V.int) ∧ ∀ r : Int, (ns = [] → r = d) → (ns ≠ [] → r ∈ ns ∧ ∀ i ∈ ns, i ≤ r) → Q (.int r) H1
end
end L2
set_option Elab.async false
set_option linter.all false
set_option maxRecDepth 100000
namespace L2
open PySem PySem.Spec PyProof.Rows NM ND PySem.W
section
variable {X : Cx}
/-! ### dicts of nests: not in, list(..) -/
def rNotInD : R2 := fun x y H Q => ∃ d ps a k, y = .ref d ∧ x = .ref a ∧ H d = some (DN d ps) ∧ KeysN H ps ∧ IsN H (.ref a) k ∧ k.depth ≤ 7 ∧ Q (.bl (!decide (k ∈ ps.map (·.1)))) H
/-! ### xs.index(nest), xs.count(nest) -/
open Classical in
def rIndexN (K : Frag) : V → List V → Hp → VK → Prop := fun x vs H Q => ∃ (l : Addr) (xs : List V) (ts : List T) (v : V) (t : T) (j : Nat), x = .ref l ∧ vs = [v] ∧ H l = some (.lst xs) ∧ RowV H ts xs ∧ IsN H v t ∧ (∀ m ∈ ts, m.depth ≤ 50) ∧ ts[j]? = some t ∧ (∀ i, i < j → ts[i]? ≠ some t) ∧ Q (.int (j : Int)) H
end
end L2
set_option Elab.async false
set_option linter.all false
set_option maxRecDepth 100000
namespace HT
open PySem PySem.Spec PyProof.Rows L2
section
variable {prog : Program} {w : World} {A : Around} {E : Value → Shared → Prop} {s : Shared}
end
end HT
namespace L2
open PySem PySem.Spec PyProof.Rows NM ND PySem.W
section
variable {X : Cx}
/-- t[lo:hi], the whole of it or not -/
def rSlA (K : Frag) : V → Option Int → Option Int → Hp → VK → Prop := fun x lo hi H Q => ∃ a xs, x = .ref a ∧ H a = some (.tup xs) ∧ ∀ p H', Same H H' → H' p = some (.tup (cutV xs lo hi)) → Q (.ref p) H'
end
end L2
set_option Elab.async false
set_option linter.all false
set_option maxRecDepth 100000
/-! ### comprehensions with two names: [.. for a, b in ..] -/
namespace L2
open PySem PySem.Spec PyProof.Rows
def okB2 (sc esc : Scope) (x x2 : Str) (N : List Str) : Bool :=
  (sc.kind == .function) && ((sc.names.all fun p => match p.2 with
      | .local => ((p.1 == x || p.1 == x2) || !N.contains p.1) && (sc.names.lookup p.1 == some .local)
      | .free => esc.names.lookup p.1 == some .cell
      | .cell => false
      | _ => true) && (((sc.names.lookup x == some .local) && !N.contains x) && (((sc.names.lookup x2 == some .local) && !N.contains x2) && (x != x2))))
structure OkB2 (sc esc : Scope) (x x2 : Str) (N : List Str) : Prop where
  kind : sc.kind = .function
  nocell : ∀ z ∈ sc.names, z.2 ≠ .cell
  names : ∀ z ∈ sc.names, z.2 = .local → sc.names.lookup z.1 = some .local
  locN : ∀ z ∈ sc.names, z.2 = .local → (z.1 = x ∨ z.1 = x2) ∨ z.1 ∉ N
  free : ∀ z ∈ sc.names, z.2 = .free → esc.names.lookup z.1 = some .cell
  hx : sc.names.lookup x = some .local
  xN : x ∉ N
  hy : sc.names.lookup x2 = some .local
  yN : x2 ∉ N
  xy : x ≠ x2
theorem OkB2.of {sc esc : Scope} {x x2 : Str} {N : List Str} (h : okB2 sc esc x x2 N = true) : OkB2 sc esc x x2 N := by
  unfold okB2 at h
  simp only [Bool.and_eq_true, List.all_eq_true, beq_iff_eq, Bool.not_eq_true', List.contains_eq_mem, decide_eq_false_iff_not, bne_iff_ne] at h
  obtain ⟨h1, h2, ⟨h3, h4⟩, ⟨h5, h6⟩, h7⟩ := h
  refine ⟨h1, fun z hz e => ?_, fun z hz e => ?_, fun z hz e => ?_, fun z hz e => ?_, h3, h4, h5, h6, h7⟩
  · have := h2 z hz; rw [e] at this; simp at this
  · have := h2 z hz; rw [e] at this; simp at this; exact this.2
  · have := h2 z hz; rw [e] at this; simp at this; exact this.1
  · have := h2 z hz; rw [e] at this; simpa using this
/-- the context of its block -/
abbrev cxB2 (X : Cx) (sc : Scope) (cl : List (Str × Addr)) (x x2 : Str) (C : Addr) (s : Shared) (H : Hp) (fp : List Addr) (pins : List (Addr × Obj)) : Cx where
  prog := X.prog
  w := X.w
  K := X.K
  mg := X.mg
  base := X.base
  A := X.A
  N := x :: x2 :: X.N
  s₀ := s
  H₀ := H
  env := compEnvC sc cl C X.env
  outer := X.stack
  stack := X.stack
  ex := fp
  fn := fun _ => false
  calm := X.calm
  pn := X.pn ++ pins
  xe := fun _ _ => False
def CompRd2 (K : PySem.W.Frag) (J : It) (tt : TT) (te : TE) (σ : St) (Q : VK) (H1 : Hp) : Prop := ∀ D, H1 D = none →
  ∃ W : Nat → Nat → List V → Hp → Prop, (∃ m, W 0 m [] (upd H1 D (.lst []))) ∧ ∀ i m ys H, W i m ys H → H D = some (.lst ys) ∧
    ((J.stop i H ∧ Q (.ref D) H) ∨ (J.go i H ∧ ys.length < sizeLine ∧ ∀ x H', J.yld i H x H' → ∃ a v1 v2, x = .ref a ∧ SqT K H' a [v1, v2] ∧ tt (some v1 :: some v2 :: σ) H' fun b H2 => if b = true then te (some v1 :: some v2 :: σ) H2 fun y H3 => H3 D = some (.lst ys) ∧ ∃ m', m' < m ∧ W (i + 1) m' (ys ++ [y]) (upd H3 D (.lst (ys ++ [y])))
      else ∃ m', m' < m ∧ W (i + 1) m' ys H2))
def tComp2 (K : PySem.W.Frag) (wi : TI) (tt : TT) (te : TE) : TE := fun σ H Q => wi σ H fun J H1 => CompRd2 K J tt te σ Q H1
section
variable {X : Cx}
/-- the block's start -/
theorem block_inv2 {sc : Scope} {cl : List (Str × Addr)} {x x2 : Str} {C : Addr} {s3 s4 : Shared} {H3 : Hp} {fp : List Addr} {pins : List (Addr × Obj)} {σ : St} {m : Str → Option Value}
    (ok : OkB2 sc X.env.scope x x2 X.N) (I : Inv X pins σ H3 s3) (hcl : ∀ y c, cl.lookup y = some c → X.env.cells.lookup y = some c) (hcl2 : ∀ p ∈ sc.names, p.2 = .free → ∃ c, cl.lookup p.1 = some c)
    (hfp : ∀ b ∈ fp, FpOk X pins H3 b) (hfl : ∀ b ∈ fp, b < s3.heap.objs.size) (hC : C = s3.heap.objs.size) (hos : s4.os = s3.os) (hg : s4.gens = s3.gens) (hk : ∀ b o, s3.heap.get? b = some o → s4.heap.get? b = some o) (hn : s4.heap.Ns C m) :
    Inv (cxB2 X sc cl x x2 C s3 H3 fp pins) [] (none :: none :: σ) H3 s4 := by
  have kind : (cxB2 X sc cl x x2 C s3 H3 fp pins).env.scope.kind = .function := ok.kind
  have lk : ∀ {y : Str} {k : NameKind}, (relabel sc X.env).names.lookup y = some k → ∃ k0, sc.names.lookup y = some k0 ∧ (k = k0 ∨ (k0 = .free ∧ k = .cell)) := fun h => lookup_relabel h
  have fr : ∀ {y : Str}, (relabel sc X.env).names.lookup y = some .cell ∨ (relabel sc X.env).names.lookup y = some .free → sc.names.lookup y = some .free := fun {y} h => by
    rcases h with h | h
    · obtain ⟨k0, e, q | q⟩ := lk h
      · subst q; exact absurd rfl (ok.nocell _ (PySem.mem_of_lookup e))
      · rw [e, q.1]
    · obtain ⟨k0, e, q | q⟩ := lk h
      · rw [e, ← q]
      · cases q.2
  refine ⟨⟨I.ok.mod, kind, I.ok.glob, I.ok.blt, by show s3.heap.objs.size ≤ C; rw [hC]; exact Nat.le_refl _, fun y z c h1 h2 => I.ok.inj y z c (hcl y c h1) (hcl z c h2), fun y hy => ?_, fun y c h _ => absurd h Bool.false_ne_true, I.ok.hd, I.ok.frames, .inl rfl, fun b hb => ?_, I.bs, Nat.le_trans I.ok.bsz I.sz, fun b o e hb => ?_, fun b hb => ?_, I.stack, I.stkFree⟩,
    hos, by rw [hg]; exact I.bare, Un.kept hk, ⟨m, hn, fun i y v h1 h2 h3 => ?_⟩, fun y c h => ?_, ?_, fun y c h => I.freeC y c (hcl y c h), fun p hp => ?_, I.hok.kept hk, ?_⟩
  · exact hcl2 _ (PySem.mem_of_lookup (fr hy)) rfl
  · refine ⟨by show b ≠ C; rw [hC]; exact Nat.ne_of_lt (hfl b hb), fun y c h => (hfp b hb).2.2.2.2.1 y c (hcl y c h)⟩
  · rcases (hfp b hb).2.2.2.1 with z | z
    · exact I.ok.noex b o e z
    · exact absurd (Nat.lt_of_lt_of_le (Heap.lt_size e) (Nat.le_trans I.ok.bsz z)) (Nat.lt_irrefl _)
  · intro z
    rcases List.mem_cons.mp (I.stkSub b z) with q | q
    · exact (hfp b hb).2.1 q
    · exact (hfp b hb).2.2.1 q
  · match i, h1, h2 with
    | 0, _, h2 => cases h2
    | 1, _, h2 => cases h2
    | i + 2, h1, h2 =>
      have h1 : X.N[i]? = some y := h1
      have h2 : σ[i]? = some (some v) := h2
      have yN : y ∈ X.N := List.mem_of_getElem? h1
      have h3 : (relabel sc X.env).names.lookup y = some .local ∨ (relabel sc X.env).names.lookup y = some .cell ∨ (relabel sc X.env).names.lookup y = some .free := h3
      have hf : sc.names.lookup y = some .free := by
        rcases h3 with q | q
        · obtain ⟨k0, e, r | r⟩ := lk q
          · subst r
            rcases ok.locN _ (PySem.mem_of_lookup e) rfl with (r | r) | r
            · exact absurd (r ▸ yN) ok.xN
            · exact absurd (r ▸ yN) ok.yN
            · exact absurd yN r
          · cases r.2
        · exact fr q
      obtain ⟨c, hc⟩ := hcl2 _ (PySem.mem_of_lookup hf) rfl
      have hcX := hcl y c hc
      have hkX : X.env.scope.names.lookup y = some .cell := ok.free _ (PySem.mem_of_lookup hf) rfl
      obtain ⟨mX, hnX, hl⟩ := I.loc
      obtain ⟨u, r, l⟩ := hl i y v h1 h2 (.inr (.inl hkX))
      refine ⟨u, r, .inr ⟨?_, c, hc, ?_⟩⟩
      · rcases h3 with q | q
        · obtain ⟨k0, e, z | z⟩ := lk q
          · subst z; rw [hf] at e; cases e
          · cases z.2
        · exact q
      · rcases l with ⟨q, _⟩ | ⟨_, c', e, o, ho, hd⟩
        · have q : X.env.scope.names.lookup y = some .local := q
          rw [hkX] at q; cases q
        · rw [hcX] at e; cases e
          exact ⟨o, hk _ o ho, hd⟩
  · obtain ⟨v, o, ho, hd⟩ := I.cell y c (hcl y c h)
    exact ⟨v, o, hk _ o ho, hd⟩
  · show H3 C = none
    rw [hC]; exact I.hok.fresh (Nat.le_refl _)
  · have hp : p ∈ X.pn ++ pins := by simpa using hp
    obtain ⟨e, n, ne, nf, d⟩ := I.pin p hp
    refine ⟨hk _ _ e, n, by show p.1 ≠ C; rw [hC]; exact Nat.ne_of_lt (Heap.lt_size e), fun z => ?_, d⟩
    rcases List.mem_cons.mp (I.stkSub p.1 z) with q | q
    · exact ne q
    · exact nf q
  · show (none :: none :: σ).length = (x :: x2 :: X.N).length
    rw [List.length_cons, List.length_cons, List.length_cons, List.length_cons, I.len]

/-- behind the block -/
theorem block_back2 {sc : Scope} {cl : List (Str × Addr)} {x x2 : Str} {C : Addr} {s3 s' : Shared} {H3 H' : Hp} {fp : List Addr} {pins : List (Addr × Obj)} {σ σ' : St}
    (I : Inv X pins σ H3 s3) (hfp : ∀ b ∈ fp, FpOk X pins H3 b) (J : Inv (cxB2 X sc cl x x2 C s3 H3 fp pins) [] σ' H' s') : Inv X pins σ H' s' :=
  I.call' (ch := fp) J.os J.base J.hok J.bare fun b hb => ⟨(hfp b hb).2.2.2.1, (hfp b hb).2.1, (hfp b hb).2.2.2.2.1, (hfp b hb).2.2.2.2.2⟩
/-- the loop -/
theorem comp_loop2 {elt iter : Expr} {ifs : List Expr} {x x2 : Str} {px px2 tps : Pos} {tk : Nat} {sc : Scope} {pos : Pos} {cl : List (Str × Addr)} {C D it : Addr} {s3 s4 : Shared} {H3 : Hp} {fp : List Addr} {pins : List (Addr × Obj)} {σ : St} {J : It} {tn : Nat → Heap → Prop} {tt : TT} {te : TE}
    {Q : VK} {R : Result → Shared → Prop} {W : Nat → Nat → List V → Hp → Prop} {m0 : Nat} (hc : X.calm = true) (nd : X.N.Nodup) (ok : OkB2 sc X.env.scope x x2 X.N) (I : Inv X pins σ H3 s3) (hC : C = s3.heap.objs.size)
    (hcl : ∀ y c, cl.lookup y = some c → X.env.cells.lookup y = some c)
    (hfp : ∀ b ∈ fp, FpOk X pins H3 b) (hfl : ∀ b ∈ fp, b < s3.heap.objs.size)
    (T : Turn X.prog X.w X.K (.Tuple [.Name x px, .Name x2 px2] tk tps) J fp it tn) (hT : PIfs (cxB2 X sc cl x x2 C s3 H3 fp pins) ifs tt) (hE : PE (cxB2 X sc cl x x2 C s3 H3 fp pins) elt te)
    (w0 : W 0 m0 [] H3)
    (turn : ∀ i m ys H, W i m ys H → H D = some (.lst ys) ∧
      ((J.stop i H ∧ Q (.ref D) H) ∨ (J.go i H ∧ ys.length < sizeLine ∧ ∀ x H', J.yld i H x H' → ∃ a v1 v2, x = .ref a ∧ SqT X.K H' a [v1, v2] ∧ tt (some v1 :: some v2 :: σ) H' fun b H2 => if b = true then te (some v1 :: some v2 :: σ) H2 fun y H3 => H3 D = some (.lst ys) ∧ ∃ m', m' < m ∧ W (i + 1) m' (ys ++ [y]) (upd H3 D (.lst (ys ++ [y])))
        else ∃ m', m' < m ∧ W (i + 1) m' ys H2)))
    (I4 : Inv (cxB2 X sc cl x x2 C s3 H3 fp pins) [] (none :: none :: σ) H3 s4) (st4 : tn 0 s4.heap)
    (hR : ∀ σ' H' s', Inv (cxB2 X sc cl x x2 C s3 H3 fp pins) [] σ' H' s' → Q (.ref D) H' → R (.ok .next) s') :
    codeAny (model X.prog X.w) X.A (.compLoop (.ListComp elt [⟨.Tuple [.Name x px, .Name x2 px2] tk tps, iter, ifs, 0⟩] sc pos) 0 (.ref it) (.ref D) (compEnvC sc cl C X.env)) R s4 := by
  have stat : ∀ {H' : Hp}, (∀ b ∈ fp, H' b = none) → ∀ b ∈ fp, FpOk (cxB2 X sc cl x x2 C s3 H3 fp pins) [] H' b := fun hn b hb => by
    refine ⟨hn b hb, by show b ≠ C; rw [hC]; exact Nat.ne_of_lt (hfl b hb), fun z => ?_, .inl hb, fun y c e => (hfp b hb).2.2.2.2.1 y c (hcl y c e), fun p hp => (hfp b hb).2.2.2.2.2 p (by simpa using hp)⟩
    rcases List.mem_cons.mp (I.stkSub b z) with q | q
    · exact (hfp b hb).2.1 q
    · exact (hfp b hb).2.2.1 q
  have hxl : (cxB2 X sc cl x x2 C s3 H3 fp pins).env.scope.names.lookup x = some .local := lookup_relabel_local ok.hx
  have hyl : (cxB2 X sc cl x x2 C s3 H3 fp pins).env.scope.names.lookup x2 = some .local := lookup_relabel_local ok.hy
  have hN : (cxB2 X sc cl x x2 C s3 H3 fp pins).N.Nodup := List.nodup_cons.mpr ⟨fun z => by rcases List.mem_cons.mp z with z | z; exact ok.xy z; exact ok.xN z, List.nodup_cons.mpr ⟨ok.yN, nd⟩⟩
  have no : ∀ (e : Value) (s' : Shared), (cxB2 X sc cl x x2 C s3 H3 fp pins).xe e s' → notedBy (model X.prog X.w) X.A (compEnvC sc cl C X.env) (fun e s' => R (.error e) s') e s' := fun _ _ h => False.elim h
  refine compLoop_go (fun n s' => ∃ i H' ys o o2, Inv (cxB2 X sc cl x x2 C s3 H3 fp pins) [] (o :: o2 :: σ) H' s' ∧ tn i s'.heap ∧ (∀ b ∈ fp, H' b = none) ∧ W i n ys H') ?_ m0 ⟨0, H3, [], none, none, I4, st4, fun b hb => (hfp b hb).1, w0⟩
  rintro n s' ⟨i, H', ys, o, o2, I', st', fr', w'⟩
  obtain ⟨hD, ⟨stop, q⟩ | ⟨go, hz, step⟩⟩ := turn i n ys H' w'
  · refine wpAny_mono (T.done (cxB2 X sc cl x x2 C s3 H3 fp pins) rfl rfl rfl hc i [] s' _ H' (fun _ _ => False) I' (stat fr') st' stop) (fun r s1 ⟨hr, I1⟩ => ?_) fun _ _ h => False.elim h
    subst hr
    exact hR _ _ s1 I1 q
  · refine wpAny_mono (T.item (cxB2 X sc cl x x2 C s3 H3 fp pins) rfl rfl rfl hc i [] s' _ H' (fun _ _ => False) I' (stat fr') st' go) (fun r s1 ⟨u, hr, h1⟩ => ?_) fun _ _ h => False.elim h
    subst hr
    refine wpAny_mono h1 (fun _ s2 ⟨v, H2, I2, r2, y2, st2, fr2⟩ => ?_) fun _ _ h => False.elim h
    have I2' := I2.pinned (stat fr2) (T.obj _ _ st2)
    have again : ∀ {s7 : Shared} {H7 : Hp} {o7 o8 : Option V} {ys7 : List V} {m' : Nat}, Inv (cxB2 X sc cl x x2 C s3 H3 fp pins) ([] ++ pinsAt fp s2.heap) (o7 :: o8 :: σ) H7 s7 → m' < n → W (i + 1) m' ys7 H7 →
        ∃ m, m < n ∧ ∃ i H' ys o o2, Inv (cxB2 X sc cl x x2 C s3 H3 fp pins) [] (o :: o2 :: σ) H' s7 ∧ tn i s7.heap ∧ (∀ b ∈ fp, H' b = none) ∧ W i m ys H' := fun {s7 H7 o7 o8 ys7 m'} I7 hm w7 => by
      refine ⟨m', hm, i + 1, H7, ys7, o7, o8, I7.unpinned, T.keep _ _ _ st2 fun b hb o e => (I7.pin (b, o) (List.mem_append_right _ (List.mem_append_right _ (mem_pinsAt hb e)))).1, fun b hb => ?_, w7⟩
      obtain ⟨o, e, d⟩ := T.obj _ _ st2 b hb
      exact (I7.pin (b, o) (List.mem_append_right _ (List.mem_append_right _ (mem_pinsAt hb e)))).2.1
    obtain ⟨a0, v1, v2, hv, hq, st0⟩ := step v H2 y2
    refine wpAny_mono (pg_tup (X := cxB2 X sc cl x x2 C s3 H3 fp pins) hc (pgs_cons (pg_name (i := 0) hN rfl (Or.inl hxl) (Or.inr hxl)) (pgs_cons (pg_name (i := 1) hN rfl (Or.inl hyl) (Or.inr hyl)) pgs_nil)) rfl rfl _ s2 _ H2 v u (fun σ'' H'' => σ'' = some v1 :: some v2 :: σ ∧ H'' = H2) I2' r2 ⟨a0, _, hv, hq, rfl, _, _, rfl, _, _, rfl, rfl, rfl, rfl⟩) (fun _ s3' ⟨σ3, H3', I3, e3, e3'⟩ => ?_) no
    subst e3 e3'
    refine wpAny_mono (hT _ s3' _ H3' _ I3 st0) (fun ok s4' ⟨H4, I4', q4⟩ => ?_) no
    cases ok with
    | false =>
      rw [if_neg Bool.false_ne_true] at q4 ⊢
      obtain ⟨m', hm, w4⟩ := q4
      exact again I4' hm w4
    | true =>
      rw [if_pos rfl] at q4 ⊢
      refine wpAny_mono (hE _ s4' _ H4 _ I4' q4) (fun y s5 ⟨v5, H5, I5, r5, hD5, m', hm, w5⟩ => ?_) no
      refine wpAny_mono (mt_append (X := cxB2 X sc cl x x2 C s3 H3 fp pins) _ s5 _ H5 (.ref D) [v5] (.ref D) [y] (fun _ H6 => H6 = upd H5 D (.lst (ys ++ [v5]))) I5 rfl (.cons r5 .nil) ⟨D, ys, v5, rfl, rfl, hD5, hz, rfl⟩) (fun _ s6 ⟨_, H6, I6, _, e6⟩ => ?_) no
      subst e6
      exact again I6 hm w5
theorem pe_comp2 {elt iter : Expr} {ifs : List Expr} {x x2 : Str} {px px2 tps : Pos} {tk : Nat} {sc : Scope} {pos : Pos} {wi : TI} {tt : TT} {te : TE} (hc : X.calm = true) (nd : X.N.Nodup) (okb : okB2 sc X.env.scope x x2 X.N = true) (hi : PI X (.Tuple [.Name x px, .Name x2 px2] tk tps) iter wi)
    (hB : ∀ cl C s H fp pins, PIfs (cxB2 X sc cl x x2 C s H fp pins) ifs tt ∧ PE (cxB2 X sc cl x x2 C s H fp pins) elt te) (hs : ∀ v, foldedSetIterable iter X.env v = pure v := by intro _; rfl) :
    PE X (.ListComp elt [⟨.Tuple [.Name x px, .Name x2 px2] tk tps, iter, ifs, 0⟩] sc pos) (tComp2 X.K wi tt te) := by
  intro pins s σ H Q I h
  have ok := OkB2.of okb
  obtain ⟨cl, hclos, hcl, hcl2⟩ := closure_of (sc := sc) (env := X.env) fun p hp hf => I.ok.has p.1 (.inl (ok.free p hp hf))
  rw [eval_ListComp]
  refine wpAny_comprehension_free (use := none) rfl hs hclos ok.kind ok.names (thn (hi pins s σ H _ I h) fun v s1 h1 => thn h1 fun itv s2 h2 => ?_)
  obtain ⟨it, fp, tn, J, H2, rfl, I2, T, st2, f2, hq⟩ := h2
  obtain ⟨W, ⟨m0, w0⟩, turn⟩ := hq s2.heap.objs.size (I2.hok.fresh (Nat.le_refl _))
  refine wpAny_newObj_type (wpAny_newFunctionEnv ok.nocell (by intro y hy; simp at hy) (fun h₁ hns₁ hsb₁ => ?_) ok.kind)
  dsimp only at hns₁ hsb₁ ⊢
  have I3 : Inv X pins σ (upd H2 s2.heap.objs.size (.lst [])) { s2 with heap := s2.heap.push { cls := .type "list", dict := none, data := .seq ([] : List Value).toArray } } := I2.lnew (t' := s2.toks) .nil (Nat.zero_le _)
  generalize hs3 : ({ s2 with heap := s2.heap.push { cls := .type "list", dict := none, data := .seq ([] : List Value).toArray } } : Shared) = s3 at I3
  have hH3 : s2.heap.push { cls := .type "list", dict := none, data := .seq ([] : List Value).toArray } = s3.heap := by rw [← hs3]
  rw [hH3] at hns₁ hsb₁ ⊢
  have old2 : ∀ b o, s2.heap.get? b = some o → s3.heap.get? b = some o := fun b o e => by rw [← hH3]; exact Heap.get?_push_of_some _ e
  have old3 : ∀ b o, s3.heap.get? b = some o → h₁.get? b = some o := fun b o e => hsb₁.extBut b o (Nat.ne_of_lt (Heap.lt_size e)) (Heap.get?_push_of_some _ e)
  have hfl : ∀ b ∈ fp, b < s2.heap.objs.size := fun b hb => by
    obtain ⟨o, e, _⟩ := T.obj _ _ st2 b hb
    exact Heap.lt_size e
  have hfp : ∀ b ∈ fp, FpOk X pins (upd H2 s2.heap.objs.size (.lst [])) b := fun b hb => by
    obtain ⟨a1, a2⟩ := f2 b hb
    exact ⟨by rw [upd_ne (Nat.ne_of_lt (hfl b hb))]; exact a1, a2⟩
  have hfl3 : ∀ b ∈ fp, b < s3.heap.objs.size := fun b hb => by rw [← hH3, Heap.size_push]; exact Nat.lt_succ_of_lt (hfl b hb)
  have st4 : tn 0 h₁ := T.keep _ _ _ st2 fun b hb o e => old3 b o (old2 b o e)
  have loop : ∀ s4 : Shared, s4 = { s2 with heap := h₁, toks := s2.toks + ([] : List (Str × Value)).length } →
      codeAny (model X.prog X.w) X.A (.compLoop (.ListComp elt [⟨.Tuple [.Name x px, .Name x2 px2] tk tps, iter, ifs, 0⟩] sc pos) 0 (.ref it) (.ref s2.heap.objs.size) (compEnvC sc cl s3.heap.objs.size X.env))
        (compPost (model X.prog X.w) X.A X.xe none (EP X pins σ Q) (.ref s2.heap.objs.size) s3.heap.objs.size) s4 := by
    rintro s4 rfl
    have I4 : Inv (cxB2 X sc cl x x2 s3.heap.objs.size s3 (upd H2 s2.heap.objs.size (.lst [])) fp pins) [] (none :: none :: σ) (upd H2 s2.heap.objs.size (.lst [])) { s2 with heap := h₁, toks := s2.toks + ([] : List (Str × Value)).length } :=
      block_inv2 ok I3 hcl hcl2 hfp hfl3 rfl (by rw [← hs3]) (by rw [← hs3]) old3 hns₁
    refine comp_loop2 hc nd ok I3 rfl hcl hfp hfl3 T (hB _ _ _ _ _ _).1 (hB _ _ _ _ _ _).2 w0 turn I4 st4 fun σ' H' s' J' q => ?_
    obtain ⟨m', hm', _⟩ := J'.loc
    refine ⟨m', hm', fun h' hs' => ?_⟩
    exact ⟨.ref s2.heap.objs.size, H', block_gone I3 rfl J'.free (block_back2 I3 hfp J') hs', rfl, q⟩
  exact codeAny_compStart_list (loop _ rfl) (T.self _ 0 _ _ _ st4 (loop _ rfl))
theorem pe_comp2F {elt iter : Expr} {ifs : List Expr} {x x2 : Str} {px px2 tps : Pos} {tk : Nat} {sc : Scope} {pos : Pos} {wi : TI} {tt : TT} (esc : Scope) (N : List Str) (te : TE) (hc : X.calm = true) (nd : X.N.Nodup) (okb : okB2 sc esc x x2 N = true) (hi : PI X (.Tuple [.Name x px, .Name x2 px2] tk tps) iter wi)
    (hB : ∀ cl C s H fp pins, PIfs (cxB2 X sc cl x x2 C s H fp pins) ifs tt ∧ PE (cxB2 X sc cl x x2 C s H fp pins) elt te) (he : X.env.scope = esc := by rfl) (hN : X.N = N := by rfl) (hs : ∀ v, foldedSetIterable iter X.env v = pure v := by intro _; rfl) :
    PE X (.ListComp elt [⟨.Tuple [.Name x px, .Name x2 px2] tk tps, iter, ifs, 0⟩] sc pos) (tComp2 X.K wi tt te) := pe_comp2 hc nd (by rw [he, hN]; exact okb) hi hB hs
/-- y = [..] -/
theorem ps_setC2 {elt iter : Expr} {ifs : List Expr} {x x2 y : Str} {px px2 tps py : Pos} {tk : Nat} {sc : Scope} {pos spos : Pos} {wi : TI} {tt : TT} {te : TE} {j : Nat} (hc : X.calm = true) (nd : X.N.Nodup) (okb : okB2 sc X.env.scope x x2 X.N = true) (hi : PI X (.Tuple [.Name x px, .Name x2 px2] tk tps) iter wi)
    (hB : ∀ cl C s H fp pins, PIfs (cxB2 X sc cl x x2 C s H fp pins) ifs tt ∧ PE (cxB2 X sc cl x x2 C s H fp pins) elt te) (hj : X.N[j]? = some y) (hy : Loc X.env.scope y)
    (hsw : swapsWith (.ListComp elt [⟨.Tuple [.Name x px, .Name x2 px2] tk tps, iter, ifs, 0⟩] sc pos) (some (.Name y py)) spos.line X.env = pure true := by rfl)
    (hf : X.fn y = true ∨ X.env.scope.names.lookup y = some .local := by first | exact .inl rfl | exact .inr rfl | assumption)
    (hs : ∀ v, foldedSetIterable iter X.env v = pure v := by intro _; rfl) :
    PS X (.Assign [.Name y py] (.ListComp elt [⟨.Tuple [.Name x px, .Name x2 px2] tk tps, iter, ifs, 0⟩] sc pos) spos) (tAsg (tComp2 X.K wi tt te) (gName j)) := by
  intro pins s σ H DD I h
  have ok := OkB2.of okb
  obtain ⟨cl, hclos, hcl, hcl2⟩ := closure_of (sc := sc) (env := X.env) fun p hp hf => I.ok.has p.1 (.inl (ok.free p hp hf))
  rw [exec_Assign_Name_used _ _ _ _ hsw]
  refine wpAny_bind (wpAny_standAt (wpAny_bind ?_))
  show wpAny _ X.A (do let _ ← comprehension (.ListComp elt [⟨.Tuple [.Name x px, .Name x2 px2] tk tps, iter, ifs, 0⟩] sc pos) sc X.env _ (newList []) false (eval iter X.env) (some (assign (.Name y py) X.env))) _ _ s
  refine wpAny_bind (wpAny_mono (wpAny_comprehension_free (use := some (assign (.Name y py) X.env)) (Q := fun _ s' => SP X pins DD .next s') rfl hs hclos ok.kind ok.names
    (thn (hi pins s σ H _ I h) fun v s1 h1 => thn h1 fun itv s2 h2 => ?_)) (fun _ s' hq => wpAny_pure (wpAny_pure hq)) fun _ _ e => e)
  obtain ⟨it, fp, tn, J, H2, rfl, I2, T, st2, f2, hq⟩ := h2
  obtain ⟨W, ⟨m0, w0⟩, turn⟩ := hq s2.heap.objs.size (I2.hok.fresh (Nat.le_refl _))
  refine wpAny_newObj_type (wpAny_newFunctionEnv ok.nocell (by intro y hy; simp at hy) (fun h₁ hns₁ hsb₁ => ?_) ok.kind)
  dsimp only at hns₁ hsb₁ ⊢
  have I3 : Inv X pins σ (upd H2 s2.heap.objs.size (.lst [])) { s2 with heap := s2.heap.push { cls := .type "list", dict := none, data := .seq ([] : List Value).toArray } } := I2.lnew (t' := s2.toks) .nil (Nat.zero_le _)
  generalize hs3 : ({ s2 with heap := s2.heap.push { cls := .type "list", dict := none, data := .seq ([] : List Value).toArray } } : Shared) = s3 at I3
  have hH3 : s2.heap.push { cls := .type "list", dict := none, data := .seq ([] : List Value).toArray } = s3.heap := by rw [← hs3]
  rw [hH3] at hns₁ hsb₁ ⊢
  have old2 : ∀ b o, s2.heap.get? b = some o → s3.heap.get? b = some o := fun b o e => by rw [← hH3]; exact Heap.get?_push_of_some _ e
  have old3 : ∀ b o, s3.heap.get? b = some o → h₁.get? b = some o := fun b o e => hsb₁.extBut b o (Nat.ne_of_lt (Heap.lt_size e)) (Heap.get?_push_of_some _ e)
  have hfl : ∀ b ∈ fp, b < s2.heap.objs.size := fun b hb => by
    obtain ⟨o, e, _⟩ := T.obj _ _ st2 b hb
    exact Heap.lt_size e
  have hfp : ∀ b ∈ fp, FpOk X pins (upd H2 s2.heap.objs.size (.lst [])) b := fun b hb => by
    obtain ⟨a1, a2⟩ := f2 b hb
    exact ⟨by rw [upd_ne (Nat.ne_of_lt (hfl b hb))]; exact a1, a2⟩
  have hfl3 : ∀ b ∈ fp, b < s3.heap.objs.size := fun b hb => by rw [← hH3, Heap.size_push]; exact Nat.lt_succ_of_lt (hfl b hb)
  have st4 : tn 0 h₁ := T.keep _ _ _ st2 fun b hb o e => old3 b o (old2 b o e)
  have loop : ∀ s4 : Shared, s4 = { s2 with heap := h₁, toks := s2.toks + ([] : List (Str × Value)).length } →
      codeAny (model X.prog X.w) X.A (.compLoop (.ListComp elt [⟨.Tuple [.Name x px, .Name x2 px2] tk tps, iter, ifs, 0⟩] sc pos) 0 (.ref it) (.ref s2.heap.objs.size) (compEnvC sc cl s3.heap.objs.size X.env))
        (compPost (model X.prog X.w) X.A X.xe (some (assign (.Name y py) X.env)) (fun _ s' => SP X pins DD .next s') (.ref s2.heap.objs.size) s3.heap.objs.size) s4 := by
    rintro s4 rfl
    have I4 : Inv (cxB2 X sc cl x x2 s3.heap.objs.size s3 (upd H2 s2.heap.objs.size (.lst [])) fp pins) [] (none :: none :: σ) (upd H2 s2.heap.objs.size (.lst [])) { s2 with heap := h₁, toks := s2.toks + ([] : List (Str × Value)).length } :=
      block_inv2 ok I3 hcl hcl2 hfp hfl3 rfl (by rw [← hs3]) (by rw [← hs3]) old3 hns₁
    refine comp_loop2 (Q := fun v H' => gName j v σ H' DD.nx) hc nd ok I3 rfl hcl hfp hfl3 T (hB _ _ _ _ _ _).1 (hB _ _ _ _ _ _).2 w0 turn I4 st4 fun σ' H' s' J' q => ?_
    obtain ⟨m', hm', _⟩ := J'.loc
    have B := block_back2 I3 hfp J'
    show wpAny _ X.A (assign (.Name y py) X.env (.ref s2.heap.objs.size)) _ _ _
    refine wpAny_assign_Name (store_ok2 B nd hj hy (v := .ref s2.heap.objs.size) rfl (fun s'' I'' hch => ?_) hf)
    obtain ⟨a, sb, ha⟩ := hch
    have aC : s3.heap.objs.size ≠ a := by
      rcases ha with rfl | ha
      · exact Nat.ne_of_gt I3.lt
      · obtain ⟨v, q⟩ := I3.cell y a ha
        exact Nat.ne_of_gt q.lt
    refine ⟨m', hm'.sameBut sb aC, fun h' hs' => ?_⟩
    exact ⟨_, H', block_gone I3 rfl J'.free I'' hs', q⟩
  exact codeAny_compStart_list (loop _ rfl) (T.self _ 0 _ _ _ st4 (loop _ rfl))

theorem ps_set2F {elt iter : Expr} {ifs : List Expr} {x x2 y : Str} {px px2 tps py : Pos} {tk : Nat} {sc : Scope} {pos spos : Pos} {wi : TI} {tt : TT} (esc : Scope) (N : List Str) (te : TE) (j : Nat) (hc : X.calm = true) (nd : X.N.Nodup) (okb : okB2 sc esc x x2 N = true) (hi : PI X (.Tuple [.Name x px, .Name x2 px2] tk tps) iter wi)
    (hB : ∀ cl C s H fp pins, PIfs (cxB2 X sc cl x x2 C s H fp pins) ifs tt ∧ PE (cxB2 X sc cl x x2 C s H fp pins) elt te) (hj : X.N[j]? = some y) (hy : Loc X.env.scope y) (he : X.env.scope = esc := by rfl) (hN : X.N = N := by rfl)
    (hsw : swapsWith (.ListComp elt [⟨.Tuple [.Name x px, .Name x2 px2] tk tps, iter, ifs, 0⟩] sc pos) (some (.Name y py)) spos.line X.env = pure true := by rfl)
    (hf : X.fn y = true ∨ X.env.scope.names.lookup y = some .local := by first | exact .inl rfl | exact .inr rfl | assumption)
    (hs : ∀ v, foldedSetIterable iter X.env v = pure v := by intro _; rfl) :
    PS X (.Assign [.Name y py] (.ListComp elt [⟨.Tuple [.Name x px, .Name x2 px2] tk tps, iter, ifs, 0⟩] sc pos) spos) (tAsg (tComp2 X.K wi tt te) (gName j)) := ps_setC2 hc nd (by rw [he, hN]; exact okb) hi hB hj hy hsw hf hs

theorem comp_run2 {K : PySem.W.Frag} {J : It} {xs : List V} {S : Hp → Prop} {tt : TT} {te : TE} {σ : St} {H1 : Hp} {Q : VK} (R : Runs J xs S) (Pv : Addr → Nat → List V → Hp → Prop)
    (h0 : ∀ D, H1 D = none → Pv D 0 [] (upd H1 D (.lst [])))
    (hl : ∀ D i ys H, i ≤ xs.length → Pv D i ys H → H D = some (.lst ys) ∧ S H ∧ (i < xs.length → ys.length < sizeLine))
    (ht : ∀ D i ys H x, xs[i]? = some x → i < xs.length → Pv D i ys H → ∃ a v1 v2, x = .ref a ∧ SqT K H a [v1, v2] ∧ tt (some v1 :: some v2 :: σ) H fun b H2 => if b = true then te (some v1 :: some v2 :: σ) H2 fun y H3 => H3 D = some (.lst ys) ∧ NextP xs.length i (Pv D (i + 1) (ys ++ [y]) (upd H3 D (.lst (ys ++ [y])))) else NextP xs.length i (Pv D (i + 1) ys H2))
    (hd : ∀ D ys H, Pv D xs.length ys H → Q (.ref D) H) :
    CompRd2 K J tt te σ Q H1 := by
  intro D hD
  refine ⟨fun i m ys H => m = xs.length - i ∧ i ≤ xs.length ∧ Pv D i ys H, ⟨xs.length, by simp, Nat.zero_le _, h0 D hD⟩, ?_⟩
  rintro i m ys H ⟨rfl, hi, p⟩
  obtain ⟨a1, a3, a2⟩ := hl D i ys H hi p
  refine ⟨a1, ?_⟩
  by_cases hlt : i < xs.length
  · refine .inr ⟨R.go i H hlt a3, a2 hlt, fun x H' hy => ?_⟩
    obtain ⟨e, hy'⟩ := R.yld i H x H' hlt a3 hy
    subst e
    exact ht D i ys H' x hy' hlt p
  · have e : i = xs.length := by omega
    subst e
    exact .inl ⟨R.stop _ H (Nat.le_refl _) a3, hd D ys H p⟩
end
end L2
set_option Elab.async false
set_option linter.all false
set_option maxRecDepth 100000
/-! ### enumerate, over any inner iterator -/
namespace L2
open PySem PySem.Spec PyProof.Rows
section
variable {prog : Program} {w : World} {A : Around} {E : Value → Shared → Prop} {s : Shared}
/-- the record of an enumerate: its six fields -/
def Enm (h : Heap) (e : Addr) (fs : Array Value) : Prop := h.get? e = some { cls := .type "enumerate", dict := none, data := .fields fs, slots := #[] }
/-- h' is h but for e: old objects stay, and there are as many -/
structure Only1 (e : Addr) (h h' : Heap) : Prop where
  size : h'.objs.size = h.objs.size
  keep : ∀ b, b ≠ e → h'.get? b = h.get? b
theorem Only1.refl (e : Addr) (h : Heap) : Only1 e h h := ⟨rfl, fun _ _ => rfl⟩
theorem Only1.trans {e : Addr} {h h1 h2 : Heap} (a : Only1 e h h1) (b : Only1 e h1 h2) : Only1 e h h2 := ⟨b.size.trans a.size, fun c hc => (b.keep c hc).trans (a.keep c hc)⟩
/-- read field k -/
theorem enm_get {e : Addr} {fs : Array Value} {k : Nat} {v : Value} {Q : Value → Shared → Prop} (r : Enm s.heap e fs) (hv : fs[k]? = some v) (q : Q v s) : wpAny (model prog w) A (field (.ref e) k) Q E s := wpAny_field r rfl hv q
/-- write field k -/
theorem enm_put {e : Addr} {fs : Array Value} {k : Nat} {v : Value} {Q : Unit → Shared → Prop} (r : Enm s.heap e fs) (hk : k < fs.size) (q : ∀ h', Enm h' e (fs.set! k v) → Only1 e s.heap h' → Q () { s with heap := h' }) : wpAny (model prog w) A (setField (.ref e) k v) Q E s :=
  wpAny_setField_rec r hk fun h' r' sb => q h' r' ⟨sb.1, sb.2⟩
/-- the inner iterator's own turn: a tuple's -/
theorem tin_item {it t : Addr} {i : Nat} {items : Array Value} {x : Value} {Q : Value → Shared → Prop} (hi : s.heap.IsTupleIter it t i) (ht : s.heap.IsTuple t items) (hx : items[i]? = some x)
    (q : ∀ h', h'.IsTupleIter it t (i + 1) → Only1 it s.heap h' → Q x { s with heap := h' }) : wpAny (model prog w) A (Builtin.SmallTypes.nextOf (.ref it)) Q E s := by
  obtain ⟨o, g1, g2, g3⟩ := id hi
  obtain ⟨ot, t1, t2, n, t3⟩ := id ht
  unfold Builtin.SmallTypes.nextOf
  refine wpAny_bind (wpAny_callSpecial?_slot (name := Str.ofString "__next__") hi.typeIs PySem.F.slot_tuple_iterator_next (wpAny_call_entry PySem.F.slot_tuple_iterator_next hi.typeIs PySem.F.entry_tuple_iterator_next ?_ (PySem.F.args_tuple_iterator_next_1 _)))
  have n0 : ¬ ((Value.ref t == Value.none) = true) := Bool.false_ne_true
  have put : ∀ {Q' : Unit → Shared → Prop} {E' : Value → Shared → Prop}, (∀ h', h'.IsTupleIter it t (i + 1) → Only1 it s.heap h' → Q' () { s with heap := h' }) → wpAny (model prog w) A.in1 (setField (.ref it) 1 (rawInt ((i : Int) + 1))) Q' E' s := fun q' =>
    wpAny_setField g1 g3 (by simp) (q' _ ⟨_, Heap.get?_update_self _ g1 (Obj.isFreed_of_fields (Obj.data_mapFields g3 _)), (Obj.cls_mapFields ..).trans g2, by rw [Obj.data_mapFields g3]; simp [rawInt]⟩ ⟨(Heap.SameBut.update ..).1, (Heap.SameBut.update ..).2⟩)
  show wpAny (model prog w) A.in1 (field (.ref it) 0 >>= fun z => _) _ _ s
  refine wpAny_bind (wpAny_field g1 g3 (x := .ref t) rfl ?_)
  show wpAny (model prog w) A.in1 (if (Value.ref t == Value.none) = true then _ else field (.ref it) 1 >>= fun z => _) _ _ s
  rw [if_neg n0]
  refine wpAny_bind (wpAny_field g1 g3 (x := .int i 0) rfl (wpAny_bind (wpAny_seqItems t1 t3 ?_)))
  simp only [Int.toNat_natCast, hx]
  exact wpAny_bind (put fun h' a b => wpAny_pure ⟨x, rfl, wpAny_pure (q h' a b)⟩)
/-- StopIteration is raised: two new objects -/
theorem stp {α : Type} {Q : α → Shared → Prop} (hh : A.handled = none) (q : ∀ h' x, (∀ b o, s.heap.get? b = some o → h'.get? b = some o) → (∃ o, h'.get? x = some o ∧ o.cls = .type "StopIteration") → E (.ref x) { s with heap := h' }) : wpAny (model prog w) A (Builtin.SmallTypes.stopIteration : Sem α) Q E s := by
  have hf : firstArgMember (.type "StopIteration") [] = pure Value.none := by first | rfl | (simp only [firstArgMember]; rfl)
  have fin : ∀ (h1 : Heap) (x : Addr), (∀ b o, s.heap.get? b = some o → h1.get? b = some o) → (∃ o, h1.get? x = some o ∧ o.cls = .type "StopIteration") → wpAny (model prog w) A (raiseNew (.ref x) : Sem α) Q E { s with heap := h1 } := fun h1 x k e => by
    unfold raiseNew
    exact wpAny_bind (wpAny_handled (by rw [hh]; exact wpAny_bind (wpAny_pure (wpAny_throw (q h1 x k e)))))
  unfold Builtin.SmallTypes.stopIteration newExc newTuple
  refine wpAny_bind (wpAny_bind (wpAny_newObj_type (wpAny_bind (wpAny_of_eq hf (wpAny_newObj_type (fin _ _ (fun b o e => Heap.get?_push_of_some _ (Heap.get?_push_of_some _ e)) ⟨_, Heap.get?_push_size _ rfl, rfl⟩) (by size_fits)))) (by size_fits)))
/-- .. at its end -/
theorem tin_end {it t : Addr} {i : Nat} {items : Array Value} {Q : Value → Shared → Prop} (hh : A.handled = none) (hi : s.heap.IsTupleIter it t i) (ht : s.heap.IsTuple t items) (hx : items[i]? = none)
    (q : ∀ h' x, (∀ b o, b ≠ it → s.heap.get? b = some o → h'.get? b = some o) → (∃ o, h'.get? x = some o ∧ o.cls = .type "StopIteration") → E (.ref x) { s with heap := h' }) : wpAny (model prog w) A (Builtin.SmallTypes.nextOf (.ref it)) Q E s := by
  obtain ⟨o, g1, g2, g3⟩ := id hi
  obtain ⟨ot, t1, t2, n, t3⟩ := id ht
  have n0 : ¬ ((Value.ref t == Value.none) = true) := Bool.false_ne_true
  unfold Builtin.SmallTypes.nextOf
  refine wpAny_bind (wpAny_callSpecial?_slot (name := Str.ofString "__next__") hi.typeIs PySem.F.slot_tuple_iterator_next (wpAny_call_entry PySem.F.slot_tuple_iterator_next hi.typeIs PySem.F.entry_tuple_iterator_next ?_ (PySem.F.args_tuple_iterator_next_1 _)))
  show wpAny (model prog w) A.in1 (field (.ref it) 0 >>= fun z => _) _ _ s
  refine wpAny_bind (wpAny_field g1 g3 (x := .ref t) rfl ?_)
  show wpAny (model prog w) A.in1 (if (Value.ref t == Value.none) = true then _ else field (.ref it) 1 >>= fun z => _) _ _ s
  rw [if_neg n0]
  refine wpAny_bind (wpAny_field g1 g3 (x := .int i 0) rfl (wpAny_bind (wpAny_seqItems t1 t3 ?_)))
  simp only [Int.toNat_natCast, hx]
  refine wpAny_bind (wpAny_rule (wpAny_bind (wpAny_setField g1 g3 (by simp) (stp (A := A.in1) hh fun h' x k e => q h' x (fun b o hb g => k b o ?_) e))))
  exact ((Heap.SameBut.update ..).2 b hb).trans g
/-- the next of an enumerate, whatever it goes over -/
theorem enm_next {e it : Addr} {i tk1 : Nat} {x old : Value} {St : Heap → Prop} {Q : Value → Shared → Prop} (he : Enm s.heap e #[.none, .bool false, .ref it, rawInt i, .none, old]) (hne : e ≠ it) (keep : ∀ h h', (∀ o, h.get? it = some o → h'.get? it = some o) → St h → St h')
    (inner : ∀ (Q' : Value → Shared → Prop) (E' : Value → Shared → Prop), (∀ h1, St h1 → Only1 it s.heap h1 → Q' x { s with heap := h1, toks := tk1 }) → wpAny (model prog w) A (Builtin.SmallTypes.nextOf (.ref it)) Q' E' s)
    (q : ∀ h', Enm h' e #[rawInt s.heap.objs.size, .bool false, .ref it, rawInt ((i : Int) + 1), .none, x] → St h' → h'.get? s.heap.objs.size = some { cls := .type "tuple", data := .seq #[.int i tk1, x] } →
      (∀ b o, b ≠ e → b ≠ it → s.heap.get? b = some o → h'.get? b = some o) → Q (.ref s.heap.objs.size) { s with heap := h', toks := tk1 + 1 }) :
    wpAny (model prog w) A (Builtin.«enumerate.__next__» ⟨[.ref e], []⟩) (fun r s' => ∃ v, r = .done (.ret v) ∧ Q v s') E s := by
  obtain ⟨hp, gs, dr, tk, os⟩ := s
  have lte : e < hp.objs.size := Heap.lt_size he
  show wpAny (model prog w) A (field (.ref e) 2 >>= fun z => _) _ _ _
  refine wpAny_bind (enm_get he rfl (wpAny_bind (inner _ _ fun a sa ka => ?_)))
  have ra : Enm a e #[.none, .bool false, .ref it, rawInt i, .none, old] := (ka.keep e hne).trans he
  refine wpAny_bind (enm_get ra (v := rawInt i) rfl ?_)
  refine wpAny_bind (enm_get ra (v := .none) rfl ?_)
  show wpAny (model prog w) A (mkInt i >>= fun z => _) _ _ _
  refine wpAny_bind (wpAny_mkInt (wpAny_bind (enm_put (fs := #[.none, .bool false, .ref it, rawInt i, .none, old]) ra (by simp) fun b rb kb => ?_)))
  refine wpAny_bind (enm_put rb (by simp) fun c rc kc => wpAny_bind (wpAny_newTuple ?_))
  have size3 : c.objs.size = hp.objs.size := kc.size.trans (kb.size.trans ka.size)
  generalize hd : c.push { cls := .type "tuple", data := .seq #[.int i tk1, x] } = d
  have rd : Enm d e #[.none, .bool false, .ref it, rawInt ((i : Int) + 1), .none, old] := by rw [← hd]; exact Heap.get?_push_of_some _ rc
  have td : d.get? hp.objs.size = some { cls := .type "tuple", data := .seq #[.int i tk1, x] } := by rw [← hd, ← size3]; exact Heap.get?_push_size _ rfl
  have od : ∀ y o, y ≠ e → a.get? y = some o → d.get? y = some o := fun y o hy g => by rw [← hd]; exact Heap.get?_push_of_some _ ((kc.keep y hy).trans ((kb.keep y hy).trans g))
  clear hd rc rb
  rw [size3]
  show wpAny (model prog w) A ((field (.ref e) 0 >>= fun z => _) >>= fun z => _) _ _ _
  refine wpAny_bind (wpAny_bind (enm_get rd rfl (wpAny_pure ?_)))
  rw [if_pos rfl]
  refine wpAny_bind (wpAny_rule (wpAny_bind (enm_get rd (v := old) rfl (wpAny_bind (enm_put rd (by simp) fun f rf kf => wpAny_bind ?_)))))
  show wpAny (model prog w) A (setField (.ref e) 0 (rawInt hp.objs.size) >>= fun z => setField (.ref e) 1 (.bool false)) _ _ _
  refine wpAny_bind (enm_put rf (by simp) fun g rg kg => enm_put rg (by simp) fun h rh kh => wpAny_bind (wpAny_letGo (wpAny_pure ⟨_, rfl, q h rh ?_ ?_ ?_⟩)))
  all_goals have k : ∀ y o, y ≠ e → d.get? y = some o → h.get? y = some o := fun y o hy z => (kh.keep y hy).trans ((kg.keep y hy).trans ((kf.keep y hy).trans z))
  · exact keep a h (fun o z => k it o (Ne.symm hne) (od it o (Ne.symm hne) z)) sa
  · exact k _ _ (Nat.ne_of_gt lte) td
  · exact fun y o h1 h2 z => k y o h1 (od y o h1 ((ka.keep y h2).trans z))
/-- one turn of enumerate(a tuple), and its end -/
theorem ent_item {e it t : Addr} {i : Nat} {items : Array Value} {x old : Value} {Q : Option Value → Shared → Prop} (he : IsEnum s.heap e it i old) (hi : s.heap.IsTupleIter it t i) (ht : s.heap.IsTuple t items) (hx : items[i]? = some x) (hne : e ≠ it)
    (q : ∀ h', IsEnumOut h' e it ((i : Int) + 1) x s.heap.objs.size → h'.IsTupleIter it t (i + 1) → h'.get? s.heap.objs.size = some { cls := .type "tuple", data := .seq #[.int i s.toks, x] } →
      (∀ b o, b ≠ e → b ≠ it → s.heap.get? b = some o → h'.get? b = some o) → Q (some (.ref s.heap.objs.size)) { s with heap := h', toks := s.toks + 1 }) : wpAny (model prog w) A (pyNext (.ref e)) Q E s := by
  have ty : s.TypeIs (.ref e) "enumerate" := ⟨_, he, rfl⟩
  unfold pyNext
  refine wpAny_bind (wpAny_attempt (wpAny_callSpecial?_slot (name := Str.ofString "__next__") ty PySem.F.slot_enumerate_next (wpAny_call_entry PySem.F.slot_enumerate_next ty PySem.F.entry_enumerate_next ?_ (PySem.F.args_enumerate_next_1 _))))
  exact enm_next he hne (fun h h' k z => z.at k) (fun Q' E' f => tin_item hi ht hx f) fun h' a b c k => wpAny_pure (q h' a b c k)
theorem ent_end {e it t : Addr} {i : Nat} {items : Array Value} {old : Value} {Q : Option Value → Shared → Prop} (hh : A.handled = none) (he : IsEnum s.heap e it i old) (hi : s.heap.IsTupleIter it t i) (ht : s.heap.IsTuple t items) (hx : items[i]? = none)
    (q : ∀ h', (∀ b o, b ≠ it → s.heap.get? b = some o → h'.get? b = some o) → Q none { s with heap := h' }) : wpAny (model prog w) A (pyNext (.ref e)) Q E s := by
  have ty : s.TypeIs (.ref e) "enumerate" := ⟨_, he, rfl⟩
  unfold pyNext
  refine wpAny_bind (wpAny_attempt (wpAny_callSpecial?_slot (name := Str.ofString "__next__") ty PySem.F.slot_enumerate_next (wpAny_call_entry PySem.F.slot_enumerate_next ty PySem.F.entry_enumerate_next ?_ (PySem.F.args_enumerate_next_1 _))))
  show wpAny (model prog w) A.in1 (field (.ref e) 2 >>= fun z => _) _ _ s
  refine wpAny_bind (enm_get he rfl (wpAny_bind (tin_end (A := A.in1) hh hi ht hx fun h' x k ⟨o, g1, g2⟩ => ?_)))
  exact wpAny_bind (wpAny_isInstance (T := "StopIteration") (b := true) ⟨o, g1, g2⟩ isSubtype_stop (wpAny_pure (q h' k)))
/-- enumerate(a tuple) is made -/
theorem ent_new (t : Addr) (items : Array Value) : Meets (Builtin.«enumerate.__new__» ⟨[.type "enumerate", .ref t], []⟩) (fun _ R s => s.heap.IsTuple t items ∧
    R (.ok (.ret (.ref (s.heap.push { cls := .type "tuple_iterator", data := .fields #[.ref t, .int 0 0] }).objs.size))) { s with heap := (s.heap.push { cls := .type "tuple_iterator", data := .fields #[.ref t, .int 0 0] }).push { cls := .type "enumerate", data := .fields #[.none, .bool false, .ref s.heap.objs.size, rawInt 0, .none, .none] } }) :=
  .of_wp fun prog w A R s ⟨ht, q⟩ => by
    have same := sub_enumerate
    obtain ⟨hp, gs, dr, tk, os⟩ := s
    wp_walk
    refine wpAny_stack_any fun st => wpAny_pure ?_
    split <;> first
      | (wp_walk using wpAny_pyIter_tuple ht; exact ⟨_, rfl, q⟩)
      | (rename_i c _ _ _ _ _; cases (c == Value.type "enumerate") <;> (wp_walk using wpAny_pyIter_tuple ht; exact ⟨_, rfl, q⟩))
theorem ent_make {t : Addr} {items : Array Value} {Q : Value → Shared → Prop} (ht : s.heap.IsTuple t items)
    (q : ∀ h', IsEnum h' (s.heap.objs.size + 1) s.heap.objs.size 0 .none → h'.IsTupleIter s.heap.objs.size t 0 → (∀ b o, s.heap.get? b = some o → h'.get? b = some o) → Q (.ref (s.heap.objs.size + 1)) { s with heap := h' }) :
    wpAny (model prog w) A (call (.type "enumerate") [.ref t]) Q E s := by
  have sz : (s.heap.push { cls := .type "tuple_iterator", data := .fields #[.ref t, .int 0 0] }).objs.size = s.heap.objs.size + 1 := Heap.size_push ..
  refine callType_new PySem.F.called_enumerate (by decide) (PySem.F.typeCall_enumerate_1 _) (PySem.F.newCall_enumerate_1 _) (fun obj => PySem.F.args_object_init_2 obj _) PySem.F.entry_enumerate_new (ent_new t items) ⟨ht, ?_⟩
  have en := Heap.get?_push_size (s.heap.push { cls := .type "tuple_iterator", data := .fields #[.ref t, .int 0 0] }) (o := { cls := .type "enumerate", data := .fields #[.none, .bool false, .ref s.heap.objs.size, rawInt 0, .none, .none] }) rfl
  show _ ∧ _
  rw [sz] at en ⊢
  exact ⟨⟨_, en, rfl⟩, q _ en ⟨_, Heap.get?_push_of_some _ (Heap.get?_push_size _ rfl), rfl, rfl⟩ fun b o z => Heap.get?_push_of_some _ (Heap.get?_push_of_some _ z)⟩
end
open NM ND PySem.W
def IteT (K : PySem.W.Frag) (a : Addr) (xs : List V) : It := ⟨fun i H => SqT K H a xs ∧ i < xs.length, fun i H x H' => ∃ T v, H T = none ∧ x = .ref T ∧ H' = upd H T (.tup [.int (i : Int), v]) ∧ xs[i]? = some v, fun i H => SqT K H a xs ∧ xs.length ≤ i⟩
theorem turn_enumT {P : Program} {w : World} {K : PySem.W.Frag} {tg : Expr} {es : List Expr} {k : Nat} {pos : Pos} (htg : tg = .Tuple es k pos) (a en it : Addr) (hne : en ≠ it) (xs : List V) :
    Turn P w K tg (IteT K a xs) [en, it] en (fun i h => (∃ old, IsEnum h en it (i : Int) old) ∧ h.IsTupleIter it a i) where
  mem := by simp
  obj := fun i h st b hb => by
    obtain ⟨⟨old, e⟩, ⟨o, e2, c, d⟩⟩ := st
    rcases List.mem_cons.mp hb with rfl | hb
    · exact ⟨_, e, fun v z => by cases z⟩
    · have e : b = it := by simpa using hb
      subst e
      exact ⟨o, e2, fun v z => by rw [d] at z; cases z⟩
  keep := fun i h h' st k => by
    obtain ⟨⟨old, e⟩, e2⟩ := st
    exact ⟨⟨old, k en (by simp) _ e⟩, e2.at fun o e => k it (by simp) o e⟩
  item := by
    intro X hP hw hK hc i pins s σ H E I hf st hg
    subst hP hw hK htg
    obtain ⟨hq, hi⟩ := hg
    obtain ⟨its, rv, p, hz⟩ := I.tuple hq
    have hx : xs[i]? = some xs[i] := List.getElem?_eq_getElem hi
    obtain ⟨u, hu, ru⟩ := rv.get hx
    obtain ⟨⟨old, st1⟩, st2⟩ := st
    obtain ⟨f0, f1, f2, f3, f4, f5⟩ := hf en (by simp)
    obtain ⟨g0, g1, g2, g3, g4, g5⟩ := hf it (by simp)
    refine ent_item st1 st2 (show s.heap.IsTuple a its.toArray from p) (x := u) (by simpa using hu) hne fun h' out st2' ht hk => ?_
    refine ⟨_, rfl, wpAny_letOwnedTupleGo_enum out fun h'' out' sb => ?_⟩
    have hT : H s.heap.objs.size = none := I.hok.fresh (Nat.le_refl _)
    have hTe : s.heap.objs.size ≠ en := Nat.ne_of_gt (Heap.lt_size st1)
    have hTi : s.heap.objs.size ≠ it := by obtain ⟨o, e, _⟩ := st2; exact Nat.ne_of_gt (Heap.lt_size e)
    have kk : ∀ b o, b ≠ en → b ≠ it → s.heap.get? b = some o → h''.get? b = some o := fun b o b1 b2 e => (sb.2 b b1).trans (hk b o b1 b2 e)
    refine ⟨.ref s.heap.objs.size, _, ?_, rfl, ⟨s.heap.objs.size, xs[i], hT, rfl, rfl, hx⟩, ⟨⟨_, out'⟩, ?_⟩, fun b hb => ?_⟩
    · refine I.turnLaid (ch := [en, it]) hf (fun b o hb e => kk b o (fun z => hb (by simp [z])) (fun z => hb (by simp [z])) e) (Nat.le_refl _) ⟨?_, [.int (i : Int) s.toks, u], .cons ⟨_, rfl⟩ (.cons ru .nil), ⟨_, (sb.2 _ hTe).trans ht, rfl, _, rfl⟩⟩
      exact Nat.le_trans (show 2 ≤ 1000 by decide) (Nat.le_of_lt (small1000 (Nat.le_refl 1000)))
    · exact st2'.at fun o e => (sb.2 it (Ne.symm hne)).trans e
    · rw [upd_ne]
      · exact (hf b hb).1
      · rcases List.mem_cons.mp hb with rfl | hb
        · exact hTe.symm
        · have e : b = it := by simpa using hb
          rw [e]; exact hTi.symm
  done := by
    intro X hP hw hK hc i pins s σ H E I hf st hg
    subst hP hw hK
    obtain ⟨hq, hi⟩ := hg
    obtain ⟨its, rv, p, hz⟩ := I.tuple hq
    have hrl := rv.length
    obtain ⟨⟨old, st1⟩, st2⟩ := st
    obtain ⟨g0, g1, g2, g3, g4, g5⟩ := hf it (by simp)
    exact ent_end (I.ok.hd hc) st1 st2 (show s.heap.IsTuple a its.toArray from p) (by simp; omega) fun h' eb => ⟨rfl, I.turned (t' := s.toks) (fun b o hb e => eb b o hb e) g0 g1 g3 g4 g5⟩
  self := fun _ _ _ _ _ st h => by
    obtain ⟨⟨old, st1⟩, _⟩ := st
    exact wpAny_pyIter_enum st1 h
section
variable {X : Cx} {es : List Expr} {k : Nat} {pos' : Pos}
def iEnumT (K : PySem.W.Frag) (ta : TA) : TI := fun σ H R => ta σ H fun vs H1 => ∃ a xs, vs = [.ref a] ∧ SqT K H1 a xs ∧ R (IteT K a xs) H1
theorem pi_enumT {e : Expr} {ta : TA} {p pos : Pos} (hg : Gl X "enumerate") (hm : X.mg "enumerate" = none) (ha : PA X [e] ta) (hs : starEach [e] X.env = [(false, eval e X.env)] := by rfl) : PI X (.Tuple es k pos') (.Call (.Name "enumerate" p) [e] [] pos) (iEnumT X.K ta) := by
  intro pins s σ H R I h
  refine Call_ (ld_blt I hg hm boot_enumerate (PyProof.Rows.callWith_type1 (thn (ha pos pins s σ H _ I h) fun us s1 ⟨vs, H1, I1, r1, q1⟩ => ?_) hs rfl))
  obtain ⟨a, xs, e, hq, q⟩ := q1
  subst e
  obtain ⟨u, rfl, ru⟩ := vals1 r1
  cases ru
  obtain ⟨its, rv, pl, hz⟩ := I1.tuple hq
  refine ent_make (show s1.heap.IsTuple a its.toArray from pl) fun h' he hi hk => ?_
  refine wpAny_pyIter_enum (i := 0) he ?_
  have I2 : Inv X pins σ H1 { s1 with heap := h' } := I1.kept (t' := s1.toks) hk
  refine ⟨s1.heap.objs.size + 1, [s1.heap.objs.size + 1, s1.heap.objs.size], _, _, H1, rfl, I2, turn_enumT rfl a _ _ (Nat.succ_ne_self _) xs, ⟨⟨_, he⟩, hi⟩, fun b hb => ?_, q⟩
  have hb : s1.heap.objs.size ≤ b := by
    rcases List.mem_cons.mp hb with rfl | hb
    · exact Nat.le_succ _
    · have e : b = s1.heap.objs.size := by simpa using hb
      rw [e]; exact Nat.le_refl _
  exact I1.fpOk hb (I1.hok.fresh hb)
end
/-- .. in a comprehension -/
structure RunsE (J : It) (xs : List V) (S : Hp → Prop) : Prop where
  go : ∀ i H, i < xs.length → S H → J.go i H
  yld : ∀ i H y H', i < xs.length → S H → J.yld i H y H' → ∃ T v, H T = none ∧ y = .ref T ∧ H' = upd H T (.tup [.int (i : Int), v]) ∧ xs[i]? = some v
  stop : ∀ i H, xs.length ≤ i → S H → J.stop i H
theorem runs_enumT {K : PySem.W.Frag} {a : Addr} {xs : List V} : RunsE (IteT K a xs) xs fun H => SqT K H a xs :=
  ⟨fun i H hi h => ⟨h, hi⟩, fun i H y H' _ _ hy => hy, fun i H hi h => ⟨h, hi⟩⟩
theorem comp_runE {K : PySem.W.Frag} {J : It} {xs : List V} {S : Hp → Prop} {tt : TT} {te : TE} {σ : St} {H1 : Hp} {Q : VK} (R : RunsE J xs S) (Pv : Addr → Nat → List V → Hp → Prop)
    (h0 : ∀ D, H1 D = none → Pv D 0 [] (upd H1 D (.lst [])))
    (hl : ∀ D i ys H, i ≤ xs.length → Pv D i ys H → H D = some (.lst ys) ∧ S H ∧ (i < xs.length → ys.length < sizeLine))
    (ht : ∀ D i ys H x T, xs[i]? = some x → i < xs.length → Pv D i ys H → H T = none → tt (some (.int (i : Int)) :: some x :: σ) (upd H T (.tup [.int (i : Int), x])) fun b H2 => if b = true then te (some (.int (i : Int)) :: some x :: σ) H2 fun y H3 => H3 D = some (.lst ys) ∧ NextP xs.length i (Pv D (i + 1) (ys ++ [y]) (upd H3 D (.lst (ys ++ [y])))) else NextP xs.length i (Pv D (i + 1) ys H2))
    (hd : ∀ D ys H, Pv D xs.length ys H → Q (.ref D) H) :
    CompRd2 K J tt te σ Q H1 := by
  intro D hD
  refine ⟨fun i m ys H => m = xs.length - i ∧ i ≤ xs.length ∧ Pv D i ys H, ⟨xs.length, by simp, Nat.zero_le _, h0 D hD⟩, ?_⟩
  rintro i m ys H ⟨rfl, hi, p⟩
  obtain ⟨a1, a3, a2⟩ := hl D i ys H hi p
  refine ⟨a1, ?_⟩
  by_cases hlt : i < xs.length
  · refine .inr ⟨R.go i H hlt a3, a2 hlt, fun x H' hy => ?_⟩
    obtain ⟨T, v, hT, rfl, rfl, hv⟩ := R.yld i H x H' hlt a3 hy
    exact ⟨T, _, v, rfl, .of upd_same, ht D i ys H v T hv hlt p hT⟩
  · have e : i = xs.length := by omega
    subst e
    exact .inl ⟨R.stop _ H (Nat.le_refl _) a3, hd D ys H p⟩
end L2
set_option Elab.async false
set_option linter.all false
set_option maxRecDepth 100000
/-! ### the table of a set: its places rise -/
namespace SET
open PySem
/-- each place is above the one before -/
def Up (xs : Array Nat) : Prop := ∀ i j, i < j → ∀ (hj : j < xs.size), xs.getD i 0 < xs.getD j 0
theorem getD_any (xs : Array Nat) {i : Nat} (h : i < xs.size) (d e : Nat) : xs.getD i d = xs.getD i e := by
  simp [Array.getD, h]
theorem Up.empty : Up #[] := fun i j _ hj => absurd hj (Nat.not_lt_zero _)
theorem Up.range (n : Nat) : Up (Array.range n) := fun i j h hj => by
  simp only [Array.size_range] at hj
  have hi : i < n := by omega
  simp [Array.getD, hi, hj, h]
/-- what the search by halves finds -/
theorem below_go {xs : Array Nat} (up : Up xs) (j : Nat) : ∀ (fuel lo hi : Nat), hi ≤ xs.size → lo ≤ hi → hi - lo ≤ fuel → (∀ i, i < lo → xs.getD i 0 < j) → (∀ i, hi ≤ i → i < xs.size → j ≤ xs.getD i 0) →
    lo ≤ SetTable.below.go xs j fuel lo hi ∧ SetTable.below.go xs j fuel lo hi ≤ hi ∧ (∀ i, i < SetTable.below.go xs j fuel lo hi → xs.getD i 0 < j) ∧ ∀ i, SetTable.below.go xs j fuel lo hi ≤ i → i < xs.size → j ≤ xs.getD i 0
  | 0, lo, hi, h1, h2, h3, h4, h5 => by
    have e : lo = hi := by omega
    subst e
    exact ⟨Nat.le_refl _, Nat.le_refl _, h4, h5⟩
  | fuel + 1, lo, hi, h1, h2, h3, h4, h5 => by
    unfold SetTable.below.go
    by_cases c : lo < hi
    · rw [if_pos c]
      dsimp only
      have hm : (lo + hi) / 2 < hi := by omega
      have hl : lo ≤ (lo + hi) / 2 := by omega
      generalize (lo + hi) / 2 = mid at hm hl
      have e : xs.getD mid j = xs.getD mid 0 := getD_any xs (by omega) _ _
      rw [e]
      by_cases c2 : xs.getD mid 0 < j
      · rw [if_pos c2]
        have := below_go up j fuel (mid + 1) hi h1 (by omega) (by omega) (fun i hi' => by
          by_cases ee : i = mid
          · rw [ee]; exact c2
          · exact Nat.lt_trans (up i mid (by omega) (by omega)) c2) h5
        exact ⟨by omega, this.2⟩
      · rw [if_neg c2]
        have := below_go up j fuel lo mid (by omega) hl (by omega) h4 (fun i hi' hs => by
          by_cases ee : i = mid
          · rw [ee]; omega
          · have := up mid i (by omega) hs; omega)
        exact ⟨this.1, by omega, this.2.2⟩
    · rw [if_neg c]
      have e : lo = hi := by omega
      subst e
      exact ⟨Nat.le_refl _, Nat.le_refl _, h4, h5⟩
theorem below_is {xs : Array Nat} (up : Up xs) (j : Nat) : SetTable.below xs j ≤ xs.size ∧ (∀ i, i < SetTable.below xs j → xs.getD i 0 < j) ∧ ∀ i, SetTable.below xs j ≤ i → i < xs.size → j ≤ xs.getD i 0 := by
  have := below_go up j xs.size 0 xs.size (Nat.le_refl _) (Nat.zero_le _) (by omega) (fun i h => absurd h (Nat.not_lt_zero _)) (fun i h h' => absurd h' (by omega))
  exact this.2
/-- behind the k-th place: the next one is the k + 1-st -/
theorem below_next {xs : Array Nat} (up : Up xs) {k : Nat} (h : k < xs.size) : SetTable.below xs (xs.getD k 0 + 1) = k + 1 := by
  obtain ⟨h1, h2, h3⟩ := below_is up (xs.getD k 0 + 1)
  generalize SetTable.below xs (xs.getD k 0 + 1) = b at h1 h2 h3
  rcases Nat.lt_trichotomy b (k + 1) with c | c | c
  · have := h3 k (by omega) h; omega
  · exact c
  · have := h2 (k + 1) c
    have := up k (k + 1) (by omega) (by omega)
    omega
theorem below_zero {xs : Array Nat} (up : Up xs) : SetTable.below xs 0 = 0 := by
  obtain ⟨h1, h2, h3⟩ := below_is up 0
  rcases Nat.eq_zero_or_pos (SetTable.below xs 0) with c | c
  · exact c
  · have := h2 0 c; omega
theorem insertAt_size {α : Type} (xs : Array α) (p : Nat) (x : α) : (SetTable.insertAt xs p x).size = xs.size + 1 := by
  rw [← Array.length_toList, (SetTable.insertAt_perm xs p x).length_eq, Array.length_toList, Array.size_push]
theorem insertAt_get {α : Type} (xs : Array α) {p : Nat} (x d : α) (hp : p ≤ xs.size) (i : Nat) : (SetTable.insertAt xs p x).getD i d = if i < p then xs.getD i d else if i = p then x else xs.getD (i - 1) d := by
  have e : ∀ (ys : Array α) (i : Nat), ys.getD i d = (ys.toList[i]?).getD d := fun ys i => by
    rw [Array.getElem?_toList, Array.getD_eq_getD_getElem?]
  have hl : (xs.toList.take p).length = p := by rw [List.length_take, Array.length_toList]; omega
  rw [e, SetTable.toList_insertAt]
  by_cases c : i < p
  · rw [if_pos c, e, List.getElem?_append_left (by omega), List.getElem?_take_of_lt c]
  · rw [if_neg c, List.getElem?_append_right (by omega), hl]
    by_cases c2 : i = p
    · rw [if_pos c2, c2, Nat.sub_self]; rfl
    · rw [if_neg c2, e]
      obtain ⟨k, rfl⟩ : ∃ k, i = p + k + 1 := ⟨i - p - 1, by omega⟩
      rw [show p + k + 1 - p = k + 1 by omega, List.getElem?_cons_succ, List.getElem?_drop]
      rfl
/-- a slot that is free is put in its place -/
theorem Up.put {xs : Array Nat} (up : Up xs) {j : Nat} (hj : ∀ i, i < xs.size → xs.getD i 0 ≠ j) : Up (SetTable.insertAt xs (SetTable.below xs j) j) := by
  obtain ⟨h1, h2, h3⟩ := below_is up j
  generalize SetTable.below xs j = p at h1 h2 h3
  intro a b hab hb
  rw [insertAt_size] at hb
  rw [insertAt_get xs j 0 h1, insertAt_get xs j 0 h1]
  by_cases ca : a < p
  · rw [if_pos ca]
    by_cases cb : b < p
    · rw [if_pos cb]; exact up a b hab (by omega)
    · rw [if_neg cb]
      by_cases cb2 : b = p
      · rw [if_pos cb2]; exact h2 a ca
      · rw [if_neg cb2]
        have := h2 a ca
        have := h3 (b - 1) (by omega) (by omega)
        omega
  · rw [if_neg ca, if_neg (show ¬ b < p by omega), if_neg (show ¬ b = p by omega)]
    by_cases ca2 : a = p
    · rw [if_pos ca2]
      have := h3 (b - 1) (by omega) (by omega)
      have := hj (b - 1) (by omega)
      omega
    · rw [if_neg ca2]
      exact up (a - 1) (b - 1) (by omega) (by omega)
/-- what holds of a table from which nothing was taken out -/
structure Ok (t : SetTable) (led : Bool) : Prop where
  up : Up t.place
  none : t.dummies = #[]
  led : t.led = led
theorem slot_empty {t : SetTable} {led : Bool} (o : Ok t led) {j : Nat} (h : t.slot j = .empty) : ∀ i, i < t.place.size → t.place.getD i 0 ≠ j := by
  intro i hi e
  obtain ⟨h1, h2, h3⟩ := below_is o.up j
  have hb : SetTable.below t.place j = i := by
    rcases Nat.lt_trichotomy (SetTable.below t.place j) i with c | c | c
    · have := h3 _ (Nat.le_refl _) (by omega)
      have := o.up _ i c hi
      omega
    · exact c
    · have := h2 i c; omega
  unfold SetTable.slot at h
  dsimp only at h
  rw [hb] at h
  have hg : t.place[i]? = some j := by
    rw [← e, Array.getD_eq_getD_getElem?, Array.getElem?_eq_getElem hi]; rfl
  rw [hg] at h
  simp at h
theorem slot_dummy {t : SetTable} {led : Bool} (o : Ok t led) {j : Nat} : t.slot j ≠ .dummy := by
  intro h
  unfold SetTable.slot at h
  dsimp only at h
  rw [o.none] at h
  split at h
  · cases h
  · have : SetTable.has #[] j = false := by simp [SetTable.has]
    rw [this] at h
    simp at h
theorem put_ok {t : SetTable} {led : Bool} (o : Ok t led) {j : Nat} (h : t.slot j = .empty) : Ok (t.put j).1 led := by
  refine ⟨o.up.put (slot_empty o h), ?_, o.led⟩
  show (if SetTable.has t.dummies j then _ else t.dummies) = #[]
  rw [o.none]
  have : SetTable.has #[] j = false := by simp [SetTable.has]
  rw [this]; rfl
theorem up_of_pairwise {l : List Nat} (h : l.Pairwise (· < ·)) : Up l.toArray := fun i j hij hj => by
  have hj' : j < l.length := by simpa using hj
  have := List.pairwise_iff_getElem.mp h i j (by omega) hj' hij
  simpa [Array.getD, hj', show i < l.length by omega] using this
theorem laid_ok {mask finger moves : Nat} {led plain : Bool} {hashes : Array Int} {t : SetTable} {order : Array Nat} (e : SetTable.laid mask finger moves led plain hashes = some (t, order)) : Ok t led := by
  unfold SetTable.laid at e
  simp only [Option.bind_eq_bind, Option.bind_eq_some_iff] at e
  obtain ⟨owner, _, e⟩ := e
  simp only [Option.pure_def, Option.some.injEq, Prod.mk.injEq] at e
  obtain ⟨rfl, _⟩ := e
  refine ⟨up_of_pairwise ?_, rfl, rfl⟩
  rw [List.map_filterMap]
  refine List.Pairwise.filterMap _ (R := fun a b => a < b) (fun a b hab c hc d hd => ?_) List.pairwise_lt_range
  simp only [Option.mem_def, Option.map_map] at hc hd
  cases ha : owner.getD a none with
  | none => rw [ha] at hc; cases hc
  | some x =>
    cases hb : owner.getD b none with
    | none => rw [hb] at hd; cases hd
    | some y =>
      rw [ha] at hc; rw [hb] at hd
      have hc : a = c := by simpa using hc
      have hd : b = d := by simpa using hd
      omega
/-- a small int lies at its own slot of the first table -/
theorem slot_free {t : SetTable} {led : Bool} (o : Ok t led) {j : Nat} (h : ∀ i, i < t.place.size → t.place.getD i 0 ≠ j) : t.slot j = .empty := by
  unfold SetTable.slot
  dsimp only
  have h1 : (t.place[SetTable.below t.place j]? == some j) = false := by
    cases e : t.place[SetTable.below t.place j]? with
    | none => rfl
    | some x =>
      obtain ⟨hlt, hx⟩ := Array.getElem?_eq_some_iff.mp e
      have := h _ hlt
      rw [Array.getD_eq_getD_getElem?, e] at this
      have hne : x ≠ j := this
      simpa using hne
  have h2 : SetTable.has #[] j = false := by simp [SetTable.has]
  rw [h1, o.none, h2]; rfl
theorem bits_small {k : Nat} (hk : k < 8) : SetTable.bits (k : Int) = k := by
  unfold SetTable.bits
  show ((k : Int) % 18446744073709551616).toNat = k
  omega
theorem freeSlot_small {t : SetTable} {led : Bool} (o : Ok t led) (m : t.mask = 7) {k : Nat} (hk : k < 8) (h : ∀ i, i < t.place.size → t.place.getD i 0 ≠ k) : t.freeSlot (k : Int) = some (k, false) := by
  have hs := slot_free o h
  have e8 : k % (7 + 1) = k := by omega
  unfold SetTable.freeSlot SetTable.probe SetTable.probeStart
  rw [bits_small hk, m, e8]
  show (match SetTable.probe.go t _ _ (219 + 1) _ with | some (.empty j dummy) => some (dummy.getD j, dummy.isSome) | _ => none) = _
  unfold SetTable.probe.go
  dsimp only
  rw [hs]
  rfl
end SET
set_option Elab.async false
set_option linter.all false
set_option maxRecDepth 100000
/-! ### a set of ints, with what its table keeps -/
namespace SET
open PySem PySem.Spec
def keyI : Value → Int
  | .int k _ => k
  | _ => 0
abbrev keys (es : Array (Int × Value)) : List Int := es.toList.map fun e => keyI e.2
abbrev setObj (es : Array (Int × Value)) (ep : Nat) (t : SetTable) : Obj := { cls := .type "set", dict := none, data := .set es ep t, slots := #[] }
structure Body (prog : Program) (w : World) (es : Array (Int × Value)) (t : SetTable) (led : Bool) (ks : List Int) : Prop where
  el : ElemsOf (intKind prog w) es.toList
  nd : (keys es).Nodup
  mem : ∀ z, z ∈ keys es ↔ z ∈ ks
  few : es.size < scanBound
  fits : t.fits es.size = true
  ok : Ok t led
  mask : t.mask = 7
  plain : t.plain = true
  own : ∀ i, i < t.place.size → ((t.place.getD i 0 : Nat) : Int) ∈ keys es
/-- what a walk asks of a table -/
structure TB (es : Array (Int × Value)) (t : SetTable) (led : Bool) : Prop where
  fits : t.fits es.size = true
  ok : Ok t led
  plain : t.plain = true
theorem Body.tb {prog : Program} {w : World} {es : Array (Int × Value)} {t : SetTable} {led : Bool} {ks : List Int} (b : Body prog w es t led ks) : TB es t led := ⟨b.fits, b.ok, b.plain⟩
def SetI (prog : Program) (w : World) (h : Heap) (a : Addr) (led : Bool) (ks : List Int) : Prop := ∃ es ep t, h.get? a = some (setObj es ep t) ∧ Body prog w es t led ks
theorem int_of {prog : Program} {w : World} {k : Int} {v : Value} (h : (intKind prog w).is k v = true) : ∃ t, v = .int k t := by
  cases v <;> simp_all [intKind, Value.isInt]
theorem Body.key {prog : Program} {w : World} {es : Array (Int × Value)} {t : SetTable} {led : Bool} {ks : List Int} (b : Body prog w es t led ks) {e : Int × Value} (he : e ∈ es.toList) : ∃ tk, e.2 = .int (keyI e.2) tk := by
  obtain ⟨⟨k, hk, _⟩, _⟩ := b.el e he
  obtain ⟨tk, e2⟩ := int_of hk
  exact ⟨tk, by rw [e2]; rfl⟩
theorem Body.is_iff {prog : Program} {w : World} {es : Array (Int × Value)} {t : SetTable} {led : Bool} {ks : List Int} (b : Body prog w es t led ks) {e : Int × Value} (he : e ∈ es.toList) (k : Int) : (intKind prog w).is k e.2 = true ↔ keyI e.2 = k := by
  obtain ⟨tk, e2⟩ := b.key he
  constructor
  · intro h
    obtain ⟨t', e3⟩ := int_of h
    rw [e3]; rfl
  · intro h
    rw [e2, h]; exact intKind_is _ _ _ _
theorem put_get {h : Heap} {a : Addr} {es es' : Array (Int × Value)} {ep : Nat} {t t' : SetTable} (ho : h.get? a = some (setObj es ep t)) : (h.update a (Obj.putSet es' t')).get? a = some (setObj es' (ep + 1) t') := by
  have e := putSet_of (o := setObj es ep t) es' t' rfl
  have := Heap.get?_update_self (Obj.putSet es' t') ho (by rw [e]; rfl)
  rw [e] at this
  exact this
theorem nodup_le {α : Type} [DecidableEq α] : ∀ {l ks : List α}, l.Nodup → (∀ z ∈ l, z ∈ ks) → l.length ≤ ks.length
  | [], _, _, _ => Nat.zero_le _
  | a :: l, ks, nd, sub => by
    rw [List.nodup_cons] at nd
    have ha := sub a (by simp)
    have := nodup_le (l := l) (ks := ks.erase a) nd.2 fun z hz => (List.mem_erase_of_ne (fun e : z = a => nd.1 (by rw [← e]; exact hz))).2 (sub z (by simp [hz]))
    rw [List.length_erase_of_mem ha] at this
    have : 0 < ks.length := List.length_pos_of_mem ha
    simp only [List.length_cons]
    omega
section
variable {prog : Program} {w : World} {A : Around} {E : Value → Shared → Prop} {s : Shared}
/-- one int is added -/
theorem add_int {a : Addr} {led : Bool} {ks : List Int} {k : Int} {tk : Tok} {Q : Bool → Shared → Prop} (hS : SetI prog w s.heap a led ks) (hk0 : 0 ≤ k) (hk8 : k < 8) (hroom : ks.length ≤ 3)
    (q : ∀ r h', Heap.SameBut a s.heap h' → SetI prog w h' a led (k :: ks) → Q r { s with heap := h' }) : wpAny (model prog w) A (setAddHashed a (.int k tk) ((intKind prog w).hash k)) Q E s := by
  obtain ⟨es, ep, t, ho, b⟩ := hS
  have hkey := intKind_is prog w k tk
  have hsub : es.size ≤ ks.length := by
    have := nodup_le b.nd fun z hz => (b.mem z).1 hz
    simpa using this
  unfold setAddHashed setAddHashedIn
  refine wpAny_holding (wpAny_bind (wpAny_setState_of ho rfl b.fits ?_))
  dsimp only
  rw [byScan_of (knd := intKind prog w) (x := .int k tk) rfl b.few b.el, if_pos rfl]
  unfold setAddByScan
  refine wpAny_bind (wpAny_bind (wpAny_rule (wpAny_bind (wpAny_setScan_of hkey ho rfl b.fits b.el ?_))))
  cases hr : es.toList.findIdx? (fun e => (intKind prog w).is k e.2) with
  | some j =>
    obtain ⟨hj, hpj, _⟩ := List.findIdx?_eq_some_iff_getElem.mp hr
    have hin : k ∈ ks := (b.mem k).1 (List.mem_map.mpr ⟨_, List.getElem_mem hj, (b.is_iff (List.getElem_mem hj) k).1 hpj⟩)
    have b' : Body prog w es t led (k :: ks) := ⟨b.el, b.nd, fun z => (b.mem z).trans ⟨fun h => by simp [h], fun h => by
      rcases List.mem_cons.mp h with rfl | h
      · exact hin
      · exact h⟩, b.few, b.fits, b.ok, b.mask, b.plain, b.own⟩
    exact wpAny_pure (wpAny_pure (q _ s.heap (Heap.SameBut.refl a s.heap) ⟨es, ep, t, ho, b'⟩))
  | none =>
    have hno : k ∉ keys es := fun h => by
      obtain ⟨e, he, ek⟩ := List.mem_map.mp h
      have := List.findIdx?_eq_none_iff.mp hr e he
      rw [(b.is_iff he k).2 ek] at this
      cases this
    obtain ⟨m, rfl⟩ : ∃ m : Nat, k = (m : Int) := ⟨k.toNat, by omega⟩
    have hm8 : m < 8 := by omega
    have free : ∀ i, i < t.place.size → t.place.getD i 0 ≠ m := fun i hi e => hno (by rw [← e]; exact b.own i hi)
    have hh : (intKind prog w).hash (m : Int) = (m : Int) := by
      show hashInt (m : Int) = (m : Int)
      match m, hm8 with
      | 0, _ => rfl
      | 1, _ => rfl
      | 2, _ => rfl
      | 3, _ => rfl
      | 4, _ => rfl
      | 5, _ => rfl
      | 6, _ => rfl
      | 7, _ => rfl
    have pz : t.place.size = es.size := by
      have := b.fits
      simp only [SetTable.fits, Bool.and_eq_true, beq_iff_eq] at this
      exact this.1
    have ok1 := put_ok b.ok (slot_free b.ok free)
    have pz1 : (t.put m).1.place.size = es.size + 1 := by show (SetTable.insertAt t.place _ m).size = _; rw [insertAt_size, pz]
    have sz1 : (SetTable.insertAt es (t.put m).2 ((m : Int), Value.int m tk)).size = es.size + 1 := insertAt_size ..
    have ft : (t.put m).1.fits (SetTable.insertAt es (t.put m).2 ((m : Int), Value.int m tk)).size = true := by
      rw [sz1]
      simp only [SetTable.fits, Bool.and_eq_true, beq_iff_eq, decide_eq_true_eq]
      refine ⟨pz1, ?_⟩
      unfold SetTable.fill
      rw [pz1, ok1.none]
      show es.size + 1 + 0 ≤ t.mask
      rw [b.mask]; omega
    have eL : layNew t es (m : Int) (.int m tk) = (SetTable.insertAt es (t.put m).2 ((m : Int), Value.int m tk), (t.put m).1, false, false) := by
      unfold layNew
      rw [freeSlot_small b.ok b.mask hm8 free]
      dsimp only
      unfold SetTable.orStandIn
      rw [ft]; rfl
    have pm := SetTable.insertAt_perm es (t.put m).2 ((m : Int), Value.int m tk)
    rw [Array.toList_push] at pm
    have km : (keys (SetTable.insertAt es (t.put m).2 ((m : Int), Value.int m tk))).Perm (keys es ++ [(m : Int)]) := by
      have := pm.map fun e => keyI e.2
      rw [List.map_append] at this
      exact this
    have el1 := (b.el.push hkey rfl)
    rw [hh] at el1
    have b1 : Body prog w (SetTable.insertAt es (t.put m).2 ((m : Int), Value.int m tk)) (t.put m).1 led ((m : Int) :: ks) := ⟨el1.perm pm, km.nodup_iff.mpr (List.nodup_append.mpr ⟨b.nd, by simp, fun x hx y hy => by
      have : y = (m : Int) := by simpa using hy
      subst this
      exact fun e => hno (e ▸ hx)⟩), fun z => km.mem_iff.trans (by rw [List.mem_append, b.mem z]; simp [or_comm]), by rw [sz1]; have : scanBound = 4096 := rfl; omega, ft, ok1, b.mask, b.plain, fun i hi => ?_⟩
    · have full : ¬ ((!false && (t.put m).1.tooFull) = true) := by
        unfold SetTable.tooFull SetTable.fill
        rw [pz1, ok1.none]
        show ¬ ((true && decide ((es.size + 1 + 0) * 5 ≥ t.mask * 3)) = true)
        rw [b.mask]
        simp; omega
      dsimp only
      rw [hh, eL]
      dsimp only
      refine wpAny_bind (wpAny_pure ?_)
      rw [show (t.put m).1.plain = true from b.plain, if_pos rfl, hashByValue_scannable 8 (x := .int m tk) rfl]
      refine wpAny_bind (wpAny_pure ?_)
      have ep : (if plainKind (Value.int (m : Int) tk) = true then (t.put m).1 else { (t.put m).1 with plain := false }) = (t.put m).1 := if_pos rfl
      rw [ep]
      refine wpAny_bind (wpAny_storeSet_of ho rfl ?_ (fits_of_scanBound b1.few))
      rw [if_neg full]
      exact wpAny_pure (wpAny_pure (q _ _ (Heap.SameBut.update s.heap a _) ⟨_, _, _, put_get ho, b1⟩))
    · have hb := (below_is b.ok.up m).1
      show ((((SetTable.insertAt t.place (SetTable.below t.place m) m).getD i 0 : Nat)) : Int) ∈ _
      rw [km.mem_iff, List.mem_append, insertAt_get t.place m 0 hb]
      rw [show (t.put m).1.place.size = es.size + 1 from pz1] at hi
      by_cases c1 : i < SetTable.below t.place m
      · rw [if_pos c1]; exact .inl (b.own i (by omega))
      · rw [if_neg c1]
        by_cases c2 : i = SetTable.below t.place m
        · rw [if_pos c2]; simp
        · rw [if_neg c2]; exact .inl (b.own (i - 1) (by omega))
end
end SET
set_option Elab.async false
set_option linter.all false
set_option maxRecDepth 100000
/-! ### set(a list of ints) -/
namespace SET
open PySem PySem.Spec PyProof.Rows
theorem SetI.at {prog : Program} {w : World} {h h' : Heap} {a : Addr} {led : Bool} {ks : List Int} (hS : SetI prog w h a led ks) (k : ∀ o, h.get? a = some o → h'.get? a = some o) : SetI prog w h' a led ks := by
  obtain ⟨es, ep, t, ho, b⟩ := hS
  exact ⟨es, ep, t, k _ ho, b⟩
theorem SetI.swap {prog : Program} {w : World} {h : Heap} {a : Addr} {led : Bool} {ks ks' : List Int} (hS : SetI prog w h a led ks) (e : ∀ z, z ∈ ks ↔ z ∈ ks') : SetI prog w h a led ks' := by
  obtain ⟨es, ep, t, ho, b⟩ := hS
  exact ⟨es, ep, t, ho, ⟨b.el, b.nd, fun z => (b.mem z).trans (e z), b.few, b.fits, b.ok, b.mask, b.plain, b.own⟩⟩
theorem fresh_setI {prog : Program} {w : World} {h : Heap} {a : Addr} {led : Bool} (ho : h.get? a = some (setObj #[] 0 (.fresh 0 0 led))) : SetI prog w h a led [] :=
  ⟨#[], 0, _, ho, ⟨fun e he => by simp at he, by simp [keys], fun z => by simp [keys], by decide, rfl, ⟨Up.empty, rfl, rfl⟩, rfl, rfl, fun i hi => absurd hi (Nat.not_lt_zero _)⟩⟩
section
variable {prog : Program} {w : World} {A : Around} {R : Result → Shared → Prop} {it : Addr} {fp wr : List Addr} {G : Array GenState → Array GenState → Prop} {n : Nat} {P : Nat → Value → Prop} {St : Nat → Shared → Prop}
/-- the loop behind set(..): all ints of the walk get in -/
theorem upd_loop (W : WalksS prog w A.in1 it fp wr G n P St) {S : Addr} (hSf : S ∉ fp) {led : Bool} (val : Nat → Int) (hval : ∀ i v, P i v → ∃ t, v = .int (val i) t) (h8 : ∀ i, i < n → 0 ≤ val i ∧ val i < 8) (hb : n ≤ 4) (left : Nat) :
    ∀ (i : Nat) (s : Shared), i + left = n → St i s → SetI prog w s.heap S led ((List.range i).map val).reverse →
      (∀ s', Moved (S :: wr) G s s' → SetI prog w s'.heap S led ((List.range n).map val).reverse → R (.ok (.ret .none)) s') → codeAny (model prog w) A (.builtin "set.update.loop" ⟨[.ref S, .ref it], []⟩) R s := by
  have hSw : S ∉ wr := fun h => hSf (W.sub _ h)
  have wider : ∀ b ∈ wr, b ∈ S :: wr := fun b hb => by simp [hb]
  induction left with
  | zero =>
    intro i s hi st hS hR
    have hi : i = n := by omega
    subst hi
    refine codeAny_builtin F.entry_set_update_loop ?_
    rw [Around.under_plainId F.plain_set_update_loop]
    unfold Builtin.«set.update.loop»
    exact wpAny_bind (W.done s _ _ st fun s' mv => wpAny_pure (hR s' (mv.mono wider) (hS.at fun o e => mv.heap S o hSw e)))
  | succ left ih =>
    intro i s hi st hS hR
    refine codeAny_builtin F.entry_set_update_loop ?_
    rw [Around.under_plainId F.plain_set_update_loop]
    unfold Builtin.«set.update.loop»
    refine wpAny_bind (W.item i s _ _ (by omega) st fun v s' hP st' mv => ?_)
    obtain ⟨t, rfl⟩ := hval i v hP
    have hS' := hS.at fun o e => mv.heap S o hSw e
    dsimp only
    refine wpAny_bind (wpAny_holding ?_)
    unfold setAdd
    refine wpAny_holding (wpAny_bind ((intKind prog w).pyHash (k := val i) (intKind_is _ _ _ _) ?_))
    refine add_int (s := { s' with toks := s'.toks + 1 }) hS' (h8 i (by omega)).1 (h8 i (by omega)).2 (by rw [List.length_reverse, List.length_map, List.length_range]; omega) fun r h' sb hS2 => ?_
    have e : (List.range (i + 1)).map val = (List.range i).map val ++ [val i] := by rw [List.range_succ, List.map_append]; rfl
    have hS3 : SetI prog w h' S led ((List.range (i + 1)).map val).reverse := by rw [e, List.reverse_append]; exact hS2
    have st2 := W.frame _ s' h' (s'.toks + 1) st' (Nat.le_succ _) fun b hb o eo => by
      rw [sb.2 b (fun z : b = S => hSf (z ▸ hb))]; exact eo
    refine wpAny_pure ⟨plainId_quiet F.plain_set_update_loop _, ih (i + 1) _ (by omega) st2 hS3 fun s'' mv2 hS4 => ?_⟩
    refine hR s'' (Moved.trans W.gtrans ((mv.mono wider).then_heap (Nat.le_succ _) fun b o hb eo => ?_) mv2) hS4
    rw [sb.2 b (fun z : b = S => hb (by simp [z]))]; exact eo
end
section
variable {prog : Program} {w : World} {A : Around} {E : Value → Shared → Prop} {s : Shared}
/-- whether a set's order may be told by its table -/
def ledOf (w : World) : Bool := !(w.params.followText "set-order")
theorem made {a : Value} {Q₁ : Value → Shared → Prop} (q : Q₁ (.ref s.heap.objs.size) { s with heap := s.heap.push (setObj #[] 0 (.fresh 0 0 (ledOf w))) }) :
    codeAny (model prog w) A (.call (.builtin "set.__new__") ⟨[.type "set", a], []⟩) (wants Q₁ E) s := by
  refine codeAny_call_builtin F.plain_set_new F.entry_set_new ?_
  rw [F.newCall_set_1 a]
  refine wpAny_pure ?_
  have hsub := sub_set_self
  unfold Builtin.«set.__new__» Builtin.Frozenset.newClass
  obtain ⟨hp, g, d, tk, os⟩ := s
  wp_walk
  exact wpAny_askSetting (wpAny_pure (wpAny_bind (wpAny_alloc (wpAny_pure (wpAny_pure q)))))
/-- its __init__ with a list of ints -/
theorem filled {S l : Addr} {led : Bool} {items : Array Value} {ns : List Int} {R : Result → Shared → Prop} (hh : A.handled = none) (hS : s.heap.get? S = some (setObj #[] 0 (.fresh 0 0 led))) (hl : s.heap.IsList l items) (hi : IntsAre items.toList ns) (h8 : ∀ z ∈ ns, 0 ≤ z ∧ z < 8) (hb : items.size ≤ 4)
    (q : ∀ h' tk, SetI prog w h' S led ns → (∀ b o, b < s.heap.objs.size → b ≠ S → s.heap.get? b = some o → h'.get? b = some o) → R (.ok (.ret .none)) { s with heap := h', toks := tk }) :
    codeAny (model prog w) A (.call (.builtin "set.__init__") ⟨[.ref S, .ref l], []⟩) R s := by
  refine codeAny_call_builtin F.called_set.init.plain F.entry_set_init (check_set_init_1 ⟨_, hS, rfl⟩ ?_)
  obtain ⟨⟨ocls, odict, odata, oslots⟩, hol, hcl, nl, hdl⟩ := id hl
  simp only at hcl hdl
  subst hcl hdl
  have no1 := F.sub_list_set
  have no2 := F.sub_list_frozenset
  have no3 : (Value.type "list" == Value.type "dict") = false := by decide
  have hlS : l ≠ S := fun e => by rw [e, hS] at hol; exact absurd (Value.type.inj (congrArg Obj.cls (Option.some.inj hol))) (by decide)
  unfold Builtin.«set.__init__» noKeywords Builtin.Frozenset.updateFrom
  wp_walk using wpAny_pyIter_list hl
  have lS : S < s.heap.objs.size := Heap.lt_size hS
  have ll : l < s.heap.objs.size := Heap.lt_size hol
  have hne : l ≠ s.heap.objs.size := Nat.ne_of_lt ll
  have hval : ∀ (i : Nat) (v : Value), items[i]? = some v → ∃ t, v = .int (ns.getD i 0) t := fun i v hv => IntsAre.int_at hi i v (by rw [Array.getElem?_toList]; exact hv)
  have hlen : items.size = ns.length := by rw [← IntsAre.length hi, Array.length_toList]
  refine upd_loop ((Walks.list (by simp [hh]) s.heap.objs.size l hne items).toS) (S := S) (led := led) (by simp only [List.mem_cons, List.not_mem_nil, or_false, not_or]; exact ⟨Nat.ne_of_lt lS, hlS.symm⟩) (fun i => ns.getD i 0) hval (fun i hi' => h8 _ (by rw [List.getD_eq_getElem?_getD, List.getElem?_eq_getElem (by omega)]; exact List.getElem_mem _)) hb items.size 0 _ (by omega)
    ⟨⟨_, Heap.get?_push_size _ rfl, rfl, rfl⟩, hl.push _⟩ (fresh_setI (Heap.get?_push_of_some _ hS)) fun s' mv hS' => ?_
  obtain ⟨h', g', d', tk', os'⟩ := s'
  cases (show g' = s.gens from mv.gens)
  cases (show d' = s.drawn from mv.drawn)
  cases (show os' = s.os from mv.os)
  have e : (List.range items.size).map (fun i => ns.getD i 0) = ns := by
    rw [hlen]
    apply List.ext_getElem (by simp)
    intro i h1 h2
    simp [List.getD_eq_getElem?_getD, h2]
  rw [e] at hS'
  refine wpAny_pure (wpAny_pure (q h' tk' (hS'.swap fun z => List.mem_reverse) fun b o hb hbS eo => ?_))
  exact mv.heap b o (by simp only [List.mem_cons, List.not_mem_nil, or_false, not_or]; exact ⟨hbS, Nat.ne_of_lt hb⟩) (Heap.get?_push_of_some _ eo)
end
end SET
set_option Elab.async false
set_option linter.all false
set_option maxRecDepth 100000
/-! ### a set is walked -/
namespace SET
open PySem PySem.Spec PyProof.Rows
theorem ent_iter : entryFor table "set.__iter__" = some Builtin.«frozenset.__iter__» := entryFor_alias (id' := "frozenset.__iter__") (by kernel_rfl) rfl (by decide +kernel) (by kernel_rfl)
theorem ent_next : entryFor table "set_iterator.__next__" = some Builtin.«set_iterator.__next__» := entryFor_of_tree (by kernel_rfl)
theorem look_next : typeLookup (.type "set_iterator") "__next__" = pure (some (.builtin "set_iterator.__next__")) := by rw [typeLookup_type, builtinLookup_eq_fast]; kernel_rfl
theorem slot_next : Slot "set_iterator" "__next__" "set_iterator.__next__" :=
  Slot.of (owner := "set_iterator") (n := "__next__") look_next (by decide +kernel) (by decide +kernel) (by decide +kernel) (.inl (by decide +kernel)) (by rw [isSubtype_type]; kernel_rfl)
theorem own_it : Manifest.owners.lookup (String.ofList ['r', 'o', 't', 'a', 'r', 'e', 't', 'i', '_', 't', 'e', 's'].reverse) = some Manifest.sig_set_iterator := by kernel_rfl
theorem args_next (a : Value) : argsOk "set_iterator.__next__" ⟨[a], []⟩ := by
  unfold argsOk
  rw [signature?_of (id := "set_iterator.__next__") (n := ['_', '_', 't', 'x', 'e', 'n', '_', '_']) (o := ['r', 'o', 't', 'a', 'r', 'e', 't', 'i', '_', 't', 'e', 's']) (by kernel_rfl) own_it]
  kernel_rfl
/-! by text: a permutation -/
theorem erase_perm {α : Type} : ∀ (l : List α) (i : Nat) (h : i < l.length), (l[i] :: l.eraseIdx i).Perm l
  | a :: l, 0, _ => .rfl
  | a :: l, i + 1, h => by
    have h' : i < l.length := by simpa using h
    have := erase_perm l i h'
    exact (List.Perm.swap a l[i] (l.eraseIdx i)).trans (this.cons a)
theorem pick_go {α : Type} (next : Nat → Nat) : ∀ (fuel k : Nat) (left : List α) (out : Array α), left.length ≤ fuel → (pickOrder.go next fuel k left out).toList.Perm (out.toList ++ left)
  | 0, k, left, out, h => by
    have : left = [] := List.length_eq_zero_iff.mp (by omega)
    subst this
    rw [List.append_nil]
    exact .rfl
  | fuel + 1, k, left, out, h => by
    unfold pickOrder.go
    cases e : left[next k % left.length]? with
    | none =>
      have : left = [] := by
        cases left with
        | nil => rfl
        | cons a l =>
          exfalso
          have hlt : next k % (a :: l).length < (a :: l).length := Nat.mod_lt _ (by simp)
          rw [List.getElem?_eq_getElem hlt] at e; cases e
      subst this
      rw [List.append_nil]
    | some x =>
      dsimp only
      obtain ⟨hlt, hx⟩ := List.getElem?_eq_some_iff.mp e
      have hl : (left.eraseIdx (next k % left.length)).length ≤ fuel := by rw [List.length_eraseIdx_of_lt hlt]; omega
      refine (pick_go next fuel (k + 1) _ _ hl).trans ?_
      rw [Array.toList_push, List.append_assoc]
      refine List.Perm.append_left _ ?_
      have := erase_perm left _ hlt
      rw [hx] at this
      exact this
theorem pick_perm {α : Type} (next : Nat → Nat) (xs : Array α) : (pickOrder next xs).toList.Perm xs.toList := by
  have := pick_go next xs.size 0 xs.toList #[] (by simp)
  simpa [pickOrder] using this
/-- the order in which a set is walked -/
def ord (w : World) (a : Addr) (es : Array (Int × Value)) (ep : Nat) : Array (Int × Value) := if w.params.followText "set-order" = true then pickOrder (w.params.setOrder a ep) es else es
theorem ord_perm (w : World) (a : Addr) (es : Array (Int × Value)) (ep : Nat) : (ord w a es ep).toList.Perm es.toList := by
  unfold ord
  split
  · exact pick_perm _ _
  · exact .rfl
theorem ord_size (w : World) (a : Addr) (es : Array (Int × Value)) (ep : Nat) : (ord w a es ep).size = es.size := by
  have := (ord_perm w a es ep).length_eq
  simpa using this
/-- where the walk stands before the k-th -/
def stand (w : World) (t : SetTable) : Nat → Nat
  | 0 => 0
  | k + 1 => if w.params.followText "set-order" = true then 0 else t.place.getD k 0 + 1
section
variable {prog : Program} {w : World} {A : Around} {E : Value → Shared → Prop} {s : Shared}
theorem nxt {a : Addr} {es : Array (Int × Value)} {ep : Nat} {t : SetTable} {k : Nat} {Q : Option (Value × Nat) → Shared → Prop} (ho : s.heap.get? a = some (setObj es ep t)) (b : TB es t (ledOf w)) (hk : k ≤ es.size)
    (q : Q ((ord w a es ep)[k]?.map fun e => (e.2, stand w t (k + 1))) s) : wpAny (model prog w) A (setNext a (stand w t k) k ep) Q E s := by
  have pz : t.place.size = es.size := by
    have := b.fits
    simp only [SetTable.fits, Bool.and_eq_true, beq_iff_eq] at this
    exact this.1
  unfold setNext setsByText
  refine wpAny_bind (wpAny_setState_of ho rfl b.fits ?_)
  dsimp only
  refine wpAny_bind (wpAny_bind (wpAny_askSetting (wpAny_pure ?_)))
  dsimp only
  cases c : w.params.followText "set-order" with
  | true =>
    have e0 : stand w t k = 0 := by
      cases k with
      | zero => rfl
      | succ k => exact if_pos c
    have e1 : stand w t (k + 1) = 0 := if_pos c
    have eo : ord w a es ep = pickOrder (w.params.setOrder a ep) es := by unfold ord; rw [if_pos c]
    rw [eo, e1] at q
    rw [e0]
    split
    · rw [if_neg (by simp)]
      unfold setWalk setsByText
      refine wpAny_bind (wpAny_bind (wpAny_setState_of ho rfl b.fits ?_))
      dsimp only
      refine wpAny_bind (wpAny_bind (wpAny_askSetting (wpAny_pure ?_)))
      dsimp only
      split
      · exact wpAny_bind (wpAny_askSetting (wpAny_pure (wpAny_pure q)))
      · rename_i h; exact absurd c h
    · rename_i h; exact absurd c h
  | false =>
    split
    · rename_i h; rw [show (model prog w).w.params.followText "set-order" = false from c] at h; cases h
    split
    · rename_i h
      have h : (!t.plain && decide (es.size > 1)) = true := h
      rw [b.plain] at h; cases h
    have led : t.led = true := by rw [b.ok.led]; unfold ledOf; rw [c]; rfl
    refine wpAny_bind (?_ : wpAny _ _ (if (!t.led && !es.isEmpty) = true then _ else pure ()) _ _ _)
    rw [led]
    refine wpAny_pure ?_
    have eo : ord w a es ep = es := by unfold ord; rw [if_neg (by rw [c]; exact Bool.false_ne_true)]
    have e1 : stand w t (k + 1) = t.place.getD k 0 + 1 := if_neg (by rw [c]; exact Bool.false_ne_true)
    have eb : SetTable.below t.place (stand w t k) = k := by
      cases k with
      | zero => exact below_zero b.ok.up
      | succ k =>
        have : stand w t (k + 1) = t.place.getD k 0 + 1 := if_neg (by rw [c]; exact Bool.false_ne_true)
        rw [this]
        exact below_next b.ok.up (by omega)
    rw [eo, e1] at q
    rw [eb]
    refine wpAny_pure ?_
    by_cases c2 : k < es.size
    · have g1 : es[k]? = some es[k] := Array.getElem?_eq_getElem c2
      have g2 : t.place[k]? = some (t.place.getD k 0) := by rw [Array.getD_eq_getD_getElem?, Array.getElem?_eq_getElem (by omega)]; rfl
      rw [g1] at q
      rw [g1, g2]
      exact q
    · have g1 : es[k]? = none := Array.getElem?_eq_none (by omega)
      rw [g1] at q
      rw [g1]
      exact q
end
end SET
set_option Elab.async false
set_option linter.all false
set_option maxRecDepth 100000
/-! ### the walk over a set -/
namespace SET
open PySem PySem.Spec PyProof.Rows
abbrev itObj (first : Nat) (k : Nat) (src : Value) (n ep : Nat) : Obj := { cls := .type "set_iterator", dict := none, data := .fields #[.int first 0, .int k 0, src, .int n 0, .int ep 0], slots := #[] }
section
variable {prog : Program} {w : World} {A : Around} {E : Value → Shared → Prop} {s : Shared}
theorem iter_set {a : Addr} {es : Array (Int × Value)} {ep : Nat} {t : SetTable} {led : Bool} {Q : Value → Shared → Prop} (ho : s.heap.get? a = some (setObj es ep t)) (b : TB es t led)
    (q : Q (.ref s.heap.objs.size) { s with heap := s.heap.push (itObj 0 0 (.ref a) es.size ep) }) : wpAny (model prog w) A (pyIter (.ref a)) Q E s := by
  have hT : s.TypeIs (.ref a) "set" := ⟨_, ho, rfl⟩
  refine wpAny_pyIter_slot hT F.slot_set_iter (wpAny_call_entry F.slot_set_iter hT ent_iter ?_ (F.args_set_iter_1 _))
  unfold Builtin.«frozenset.__iter__» Builtin.Frozenset.slot0 Builtin.Frozenset.addrOf Builtin.Frozenset.sizeOf slotArgs setDrawn setsByText setEntries setEpoch
  wp_walk using wpAny_setState_of ho rfl b.fits
  refine wpAny_askSetting (wpAny_pure (wpAny_pure ?_))
  dsimp only
  split
  · rename_i h
    have h : (!(model prog w).w.params.followText "set-order" && (!t.plain && decide (es.size > 1))) = true := h
    rw [b.plain, Bool.and_comm] at h
    cases h
  · refine wpAny_bind (wpAny_pure (wpAny_bind (wpAny_bind (wpAny_setState_of ho rfl b.fits (wpAny_pure ?_)))))
    unfold newFields
    wp_walk
    exact ⟨_, rfl, _, _, ⟨_, Heap.get?_push_size _ rfl, rfl⟩, look_next, q⟩
/-- one of the set -/
theorem next_item {it a : Addr} {es : Array (Int × Value)} {ep : Nat} {t : SetTable} {k : Nat} {e : Int × Value} {Q : Option Value → Shared → Prop} (hi : s.heap.get? it = some (itObj (stand w t k) k (.ref a) es.size ep)) (ho : s.heap.get? a = some (setObj es ep t)) (b : TB es t (ledOf w)) (he : (ord w a es ep)[k]? = some e)
    (q : ∀ h', h'.get? it = some (itObj (stand w t (k + 1)) (k + 1) (.ref a) es.size ep) → (∀ c o, c ≠ it → s.heap.get? c = some o → h'.get? c = some o) → Q (some e.2) { s with heap := h' }) : wpAny (model prog w) A (pyNext (.ref it)) Q E s := by
  have hT : s.TypeIs (.ref it) "set_iterator" := ⟨_, hi, rfl⟩
  have hk : k < es.size := by
    obtain ⟨h, _⟩ := Array.getElem?_eq_some_iff.mp he
    rw [ord_size] at h; exact h
  unfold pyNext
  refine wpAny_bind (wpAny_attempt (wpAny_callSpecial?_slot (name := Str.ofString "__next__") hT slot_next (wpAny_call_entry slot_next hT ent_next ?_ (args_next _))))
  unfold Builtin.«set_iterator.__next__» slotArgs setEntries
  generalize eN : setNext = N
  wp_walk using wpAny_setState_of ho rfl b.fits
  subst eN
  show wpAny _ _ (setNext a (stand w t k) k ep) _ _ _
  refine nxt ho b (Nat.le_of_lt hk) ?_
  rw [he]
  dsimp only [Option.map]
  wp_walk
  have g1 : (s.heap.update it (Obj.mapFields fun x => x.setIfInBounds 0 (rawInt ↑(stand w t (k + 1))))).get? it = some (itObj (stand w t (k + 1)) k (.ref a) es.size ep) := Heap.get?_update_self _ hi rfl
  refine ⟨_, rfl, wpAny_pure (q _ (Heap.get?_update_self _ g1 rfl) fun c o hc eo => ?_)⟩
  rw [Heap.get?_update_other _ _ (Ne.symm hc), Heap.get?_update_other _ _ (Ne.symm hc)]
  exact eo
/-- .. and its end -/
theorem next_end {it a : Addr} {es : Array (Int × Value)} {ep : Nat} {t : SetTable} {Q : Option Value → Shared → Prop} (hh : A.handled = none) (hi : s.heap.get? it = some (itObj (stand w t es.size) es.size (.ref a) es.size ep)) (ho : s.heap.get? a = some (setObj es ep t)) (b : TB es t (ledOf w))
    (q : ∀ h', (∀ c o, c ≠ it → s.heap.get? c = some o → h'.get? c = some o) → Q none { s with heap := h' }) : wpAny (model prog w) A (pyNext (.ref it)) Q E s := by
  have hT : s.TypeIs (.ref it) "set_iterator" := ⟨_, hi, rfl⟩
  have he : (ord w a es ep)[es.size]? = none := Array.getElem?_eq_none (by rw [ord_size]; exact Nat.le_refl _)
  unfold pyNext
  refine wpAny_bind (wpAny_attempt (wpAny_callSpecial?_slot (name := Str.ofString "__next__") hT slot_next (wpAny_call_entry slot_next hT ent_next ?_ (args_next _))))
  unfold Builtin.«set_iterator.__next__» slotArgs setEntries
  generalize eN : setNext = N
  wp_walk using wpAny_setState_of ho rfl b.fits
  subst eN
  show wpAny _ _ (setNext a (stand w t es.size) es.size ep) _ _ _
  refine nxt ho b (Nat.le_refl _) ?_
  rw [he]
  dsimp only [Option.map]
  wp_walk
  refine wpAny_raiseNew_none (by simp [hh]) (wpAny_bind (wpAny_isInstance (T := "StopIteration") (b := true) ⟨_, Heap.get?_push_size _ rfl, rfl⟩ isSubtype_stop (wpAny_pure (q _ fun c o hc eo => ?_))))
  exact Heap.get?_push_of_some _ (Heap.get?_push_of_some _ ((Heap.get?_update_other _ _ (Ne.symm hc)).trans eo))
theorem look_iter : typeLookup (.type "set_iterator") "__iter__" = pure (some (.builtin "set_iterator.__iter__")) := by rw [typeLookup_type, builtinLookup_eq_fast]; kernel_rfl
/-- the walk: each of the set, once -/
theorem walks (hh : A.handled = none) {it a : Addr} (hne : a ≠ it) {es : Array (Int × Value)} {ep : Nat} {t : SetTable} (b : TB es t (ledOf w)) (self : ∀ i (s : Shared) (Q : Value → Shared → Prop) (E : Value → Shared → Prop), s.heap.get? it = some (itObj (stand w t i) i (.ref a) es.size ep) → Q (.ref it) s → wpAny (model prog w) A (pyIter (.ref it)) Q E s) :
    Walks prog w A it [it, a] [it] es.size (fun i v => ∃ e, (ord w a es ep)[i]? = some e ∧ v = e.2) (fun i h => h.get? it = some (itObj (stand w t i) i (.ref a) es.size ep) ∧ h.get? a = some (setObj es ep t)) where
  sub := fun c hc => by simp at hc; simp [hc]
  frame := fun _ _ _ st hk => ⟨hk it (by simp) _ st.1, hk a (by simp) _ st.2⟩
  item := fun i s Q E hi st hQ => by
    have hlt : i < (ord w a es ep).size := by rw [ord_size]; exact hi
    refine next_item st.1 st.2 b (Array.getElem?_eq_getElem hlt) fun h' g keep => hQ _ h' s.toks ⟨_, Array.getElem?_eq_getElem hlt, rfl⟩ ⟨g, keep a _ hne st.2⟩ fun c o hc eo => keep c o (by simpa using hc) eo
  done := fun s Q E st hQ => next_end hh st.1 st.2 b fun h' keep => hQ h' s.toks fun c o hc eo => keep c o (by simpa using hc) eo
  self := fun i s Q E st hQ => self i s Q E st.1 hQ
end
end SET
set_option Elab.async false
set_option linter.all false
set_option maxRecDepth 100000
/-! ### sorted(a set of ints) -/
namespace SET
open PySem PySem.Spec PyProof.Rows PySem.W
theorem slot_itself : Slot "set_iterator" "__iter__" "set_iterator.__iter__" :=
  Slot.of (owner := "set_iterator") (n := "__iter__") look_iter (by decide +kernel) (by decide +kernel) (by decide +kernel) (.inl (by decide +kernel)) (by rw [isSubtype_type]; kernel_rfl)
theorem ent_itself : entryFor table "set_iterator.__iter__" = some Builtin.«dict_keyiterator.__iter__» := entryFor_alias (id' := "dict_keyiterator.__iter__") (by kernel_rfl) rfl (by decide +kernel) (by kernel_rfl)
theorem args_itself (a : Value) : argsOk "set_iterator.__iter__" ⟨[a], []⟩ := by
  unfold argsOk
  rw [signature?_of (id := "set_iterator.__iter__") (n := ['_', '_', 'r', 'e', 't', 'i', '_', '_']) (o := ['r', 'o', 't', 'a', 'r', 'e', 't', 'i', '_', 't', 'e', 's']) (by kernel_rfl) own_it]
  kernel_rfl
section
variable {prog : Program} {w : World} {A : Around} {E : Value → Shared → Prop} {s : Shared}
theorem hint_set {a : Addr} {Q : Bool → Shared → Prop} (hT : s.TypeIs (.ref a) "set") (q : Q false s) : wpAny (model prog w) A (Builtin.List.listLengthHint (.ref a)) Q E s := by
  unfold Builtin.List.listLengthHint
  refine wpAny_bind (wpAny_specialOf hT PySem.F.slot_set_len.lookup ?_)
  obtain ⟨id0, hid⟩ : ∃ id0 : String, id0 = "set.__len__" := ⟨_, rfl⟩
  rw [← hid]
  wp_delta
  rw [show splitId id0 = some ("set", "__len__") by rw [hid]; decide +kernel]
  refine wpAny_bind (wpAny_isInstance (T := "set") (b := true) hT (by rw [isSubtype_type]; kernel_rfl) (wpAny_ite_split (fun h => absurd h (by decide)) fun _ => wpAny_ite_split (fun _ => wpAny_bind (wpAny_typeOf hT (wpAny_pure q))) fun h => absurd ?_ h))
  subst hid
  decide +kernel
theorem self_it {a it : Addr} {first k n ep : Nat} {Q : Value → Shared → Prop} (hi : s.heap.get? it = some (itObj first k (.ref a) n ep)) (q : Q (.ref it) s) : wpAny (model prog w) A (pyIter (.ref it)) Q E s := by
  have hT : s.TypeIs (.ref it) "set_iterator" := ⟨_, hi, rfl⟩
  refine wpAny_pyIter_slot hT slot_itself (wpAny_call_entry slot_itself hT ent_itself (?_ : wpAny _ _ (ret (.ref it)) _ _ s) (args_itself _))
  exact wpAny_pure ⟨_, rfl, _, _, hT, look_next, q⟩
theorem src {a : Addr} {es : Array (Int × Value)} {ep : Nat} {t : SetTable} (b : TB es t (ledOf w)) :
    KdlSrc prog w "set" a a es.size (fun i v => ∃ e, (ord w a es ep)[i]? = some e ∧ v = e.2) (fun h => h.get? a = some (setObj es ep t)) where
  type := fun _ ho => ⟨_, ho, rfl⟩
  there := fun _ ho => ⟨Heap.lt_size ho, Heap.lt_size ho⟩
  keep := fun _ _ ho hk => hk a (.inl rfl) _ ho
  notList := by decide
  notTuple := by decide
  hint := fun _ _ _ _ ho hq => hint_set ⟨_, ho, rfl⟩ hq
  iter := fun _ _ hh ho => ⟨_, _, (fun _ _ hq => iter_set ho b hq), walks hh (Nat.ne_of_lt (Heap.lt_size ho)) b fun i s Q E hi q => self_it hi q, ⟨Heap.get?_push_size _ rfl, Heap.get?_push_of_some _ ho⟩⟩
end
end SET
set_option Elab.async false
set_option linter.all false
set_option maxRecDepth 100000
/-! ### sorted(a set of ints) -/
namespace SET
open PySem PySem.Spec PyProof.Rows PySem.W
theorem strict {l : List Int} (h1 : l.Pairwise (· ≤ ·)) (h2 : l.Nodup) : l.Pairwise (· < ·) := by
  have := h1.and h2
  exact this.imp fun {a b} h => by have := h.1; have := h.2; omega
section
variable {prog : Program} {w : World} {A : Around} {E : Value → Shared → Prop} {s : Shared}
end
end SET
set_option Elab.async false
set_option linter.all false
set_option maxRecDepth 100000
/-! ### sorted(set(a few small ints)) -/
namespace L2
open PySem PySem.Spec PyProof.Rows NM ND PySem.W
theorem boot_set_ : bootBuiltins "set" = some (.type "set") := by decide +kernel
theorem boot_sorted_ : bootBuiltins "sorted" = some (.builtin "sorted") := by decide +kernel
section
variable {X : Cx}
def tSortSet (K : PySem.W.Frag) (ta : TA) : TE := fun σ H Q => ta σ H fun vs H1 => ∃ (a : Addr) (ns : List Int), vs = [.ref a] ∧ SqL K H1 a (ns.map V.int) ∧ ns.length ≤ 4 ∧ (∀ z ∈ ns, 0 ≤ z ∧ z < 8) ∧
  ∀ (l : Addr) (ns' : List Int), H1 l = none → ns'.Pairwise (· < ·) → (∀ z, z ∈ ns' ↔ z ∈ ns) → Q (.ref l) (upd H1 l (.lst (ns'.map V.int)))
end
end L2
set_option Elab.async false
set_option linter.all false
set_option maxRecDepth 100000
/-! ### the way of a search through a set's table -/
namespace SET
open PySem
/-- the start of the n-th run behind this one -/
def stg (t : SetTable) : Nat → SetTable.Probe → SetTable.Probe
  | 0, p => p
  | n + 1, p => stg t n { p with j := (SetTable.leap t.mask p.i p.perturb).1, more := SetTable.runEnd t.mask (SetTable.leap t.mask p.i p.perturb).1 - (SetTable.leap t.mask p.i p.perturb).1, i := (SetTable.leap t.mask p.i p.perturb).1, perturb := (SetTable.leap t.mask p.i p.perturb).2 }
theorem runEnd_le (mask i : Nat) : SetTable.runEnd mask i - i ≤ 9 := by
  unfold SetTable.runEnd
  split <;> omega
theorem go_succ {t : SetTable} {ha : Nat → Int} {h : Int} (fuel : Nat) (p : SetTable.Probe) : SetTable.probe.go t ha h (fuel + 1) p = match t.slot p.j with
      | .empty => some (.empty p.j p.dummy)
      | .dummy => SetTable.probe.go t ha h fuel (t.advance { p with dummy := some p.j })
      | .live i => if ha i == h then some (.candidate p.j i (t.advance p)) else SetTable.probe.go t ha h fuel (t.advance p) := rfl
/-- through a run -/
theorem go_run {t : SetTable} {led : Bool} (o : Ok t led) {ha : Nat → Int} {h : Int} : ∀ (m fuel : Nat) (p : SetTable.Probe), p.more = m → (∃ r, SetTable.probe.go t ha h (m + 1 + fuel) p = some r) ∨ SetTable.probe.go t ha h (m + 1 + fuel) p = SetTable.probe.go t ha h fuel (stg t 1 p) := by
  intro m
  induction m with
  | zero =>
    intro fuel p hm
    rw [show 0 + 1 + fuel = fuel + 1 by omega, go_succ]
    cases e : t.slot p.j with
    | empty => exact .inl ⟨_, rfl⟩
    | dummy => exact absurd e (slot_dummy o)
    | live i =>
      dsimp only
      by_cases c : (ha i == h) = true
      · rw [if_pos c]; exact .inl ⟨_, rfl⟩
      · rw [if_neg c]
        right
        unfold SetTable.advance
        rw [if_neg (by omega)]
        rfl
  | succ m ih =>
    intro fuel p hm
    rw [show m + 1 + 1 + fuel = (m + 1 + fuel) + 1 by omega, go_succ]
    cases e : t.slot p.j with
    | empty => exact .inl ⟨_, rfl⟩
    | dummy => exact absurd e (slot_dummy o)
    | live i =>
      dsimp only
      by_cases c : (ha i == h) = true
      · rw [if_pos c]; exact .inl ⟨_, rfl⟩
      · rw [if_neg c]
        have ea : t.advance p = { p with j := p.j + 1, more := p.more - 1 } := by
          unfold SetTable.advance
          rw [if_pos (by omega)]
        rw [ea]
        rcases ih fuel { p with j := p.j + 1, more := p.more - 1 } (by show p.more - 1 = m; omega) with z | z
        · exact .inl z
        · exact .inr z
theorem stg_more (t : SetTable) (p : SetTable.Probe) : (stg t 1 p).more ≤ 9 := runEnd_le _ _
theorem stg_add (t : SetTable) : ∀ (n : Nat) (p : SetTable.Probe), stg t (n + 1) p = stg t 1 (stg t n p)
  | 0, p => rfl
  | n + 1, p => by
    show stg t (n + 1) (stg t 1 p) = _
    rw [stg_add t n (stg t 1 p)]
    rfl
/-- through n runs -/
theorem go_runs {t : SetTable} {led : Bool} (o : Ok t led) {ha : Nat → Int} {h : Int} : ∀ (n r : Nat) (p : SetTable.Probe), p.more ≤ 9 → (∃ x, SetTable.probe.go t ha h (10 * n + r) p = some x) ∨ ∃ r', r ≤ r' ∧ SetTable.probe.go t ha h (10 * n + r) p = SetTable.probe.go t ha h r' (stg t n p) := by
  intro n
  induction n with
  | zero => intro r p _; exact .inr ⟨r, Nat.le_refl _, by rw [show 10 * 0 + r = r by omega]; rfl⟩
  | succ n ih =>
    intro r p hp
    have e : 10 * (n + 1) + r = p.more + 1 + (10 * n + (r + (9 - p.more))) := by omega
    rw [e]
    rcases go_run o p.more (10 * n + (r + (9 - p.more))) p rfl with z | z
    · exact .inl z
    · rw [z]
      rcases ih (r + (9 - p.more)) (stg t 1 p) (stg_more t p) with y | ⟨r', y1, y2⟩
      · exact .inl y
      · exact .inr ⟨r', by omega, y2⟩
/-! the leaps meet every slot -/
def nx (mask i : Nat) : Nat := (i * 5 + 1) % (mask + 1)
def itn (mask : Nat) : Nat → Nat → Nat
  | 0, i => i
  | n + 1, i => itn mask n (nx mask i)
theorem cover7 : ∀ i, i < 8 → ∀ j, j < 8 → ∃ n, n < 8 ∧ itn 7 n i = j := by decide +kernel
theorem cover31 : ∀ i, i < 32 → ∀ j, j < 32 → ∃ n, n < 32 ∧ itn 31 n i = j := by decide +kernel
theorem stg_pert (t : SetTable) : ∀ (n : Nat) (p : SetTable.Probe), (stg t n p).perturb = p.perturb / 32 ^ n
  | 0, p => by simp [stg]
  | n + 1, p => by
    show (stg t n (stg t 1 p)).perturb = _
    rw [stg_pert t n (stg t 1 p)]
    show p.perturb / 32 / 32 ^ n = _
    rw [Nat.div_div_eq_div_mul, Nat.pow_succ, Nat.mul_comm]
theorem stg_i (t : SetTable) : ∀ (n : Nat) (p : SetTable.Probe), p.perturb = 0 → (stg t n p).i = itn t.mask n p.i
  | 0, p, _ => rfl
  | n + 1, p, h => by
    show (stg t n (stg t 1 p)).i = _
    rw [stg_i t n (stg t 1 p) (by show p.perturb / 32 = 0; rw [h])]
    show itn t.mask n ((p.i * 5 + 1 + p.perturb / 32) % (t.mask + 1)) = _
    rw [h]
    rfl
theorem stg_same (t : SetTable) : ∀ (n : Nat) (p : SetTable.Probe), (stg t (n + 1) p).j = (stg t (n + 1) p).i := fun n p => by rw [stg_add]; rfl
theorem stg_low (t : SetTable) (n : Nat) (p : SetTable.Probe) : (stg t (n + 1) p).i < t.mask + 1 := by
  rw [stg_add]
  exact Nat.mod_lt _ (by omega)
theorem cover {t : SetTable} (hm : t.mask = 7 ∨ t.mask = 31) {p : SetTable.Probe} (hp : p.perturb < 2 ^ 64) {j : Nat} (hj : j ≤ t.mask) : ∃ n, n ≤ t.mask ∧ (stg t (13 + n) p).j = j := by
  have z : (stg t 13 p).perturb = 0 := by
    rw [stg_pert]
    exact Nat.div_eq_of_lt (Nat.lt_of_lt_of_le hp (by decide))
  have sp : ∀ n, stg t (13 + n) p = stg t n (stg t 13 p) := fun n => by
    induction n with
    | zero => rfl
    | succ n ih => rw [show 13 + (n + 1) = (13 + n) + 1 by omega, stg_add, ih, ← stg_add]
  have lo := stg_low t 12 p
  have c : ∃ n, n ≤ t.mask ∧ itn t.mask n (stg t 13 p).i = j := by
    rcases hm with e | e
    · rw [e] at lo hj ⊢
      obtain ⟨n, h1, h2⟩ := cover7 _ lo j (by omega)
      exact ⟨n, by omega, h2⟩
    · rw [e] at lo hj ⊢
      obtain ⟨n, h1, h2⟩ := cover31 _ lo j (by omega)
      exact ⟨n, by omega, h2⟩
  obtain ⟨n, h1, h2⟩ := c
  refine ⟨n, h1, ?_⟩
  rw [show 13 + n = (12 + n) + 1 by omega, stg_same, show (12 + n) + 1 = 13 + n by omega, sp, stg_i t n _ z, h2]
theorem some_empty {t : SetTable} {led : Bool} (o : Ok t led) (hs : t.place.size ≤ t.mask) : ∃ j, j ≤ t.mask ∧ t.slot j = .empty := by
  apply Classical.byContradiction
  intro no
  have : (List.range (t.mask + 1)).length ≤ t.place.toList.length := nodup_le List.nodup_range fun j hj => by
    have hj := List.mem_range.mp hj
    apply Classical.byContradiction
    intro hn
    apply no
    refine ⟨j, by omega, slot_free o fun i hi e => hn ?_⟩
    rw [← e, Array.getD_eq_getD_getElem?, Array.getElem?_eq_getElem hi]
    exact Array.mem_toList_iff.mpr (Array.getElem_mem hi)
  rw [List.length_range, Array.length_toList] at this
  omega
theorem go_some {t : SetTable} {led : Bool} (o : Ok t led) (hm : t.mask = 7 ∨ t.mask = 31) (hs : t.place.size ≤ t.mask) (ha : Nat → Int) (h : Int) {p : SetTable.Probe} (hp : p.perturb < 2 ^ 64) (h9 : p.more ≤ 9) : ∃ x, SetTable.probe.go t ha h (10 * SetTable.turns t.mask) p = some x := by
  obtain ⟨j, hj, he⟩ := some_empty o hs
  obtain ⟨n, hn, hc⟩ := cover hm hp hj
  have e : 10 * SetTable.turns t.mask = 10 * (13 + n) + 10 * (t.mask + 2 - n) := by unfold SetTable.turns; omega
  rw [e]
  rcases go_runs o (ha := ha) (h := h) (13 + n) (10 * (t.mask + 2 - n)) p h9 with z | ⟨r, h1, z⟩
  · exact z
  · rw [z]
    obtain ⟨r, rfl⟩ : ∃ r', r = r' + 1 := ⟨r - 1, by omega⟩
    rw [go_succ, hc, he]
    exact ⟨_, rfl⟩
/-! ### the way, place by place -/
def wy (t : SetTable) : Nat → SetTable.Probe → SetTable.Probe
  | 0, p => p
  | n + 1, p => wy t n (t.advance p)
theorem adv_dummy {t : SetTable} {p : SetTable.Probe} (h : p.dummy = none) : (t.advance p).dummy = none := by
  unfold SetTable.advance
  split <;> exact h
theorem adv_more {t : SetTable} {p : SetTable.Probe} (h : p.more ≤ 9) : (t.advance p).more ≤ 9 := by
  unfold SetTable.advance
  split
  · show p.more - 1 ≤ 9
    omega
  · exact runEnd_le _ _
theorem adv_pert {t : SetTable} {p : SetTable.Probe} (h : p.perturb < 2 ^ 64) : (t.advance p).perturb < 2 ^ 64 := by
  unfold SetTable.advance
  split
  · exact h
  · exact Nat.lt_of_le_of_lt (Nat.div_le_self _ _) h
/-- what a search meets first -/
theorem go_char {t : SetTable} {led : Bool} (o : Ok t led) {ha : Nat → Int} {h : Int} : ∀ (fuel : Nat) (p : SetTable.Probe), p.dummy = none → ∀ x, SetTable.probe.go t ha h fuel p = some x →
    ∃ k, k < fuel ∧ (∀ m, m < k → ∃ i, t.slot (wy t m p).j = .live i ∧ ha i ≠ h) ∧ ((x = .empty (wy t k p).j none ∧ t.slot (wy t k p).j = .empty) ∨ ∃ i, t.slot (wy t k p).j = .live i ∧ ha i = h ∧ x = .candidate (wy t k p).j i (wy t (k + 1) p)) := by
  intro fuel
  induction fuel with
  | zero => intro p _ x e; cases e
  | succ fuel ih =>
    intro p hp x e
    rw [go_succ] at e
    cases hs : t.slot p.j with
    | dummy => exact absurd hs (slot_dummy o)
    | empty =>
      rw [hs] at e
      exact ⟨0, Nat.succ_pos _, fun m hm => absurd hm (Nat.not_lt_zero m), .inl ⟨by rw [← Option.some.inj e, hp]; rfl, hs⟩⟩
    | live i =>
      rw [hs] at e
      dsimp only at e
      by_cases c : (ha i == h) = true
      · rw [if_pos c] at e
        exact ⟨0, Nat.succ_pos _, fun m hm => absurd hm (Nat.not_lt_zero m), .inr ⟨i, hs, eq_of_beq c, (Option.some.inj e).symm⟩⟩
      · rw [if_neg c] at e
        obtain ⟨k, h1, h2, h3⟩ := ih _ (adv_dummy hp) x e
        refine ⟨k + 1, by omega, fun m hm => ?_, h3⟩
        cases m with
        | zero => exact ⟨i, hs, fun z => c (beq_iff_eq.mpr z)⟩
        | succ m => exact h2 m (by omega)
end SET
set_option Elab.async false
set_option linter.all false
set_option maxRecDepth 100000
/-! ### every key lies on its own way, behind taken places only -/
namespace SET
open PySem
theorem full_iff {t : SetTable} {led : Bool} (o : Ok t led) {x : Nat} : t.slot x ≠ .empty ↔ ∃ i, i < t.place.size ∧ t.place.getD i 0 = x := by
  constructor
  · intro h
    apply Classical.byContradiction
    intro no
    exact h (slot_free o fun i hi e => no ⟨i, hi, e⟩)
  · rintro ⟨i, hi, e⟩ z
    exact slot_empty o z i hi e
theorem slot_live {t : SetTable} {led : Bool} (o : Ok t led) {x i : Nat} (h : t.slot x = .live i) : i < t.place.size ∧ t.place.getD i 0 = x := by
  unfold SetTable.slot at h
  dsimp only at h
  split at h
  · rename_i c
    cases h
    have c := eq_of_beq c
    have hi := (Array.getElem?_eq_some_iff.mp c).1
    refine ⟨hi, ?_⟩
    rw [Array.getD_eq_getD_getElem?, c]; rfl
  · split at h <;> cases h
theorem live_slot {t : SetTable} {led : Bool} (o : Ok t led) {i : Nat} (hi : i < t.place.size) : t.slot (t.place.getD i 0) = .live i := by
  cases h : t.slot (t.place.getD i 0) with
  | empty => exact absurd h ((full_iff o).2 ⟨i, hi, rfl⟩)
  | dummy => exact absurd h (slot_dummy o)
  | live j =>
    obtain ⟨hj, e⟩ := slot_live o h
    rcases Nat.lt_trichotomy i j with c | c | c
    · have := o.up i j c hj; omega
    · rw [c]
    · have := o.up j i c hi; omega
theorem adv_mask {t t' : SetTable} (h : t'.mask = t.mask) (p : SetTable.Probe) : t'.advance p = t.advance p := by
  unfold SetTable.advance
  rw [h]
theorem wy_mask {t t' : SetTable} (h : t'.mask = t.mask) : ∀ (n : Nat) (p : SetTable.Probe), wy t' n p = wy t n p
  | 0, p => rfl
  | n + 1, p => by
    show wy t' n (t'.advance p) = wy t n (t.advance p)
    rw [adv_mask h, wy_mask h n]
theorem start_mask {t t' : SetTable} (h : t'.mask = t.mask) (x : Int) : t'.probeStart x = t.probeStart x := by
  unfold SetTable.probeStart
  rw [h]
/-- the n-th place of the way of h -/
abbrev plc (t : SetTable) (h : Int) (n : Nat) : Nat := (wy t n (t.probeStart h)).j
theorem plc_mask {t t' : SetTable} (e : t'.mask = t.mask) (h : Int) (n : Nat) : plc t' h n = plc t h n := by
  unfold plc
  rw [start_mask e, wy_mask e]
def Lies (t : SetTable) (hs : Nat → Int) : Prop := ∀ r, r < t.place.size → ∃ E, plc t (hs r) E = t.place.getD r 0 ∧ ∀ m, m < E → t.slot (plc t (hs r) m) ≠ .empty
theorem Lies.none {t : SetTable} {hs : Nat → Int} (h : t.place.size = 0) : Lies t hs := fun r hr => by omega
/-- the hashes behind a put -/
def inH (hs : Nat → Int) (p : Nat) (h : Int) : Nat → Int := fun r => if r < p then hs r else if r = p then h else hs (r - 1)
theorem Lies.put {t : SetTable} {led : Bool} (o : Ok t led) {hs : Nat → Int} (L : Lies t hs) {h : Int} {E : Nat} (he : t.slot (plc t h E) = .empty) (hb : ∀ m, m < E → t.slot (plc t h m) ≠ .empty) : Lies (t.put (plc t h E)).1 (inH hs (t.put (plc t h E)).2 h) := by
  have o' := put_ok o he
  have em : (t.put (plc t h E)).1.mask = t.mask := rfl
  have hp : SetTable.below t.place (plc t h E) ≤ t.place.size := (below_is o.up _).1
  have pg := insertAt_get t.place (plc t h E) 0 hp
  have ps := insertAt_size t.place (SetTable.below t.place (plc t h E)) (plc t h E)
  have up : ∀ x, t.slot x ≠ .empty → (t.put (plc t h E)).1.slot x ≠ .empty := fun x hx => by
    obtain ⟨i, hi, e⟩ := (full_iff o).1 hx
    refine (full_iff o').2 ?_
    by_cases c : i < SetTable.below t.place (plc t h E)
    · exact ⟨i, by show i < (SetTable.insertAt _ _ _).size; omega, by show (SetTable.insertAt _ _ _).getD i 0 = x; rw [pg i, if_pos c]; exact e⟩
    · exact ⟨i + 1, by show i + 1 < (SetTable.insertAt _ _ _).size; omega, by show (SetTable.insertAt _ _ _).getD (i + 1) 0 = x; rw [pg (i + 1), if_neg (by omega), if_neg (by omega)]; exact e⟩
  intro r hr
  have hr : r < t.place.size + 1 := by rw [← ps]; exact hr
  have place_r : (t.put (plc t h E)).1.place.getD r 0 = if r < SetTable.below t.place (plc t h E) then t.place.getD r 0 else if r = SetTable.below t.place (plc t h E) then plc t h E else t.place.getD (r - 1) 0 := pg r
  have hs_r : inH hs (t.put (plc t h E)).2 h r = if r < SetTable.below t.place (plc t h E) then hs r else if r = SetTable.below t.place (plc t h E) then h else hs (r - 1) := rfl
  rw [place_r, hs_r]
  by_cases c1 : r < SetTable.below t.place (plc t h E)
  · rw [if_pos c1, if_pos c1]
    obtain ⟨F, f1, f2⟩ := L r (by omega)
    exact ⟨F, by rw [plc_mask em]; exact f1, fun m hm => by rw [plc_mask em]; exact up _ (f2 m hm)⟩
  · rw [if_neg c1, if_neg c1]
    by_cases c2 : r = SetTable.below t.place (plc t h E)
    · rw [if_pos c2, if_pos c2]
      exact ⟨E, by rw [plc_mask em], fun m hm => by rw [plc_mask em]; exact up _ (hb m hm)⟩
    · rw [if_neg c2, if_neg c2]
      obtain ⟨F, f1, f2⟩ := L (r - 1) (by omega)
      exact ⟨F, by rw [plc_mask em]; exact f1, fun m hm => by rw [plc_mask em]; exact up _ (f2 m hm)⟩
/-- a key is met before the first free place of its way -/
theorem Lies.met {t : SetTable} {led : Bool} (o : Ok t led) {hs : Nat → Int} (L : Lies t hs) {r : Nat} (hr : r < t.place.size) {E : Nat} (he : t.slot (plc t (hs r) E) = .empty) : ∃ F, F < E ∧ t.slot (plc t (hs r) F) = .live r := by
  obtain ⟨F, f1, f2⟩ := L r hr
  have hl := live_slot o hr
  rw [← f1] at hl
  rcases Nat.lt_trichotomy F E with c | c | c
  · exact ⟨F, c, hl⟩
  · rw [c, he] at hl; cases hl
  · exact absurd he (f2 E c)
end SET
set_option Elab.async false
set_option linter.all false
set_option maxRecDepth 100000
/-! ### a table laid anew -/
namespace SET
open PySem
theorem wy_add (t : SetTable) : ∀ (m n : Nat) (p : SetTable.Probe), wy t (m + n) p = wy t n (wy t m p)
  | 0, n, p => by rw [Nat.zero_add]; rfl
  | m + 1, n, p => by
    rw [show m + 1 + n = (m + n) + 1 by omega]
    show wy t (m + n) (t.advance p) = wy t n (wy t m (t.advance p))
    exact wy_add t m n _
theorem wy_run (t : SetTable) : ∀ (m : Nat) (p : SetTable.Probe), m ≤ p.more → wy t m p = { p with j := p.j + m, more := p.more - m }
  | 0, p, _ => rfl
  | m + 1, p, h => by
    show wy t m (t.advance p) = _
    have ea : t.advance p = { p with j := p.j + 1, more := p.more - 1 } := by
      unfold SetTable.advance
      rw [if_pos (by omega)]
    rw [ea, wy_run t m _ (by show m ≤ p.more - 1; omega)]
    show ({ p with j := p.j + 1 + m, more := p.more - 1 - m } : SetTable.Probe) = { p with j := p.j + (m + 1), more := p.more - (m + 1) }
    rw [show p.j + 1 + m = p.j + (m + 1) by omega, show p.more - 1 - m = p.more - (m + 1) by omega]
theorem wy_leap (t : SetTable) (p : SetTable.Probe) : wy t (p.more + 1) p = stg t 1 p := by
  rw [wy_add t p.more 1 p, wy_run t p.more p (Nat.le_refl _)]
  show t.advance _ = _
  unfold SetTable.advance
  rw [if_neg (by show ¬ p.more - p.more > 0; omega)]
  rfl
/-- is x taken? -/
abbrev tak (owner : Array (Option Nat)) (x : Nat) : Prop := (owner.getD x (some 0)).isNone = false
/-- a run's start -/
def run0 (mask i perturb : Nat) : SetTable.Probe := { j := i, more := SetTable.runEnd mask i - i, i, perturb, dummy := none }
theorem run0_stg (t : SetTable) (i perturb : Nat) : stg t 1 (run0 t.mask i perturb) = run0 t.mask (SetTable.leap t.mask i perturb).1 (SetTable.leap t.mask i perturb).2 := rfl
theorem find_range {n : Nat} {f : Nat → Bool} {k : Nat} (h : (List.range n).find? f = some k) : k < n ∧ f k = true ∧ ∀ m, m < k → f m = false := by
  obtain ⟨h1, as, bs, h2, h3⟩ := List.find?_eq_some_iff_append.mp h
  have hk : k < n := List.mem_range.mp (List.mem_of_find?_eq_some h)
  refine ⟨hk, h1, fun m hm => ?_⟩
  have hmem : m ∈ as := by
    have e1 : (List.range n)[m]? = some m := List.getElem?_range (by omega)
    rw [h2] at e1
    by_cases c : m < as.length
    · rw [List.getElem?_append_left c] at e1
      exact List.mem_of_getElem? e1
    · exfalso
      have e2 : (List.range n)[as.length]? = some k := by rw [h2, List.getElem?_append_right (Nat.le_refl _), Nat.sub_self]; rfl
      have : as.length < n := by
        have := (List.getElem?_eq_some_iff.mp e2).1
        simpa using this
      rw [List.getElem?_range this] at e2
      have := Option.some.inj e2
      omega
  have := h3 m hmem
  simpa using this
theorem free_char (t : SetTable) {owner : Array (Option Nat)} : ∀ (fuel i perturb j : Nat), SetTable.layClean.free t.mask owner fuel i perturb = some j →
    ∃ E, (wy t E (run0 t.mask i perturb)).j = j ∧ ¬ tak owner j ∧ ∀ m, m < E → tak owner (wy t m (run0 t.mask i perturb)).j := by
  intro fuel
  induction fuel with
  | zero => intro i perturb j e; cases e
  | succ fuel ih =>
    intro i perturb j e
    unfold SetTable.layClean.free at e
    have hlen : SetTable.runEnd t.mask i + 1 - i = (run0 t.mask i perturb).more + 1 := by
      show SetTable.runEnd t.mask i + 1 - i = SetTable.runEnd t.mask i - i + 1
      unfold SetTable.runEnd
      split <;> omega
    have at_ : ∀ m, m ≤ (run0 t.mask i perturb).more → (wy t m (run0 t.mask i perturb)).j = i + m := fun m hm => by rw [wy_run t m _ hm]; rfl
    split at e
    · rename_i k hk
      obtain ⟨h1, h2, h3⟩ := find_range hk
      cases e
      refine ⟨k, at_ k (by omega), by unfold tak; rw [h2]; exact Bool.noConfusion, fun m hm => ?_⟩
      rw [at_ m (by omega)]
      exact h3 m hm
    · rename_i hn
      obtain ⟨E, e1, e2, e3⟩ := ih (SetTable.leap t.mask i perturb).1 (SetTable.leap t.mask i perturb).2 _ e
      rw [← run0_stg t i perturb, ← wy_leap] at e1 e3
      refine ⟨(run0 t.mask i perturb).more + 1 + E, by rw [wy_add]; exact e1, e2, fun m hm => ?_⟩
      by_cases c : m < (run0 t.mask i perturb).more + 1
      · rw [at_ m (by omega)]
        have := List.find?_eq_none.mp hn m (List.mem_range.mpr (by rw [hlen]; exact c))
        exact Bool.eq_false_iff.mpr this
      · have e : wy t m (run0 t.mask i perturb) = wy t (m - ((run0 t.mask i perturb).more + 1)) (wy t ((run0 t.mask i perturb).more + 1) (run0 t.mask i perturb)) := by
          rw [← wy_add]
          congr 1
          omega
        rw [e]
        exact e3 _ (by omega)
theorem free_none (t : SetTable) {owner : Array (Option Nat)} : ∀ (fuel i perturb : Nat), SetTable.layClean.free t.mask owner fuel i perturb = none → ∀ n, n < fuel → tak owner (stg t n (run0 t.mask i perturb)).j := by
  intro fuel
  induction fuel with
  | zero => intro i perturb _ n hn; omega
  | succ fuel ih =>
    intro i perturb e n hn
    unfold SetTable.layClean.free at e
    split at e
    · cases e
    · rename_i hf
      cases n with
      | zero =>
        have hlen : 0 < SetTable.runEnd t.mask i + 1 - i := by
          unfold SetTable.runEnd
          split <;> omega
        have := List.find?_eq_none.mp hf 0 (List.mem_range.mpr hlen)
        exact Bool.eq_false_iff.mpr this
      | succ n =>
        have := ih (SetTable.leap t.mask i perturb).1 (SetTable.leap t.mask i perturb).2 e n (by omega)
        rw [← run0_stg t i perturb] at this
        exact this
theorem free_some (t : SetTable) (hm : t.mask = 7 ∨ t.mask = 31) {owner : Array (Option Nat)} {i perturb j : Nat} (hp : perturb < 2 ^ 64) (hj : j ≤ t.mask) (hf : ¬ tak owner j) : ∃ x, SetTable.layClean.free t.mask owner (SetTable.turns t.mask) i perturb = some x := by
  cases e : SetTable.layClean.free t.mask owner (SetTable.turns t.mask) i perturb with
  | some x => exact ⟨x, rfl⟩
  | none =>
    obtain ⟨n, hn, hc⟩ := cover hm (p := run0 t.mask i perturb) hp hj
    have := free_none t _ _ _ e (13 + n) (by unfold SetTable.turns; omega)
    rw [hc] at this
    exact absurd this hf
end SET
set_option Elab.async false
set_option linter.all false
set_option maxRecDepth 100000
namespace SET
open PySem
/-- who lies where -/
structure Own (t : SetTable) (done : List Int) (owner : Array (Option Nat)) : Prop where
  size : owner.size = t.mask + 1
  lt : ∀ (j i : Nat), owner[j]? = some (some i) → i < done.length
  inj : ∀ (j j' i : Nat), owner[j]? = some (some i) → owner[j']? = some (some i) → j = j'
  has : ∀ (i : Nat) (h : Int), done[i]? = some h → ∃ E, owner[plc t h E]? = some (some i) ∧ ∀ m, m < E → tak owner (plc t h m)
theorem tak_iff {owner : Array (Option Nat)} {x : Nat} (hx : x < owner.size) : tak owner x ↔ ∃ i, owner[x]? = some (some i) := by
  unfold tak
  rw [Array.getD_eq_getD_getElem?, Array.getElem?_eq_getElem hx]
  cases e : owner[x] with
  | none => simp [e]
  | some i => simp [e]
theorem Own.start (t : SetTable) : Own t [] (Array.replicate (t.mask + 1) none) := by
  have no : ∀ j i, (Array.replicate (t.mask + 1) (none : Option Nat))[j]? = some (some i) → False := fun j i h => by
    rw [Array.getElem?_replicate] at h
    split at h
    · cases h
    · cases h
  exact ⟨by simp, fun j i h => (no j i h).elim, fun j _ i h => (no j i h).elim, fun i h e => by simp at e⟩
theorem nottak {owner : Array (Option Nat)} {x : Nat} (h : ¬ tak owner x) : x < owner.size ∧ owner[x]? = some none := by
  unfold tak at h
  have hx : x < owner.size := by
    apply Classical.byContradiction
    intro c
    apply h
    rw [Array.getD_eq_getD_getElem?, Array.getElem?_eq_none (by omega)]; rfl
  refine ⟨hx, ?_⟩
  rw [Array.getD_eq_getD_getElem?, Array.getElem?_eq_getElem hx] at h
  rw [Array.getElem?_eq_getElem hx]
  cases e : owner[x] with
  | none => rfl
  | some i => rw [e] at h; exact absurd rfl h
theorem Own.free {t : SetTable} {done : List Int} {owner : Array (Option Nat)} (o : Own t done owner) (hn : done.length ≤ t.mask) : ∃ j, j ≤ t.mask ∧ ¬ tak owner j := by
  apply Classical.byContradiction
  intro no
  have all : ∀ j, j ≤ t.mask → ∃ i, owner[j]? = some (some i) := fun j hj => by
    have : tak owner j := Classical.byContradiction fun c => no ⟨j, hj, c⟩
    exact (tak_iff (by rw [o.size]; omega)).1 this
  let g : Nat → Nat := fun j => ((owner[j]?).getD none).getD 0
  have hg : ∀ j, j ≤ t.mask → owner[j]? = some (some (g j)) := fun j hj => by
    obtain ⟨i, e⟩ := all j hj
    show owner[j]? = some (some (((owner[j]?).getD none).getD 0))
    rw [e]; rfl
  have nd : ((List.range (t.mask + 1)).map g).Nodup := by
    rw [List.nodup_iff_pairwise_ne, List.pairwise_map]
    have : (List.range (t.mask + 1)).Pairwise (· < ·) := List.pairwise_lt_range
    refine List.Pairwise.imp_of_mem (fun {a b} ha hb hlt e => ?_) this
    have ha := List.mem_range.mp ha
    have hb := List.mem_range.mp hb
    have := o.inj a b (g a) (hg a (by omega)) (by rw [e]; exact hg b (by omega))
    omega
  have := nodup_le nd (ks := List.range done.length) fun z hz => by
    obtain ⟨j, hj, rfl⟩ := List.mem_map.mp hz
    exact List.mem_range.mpr (o.lt j _ (hg j (by have := List.mem_range.mp hj; omega)))
  rw [List.length_map, List.length_range, List.length_range] at this
  omega
theorem Own.add {t : SetTable} {done : List Int} {owner : Array (Option Nat)} (o : Own t done owner) {h : Int} {E : Nat} (hf : ¬ tak owner (plc t h E)) (hb : ∀ m, m < E → tak owner (plc t h m)) : Own t (done ++ [h]) (owner.setIfInBounds (plc t h E) (some done.length)) := by
  obtain ⟨hx, hnone⟩ := nottak hf
  have get : ∀ x, (owner.setIfInBounds (plc t h E) (some done.length))[x]? = if plc t h E = x then some (some done.length) else owner[x]? := fun x => by
    rw [Array.getElem?_setIfInBounds]
    by_cases c : plc t h E = x
    · rw [if_pos c, if_pos c, if_pos hx]
    · rw [if_neg c, if_neg c]
  have up : ∀ x, tak owner x → tak (owner.setIfInBounds (plc t h E) (some done.length)) x := fun x hx' => by
    unfold tak at hx' ⊢
    rw [Array.getD_eq_getD_getElem?, get]
    by_cases c : plc t h E = x
    · rw [if_pos c]; rfl
    · rw [if_neg c, ← Array.getD_eq_getD_getElem?]; exact hx'
  refine ⟨by simp [o.size], fun j i e => ?_, fun j j' i e e' => ?_, fun i h' e => ?_⟩
  · rw [get] at e
    rw [List.length_append, List.length_singleton]
    split at e
    · have := Option.some.inj (Option.some.inj e); omega
    · have := o.lt j i e; omega
  · rw [get] at e e'
    split at e
    · rename_i c
      split at e'
      · rename_i c'; rw [← c, ← c']
      · have := o.lt _ _ e'
        have := Option.some.inj (Option.some.inj e)
        omega
    · split at e'
      · have := o.lt _ _ e
        have := Option.some.inj (Option.some.inj e')
        omega
      · exact o.inj j j' i e e'
  · by_cases c : i < done.length
    · rw [List.getElem?_append_left c] at e
      obtain ⟨F, f1, f2⟩ := o.has i h' e
      refine ⟨F, ?_, fun m hm => up _ (f2 m hm)⟩
      rw [get, if_neg (fun z => by rw [z, f1] at hnone; cases hnone)]
      exact f1
    · have hi : i = done.length := by
        have := (List.getElem?_eq_some_iff.mp e).1
        rw [List.length_append, List.length_singleton] at this
        omega
      subst hi
      rw [List.getElem?_append_right (Nat.le_refl _), Nat.sub_self] at e
      have e : h = h' := Option.some.inj e
      subst e
      exact ⟨E, by rw [get, if_pos rfl], fun m hm => up _ (hb m hm)⟩
def layStep (mask : Nat) (acc : Option (Array (Option Nat) × Nat)) (h : Int) : Option (Array (Option Nat) × Nat) := do
  let (owner, k) ← acc
  let j ← SetTable.layClean.free mask owner (SetTable.turns mask) (SetTable.bits h % (mask + 1)) (SetTable.bits h)
  pure (owner.setIfInBounds j (some k), k + 1)
theorem layClean_eq (mask : Nat) (hashes : Array Int) : SetTable.layClean mask hashes = (hashes.toList.foldl (layStep mask) (some (Array.replicate (mask + 1) none, 0))).map (·.1) := by
  unfold SetTable.layClean
  rw [← Array.foldl_toList]
  rfl
theorem bits_lt (h : Int) : SetTable.bits h < 2 ^ 64 := by
  unfold SetTable.bits
  omega
theorem lay_fold (t : SetTable) (hm : t.mask = 7 ∨ t.mask = 31) : ∀ (hs done : List Int) (owner : Array (Option Nat)), Own t done owner → done.length + hs.length ≤ t.mask → ∃ owner', hs.foldl (layStep t.mask) (some (owner, done.length)) = some (owner', (done ++ hs).length) ∧ Own t (done ++ hs) owner'
  | [], done, owner, o, _ => ⟨owner, by simp, by simpa using o⟩
  | h :: hs, done, owner, o, hl => by
    rw [List.length_cons] at hl
    obtain ⟨j0, hj0, hf0⟩ := o.free (by omega)
    obtain ⟨j, hj⟩ := free_some t hm (owner := owner) (i := SetTable.bits h % (t.mask + 1)) (bits_lt h) hj0 hf0
    obtain ⟨E, e1, e2, e3⟩ := free_char t _ _ _ _ hj
    have e1 : plc t h E = j := e1
    have o' := o.add (h := h) (E := E) (by rw [e1]; exact e2) e3
    obtain ⟨owner', f1, f2⟩ := lay_fold t hm hs (done ++ [h]) _ o' (by rw [List.length_append, List.length_singleton]; omega)
    refine ⟨owner', ?_, by simpa using f2⟩
    rw [List.foldl_cons]
    have es : layStep t.mask (some (owner, done.length)) h = some (owner.setIfInBounds (plc t h E) (some done.length), (done ++ [h]).length) := by
      unfold layStep
      rw [e1]
      simp [hj]
    rw [es, f1]
    simp
end SET
set_option Elab.async false
set_option linter.all false
set_option maxRecDepth 100000
namespace SET
open PySem
theorem runEnd_in {mask i : Nat} (h : i ≤ mask) : i + (SetTable.runEnd mask i - i) ≤ mask := by
  unfold SetTable.runEnd
  split <;> omega
def Pin (t : SetTable) (p : SetTable.Probe) : Prop := p.j + p.more ≤ t.mask
theorem Pin.adv {t : SetTable} {p : SetTable.Probe} (h : Pin t p) : Pin t (t.advance p) := by
  unfold Pin SetTable.advance at *
  split
  · show p.j + 1 + (p.more - 1) ≤ t.mask
    omega
  · exact runEnd_in (Nat.le_of_lt_succ (Nat.mod_lt _ (by omega)))
theorem Pin.wy {t : SetTable} : ∀ (n : Nat) {p : SetTable.Probe}, Pin t p → Pin t (wy t n p)
  | 0, _, h => h
  | n + 1, _, h => Pin.wy n h.adv
theorem Pin.start (t : SetTable) (h : Int) : Pin t (t.probeStart h) := runEnd_in (Nat.le_of_lt_succ (Nat.mod_lt _ (by omega)))
theorem plc_le (t : SetTable) (h : Int) (n : Nat) : plc t h n ≤ t.mask := by
  have : Pin t (SET.wy t n (t.probeStart h)) := (Pin.start t h).wy n
  unfold Pin at this
  show (SET.wy t n (t.probeStart h)).j ≤ t.mask
  omega
def lives (mask : Nat) (owner : Array (Option Nat)) : List (Nat × Nat) := (List.range (mask + 1)).filterMap fun j => (owner.getD j none).map (j, ·)
theorem lives_mem {mask : Nat} {owner : Array (Option Nat)} (hs : owner.size = mask + 1) {j i : Nat} : (j, i) ∈ lives mask owner ↔ owner[j]? = some (some i) := by
  unfold lives
  rw [List.mem_filterMap]
  constructor
  · rintro ⟨x, hx, e⟩
    have hx := List.mem_range.mp hx
    rw [Array.getD_eq_getD_getElem?, Array.getElem?_eq_getElem (by omega)] at e
    simp only [Option.getD_some, Option.map_eq_some_iff, Prod.mk.injEq] at e
    obtain ⟨y, e1, e2, e3⟩ := e
    rw [← e2, ← e3, Array.getElem?_eq_getElem (by omega), e1]
  · intro e
    have hj := (Array.getElem?_eq_some_iff.mp e).1
    refine ⟨j, List.mem_range.mpr (by omega), ?_⟩
    rw [Array.getD_eq_getD_getElem?, e]
    rfl
theorem lives_up (mask : Nat) (owner : Array (Option Nat)) : (lives mask owner).Pairwise fun a b => a.1 < b.1 := by
  unfold lives
  rw [List.pairwise_filterMap]
  refine List.Pairwise.imp (fun {a b} hab x hx y hy => ?_) (List.pairwise_lt_range (n := mask + 1))
  simp only [Option.map_eq_some_iff] at hx hy
  obtain ⟨_, _, rfl⟩ := hx
  obtain ⟨_, _, rfl⟩ := hy
  exact hab
theorem laid_full {mask : Nat} (hm : mask = 7 ∨ mask = 31) (finger moves : Nat) (led plain : Bool) {hashes : Array Int} (hn : hashes.size ≤ mask) :
    ∃ t order, SetTable.laid mask finger moves led plain hashes = some (t, order) ∧ Ok t led ∧ t.mask = mask ∧ t.plain = plain ∧ t.moves = moves ∧ t.place.size = hashes.size ∧ order.size = hashes.size ∧ order.toList.Nodup ∧ (∀ i ∈ order.toList, i < hashes.size) ∧ Lies t (fun r => (hashes[order.getD r 0]?).getD 0) := by
  obtain ⟨t0, rfl⟩ : ∃ t0 : SetTable, t0.mask = mask := ⟨{ mask := mask, place := #[], dummies := #[], finger := 0, led := true, moves := 0, plain := true }, rfl⟩
  obtain ⟨owner, f1, o⟩ := lay_fold t0 hm hashes.toList [] _ (Own.start t0) (by simpa using hn)
  rw [List.nil_append] at o f1
  have ec : SetTable.layClean t0.mask hashes = some owner := by
    rw [layClean_eq]
    have := f1
    rw [List.length_nil] at this
    rw [this]; rfl
  have el : SetTable.laid t0.mask finger moves led plain hashes = some ({ mask := t0.mask, place := ((lives t0.mask owner).map (·.1)).toArray, dummies := #[], finger, led, moves, plain }, ((lives t0.mask owner).map (·.2)).toArray) := by
    unfold SetTable.laid
    rw [ec]
    rfl
  have ok := laid_ok el
  have up := lives_up t0.mask owner
  have nd : ((lives t0.mask owner).map (·.2)).Nodup := by
    rw [List.nodup_iff_pairwise_ne, List.pairwise_map]
    refine List.Pairwise.imp_of_mem (fun {a b} ha hb hlt e => ?_) up
    have h1 := (lives_mem o.size).1 (show (a.1, a.2) ∈ _ from ha)
    have h2 := (lives_mem o.size).1 (show (b.1, b.2) ∈ _ from hb)
    have := o.inj a.1 b.1 a.2 h1 (by rw [e]; exact h2)
    omega
  have lt : ∀ i ∈ (lives t0.mask owner).map (·.2), i < hashes.size := fun i hi => by
    obtain ⟨⟨j, i'⟩, hx, rfl⟩ := List.mem_map.mp hi
    have := o.lt j i' ((lives_mem o.size).1 hx)
    simpa using this
  have len : (lives t0.mask owner).length = hashes.size := by
    apply Nat.le_antisymm
    · have := nodup_le nd (ks := List.range hashes.size) fun z hz => List.mem_range.mpr (lt z hz)
      rwa [List.length_map, List.length_range] at this
    · have := nodup_le (List.nodup_range (n := hashes.size)) (ks := (lives t0.mask owner).map (·.2)) fun z hz => by
        have hz := List.mem_range.mp hz
        obtain ⟨E, e1, _⟩ := o.has z (hashes.toList[z]'(by simpa using hz)) (List.getElem?_eq_getElem _)
        exact List.mem_map.mpr ⟨(_, z), (lives_mem o.size).2 e1, rfl⟩
      rwa [List.length_map, List.length_range] at this
  refine ⟨_, _, el, ok, rfl, rfl, rfl, by simp [len], by simp [len], by simpa using nd, fun i hi => lt i (by simpa using hi), fun r hr => ?_⟩
  have hr : r < (lives t0.mask owner).length := by simpa using hr
  obtain ⟨j, i, hji⟩ : ∃ j i, (lives t0.mask owner)[r] = (j, i) := ⟨_, _, rfl⟩
  have pm : ((lives t0.mask owner).map (·.1)).toArray.getD r 0 = j := by
    rw [Array.getD_eq_getD_getElem?]
    simp [hr, hji]
  have om : ((lives t0.mask owner).map (·.2)).toArray.getD r 0 = i := by
    rw [Array.getD_eq_getD_getElem?]
    simp [hr, hji]
  have hmem : (j, i) ∈ lives t0.mask owner := by rw [← hji]; exact List.getElem_mem hr
  have ow := (lives_mem o.size).1 hmem
  have hi : i < hashes.size := lt i (List.mem_map.mpr ⟨_, hmem, rfl⟩)
  have hh : (fun r => (hashes[((lives t0.mask owner).map (·.2)).toArray.getD r 0]?).getD 0) r = hashes[i] := by
    dsimp only
    rw [om, Array.getElem?_eq_getElem hi]; rfl
  rw [hh]
  obtain ⟨E, e1, e2⟩ := o.has i hashes[i] (by rw [← Array.getElem?_toList.symm, Array.getElem?_eq_getElem hi])
  have pq : ∀ m, plc ({ mask := t0.mask, place := ((lives t0.mask owner).map (·.1)).toArray, dummies := #[], finger, led, moves, plain } : SetTable) hashes[i] m = plc t0 hashes[i] m := fun m => plc_mask (t := t0) (t' := ({ mask := t0.mask, place := ((lives t0.mask owner).map (·.1)).toArray, dummies := #[], finger, led, moves, plain } : SetTable)) rfl _ m
  refine ⟨E, ?_, fun m hm' => ?_⟩
  · show plc _ hashes[i] E = ((lives t0.mask owner).map (·.1)).toArray.getD r 0
    rw [pm, pq]
    exact o.inj _ _ i e1 ow
  · show SetTable.slot _ (plc _ hashes[i] m) ≠ .empty
    rw [pq]
    have lm := plc_le t0 hashes[i] m
    obtain ⟨i', e3⟩ := (tak_iff (by rw [o.size]; omega)).1 (e2 m hm')
    have := (lives_mem o.size).2 e3
    obtain ⟨k, hk, ek⟩ := List.getElem_of_mem this
    refine (full_iff ok).2 ⟨k, by simpa using hk, ?_⟩
    show ((lives t0.mask owner).map (·.1)).toArray.getD k 0 = _
    rw [Array.getD_eq_getD_getElem?]
    simp [hk, ek]
end SET
set_option Elab.async false
set_option linter.all false
set_option maxRecDepth 100000
/-! ### nests in a set: what a search looks at -/
namespace SET
open PySem NM ND
section
variable {prog : Program} {w : World}
theorem byValue_nest : ∀ (t : T) (n : Nat) {A : Around} {E : Value → Shared → Prop} {s : Shared} {a : Addr} {Q : Bool → Shared → Prop}, t.depth < n → At s.heap t a → Q true s → wpAny (model prog w) A (hashByValue n (.ref a)) Q E s := T.ind fun t ih n {A E s a Q} hn hk h => by
  have hT := hk.typeIs
  obtain ⟨o, items, n', ho, _, hd, hi⟩ := hk.row
  cases n with
  | zero => omega
  | succ n =>
    unfold hashByValue
    refine wpAny_bind (wpAny_specialOf hT F.slot_tuple_hash.lookup ?_)
    show wpAny _ _ (seqItems? (.ref a) >>= _) _ _ s
    refine wpAny_bind (wpAny_seqItems ho hd ?_)
    refine wpAny_bind ?_
    show wpAny _ _ (forIn items _ _) _ _ s
    rw [← Array.forIn_toList]
    refine wpAny_forIn_list _ (fun rest r s' => r.1 = none ∧ s' = s ∧ ∃ left : List T, (∀ m ∈ left, m ∈ t.toList) ∧ Row s.heap left rest) _ ?_ ?_ _ _ ⟨rfl, rfl, t.toList, fun _ h => h, hi⟩
    · rintro v rest r s' ⟨hr, rfl, left, hsub, hrow⟩
      cases hrow with
      | @cons k _ ks _ p q =>
        obtain ⟨c, rfl, p⟩ := p
        have hm := hsub k (by simp)
        have hdp := T.mem_depth hm
        refine wpAny_bind (ih k hm n (by omega) p ?_)
        simp only [Bool.not_true, Bool.false_eq_true, if_false]
        exact wpAny_pure ⟨rfl, rfl, ks, fun m hm => hsub m (by simp [hm]), q⟩
    · rintro ⟨r1, r2⟩ s' ⟨hr, rfl, _⟩
      simp only at hr
      subst hr
      exact wpAny_pure h
theorem class_nest : ∀ (t : T) (n : Nat) {A : Around} {E : Value → Shared → Prop} {s : Shared} {a : Addr} {Q : Bool → Shared → Prop}, t.depth < n → At s.heap t a → Q false s → wpAny (model prog w) A (ofAClassStatement n (.ref a)) Q E s := T.ind fun t ih n {A E s a Q} hn hk h => by
  have hT := hk.typeIs
  obtain ⟨o, items, n', ho, _, hd, hi⟩ := hk.row
  cases n with
  | zero => omega
  | succ n =>
    unfold ofAClassStatement
    refine wpAny_bind (wpAny_typeOf hT ?_)
    dsimp only
    rw [if_pos (by decide)]
    refine wpAny_bind (wpAny_pure ?_)
    simp only [Bool.not_true, Bool.false_eq_true, if_false]
    refine wpAny_bind (wpAny_seqItems ho hd ?_)
    dsimp only
    refine wpAny_bind ?_
    show wpAny _ _ (forIn items _ _) _ _ s
    rw [← Array.forIn_toList]
    refine wpAny_forIn_list _ (fun rest r s' => r.1 = none ∧ s' = s ∧ ∃ left : List T, (∀ m ∈ left, m ∈ t.toList) ∧ Row s.heap left rest) _ ?_ ?_ _ _ ⟨rfl, rfl, t.toList, fun _ h => h, hi⟩
    · rintro v rest r s' ⟨hr, rfl, left, hsub, hrow⟩
      cases hrow with
      | @cons k _ ks _ p q =>
        obtain ⟨c, rfl, p⟩ := p
        have hm := hsub k (by simp)
        have hdp := T.mem_depth hm
        refine wpAny_bind (ih k hm n (by omega) p ?_)
        simp only [Bool.false_eq_true, if_false]
        exact wpAny_pure ⟨rfl, rfl, ks, fun m hm => hsub m (by simp [hm]), q⟩
    · rintro ⟨r1, r2⟩ s' ⟨hr, rfl, _⟩
      simp only at hr
      subst hr
      exact wpAny_pure h
/-- nobody sees a search among nests -/
theorem seen_nest {A : Around} {E : Value → Shared → Prop} {s : Shared} {c : Addr} {k : T} {ys : List Value} {Q : Bool → Shared → Prop} (hk : At s.heap k c) (hd : k.depth < 8) (hy : ∀ y ∈ ys, ∃ m b, y = Value.ref b ∧ At s.heap m b ∧ m.depth < 8) (h : Q false s) : wpAny (model prog w) A (searchCouldBeSeen (.ref c) ys) Q E s := by
  unfold searchCouldBeSeen
  refine wpAny_bind ?_
  refine wpAny_forIn_list _ (fun rest r s' => r.1 = none ∧ s' = s ∧ ∀ y ∈ rest, y ∈ ys) _ ?_ ?_ _ _ ⟨rfl, rfl, fun _ h => h⟩
  · rintro v rest r s' ⟨hr, rfl, hsub⟩
    obtain ⟨m, b, rfl, hb, hm⟩ := hy v (hsub v (by simp))
    have go : ∀ y ∈ rest, y ∈ ys := fun y hy => hsub y (by simp [hy])
    refine wpAny_ite_split (fun _ => wpAny_pure ⟨rfl, rfl, go⟩) fun _ => ?_
    refine wpAny_bind (quiet_nest k 8 (by omega) hk ?_)
    refine wpAny_ite_split (fun z => absurd z (by decide)) fun _ => ?_
    refine wpAny_bind (quiet_nest m 8 (by omega) hb ?_)
    refine wpAny_ite_split (fun z => absurd z (by decide)) fun _ => ?_
    refine wpAny_bind (class_nest k 8 (by omega) hk ?_)
    refine wpAny_ite_split (fun z => absurd z (by decide)) fun _ => ?_
    refine wpAny_bind (class_nest m 8 (by omega) hb ?_)
    exact wpAny_ite_split (fun z => absurd z (by decide)) fun _ => wpAny_pure ⟨rfl, rfl, go⟩
  · rintro ⟨r1, r2⟩ s' ⟨hr, rfl, _⟩
    simp only at hr
    subst hr
    exact wpAny_pure h
end
end SET
set_option Elab.async false
set_option linter.all false
set_option maxRecDepth 100000
namespace SET
open PySem NM ND
def keyOk (h : Heap) (k : T) (e : Int × Value) : Prop := e.1 = ND.hash k ∧ k.depth ≤ 7 ∧ ∃ c, e.2 = .ref c ∧ At h k c
abbrev hashAt (es : Array (Int × Value)) (i : Nat) : Int := (es[i]?.map (·.1)).getD 0
structure BodyN (h : Heap) (es : Array (Int × Value)) (t : SetTable) (led : Bool) (ks : List T) : Prop where
  el : Paired (keyOk h) ks es.toList
  nd : ks.Nodup
  tb : TB es t led
  mask : t.mask = 7 ∨ t.mask = 31
  lies : Lies t (hashAt es)
theorem wy_good {t : SetTable} : ∀ (n : Nat) {p : SetTable.Probe}, p.more ≤ 9 → p.perturb < 2 ^ 64 → p.dummy = none → (wy t n p).more ≤ 9 ∧ (wy t n p).perturb < 2 ^ 64 ∧ (wy t n p).dummy = none
  | 0, _, h1, h2, h3 => ⟨h1, h2, h3⟩
  | n + 1, _, h1, h2, h3 => wy_good n (adv_more h1) (adv_pert h2) (adv_dummy h3)
theorem start_good (t : SetTable) (h : Int) : (t.probeStart h).more ≤ 9 ∧ (t.probeStart h).perturb < 2 ^ 64 ∧ (t.probeStart h).dummy = none := ⟨runEnd_le _ _, bits_lt h, rfl⟩
theorem pz_of {es : Array (Int × Value)} {t : SetTable} {led : Bool} (b : TB es t led) : t.place.size = es.size ∧ t.place.size ≤ t.mask := by
  have := b.fits
  simp only [SetTable.fits, Bool.and_eq_true, beq_iff_eq, decide_eq_true_eq] at this
  have h2 := this.2
  unfold SetTable.fill at h2
  exact ⟨this.1, Nat.le_trans (Nat.le_add_right _ _) h2⟩
/-- the first free place of a way -/
theorem first_free {es : Array (Int × Value)} {t : SetTable} {led : Bool} (b : TB es t led) (hm : t.mask = 7 ∨ t.mask = 31) (h : Int) : ∃ E, E < 10 * SetTable.turns t.mask ∧ t.slot (plc t h E) = .empty ∧ ∀ m, m < E → t.slot (plc t h m) ≠ .empty := by
  obtain ⟨g1, g2, g3⟩ := start_good t h
  obtain ⟨x, hx⟩ := go_some b.ok hm (pz_of b).2 (fun _ => h + 1) h g2 g1
  obtain ⟨E, e1, e2, e3⟩ := go_char b.ok _ _ g3 x hx
  rcases e3 with ⟨_, e3⟩ | ⟨i, _, e3, _⟩
  · exact ⟨E, e1, e3, fun m hm' z => by obtain ⟨i, e, _⟩ := e2 m hm'; rw [z] at e; cases e⟩
  · omega
section
variable {prog : Program} {w : World}
theorem search_from {A : Around} {E : Value → Shared → Prop} {s : Shared} {a c : Addr} {es : Array (Int × Value)} {ep : Nat} {t : SetTable} {led : Bool} {ks : List T} {k : T} {Q : SetFound → Shared → Prop} (hu : A.units + 10 < cLine) (ho : s.heap.get? a = some (setObj es ep t)) (b : BodyN s.heap es t led ks) (hk : At s.heap k c) (hd : k.depth ≤ 7)
    {E0 : Nat} (he : t.slot (plc t (hash k) E0) = .empty) (hb : ∀ m, m < E0 → t.slot (plc t (hash k) m) ≠ .empty)
    (q1 : k ∈ ks → Q (.there none) s) (q2 : k ∉ ks → Q (.free (plc t (hash k) E0) false) s) : ∀ (d n fuel : Nat) (stand : Option SetTable.Probe), n + d = E0 → d < fuel → stand.getD (t.probeStart (hash k)) = wy t n (t.probeStart (hash k)) → (∀ m, m < n → ∀ i, t.slot (plc t (hash k) m) = .live i → ks[i]? ≠ some k) →
      wpAny (model prog w) A (setSearchFrom a (.ref c) (hash k) true fuel stand) Q E s := by
  intro d
  induction d using Nat.strongRecOn with
  | ind d ih =>
    intro n fuel stand hn hf hs hno
    obtain ⟨fuel, rfl⟩ : ∃ f, fuel = f + 1 := ⟨fuel - 1, by omega⟩
    have pz := pz_of b.tb
    have hlen : ks.length = es.size := by rw [Paired.length b.el, Array.length_toList]
    obtain ⟨g1, g2, g3⟩ := start_good t (hash k)
    obtain ⟨w1, w2, w3⟩ := wy_good (t := t) n g1 g2 g3
    obtain ⟨x, hx⟩ := go_some b.tb.ok b.mask pz.2 (hashAt es) (hash k) w2 w1
    obtain ⟨m, m1, m2, m3⟩ := go_char b.tb.ok _ _ w3 x hx
    have wadd : ∀ r, wy t r (wy t n (t.probeStart (hash k))) = wy t (n + r) (t.probeStart (hash k)) := fun r => (wy_add t n r _).symm
    have at_ : ∀ i : Nat, ∀ y, ks[i]? = some y → ∃ e, es[i]? = some e ∧ keyOk s.heap y e := fun i y hy => by
      have : ∀ {xs : List T} {zs : List (Int × Value)}, Paired (keyOk s.heap) xs zs → ∀ {i : Nat} {y : T}, xs[i]? = some y → ∃ e, zs[i]? = some e ∧ keyOk s.heap y e := fun {xs zs} p => by
        induction p with
        | nil => intro i y h; simp at h
        | cons r _ ih2 =>
          intro i y h
          cases i with
          | zero => simp at h; subst h; exact ⟨_, rfl, r⟩
          | succ i => simpa using ih2 (by simpa using h)
      obtain ⟨e, e1, e2⟩ := this b.el hy
      exact ⟨e, by rw [← Array.getElem?_toList]; exact e1, e2⟩
    unfold setSearchFrom
    refine wpAny_bind (wpAny_setState_of ho rfl b.tb.fits ?_)
    dsimp only
    have gw : t.gaveWay = false := by
      unfold SetTable.gaveWay
      rcases b.mask with e | e <;> rw [e] <;> rfl
    rw [gw]
    refine wpAny_ite_split (fun z => absurd z (by decide)) fun _ => ?_
    rw [hs]
    generalize hp : t.probe _ (hash k) _ = pr
    obtain rfl : pr = some x := hp.symm.trans hx
    rcases m3 with ⟨rfl, me⟩ | ⟨i, ml, mh, rfl⟩
    · -- the free place
      rw [wadd] at me ⊢
      have e0 : n + m = E0 := by
        rcases Nat.lt_trichotomy (n + m) E0 with z | z | z
        · exact absurd me (hb _ z)
        · exact z
        · obtain ⟨i, h1, _⟩ := m2 (E0 - n) (by omega)
          rw [wadd, show n + (E0 - n) = E0 by omega] at h1
          rw [show (wy t E0 (t.probeStart (hash k))).j = plc t (hash k) E0 from rfl, he] at h1
          cases h1
      have no : k ∉ ks := fun hm => by
        obtain ⟨r, hr⟩ := List.getElem?_of_mem hm
        obtain ⟨e, e1, e2, _⟩ := at_ r k hr
        have hh : hashAt es r = hash k := by unfold hashAt; rw [e1]; exact e2
        have hrs : r < t.place.size := by rw [pz.1]; exact (Array.getElem?_eq_some_iff.mp e1).1
        obtain ⟨F, f1, f2⟩ := b.lies.met b.tb.ok hrs (E := E0) (by rw [hh]; exact he)
        rw [hh] at f2
        by_cases c : F < n
        · exact hno F c r f2 hr
        · obtain ⟨i, h1, h2⟩ := m2 (F - n) (by omega)
          rw [wadd, show n + (F - n) = F by omega] at h1
          rw [show (wy t F (t.probeStart (hash k))).j = plc t (hash k) F from rfl, f2] at h1
          cases h1
          exact h2 hh
      rw [e0]
      exact wpAny_pure (q2 no)
    · obtain ⟨hi, _⟩ := slot_live b.tb.ok ml
      have hi' : i < ks.length := by rw [hlen, ← pz.1]; exact hi
      obtain ⟨e, ee, e1, e2, ci, e3, hci⟩ := at_ i _ (List.getElem?_eq_getElem hi')
      obtain ⟨eh, ev⟩ := e
      have e3 : ev = .ref ci := e3
      subst e3
      have big : n + m < E0 := by
        rcases Nat.lt_trichotomy (n + m) E0 with z | z | z
        · exact z
        · rw [wadd, z, show (wy t E0 (t.probeStart (hash k))).j = plc t (hash k) E0 from rfl, he] at ml
          cases ml
        · obtain ⟨i, h1, _⟩ := m2 (E0 - n) (by omega)
          rw [wadd, show n + (E0 - n) = E0 by omega] at h1
          rw [show (wy t E0 (t.probeStart (hash k))).j = plc t (hash k) E0 from rfl, he] at h1
          cases h1
      have sm : t.sameMemory t.moves t.mask = some true := by
        unfold SetTable.sameMemory
        rw [if_pos (beq_self_eq_true _)]
      dsimp only
      refine wpAny_ite_split (fun hl => ?_) fun hl => ?_
      · refine wpAny_bind (seen_nest hk (by omega) (fun y hy => ?_) (wpAny_ite_split (fun z => absurd z (by decide)) fun _ => ?_))
        · obtain ⟨⟨yh, yv⟩, hy1, rfl⟩ := List.mem_map.mp hy
          have hy1 : (yh, yv) ∈ es.toList := by
            have := Array.mem_toList_iff.mp hy1
            exact Array.mem_toList_iff.mpr (Array.mem_filter.mp this).1
          obtain ⟨r, hr⟩ := List.getElem?_of_mem hy1
          have hrl : r < ks.length := by
            have := (List.getElem?_eq_some_iff.mp hr).1
            rw [hlen]; simpa using this
          obtain ⟨e', ee', _, d', c', f3, f4⟩ := at_ r _ (List.getElem?_eq_getElem hrl)
          rw [← Array.getElem?_toList, hr] at ee'
          cases ee'
          exact ⟨_, c', f3, f4, by omega⟩
        rw [ee]
        refine wpAny_bind (wpAny_holding (eq_nest _ k (by omega) hci hk ?_))
        refine wpAny_bind (wpAny_setState_of ho rfl b.tb.fits ?_)
        dsimp only
        by_cases c' : ks[i] = k
        · rw [decide_eq_true c']
          exact wpAny_ite_split (fun _ => wpAny_pure (q1 (by rw [← c']; exact List.getElem_mem hi'))) fun z => absurd rfl z
        · rw [decide_eq_false c']
          refine wpAny_ite_split (fun z => absurd z (by decide)) fun _ => ?_
          rw [sm]
          dsimp only
          rw [if_pos rfl, ml]
          dsimp only
          rw [ee]
          dsimp only
          refine wpAny_bind (wpAny_isSame_ref_self (wpAny_bind (wpAny_pure ?_)))
          rw [if_pos rfl]
          dsimp only
          refine wpAny_ite_split (fun z => absurd z (by decide)) fun _ => ?_
          refine ih (E0 - (n + m + 1)) (by omega) (n + m + 1) fuel _ (by omega) (by omega) (by show wy t (m + 1) (wy t n _) = _; rw [wadd]; rfl) fun r hr j hj z => ?_
          by_cases c1 : r < n
          · exact hno r c1 j hj z
          · by_cases c2 : r < n + m
            · obtain ⟨i2, h1, h2⟩ := m2 (r - n) (by omega)
              rw [wadd, show n + (r - n) = r by omega, show (wy t r (t.probeStart (hash k))).j = plc t (hash k) r from rfl, hj] at h1
              cases h1
              obtain ⟨e', f1, f2, _⟩ := at_ j k z
              exact h2 (by unfold hashAt; rw [f1]; exact f2)
            · have er : r = n + m := by omega
              rw [wadd, ← er, show (wy t r (t.probeStart (hash k))).j = plc t (hash k) r from rfl, hj] at ml
              cases ml
              rw [List.getElem?_eq_getElem hi'] at z
              exact c' (Option.some.inj z)
      · rw [ee]
        refine wpAny_bind (wpAny_holding (eq_nest _ k (by omega) hci hk ?_))
        refine wpAny_bind (wpAny_setState_of ho rfl b.tb.fits ?_)
        dsimp only
        by_cases c' : ks[i] = k
        · rw [decide_eq_true c']
          exact wpAny_ite_split (fun _ => wpAny_pure (q1 (by rw [← c']; exact List.getElem_mem hi'))) fun z => absurd rfl z
        · rw [decide_eq_false c']
          refine wpAny_ite_split (fun z => absurd z (by decide)) fun _ => ?_
          rw [sm]
          dsimp only
          rw [if_pos rfl, ml]
          dsimp only
          rw [ee]
          dsimp only
          refine wpAny_bind (wpAny_isSame_ref_self (wpAny_bind (wpAny_pure ?_)))
          rw [if_pos rfl]
          dsimp only
          refine wpAny_ite_split (fun z => absurd z (by decide)) fun _ => ?_
          refine ih (E0 - (n + m + 1)) (by omega) (n + m + 1) fuel _ (by omega) (by omega) (by show wy t (m + 1) (wy t n _) = _; rw [wadd]; rfl) fun r hr j hj z => ?_
          by_cases c1 : r < n
          · exact hno r c1 j hj z
          · by_cases c2 : r < n + m
            · obtain ⟨i2, h1, h2⟩ := m2 (r - n) (by omega)
              rw [wadd, show n + (r - n) = r by omega, show (wy t r (t.probeStart (hash k))).j = plc t (hash k) r from rfl, hj] at h1
              cases h1
              obtain ⟨e', f1, f2, _⟩ := at_ j k z
              exact h2 (by unfold hashAt; rw [f1]; exact f2)
            · have er : r = n + m := by omega
              rw [wadd, ← er, show (wy t r (t.probeStart (hash k))).j = plc t (hash k) r from rfl, hj] at ml
              cases ml
              rw [List.getElem?_eq_getElem hi'] at z
              exact c' (Option.some.inj z)
end
end SET
set_option Elab.async false
set_option linter.all false
set_option maxRecDepth 100000
namespace SET
open PySem NM ND
theorem insertAt_list {α : Type} (xs : Array α) (p : Nat) (x : α) : (SetTable.insertAt xs p x).toList = xs.toList.take p ++ x :: xs.toList.drop p := SetTable.toList_insertAt xs p x
theorem hashAt_get (es : Array (Int × Value)) (r : Nat) : hashAt es r = (es.getD r (0, .none)).1 := by
  unfold hashAt
  rw [Array.getD_eq_getD_getElem?]
  cases es[r]? <;> rfl
theorem paired_take {α β : Type} {R : α → β → Prop} : ∀ (n : Nat) {xs : List α} {ys : List β}, Paired R xs ys → Paired R (xs.take n) (ys.take n)
  | 0, _, _, _ => .nil
  | n + 1, _, _, .nil => .nil
  | n + 1, _, _, .cons p r => .cons p (paired_take n r)
theorem paired_drop {α β : Type} {R : α → β → Prop} : ∀ (n : Nat) {xs : List α} {ys : List β}, Paired R xs ys → Paired R (xs.drop n) (ys.drop n)
  | 0, _, _, h => h
  | n + 1, _, _, .nil => .nil
  | n + 1, _, _, .cons p r => paired_drop n r
theorem paired_app {α β : Type} {R : α → β → Prop} : ∀ {xs xs' : List α} {ys ys' : List β}, Paired R xs ys → Paired R xs' ys' → Paired R (xs ++ xs') (ys ++ ys')
  | _, _, _, _, .nil, h => h
  | _, _, _, _, .cons p r, h => .cons p (paired_app r h)
def SetN (h : Heap) (a : Addr) (led : Bool) (its : List Value) (us : List T) : Prop := ∃ es ep t ks, h.get? a = some (setObj es ep t) ∧ BodyN h es t led ks ∧ (∀ z, z ∈ ks ↔ z ∈ us) ∧ (∀ e ∈ es.toList, e.2 ∈ its) ∧ (t.mask = 7 → es.size ≤ 4)
theorem keyOk.mono {h h' : Heap} (k : ∀ b o, h.get? b = some o → o.cls = .type "tuple" → h'.get? b = some o) {x : T} {e : Int × Value} (p : keyOk h x e) : keyOk h' x e := by
  obtain ⟨h1, h2, c, h3, h4⟩ := p
  exact ⟨h1, h2, c, h3, At.mono (fun b o e1 e2 _ => k b o e1 e2) _ _ h4⟩
theorem paired_imp {α β : Type} {R R' : α → β → Prop} (f : ∀ x y, R x y → R' x y) : ∀ {xs : List α} {ys : List β}, Paired R xs ys → Paired R' xs ys
  | _, _, .nil => .nil
  | _, _, .cons p r => .cons (f _ _ p) (paired_imp f r)
theorem BodyN.mono {h h' : Heap} {es : Array (Int × Value)} {t : SetTable} {led : Bool} {ks : List T} (b : BodyN h es t led ks) (k : ∀ b o, h.get? b = some o → o.cls = .type "tuple" → h'.get? b = some o) : BodyN h' es t led ks := ⟨paired_imp (fun _ _ p => p.mono k) b.el, b.nd, b.tb, b.mask, b.lies⟩
/-- a key is put in -/
theorem BodyN.put {h : Heap} {es : Array (Int × Value)} {t : SetTable} {led : Bool} {ks : List T} (b : BodyN h es t led ks) {k : T} {c : Addr} (hk : At h k c) (hd : k.depth ≤ 7) (hno : k ∉ ks) {E : Nat} (he : t.slot (plc t (hash k) E) = .empty) (hb : ∀ m, m < E → t.slot (plc t (hash k) m) ≠ .empty) (hroom : es.size + 1 ≤ t.mask) :
    BodyN h (SetTable.insertAt es (t.put (plc t (hash k) E)).2 (hash k, .ref c)) (t.put (plc t (hash k) E)).1 led (ks.take (t.put (plc t (hash k) E)).2 ++ k :: ks.drop (t.put (plc t (hash k) E)).2) := by
  have pz := pz_of b.tb
  have ok1 := put_ok b.tb.ok he
  have hp : (t.put (plc t (hash k) E)).2 ≤ es.size := by rw [← pz.1]; exact (below_is b.tb.ok.up _).1
  have pz1 : (t.put (plc t (hash k) E)).1.place.size = es.size + 1 := by show (SetTable.insertAt t.place _ _).size = _; rw [insertAt_size, pz.1]
  refine ⟨?_, ?_, ⟨?_, ok1, b.tb.plain⟩, b.mask, ?_⟩
  · rw [insertAt_list]
    exact paired_app (paired_take _ b.el) (.cons ⟨rfl, hd, c, rfl, hk⟩ (paired_drop _ b.el))
  · have pm : (ks.take (t.put (plc t (hash k) E)).2 ++ k :: ks.drop (t.put (plc t (hash k) E)).2).Perm (k :: ks) := by
      refine List.perm_middle.trans ?_
      rw [List.take_append_drop]
    exact pm.nodup_iff.mpr (List.nodup_cons.mpr ⟨hno, b.nd⟩)
  · rw [insertAt_size]
    simp only [SetTable.fits, Bool.and_eq_true, beq_iff_eq, decide_eq_true_eq]
    refine ⟨pz1, ?_⟩
    unfold SetTable.fill
    rw [pz1, ok1.none]
    exact hroom
  · have L := b.lies.put b.tb.ok he hb
    intro r hr
    have e : hashAt (SetTable.insertAt es (t.put (plc t (hash k) E)).2 (hash k, .ref c)) r = inH (hashAt es) (t.put (plc t (hash k) E)).2 (hash k) r := by
      rw [hashAt_get, insertAt_get es _ _ hp r]
      unfold inH
      split
      · rw [hashAt_get]
      · split
        · rfl
        · rw [hashAt_get]
    rw [e]
    exact L r hr
theorem nodup_map_on {α β : Type} {f : α → β} : ∀ {l : List α}, (∀ x ∈ l, ∀ y ∈ l, f x = f y → x = y) → l.Nodup → (l.map f).Nodup
  | [], _, _ => by simp
  | a :: l, h, nd => by
    obtain ⟨n1, n2⟩ := List.nodup_cons.mp nd
    rw [List.map_cons, List.nodup_cons]
    refine ⟨fun hm => ?_, nodup_map_on (fun x hx y hy => h x (by simp [hx]) y (by simp [hy])) n2⟩
    obtain ⟨x, hx, e⟩ := List.mem_map.mp hm
    exact n1 (h a (by simp) x (by simp [hx]) e.symm ▸ hx)
theorem filterMap_get {α : Type} (es : Array α) (d : α) : ∀ (l : List Nat), (∀ i ∈ l, i < es.size) → l.filterMap (es[·]?) = l.map fun i => es.getD i d
  | [], _ => rfl
  | i :: l, h => by
    have hi := h i (by simp)
    rw [List.filterMap_cons, Array.getElem?_eq_getElem hi, filterMap_get es d l fun j hj => h j (by simp [hj]), List.map_cons, Array.getD_eq_getD_getElem?, Array.getElem?_eq_getElem hi]
    rfl
theorem paired_pick {α β : Type} {R : α → β → Prop} {xs : List α} {ys : List β} (p : Paired R xs ys) (a : α) (b : β) : ∀ (l : List Nat), (∀ i ∈ l, i < xs.length) → Paired R (l.map fun i => xs.getD i a) (l.map fun i => ys.getD i b)
  | [], _ => .nil
  | i :: l, h => by
    have hi := h i (by simp)
    have get : ∀ {xs : List α} {ys : List β}, Paired R xs ys → ∀ {i : Nat}, i < xs.length → R (xs.getD i a) (ys.getD i b) := fun {xs ys} q => by
      induction q with
      | nil => intro i h; simp at h
      | cons r _ ih =>
        intro i h
        cases i with
        | zero => simpa using r
        | succ i => simpa using ih (by simpa using h)
    exact .cons (get p hi) (paired_pick p a b l fun j hj => h j (by simp [hj]))
/-- the table is laid anew -/
theorem BodyN.relay {h : Heap} {es : Array (Int × Value)} {t : SetTable} {led : Bool} {ks : List T} (b : BodyN h es t led ks) (hn : es.size ≤ 31) {wanted : Nat} (hw : SetTable.sizeAbove wanted = 32) :
    ∃ t' order, t.relaid (es.map (·.1)) wanted = some (t', order) ∧ (order.filterMap (es[·]?)).size = es.size ∧ t'.mask = 31 ∧ (∀ e ∈ (order.filterMap (es[·]?)).toList, e ∈ es.toList) ∧ ∃ ks', BodyN h (order.filterMap (es[·]?)) t' led ks' ∧ ∀ z, z ∈ ks' ↔ z ∈ ks := by
  have hs : (es.map (·.1)).size = es.size := Array.size_map ..
  obtain ⟨t', order, e1, ok, em, ep, _, ps, os, nd, lt, L⟩ := laid_full (mask := SetTable.sizeAbove wanted - 1) (by rw [hw]; exact .inr rfl) t.finger (t.movedTo (SetTable.sizeAbove wanted - 1)) t.led t.plain (hashes := es.map (·.1)) (by rw [hw, hs]; exact hn)
  rw [b.tb.ok.led] at e1 ok
  have hlen : ks.length = es.size := by rw [Paired.length b.el, Array.length_toList]
  rw [hs] at ps os lt
  have ef : (order.filterMap (es[·]?)).toList = order.toList.map fun i => es.getD i (0, .none) := by
    rw [Array.toList_filterMap]
    exact filterMap_get es _ _ lt
  have ez : (order.filterMap (es[·]?)).size = es.size := by
    rw [← Array.length_toList, ef, List.length_map, Array.length_toList, os]
  have cov : ∀ i, i < es.size → i ∈ order.toList := fun i hi => by
    apply Classical.byContradiction
    intro hno
    have := nodup_le (List.nodup_cons.mpr ⟨hno, nd⟩) (ks := List.range es.size) fun z hz => by
      rcases List.mem_cons.mp hz with rfl | hz
      · exact List.mem_range.mpr hi
      · exact List.mem_range.mpr (lt z hz)
    rw [List.length_cons, Array.length_toList, List.length_range, os] at this
    omega
  have em31 : t'.mask = 31 := by rw [em, hw]
  refine ⟨t', order, by unfold SetTable.relaid; rw [b.tb.ok.led]; exact e1, ez, em31, fun e he => ?_, order.toList.map fun i => ks.getD i .nil, ⟨?_, ?_, ⟨?_, ok, ep.trans b.tb.plain⟩, .inr em31, fun r hr => ?_⟩, fun z => ?_⟩
  · rw [ef] at he
    obtain ⟨i, hi, rfl⟩ := List.mem_map.mp he
    rw [Array.getD_eq_getD_getElem?, Array.getElem?_eq_getElem (lt i hi)]
    exact Array.mem_toList_iff.mpr (Array.getElem_mem _)
  · rw [ef]
    have := paired_pick b.el T.nil (0, Value.none) order.toList fun i hi => by rw [hlen]; exact lt i hi
    have e2 : (order.toList.map fun i => es.toList.getD i (0, Value.none)) = order.toList.map fun i => es.getD i (0, .none) := List.map_congr_left fun i hi => by
      rw [List.getD_eq_getElem?_getD, Array.getElem?_toList, Array.getD_eq_getD_getElem?]
    rw [e2] at this
    exact this
  · refine nodup_map_on (fun x hx y hy e => ?_) nd
    have hx' : x < ks.length := by rw [hlen]; exact lt x hx
    have hy' : y < ks.length := by rw [hlen]; exact lt y hy
    rw [List.getD_eq_getElem?_getD, List.getD_eq_getElem?_getD, List.getElem?_eq_getElem hx', List.getElem?_eq_getElem hy'] at e
    exact (List.getElem_inj (h₀ := hx') (h₁ := hy') b.nd).mp (by simpa using e)
  · rw [ez]
    simp only [SetTable.fits, Bool.and_eq_true, beq_iff_eq, decide_eq_true_eq]
    refine ⟨ps, ?_⟩
    unfold SetTable.fill
    rw [ps, ok.none, em31]
    exact hn
  · have e : hashAt (order.filterMap (es[·]?)) r = ((es.map (·.1))[order.getD r 0]?).getD 0 := by
      rw [ps] at hr
      have hro : r < order.size := by rw [os]; exact hr
      unfold hashAt
      have ho : order.getD r 0 = order[r] := by rw [Array.getD_eq_getD_getElem?, Array.getElem?_eq_getElem hro]; rfl
      have hlt : order[r] < es.size := lt _ (Array.mem_toList_iff.mpr (Array.getElem_mem hro))
      rw [← Array.getElem?_toList, ef, List.getElem?_map, Array.getElem?_toList, Array.getElem?_eq_getElem hro, ho, Array.getElem?_map, Array.getElem?_eq_getElem hlt]
      show (es.getD order[r] (0, .none)).1 = es[order[r]].1
      rw [Array.getD_eq_getD_getElem?, Array.getElem?_eq_getElem hlt]; rfl
    rw [e]
    exact L r hr
  · constructor
    · intro hz
      obtain ⟨i, hi, rfl⟩ := List.mem_map.mp hz
      have hi' : i < ks.length := by rw [hlen]; exact lt i hi
      rw [List.getD_eq_getElem?_getD, List.getElem?_eq_getElem hi']
      exact List.getElem_mem _
    · intro hz
      obtain ⟨i, hi, e⟩ := List.getElem_of_mem hz
      refine List.mem_map.mpr ⟨i, cov i (by rw [← hlen]; exact hi), ?_⟩
      rw [List.getD_eq_getElem?_getD, List.getElem?_eq_getElem hi]
      exact e
end SET
set_option Elab.async false
set_option linter.all false
set_option maxRecDepth 100000
/-! ### set(a list of nests) -/
namespace SET
open PySem PySem.Spec NM ND PyProof.Rows
theorem turns_small {t : SetTable} (hm : t.mask = 7 ∨ t.mask = 31) : 10 * SetTable.turns t.mask ≤ 460 := by
  unfold SetTable.turns
  rcases hm with e | e <;> omega
section
variable {prog : Program} {w : World}
theorem search_nest {A : Around} {E : Value → Shared → Prop} {s : Shared} {a c : Addr} {es : Array (Int × Value)} {ep : Nat} {t : SetTable} {led : Bool} {ks : List T} {k : T} {Q : SetFound → Shared → Prop} (hu : A.units + 10 < cLine) (ho : s.heap.get? a = some (setObj es ep t)) (b : BodyN s.heap es t led ks) (hk : At s.heap k c) (hd : k.depth ≤ 7)
    (q1 : k ∈ ks → Q (.there none) s) (q2 : ∀ E0, t.slot (plc t (hash k) E0) = .empty → (∀ m, m < E0 → t.slot (plc t (hash k) m) ≠ .empty) → k ∉ ks → Q (.free (plc t (hash k) E0) false) s) : wpAny (model prog w) A (setSearch a (.ref c) (hash k) true) Q E s := by
  obtain ⟨E0, h1, h2, h3⟩ := first_free b.tb b.mask (hash k)
  have := turns_small b.mask
  exact search_from hu ho b hk hd h2 h3 q1 (q2 E0 h2 h3) E0 0 100000 none (by omega) (by omega) rfl fun m hm => absurd hm (Nat.not_lt_zero m)
theorem tup_keep {h : Heap} {a : Addr} {es : Array (Int × Value)} {ep : Nat} {t : SetTable} {h' : Heap} (ho : h.get? a = some (setObj es ep t)) (sb : Heap.SameBut a h h') : ∀ b o, h.get? b = some o → o.cls = .type "tuple" → h'.get? b = some o := fun b o e c => by
  have hne : b ≠ a := fun z => by
    rw [z, ho] at e
    cases e
    exact absurd (Value.type.inj c) (by decide)
  exact (sb.2 b hne).trans e
/-- one nest is added -/
theorem add_nest {A : Around} {E : Value → Shared → Prop} {s : Shared} {a c : Addr} {led : Bool} {its : List Value} {us : List T} {k : T} {Q : Bool → Shared → Prop} (hu : A.units + 10 < cLine) (hS : SetN s.heap a led its us) (hk : At s.heap k c) (hd : k.depth ≤ 7) (hc : Value.ref c ∈ its) (hroom : us.length ≤ 10)
    (q : ∀ r h', Heap.SameBut a s.heap h' → SetN h' a led its (k :: us) → Q r { s with heap := h' }) : wpAny (model prog w) A (setAddHashed a (.ref c) (hash k)) Q E s := by
  obtain ⟨es, ep, t, ks, ho, b, hmem, hits, h7⟩ := hS
  have hlen : ks.length = es.size := by rw [Paired.length b.el, Array.length_toList]
  have hsz : es.size ≤ 10 := by
    have := nodup_le b.nd fun z hz => (hmem z).1 hz
    omega
  unfold setAddHashed setAddHashedIn
  refine wpAny_holding (wpAny_bind (wpAny_setState_of ho rfl b.tb.fits ?_))
  dsimp only
  rw [show byScan (Value.ref c) es = false from rfl]
  refine wpAny_ite_split (fun z => absurd z (by decide)) fun _ => ?_
  refine wpAny_bind (search_nest hu ho b hk hd (fun hin => ?_) fun E0 h1 h2 hno => ?_)
  · exact wpAny_pure (q _ s.heap (Heap.SameBut.refl a s.heap) ⟨es, ep, t, ks, ho, b, fun z => (hmem z).trans ⟨fun h => by simp [h], fun h => by
      rcases List.mem_cons.mp h with rfl | h
      · exact (hmem _).1 hin
      · exact h⟩, hits, h7⟩)
  · dsimp only
    refine wpAny_bind (wpAny_setState_of ho rfl b.tb.fits ?_)
    dsimp only
    have hroom' : es.size + 1 ≤ t.mask := by
      rcases b.mask with e | e
      · have := h7 e; omega
      · omega
    have b1 := b.put hk hd hno h1 h2 hroom'
    have pz1 : (t.put (plc t (hash k) E0)).1.place.size = es.size + 1 := by
      have := (pz_of b1.tb).1
      rw [insertAt_size] at this
      exact this
    rw [show (t.put (plc t (hash k) E0)).1.plain = true from b.tb.plain, if_pos rfl]
    refine wpAny_bind (byValue_nest k 8 (by omega) hk ?_)
    rw [if_pos rfl]
    have sz1 : (SetTable.insertAt es (t.put (plc t (hash k) E0)).2 (hash k, Value.ref c)).size = es.size + 1 := insertAt_size ..
    refine wpAny_bind (wpAny_storeSet_of ho rfl ?_ (by rw [sz1, sizeLine_eq]; omega))
    have sb := Heap.SameBut.update s.heap a (Obj.putSet (SetTable.insertAt es (t.put (plc t (hash k) E0)).2 (hash k, Value.ref c)) (t.put (plc t (hash k) E0)).1)
    have ho1 := put_get (es' := SetTable.insertAt es (t.put (plc t (hash k) E0)).2 (hash k, Value.ref c)) (t' := (t.put (plc t (hash k) E0)).1) ho
    have b2 := b1.mono (tup_keep ho sb)
    have mem1 : ∀ z, z ∈ ks.take (t.put (plc t (hash k) E0)).2 ++ k :: ks.drop (t.put (plc t (hash k) E0)).2 ↔ z ∈ k :: us := fun z => by
      have pm : (ks.take (t.put (plc t (hash k) E0)).2 ++ k :: ks.drop (t.put (plc t (hash k) E0)).2).Perm (k :: ks) := by
        refine List.perm_middle.trans ?_
        rw [List.take_append_drop]
      rw [pm.mem_iff, List.mem_cons, List.mem_cons, hmem z]
    have its1 : ∀ e ∈ (SetTable.insertAt es (t.put (plc t (hash k) E0)).2 (hash k, Value.ref c)).toList, e.2 ∈ its := fun e he => by
      rw [insertAt_list] at he
      rcases List.mem_append.mp he with he | he
      · exact hits e (List.mem_of_mem_take he)
      · rcases List.mem_cons.mp he with rfl | he
        · exact hc
        · exact hits e (List.mem_of_mem_drop he)
    have tf : (t.put (plc t (hash k) E0)).1.tooFull = decide ((es.size + 1) * 5 ≥ t.mask * 3) := by
      unfold SetTable.tooFull SetTable.fill
      rw [pz1, b1.tb.ok.none]
      rfl
    refine wpAny_ite_split (fun hfull => ?_) fun hnot => ?_
    · rw [tf] at hfull
      have hfull : (es.size + 1) * 5 ≥ t.mask * 3 := by simpa using hfull
      have e5 : t.mask = 7 ∧ es.size = 4 := by
        rcases b.mask with e | e
        · have := h7 e
          rw [e] at hfull
          exact ⟨e, by omega⟩
        · rw [e] at hfull
          omega
      obtain ⟨t', order, r1, r2, r3, r4, ks', b3, m3⟩ := b2.relay (wanted := SetTable.grown (es.size + 1)) (by rw [sz1]; omega) (by rw [e5.2]; rfl)
      refine wpAny_bind ?_
      unfold setRelay
      refine wpAny_bind (wpAny_setState_of ho1 rfl b2.tb.fits ?_)
      dsimp only
      refine wpAny_ite_split (fun z => absurd z (by rw [e5.2, sizeLine_eq]; decide)) fun _ => ?_
      rw [r1]
      refine wpAny_bind ?_
      show wpAny _ _ (if (_ != _) = true then _ else pure (_, _)) _ _ _
      refine wpAny_ite_split (fun z => absurd z (by rw [r2, bne_self_eq_false]; decide)) fun _ => wpAny_pure ?_
      refine wpAny_storeSet_of ho1 rfl (wpAny_pure ?_) (by rw [r2, sz1, sizeLine_eq]; omega)
      have sb2 := Heap.SameBut.update (s.heap.update a (Obj.putSet (SetTable.insertAt es (t.put (plc t (hash k) E0)).2 (hash k, Value.ref c)) (t.put (plc t (hash k) E0)).1)) a (Obj.putSet (order.filterMap ((SetTable.insertAt es (t.put (plc t (hash k) E0)).2 (hash k, Value.ref c))[·]?)) t')
      exact q _ _ (sb.trans sb2) ⟨_, _, _, ks', put_get ho1, b3.mono (tup_keep ho1 sb2), fun z => (m3 z).trans (mem1 z), fun e he => its1 e (r4 e he), fun e => by rw [r3] at e; cases e⟩
    · refine wpAny_pure (q _ _ sb ⟨_, _, _, _, ho1, b2, mem1, its1, fun e => ?_⟩)
      rw [sz1]
      rw [tf] at hnot
      have e : t.mask = 7 := e
      have hnot : ¬ ((es.size + 1) * 5 ≥ t.mask * 3) := fun z => hnot (by simpa using z)
      rw [e] at hnot
      omega
end
theorem SetN.at {h h' : Heap} {a : Addr} {led : Bool} {its : List Value} {us : List T} (hS : SetN h a led its us) (k : ∀ o, h.get? a = some o → h'.get? a = some o) (kt : ∀ b o, h.get? b = some o → o.cls = .type "tuple" → h'.get? b = some o) : SetN h' a led its us := by
  obtain ⟨es, ep, t, ks, ho, b, r⟩ := hS
  exact ⟨es, ep, t, ks, k _ ho, b.mono kt, r⟩
theorem SetN.swap {h : Heap} {a : Addr} {led : Bool} {its : List Value} {us us' : List T} (hS : SetN h a led its us) (e : ∀ z, z ∈ us ↔ z ∈ us') : SetN h a led its us' := by
  obtain ⟨es, ep, t, ks, ho, b, m, r⟩ := hS
  exact ⟨es, ep, t, ks, ho, b, fun z => (m z).trans (e z), r⟩
theorem fresh_setN {h : Heap} {a : Addr} {led : Bool} {its : List Value} (ho : h.get? a = some (setObj #[] 0 (.fresh 0 0 led))) : SetN h a led its [] :=
  ⟨#[], 0, _, [], ho, ⟨.nil, by simp, ⟨rfl, ⟨Up.empty, rfl, rfl⟩, rfl⟩, .inl rfl, Lies.none rfl⟩, fun z => Iff.rfl, fun e he => by simp at he, fun _ => Nat.zero_le _⟩
section
variable {prog : Program} {w : World} {A : Around} {R : Result → Shared → Prop} {it l : Addr} {items : Array Value}
/-- the loop behind set(a list of nests) -/
theorem upd_loopN (hh : A.in1.handled = none) (hne : l ≠ it) {S : Addr} (hSi : S ≠ it) (hSl : S ≠ l) {led : Bool} (hu : A.in1.units + 10 < cLine) (ts : List T) (hd : ∀ k ∈ ts, k.depth ≤ 7) (hb : ts.length ≤ 10) (left : Nat) :
    ∀ (i : Nat) (s : Shared), i + left = items.size → (s.heap.IsListIter it l i ∧ s.heap.IsList l items) → Row s.heap ts items.toList → SetN s.heap S led items.toList (ts.take i).reverse →
      (∀ h' tk, (∀ b o, b ≠ S → b ≠ it → s.heap.get? b = some o → h'.get? b = some o) → SetN h' S led items.toList ts → R (.ok (.ret .none)) { s with heap := h', toks := tk }) → codeAny (model prog w) A (.builtin "set.update.loop" ⟨[.ref S, .ref it], []⟩) R s := by
  have W := Walks.list (prog := prog) (w := w) (A := A.in1) hh it l hne items
  induction left with
  | zero =>
    intro i s hi st hrow hS hR
    have hi : i = items.size := by omega
    subst hi
    refine codeAny_builtin F.entry_set_update_loop ?_
    rw [Around.under_plainId F.plain_set_update_loop]
    unfold Builtin.«set.update.loop»
    have hl : ts.length = items.size := by
      have := Paired.length hrow
      simpa using this
    rw [List.take_of_length_le (by omega)] at hS
    refine wpAny_bind (W.done s _ _ st fun h' tk mv => wpAny_pure (hR h' tk (fun b o _ hb e => mv b o (by simpa using hb) e) ((hS.at (fun o e => mv S o (by simpa using hSi) e) fun b o e c => mv b o ?_ e).swap fun z => List.mem_reverse)))
    intro z
    have z : b = it := by simpa using z
    obtain ⟨o', ho', hc', _⟩ := st.1
    rw [z, ho'] at e
    cases e
    rw [hc'] at c
    exact absurd (Value.type.inj c) (by decide)
  | succ left ih =>
    intro i s hi st hrow hS hR
    refine codeAny_builtin F.entry_set_update_loop ?_
    rw [Around.under_plainId F.plain_set_update_loop]
    unfold Builtin.«set.update.loop»
    have hl : ts.length = items.size := by
      have := Paired.length hrow
      simpa using this
    have iti : ∀ b o, s.heap.get? b = some o → o.cls = .type "tuple" → b ≠ it := fun b o e c z => by
      obtain ⟨o', ho', hc', _⟩ := st.1
      rw [z, ho'] at e
      cases e
      rw [hc'] at c
      exact absurd (Value.type.inj c) (by decide)
    refine wpAny_bind (W.item i s _ _ (by omega) st fun v h1 tk hP st' mv => ?_)
    have mv' : ∀ b o, b ≠ it → s.heap.get? b = some o → h1.get? b = some o := fun b o hb e => mv b o (by simpa using hb) e
    have kt : ∀ b o, s.heap.get? b = some o → o.cls = .type "tuple" → h1.get? b = some o := fun b o e c => mv' b o (iti b o e c) e
    have hii : i < ts.length := by omega
    have row1 : Row h1 ts items.toList := row_mono (fun m _ a x => At.mono (fun b o e c _ => kt b o e c) m a x) hrow
    obtain ⟨c, rfl, hk⟩ : ∃ c, v = .ref c ∧ At h1 ts[i] c := by
      have get : ∀ {xs : List T} {zs : List Value}, Row h1 xs zs → ∀ {i : Nat} {z : Value}, zs[i]? = some z → ∃ t c, xs[i]? = some t ∧ z = .ref c ∧ At h1 t c := fun {xs zs} p => by
        induction p with
        | nil => intro i z h; simp at h
        | cons r _ ih2 =>
          intro i z h
          cases i with
          | zero => simp at h; subst h; obtain ⟨c, e, x⟩ := r; exact ⟨_, c, rfl, e, x⟩
          | succ i => simpa using ih2 (by simpa using h)
      obtain ⟨t, c, e1, e2, e3⟩ := get row1 (i := i) (z := v) (by rw [Array.getElem?_toList]; exact hP)
      rw [List.getElem?_eq_getElem hii] at e1
      cases e1
      exact ⟨c, e2, e3⟩
    have hS1 := hS.at (h' := h1) (fun o e => mv' S o hSi e) kt
    have dk := hd ts[i] (List.getElem_mem hii)
    dsimp only
    refine wpAny_bind (wpAny_holding ?_)
    unfold setAdd
    refine wpAny_holding (wpAny_bind (pyHash_nest ts[i] (by omega) hk ?_))
    refine add_nest (s := { s with heap := h1, toks := _ }) hu hS1 hk dk (Array.mem_toList_iff.mpr (Array.mem_of_getElem? hP)) (by rw [List.length_reverse, List.length_take]; omega) fun r h2 sb hS2 => ?_
    have e : ts.take (i + 1) = ts.take i ++ [ts[i]] := by rw [List.take_succ, List.getElem?_eq_getElem hii]; rfl
    have hS3 : SetN h2 S led items.toList (ts.take (i + 1)).reverse := by rw [e, List.reverse_append]; exact hS2
    have kS : ∀ b o, b ≠ S → h1.get? b = some o → h2.get? b = some o := fun b o hb eo => (sb.2 b hb).trans eo
    obtain ⟨es, ep, t, ks, ho1, _⟩ := hS1
    have row2 : Row h2 ts items.toList := row_mono (fun m _ a x => At.mono (fun b o e c _ => tup_keep ho1 sb b o e c) m a x) row1
    have st2 := W.frame (i + 1) h1 h2 st' fun b hb o eo => kS b o (fun z => by
      rcases List.mem_cons.mp hb with y | y
      · exact hSi (z.symm.trans y)
      · exact hSl (z.symm.trans (by simpa using y))) eo
    refine wpAny_pure ⟨plainId_quiet F.plain_set_update_loop _, ih (i + 1) _ (by omega) st2 row2 hS3 fun h3 tk3 keep hS4 => ?_⟩
    exact hR h3 tk3 (fun b o hbS hbi eo => keep b o hbS hbi (kS b o hbS (mv' b o hbi eo))) hS4
end
end SET
set_option Elab.async false
set_option linter.all false
set_option maxRecDepth 100000
namespace SET
open PySem PySem.Spec NM ND PyProof.Rows
section
variable {prog : Program} {w : World} {A : Around} {E : Value → Shared → Prop} {s : Shared}
/-- its __init__ with a list of nests -/
theorem filledN {S l : Addr} {led : Bool} {items : Array Value} {ts : List T} {R : Result → Shared → Prop} (hh : A.handled = none) (hu : A.units + 12 < cLine) (hS : s.heap.get? S = some (setObj #[] 0 (.fresh 0 0 led))) (hl : s.heap.IsList l items) (hr : Row s.heap ts items.toList) (hd : ∀ k ∈ ts, k.depth ≤ 7) (hb : ts.length ≤ 10)
    (q : ∀ h' tk, SetN h' S led items.toList ts → (∀ b o, b < s.heap.objs.size → b ≠ S → s.heap.get? b = some o → h'.get? b = some o) → R (.ok (.ret .none)) { s with heap := h', toks := tk }) :
    codeAny (model prog w) A (.call (.builtin "set.__init__") ⟨[.ref S, .ref l], []⟩) R s := by
  refine codeAny_call_builtin F.called_set.init.plain F.entry_set_init (check_set_init_1 ⟨_, hS, rfl⟩ ?_)
  obtain ⟨⟨ocls, odict, odata, oslots⟩, hol, hcl, nl, hdl⟩ := id hl
  simp only at hcl hdl
  subst hcl hdl
  have no1 := F.sub_list_set
  have no2 := F.sub_list_frozenset
  have no3 : (Value.type "list" == Value.type "dict") = false := by decide
  have hlS : l ≠ S := fun e => by rw [e, hS] at hol; exact absurd (Value.type.inj (congrArg Obj.cls (Option.some.inj hol))) (by decide)
  unfold Builtin.«set.__init__» noKeywords Builtin.Frozenset.updateFrom
  wp_walk using wpAny_pyIter_list hl
  have lS : S < s.heap.objs.size := Heap.lt_size hS
  have ll : l < s.heap.objs.size := Heap.lt_size hol
  have hne : l ≠ s.heap.objs.size := Nat.ne_of_lt ll
  refine upd_loopN (by simp [hh]) hne (S := S) (Nat.ne_of_lt lS) hlS.symm (led := led) ?_ ts hd hb items.size 0 _ (by omega) ⟨⟨_, Heap.get?_push_size _ rfl, rfl, rfl⟩, hl.push _⟩ (row_mono (fun m _ a x => At.mono (fun b o e _ _ => Heap.get?_push_of_some _ e) m a x) hr) (fresh_setN (Heap.get?_push_of_some _ hS)) fun h' tk keep hS' => ?_
  · show A.units + 1 + 1 + 10 < cLine
    omega
  · refine wpAny_pure (wpAny_pure (q h' tk hS' fun b o hb hbS eo => keep b o hbS (Nat.ne_of_lt hb) (Heap.get?_push_of_some _ eo)))
/-- set(a list of nests) -/
theorem call_set_nests {l : Addr} {items : Array Value} {ts : List T} {Q : Value → Shared → Prop} (hh : A.handled = none) (hu : A.units + 20 < cLine) (hl : s.heap.IsList l items) (hr : Row s.heap ts items.toList) (hd : ∀ k ∈ ts, k.depth ≤ 7) (hb : ts.length ≤ 10)
    (q : ∀ h' tk, SetN h' s.heap.objs.size (ledOf w) items.toList ts → (∀ b o, b < s.heap.objs.size → s.heap.get? b = some o → h'.get? b = some o) → Q (.ref s.heap.objs.size) { s with heap := h', toks := tk }) :
    wpAny (model prog w) A (call (.type "set") [.ref l]) Q E s := by
  have f1 := F.called_set.notType
  have f2 := F.called_set.canCreate
  have f3 := F.typeCall_set_1 (.ref l)
  have f4 := F.called_set.made
  have f5 := F.called_set.sub
  obtain ⟨c, tl, f6⟩ := F.called_set.mro
  refine wpAny_call (codeAny_of_tree (wpAny_pure ⟨Code.quiet_builtin _ (by decide +kernel), codeAny_builtin F.entry_type_call ?_⟩))
  rw [Around.under_plain (weight_type_call_type "set" [.ref l] []) rfl]
  all_goals repeat' (first | assumption | wp_step)
  refine codeAny_mono (made (Q₁ := fun v s1 => v = .ref s.heap.objs.size ∧ s1 = { s with heap := s.heap.push (setObj #[] 0 (.fresh 0 0 (ledOf w))) }) (E := E) ⟨rfl, rfl⟩) fun r s1 hr' => ?_
  match r, hr' with
  | .error e, hr' => exact hr'
  | .ok (.ret v), ⟨e1, e2⟩ =>
    subst e1 e2
    have hS : (s.heap.push (setObj #[] 0 (.fresh 0 0 (ledOf w)))).get? s.heap.objs.size = some (setObj #[] 0 (.fresh 0 0 (ledOf w))) := Heap.get?_push_size _ rfl
    have hT : Shared.TypeIs { s with heap := s.heap.push (setObj #[] 0 (.fresh 0 0 (ledOf w))) } (.ref s.heap.objs.size) "set" := ⟨_, hS, rfl⟩
    have f7 := F.called_set.init.lookup
    have f8 := F.called_set.init.bind (.ref s.heap.objs.size)
    all_goals repeat' (first | assumption | wp_step)
    refine filledN (s := { s with heap := s.heap.push (setObj #[] 0 (.fresh 0 0 (ledOf w))) }) (by simp [hh]) ?_ hS (hl.push _) (row_mono (fun m _ a x => At.mono (fun b o e _ _ => Heap.get?_push_of_some _ e) m a x) hr) hd hb fun h' tk hS' keep => ?_
    · show A.units + 1 + 12 < cLine
      omega
    · refine wpAny_pure (wpAny_pure (q h' tk hS' fun b o hb eo => keep b o ?_ (Nat.ne_of_lt hb) (Heap.get?_push_of_some _ eo)))
      rw [Heap.size_push]
      exact Nat.lt_succ_of_lt hb
  | .ok .next, hr' => exact hr'.elim
  | .ok .brk, hr' => exact hr'.elim
  | .ok .cont, hr' => exact hr'.elim
end
end SET
set_option Elab.async false
set_option linter.all false
set_option maxRecDepth 100000
/-! ### sorted(a set of nests) -/
namespace SET
open PySem PySem.Spec NM ND PyProof.Rows PySem.W
section
variable {prog : Program} {w : World} {A : Around} {E : Value → Shared → Prop} {s : Shared}
/-- list.sort() of unlike nests -/
theorem sort_nests {a : Addr} {vs : List Value} {ts : List T} {n : Nat} {P : PySem.Fin → Shared → Prop} (hu : A.units + 20 < cLine) (ho : s.heap.get? a = some (seqObj "list" vs.toArray n)) (row : Row s.heap ts vs) (nd : ts.Nodup) (hd : ∀ k ∈ ts, k.depth ≤ 7) (h64 : vs.length < 64)
    (h : ∀ (p : List Nat), p.Perm (List.range vs.length) → (p.Pairwise fun i j => T.lt (ts.getD i .nil) (ts.getD j .nil) = true) → P (.done (.ret .none)) { s with heap := sortedHeap s.heap a vs (List.toArray (p.map fun i => vs.getD i Value.none)) }) :
    wpAny (model prog w) A (Builtin.«list.sort» ⟨[.ref a], []⟩) P E s := by
  rw [list_sort_plain]
  have hlen : ts.length = vs.length := Paired.length row
  have ha : a < s.heap.objs.size := Heap.lt_size ho
  refine wpAny_bind (listItems_at ho rfl ?_)
  refine wpAny_bind (listUpdate_at ho rfl ?_ (by rw [List.size_toArray, sizeLine_eq]; omega) (Nat.zero_le _))
  obtain ⟨e1, ho1⟩ : ∃ e1, (s.heap.update a (Obj.mapSeq fun _ => (#[] : Array Value))).get? a = some (seqObj "list" #[] e1) := ⟨_, get?_update_seq ho fun _ => #[]⟩
  refine wpAny_bind (seqEpoch_at ho1 rfl ?_)
  refine wpAny_bind (wpAny_newTuple ?_ (by show vs.length ≤ _; rw [sizeLine_eq]; omega))
  refine wpAny_bind (wpAny_newList ?_ (Nat.zero_le _))
  refine wpAny_holding ?_
  have ho6 : (((s.heap.update a (Obj.mapSeq fun _ => (#[] : Array Value))).push (seqObj "tuple" vs.toArray 0)).push (seqObj "list" #[] 0)).get? a = some (seqObj "list" #[] e1) := Heap.get?_push_of_some _ (Heap.get?_push_of_some _ ho1)
  show wpAny (model prog w) A _ P E { s with heap := ((s.heap.update a (Obj.mapSeq fun _ => (#[] : Array Value))).push (seqObj "tuple" vs.toArray 0)).push (seqObj "list" #[] 0) }
  have keep : ∀ b o, s.heap.get? b = some o → o.cls = .type "tuple" → (((s.heap.update a (Obj.mapSeq fun _ => (#[] : Array Value))).push (seqObj "tuple" vs.toArray 0)).push (seqObj "list" #[] 0)).get? b = some o := fun b o e c => by
    have hne : a ≠ b := fun z => by
      rw [← z, ho] at e
      cases e
      exact absurd (Value.type.inj c) (by decide)
    exact Heap.get?_push_of_some _ (Heap.get?_push_of_some _ ((Heap.get?_update_other _ _ hne).trans e))
  have row6 : Row (((s.heap.update a (Obj.mapSeq fun _ => (#[] : Array Value))).push (seqObj "tuple" vs.toArray 0)).push (seqObj "list" #[] 0)) ts vs := row_mono (fun m _ a x => At.mono (fun b o e c _ => keep b o e c) m a x) row
  dsimp only
  by_cases h2 : vs.length < 2
  · have hn2 : vs.toArray.size < 2 := by rw [List.size_toArray]; exact h2
    rw [if_pos hn2, if_pos hn2]
    refine wpAny_bind (wpAny_pure ?_)
    rw [StateT.run_pure]
    refine wpAny_bind (wpAny_pure ?_)
    dsimp only
    have eo : (arrOf (SortSt.mk' general' (vs.toArray.zip vs.toArray) #[] 7 none)).map (·.2) = List.toArray ((List.range vs.length).map fun i => vs.getD i Value.none) := by
      show (vs.toArray.zip vs.toArray).map (·.2) = _
      apply Array.toList_inj.mp
      simp only [Array.toList_map, Array.toList_zip, List.toList_toArray]
      rw [List.map_snd_zip (by omega)]
      apply List.ext_getElem
      · simp
      · intro i h1 h3
        simp [List.getD_eq_getElem?_getD, h1]
    refine wpAny_bind (seqEpoch_at ho6 rfl ?_)
    rw [eo]
    refine wpAny_bind (listUpdate_at ho6 rfl ?_ (Nat.zero_le _) (by rw [List.size_toArray, List.length_map, List.length_range, sizeLine_eq]; omega))
    simp only [bne_self_eq_false, Bool.false_eq_true, if_false]
    refine wpAny_pure (h (List.range vs.length) (List.Perm.refl _) ?_)
    match vs, h2 with
    | [], _ => simp
    | [_], _ => simp
  · have hn2 : ¬ vs.toArray.size < 2 := by rw [List.size_toArray]; exact h2
    rw [if_neg hn2, if_neg hn2]
    have hne : vs ≠ [] := by intro z; rw [z] at h2; simp at h2
    refine wpAny_bind (nsk_kind row6 hne fun κ hκ => ?_)
    have hT : KSP.TotN (fun i j => T.lt (ts.getD i .nil) (ts.getD j .nil)) vs.length := by
      refine ⟨fun i j hi hj hij => ?_, fun i j k' _ _ _ h1 h2 => ?_⟩
      · refine T.lt_tri _ _ fun e => hij ?_
        have hi' : i < ts.length := by omega
        have hj' : j < ts.length := by omega
        rw [List.getD_eq_getElem?_getD, List.getD_eq_getElem?_getD, List.getElem?_eq_getElem hi', List.getElem?_eq_getElem hj'] at e
        exact (List.getElem_inj (h₀ := hi') (h₁ := hj') nd).mp (by simpa using e)
      · exact T.lt_tr _ _ _ h1 h2
    have hrun := KSP.RunP.wp (s := { s with heap := ((s.heap.update a (Obj.mapSeq fun _ => (#[] : Array Value))).push (seqObj "tuple" vs.toArray 0)).push (seqObj "list" #[] 0) }) (cmp := kas_ask prog w A κ vs) (Q := fun (p : Array Nat) s' => s' = { s with heap := ((s.heap.update a (Obj.mapSeq fun _ => (#[] : Array Value))).push (seqObj "tuple" vs.toArray 0)).push (seqObj "list" #[] 0) } ∧ (p.toList.Perm (List.range vs.length) ∧ p.toList.Pairwise fun i j => T.lt (ts.getD i .nil) (ts.getD j .nil) = true)) (fun i j C hi hj hC => ?_) (fun p hp => ⟨rfl, hp⟩) _ (KSP.sort hT (by omega))
    · refine wpAny_bind (wpAny_mono (kat_run (Q := fun st' s' => ∃ p : Array Nat, p.size = vs.length ∧ arrOf st' = p.map (kas_item (vs.toArray.zip vs.toArray)) ∧ failedOf st' = none ∧ s' = { s with heap := ((s.heap.update a (Obj.mapSeq fun _ => (#[] : Array Value))).push (seqObj "tuple" vs.toArray 0)).push (seqObj "list" #[] 0) } ∧ p.toList.Perm (List.range vs.length) ∧ p.toList.Pairwise fun i j => T.lt (ts.getD i .nil) (ts.getD j .nil) = true)
        rfl (by omega) h64 (fun p' st' s' a1 a2 a3 a4 => ⟨p', a1, a2, a3, a4⟩) hrun) ?_ fun _ _ x => x)
      rintro ⟨⟨⟩, st'⟩ s' ⟨p, hp, har, hf, rfl, hperm, hpw⟩
      dsimp only
      have hsn := kat_snds rfl har
      rw [hsn]
      refine wpAny_bind (seqEpoch_at ho6 rfl ?_)
      refine wpAny_bind (listUpdate_at ho6 rfl ?_ (Nat.zero_le _) (by rw [List.size_toArray, List.length_map, Array.length_toList, hp, sizeLine_eq]; omega))
      rw [hf]
      simp only [bne_self_eq_false, Bool.false_eq_true, if_false]
      exact wpAny_pure (h p.toList hperm hpw)
    · show wpAny _ _ (keyLt' κ (vs.getD i Value.none) (vs.getD j Value.none)) _ _ _
      have hi' : i < vs.length := hi
      have hj' : j < vs.length := hj
      obtain ⟨b1, c1, x1, y1⟩ := row6.get hi'
      obtain ⟨b2, c2, x2, y2⟩ := row6.get hj'
      rw [show vs.getD i Value.none = Value.ref c1 by simp [List.getD_eq_getElem?_getD, hi', x1], show vs.getD j Value.none = Value.ref c2 by simp [List.getD_eq_getElem?_getD, hj', x2]]
      have hd1 := hd _ (List.getElem_mem b1)
      refine nsk_lt hκ (by omega) y1 y2 ?_
      have e1 : ts[i] = ts.getD i .nil := by simp [List.getD_eq_getElem?_getD, b1]
      have e2 : ts[j] = ts.getD j .nil := by simp [List.getD_eq_getElem?_getD, b2]
      rw [e1, e2]
      exact hC
end
theorem paired_perm {α β : Type} {R : α → β → Prop} {ys ys' : List β} (pm : ys.Perm ys') : ∀ {xs : List α}, Paired R xs ys → ∃ xs', xs.Perm xs' ∧ Paired R xs' ys' := by
  induction pm with
  | nil => intro xs p; cases p; exact ⟨[], .nil, .nil⟩
  | cons a _ ih =>
    intro xs p
    cases p with
    | cons r t =>
      obtain ⟨xs', h1, h2⟩ := ih t
      exact ⟨_ :: xs', .cons _ h1, .cons r h2⟩
  | swap a b l =>
    intro xs p
    cases p with
    | cons r t =>
      cases t with
      | cons r' t' => exact ⟨_, .swap _ _ _, .cons r' (.cons r t')⟩
  | trans _ _ ih1 ih2 =>
    intro xs p
    obtain ⟨xs1, h1, h2⟩ := ih1 p
    obtain ⟨xs2, h3, h4⟩ := ih2 h2
    exact ⟨xs2, h1.trans h3, h4⟩
theorem keyOk_row {h : Heap} : ∀ {ks : List T} {es : List (Int × Value)}, Paired (keyOk h) ks es → Row h ks (es.map (·.2))
  | _, _, .nil => .nil
  | _, _, .cons p r => by
    obtain ⟨_, _, c, e, x⟩ := p
    exact .cons ⟨c, e, x⟩ (keyOk_row r)
theorem keyOk_dep {h : Heap} : ∀ {ks : List T} {es : List (Int × Value)}, Paired (keyOk h) ks es → ∀ k ∈ ks, k.depth ≤ 7
  | _, _, .nil, k, hk => by simp at hk
  | _, _, .cons p r, k, hk => by
    rcases List.mem_cons.mp hk with rfl | hk
    · exact p.2.1
    · exact keyOk_dep r k hk
theorem row_pick {h : Heap} {ts : List T} {vs : List Value} (row : Row h ts vs) (l : List Nat) (hl : ∀ i ∈ l, i < vs.length) : Row h (l.map fun i => ts.getD i .nil) (l.map fun i => vs.getD i Value.none) := by
  have hlen : ts.length = vs.length := Paired.length row
  exact paired_pick row T.nil Value.none l fun i hi => by rw [hlen]; exact hl i hi
section
variable {prog : Program} {w : World} {A : Around} {E : Value → Shared → Prop} {s : Shared}
theorem sorted_setN {a : Addr} {its : List Value} {us : List T} {Q : Value → Shared → Prop} (hh : A.handled = none) (hu : A.units + 24 < cLine) (hS : SetN s.heap a (ledOf w) its us) (hk : us.length ≤ 10)
    (q : ∀ (h' : Heap) (tk : Nat) (D : Addr) (out : Array Value) (n : Nat) (ts : List T), a < D → h'.get? D = some (seqObj "list" out n) → (∀ b o, s.heap.get? b = some o → h'.get? b = some o) → Row h' ts out.toList → (ts.Pairwise fun x y => T.lt x y = true) → (∀ z, z ∈ ts ↔ z ∈ us) → (∀ u ∈ out.toList, u ∈ its) → Q (.ref D) { s with heap := h', toks := tk }) :
    wpAny (model prog w) A (call (.builtin "sorted") [.ref a]) Q E s := by
  obtain ⟨es, ep, t, ks, ho, b, hmem, hits, _⟩ := hS
  have hlen : ks.length = es.size := by rw [Paired.length b.el, Array.length_toList]
  have hsz : es.size ≤ 10 := by
    have := nodup_le b.nd fun z hz => (hmem z).1 hz
    omega
  refine Calls.call_function_entry kind_sorted plain_sorted entry_sorted (args_sorted1 _) ?_
  unfold Builtin.«sorted»
  refine wpAny_bind (m := checkCount _ _ _ _) (wpAny_pure (wpAny_bind (kdu_collect (src b.tb) (by simp [hh]) ho (by rw [sizeLine_eq]; omega) fun h1 tk acc keep hacc => wpAny_bind (wpAny_newList ?_ ?_))))
  · have po := ord_perm w a es ep
    have ea : acc.toList = (ord w a es ep).toList.map (·.2) := by
      apply List.ext_getElem?
      intro j
      rw [List.getElem?_map, Array.getElem?_toList, Array.getElem?_toList]
      by_cases c : j < acc.size
      · have g := Array.getElem?_eq_getElem c
        obtain ⟨e, e1, e2⟩ := hacc.2 j _ g
        rw [g, e1, e2]; rfl
      · rw [Array.getElem?_eq_none (by omega), Array.getElem?_eq_none (by rw [ord_size]; have := hacc.1; omega)]; rfl
    obtain ⟨ts, pk, pe⟩ := paired_perm po.symm b.el
    have row0 : Row s.heap ts acc.toList := by rw [ea]; exact keyOk_row pe
    have hal : acc.toList.length = es.size := by rw [Array.length_toList, hacc.1]
    have hD : (h1.push { cls := .type "list", data := .seq acc.toList.toArray }).get? h1.objs.size = some (seqObj "list" acc.toList.toArray 0) := Heap.get?_push_size _ rfl
    have hle : a < h1.objs.size := Heap.lt_size (keep a _ ho)
    have row1 : Row (h1.push { cls := .type "list", data := .seq acc.toList.toArray }) ts acc.toList := row_mono (fun m _ a x => At.mono (fun b o e _ _ => Heap.get?_push_of_some _ (keep b o e)) m a x) row0
    refine wpAny_bind (wpAny_holding (wpAny_call_entry slot_list_sort ⟨_, hD, rfl⟩ entry_list_sort (sort_nests (s := { s with heap := h1.push { cls := .type "list", data := .seq acc.toList.toArray }, toks := tk }) ?_ hD row1 (pk.nodup_iff.mp b.nd) (keyOk_dep pe) (by omega) fun p hp hpw => ⟨_, rfl, wpAny_pure ⟨_, rfl, ?_⟩⟩) (args_list_sort _)))
    · show A.units + 1 + 1 + 20 < cLine
      omega
    obtain ⟨n, hn⟩ : ∃ n, (sortedHeap (h1.push { cls := .type "list", data := .seq acc.toList.toArray }) h1.objs.size acc.toList (List.toArray (p.map fun i => acc.toList.getD i Value.none))).get? h1.objs.size = some (seqObj "list" (List.toArray (p.map fun i => acc.toList.getD i Value.none)) n) := sortedHeap_at hD
    have pl : ∀ i ∈ p, i < acc.toList.length := fun i hi => List.mem_range.mp (hp.mem_iff.mp hi)
    have kp : ∀ c o, s.heap.get? c = some o → (sortedHeap (h1.push { cls := .type "list", data := .seq acc.toList.toArray }) h1.objs.size acc.toList (List.toArray (p.map fun i => acc.toList.getD i Value.none))).get? c = some o := fun c o eo => by
      have lt := Heap.lt_size (keep c o eo)
      rw [sortedHeap_old (Nat.ne_of_lt lt) (by rw [Heap.size_push]; exact Nat.lt_succ_of_lt lt)]
      exact Heap.get?_push_of_some _ (keep c o eo)
    have tl : ts.length = acc.toList.length := Paired.length row0
    have em : ((List.range acc.toList.length).map fun i => ts.getD i T.nil) = ts := by
      rw [← tl]
      apply List.ext_getElem
      · simp
      · intro i h1 h2
        simp [List.getD_eq_getElem?_getD, h2]
    refine q _ _ _ _ n (p.map fun i => ts.getD i .nil) hle hn kp ?_ ?_ (fun z => ?_) fun u hu' => ?_
    · have : Row s.heap (p.map fun i => ts.getD i T.nil) (p.map fun i => acc.toList.getD i Value.none) := row_pick row0 p pl
      have := row_mono (fun m _ a x => At.mono (fun b o e _ _ => kp b o e) m a x) this
      simpa using this
    · rw [List.pairwise_map]
      exact hpw
    · have := (hp.map fun i => ts.getD i T.nil).mem_iff (a := z)
      rw [em] at this
      rw [this, ← pk.mem_iff]
      exact hmem z
    · have hu' : u ∈ p.map fun i => acc.toList.getD i Value.none := by simpa using hu'
      obtain ⟨i, hi, rfl⟩ := List.mem_map.mp hu'
      have hi' := pl i hi
      rw [List.getD_eq_getElem?_getD, List.getElem?_eq_getElem hi']
      show acc.toList[i] ∈ its
      have all : ∀ u ∈ acc.toList, u ∈ its := fun u hu => by
        rw [ea] at hu
        obtain ⟨e, he, rfl⟩ := List.mem_map.mp hu
        exact hits e (po.mem_iff.mp he)
      exact all _ (List.getElem_mem hi')
  · rw [Array.length_toList, hacc.1, sizeLine_eq]; omega
end
end SET
set_option Elab.async false
set_option linter.all false
set_option maxRecDepth 100000
/-! ### sorted(set(a list of nests)) -/
namespace L2
open PySem PySem.Spec PyProof.Rows NM ND PySem.W
section
variable {X : Cx}
def tSortSetN (K : PySem.W.Frag) (ta : TA) : TE := fun σ H Q => ta σ H fun vs H1 => ∃ (a : Addr) (xs : List V) (ts : List T), vs = [.ref a] ∧ SqL K H1 a xs ∧ RowV H1 ts xs ∧ ts.length ≤ 10 ∧ (∀ t ∈ ts, t.depth ≤ 7) ∧
  ∀ (l : Addr) (ov : List V) (us : List T), H1 l = none → (us.Pairwise fun x y => T.lt x y = true) → (∀ z, z ∈ us ↔ z ∈ ts) → RowV H1 us ov → Q (.ref l) (upd H1 l (.lst ov))
theorem val_of {H : Hp} {ts : List T} {xs : List V} {its : List Value} (row : RowV H ts xs) (rv : Vals xs its) : ∀ u ∈ its, ∃ v t, RelV v u ∧ IsN H v t := by
  induction row generalizing its with
  | nil => cases rv; intro u hu; simp at hu
  | cons p _ ih =>
    cases rv with
    | cons r rr =>
      intro u hu
      rcases List.mem_cons.mp hu with rfl | hu
      · exact ⟨_, _, r, p⟩
      · exact ih rr u hu
theorem pe_sortSetN {e : Expr} {ta : TA} {p p1 p2 pos : Pos} (hu : X.A.units + 64 < cLine) (hc : X.calm = true) (hg : Gl X "sorted") (hm : X.mg "sorted" = none) (hg2 : Gl X "set") (hm2 : X.mg "set" = none) (ha : PA X [e] ta)
    (hs : starEach [e] X.env = [(false, eval e X.env)] := by rfl) : PE X (.Call (.Name "sorted" p) [.Call (.Name "set" p1) [e] [] p2] [] pos) (tSortSetN X.K ta) := by
  intro pins s σ H Q I h
  refine wpAny_Call_Name_kw (ld_blt I hg hm boot_sorted_ ?_)
  refine PyProof.Rows.callWith_builtin1 (show wpAny _ _ (spliced ((false, eval (.Call (.Name "set" p1) [e] [] p2) X.env) :: backTo pos (starEach [] X.env))) _ _ s from Calls.spliced_cons ?_) rfl rfl
  refine wpAny_Call_Name_kw (ld_blt I hg2 hm2 boot_set_ (PyProof.Rows.callWith_type1 (thn (ha p2 pins s σ H _ I h) fun us s1 ⟨vs, H1, I1, r1, q1⟩ => ?_) hs rfl))
  obtain ⟨a, xs, ts, rfl, hq, hrow, h10, h7, q⟩ := q1
  obtain ⟨u, rfl, ru⟩ := vals1 r1
  cases ru
  obtain ⟨its, rv, pl, hz⟩ := I1.list hq
  have row := I1.nests hrow rv
  refine SET.call_set_nests (ts := ts) (I.ok.hd hc) (by omega) pl.isList (by simpa using row) h7 h10 fun h1 tk hS keep => Calls.spliced_nil ?_
  refine SET.sorted_setN (I.ok.hd hc) (by omega) hS h10 fun h2 tk2 D out n us hD g k2 i1 i2 i3 i4 => ?_
  have kk : ∀ b o, s1.heap.get? b = some o → h2.get? b = some o := fun b o eo => k2 b o (keep b o (Heap.lt_size eo) eo)
  obtain ⟨ov, hv, hov⟩ : ∃ ov, Vals ov out.toList ∧ RowV H1 us ov := by
    have i4 : ∀ u ∈ out.toList, u ∈ its := by simpa using i4
    clear i2 i3 q g
    generalize out.toList = l at i1 i4
    induction i1 with
    | nil => exact ⟨[], .nil, .nil⟩
    | @cons t u us' l' r _ ih =>
      obtain ⟨ov, a1, a2⟩ := ih fun u hu => i4 u (by simp [hu])
      obtain ⟨c, rfl, hat⟩ := r
      obtain ⟨v, t0, rv0, iv⟩ := val_of hrow rv (.ref c) (i4 _ (by simp))
      obtain ⟨b', _, rfl, _⟩ := id iv
      cases rv0
      have := I1.nest t0 _ iv _ rfl
      have e := At.inj _ _ _ (At.mono (fun b o e _ _ => kk b o e) _ _ this) hat
      rw [e] at iv
      exact ⟨.ref c :: ov, .cons (show RelV (V.ref c) (Value.ref c) from rfl) a1, .cons iv a2⟩
  have hle : s1.heap.objs.size ≤ D := Nat.le_of_lt hD
  have nd : us.Nodup := by
    rw [List.nodup_iff_pairwise_ne]
    exact i2.imp fun {x y} h e => by rw [e, T.lt_irr] at h; cases h
  have hsz : us.length ≤ ts.length := SET.nodup_le nd fun z hz => (i3 z).1 hz
  have hol : ov.length = us.length := hov.length.symm
  refine ⟨.ref D, _, I1.laid (t' := tk2) (o := .lst ov) kk hle ⟨?_, out.toList, n, hv, by simpa using g⟩, rfl, q _ ov us (I1.hok.fresh hle) i2 i3 hov⟩
  rw [hol, sizeLine_eq]; omega
end
end L2
set_option Elab.async false
set_option linter.all false
set_option maxRecDepth 100000
/-! ### the last names of a def are hidden: what comes behind reads none of them -/
namespace L2
open PySem PySem.Spec PyProof.Rows
/-- fewer names -/
abbrev Cx.few (X : Cx) (N : List Str) : Cx := { X with N := N }
section
variable {X : Cx} {N R : List Str}
theorem Ok.few (ok : X.Ok) : (X.few N).Ok := by
  obtain ⟨⟩ := ok
  constructor <;> assumption
theorem Ok.more (ok : (X.few N).Ok) : X.Ok := by
  obtain ⟨⟩ := ok
  constructor <;> assumption
theorem Inv.hide {pins : List (Addr × Obj)} {σ : St} {H : Hp} {s : Shared} (hN : X.N = N ++ R) (I : Inv X pins σ H s) : Inv (X.few N) pins (σ.take N.length) H s := by
  obtain ⟨m, hm, hl⟩ := I.loc
  refine ⟨Ok.few I.ok, I.os, I.bare, I.base, ⟨m, hm, fun i x v hi hv vis => ?_⟩, I.cell, I.free, I.freeC, I.pin, I.hok, ?_⟩
  · have hi : N[i]? = some x := hi
    have hlt := (List.getElem?_eq_some_iff.mp hi).1
    rw [List.getElem?_take_of_lt hlt] at hv
    exact hl i x v (by rw [hN, List.getElem?_append_left hlt]; exact hi) hv vis
  · have := I.len
    rw [hN, List.length_append] at this
    show (σ.take N.length).length = N.length
    rw [List.length_take]; omega
theorem Inv.unhide {pins : List (Addr × Obj)} {σ : St} {H : Hp} {s : Shared} (hN : X.N = N ++ R) (I : Inv (X.few N) pins σ H s) : Inv X pins (σ ++ List.replicate R.length none) H s := by
  obtain ⟨m, hm, hl⟩ := I.loc
  have hlen : σ.length = N.length := I.len
  refine ⟨Ok.more I.ok, I.os, I.bare, I.base, ⟨m, hm, fun i x v hi hv vis => ?_⟩, I.cell, I.free, I.freeC, I.pin, I.hok, ?_⟩
  · by_cases c : i < σ.length
    · rw [List.getElem?_append_left c] at hv
      exact hl i x v (by rw [hN, List.getElem?_append_left (by omega)] at hi; exact hi) hv vis
    · rw [List.getElem?_append_right (by omega)] at hv
      rw [List.getElem?_replicate] at hv
      split at hv
      · cases hv
      · cases hv
  · rw [List.length_append, List.length_replicate, hN, List.length_append, hlen]
def tHide (n k : Nat) (t : TS) : TS := fun D σ H => t { nx := fun σ' H' => D.nx (σ' ++ List.replicate k none) H', rt := D.rt, bk := fun σ' H' => D.bk (σ' ++ List.replicate k none) H', ct := fun σ' H' => D.ct (σ' ++ List.replicate k none) H' } (σ.take n) H
theorem FnCx.few (F : FnCx X) : FnCx (X.few N) := by
  obtain ⟨⟩ := F
  constructor <;> assumption
theorem XE.unhide {E : XK} {e : Value} {s : Shared} (hN : X.N = N ++ R) (h : XE (X.few N) E e s) : XE X E e s := by
  obtain ⟨x, cls, σ, H, tr, e1, I, eo, q⟩ := h
  exact ⟨x, cls, _, H, tr, e1, Inv.unhide (X := X.nox) (N := N) (R := R) hN I, eo, q⟩
end
end L2
set_option Elab.async false
set_option linter.all false
set_option maxRecDepth 100000
namespace L2
open PySem PySem.Spec PyProof.Rows NM ND PySem.W
section
variable {X : Cx} {N R : List Str}
/-- one statement that reads none of the last names -/
theorem ps_hide {st : Stmt} {t : TS} (hN : X.N = N ++ R) (h : PS (X.few N) st t) : PS X st (tHide N.length R.length t) := by
  intro pins s σ H D I hw
  refine wpAny_mono (h pins s _ H _ (I.hide hN) hw) (fun fl s' q => ?_) fun _ _ z => z
  cases fl with
  | next => obtain ⟨σ', H', J, q⟩ := q; exact ⟨_, H', J.unhide hN, q⟩
  | ret v => obtain ⟨x, σ', H', J, r, q⟩ := q; exact ⟨x, _, H', J.unhide hN, r, q⟩
  | brk => obtain ⟨σ', H', J, q⟩ := q; exact ⟨_, H', J.unhide hN, q⟩
  | cont => obtain ⟨σ', H', J, q⟩ := q; exact ⟨_, H', J.unhide hN, q⟩
/-- one statement and what must hold behind it -/
def tSeqM (t u : TS) : TS := fun D σ H => ∃ Mid : St → Hp → Prop, t { D with nx := Mid } σ H ∧ ∀ σ' H', Mid σ' H' → u D σ' H'
theorem pss_mid {st : Stmt} {rest : List Stmt} {t u : TS} (h1 : PS X st t) (h2 : PSs X rest u) : PSs X (st :: rest) (tSeqM t u) := by
  intro pins s σ H D I ⟨Mid, h, k⟩
  refine wpAny_execs_cons (thn (h1 pins s σ H { D with nx := Mid } I h) fun f s1 q => ?_)
  cases f with
  | next =>
    obtain ⟨σ', H', I', q⟩ := q
    exact h2 pins s1 σ' H' D I' (k σ' H' q)
  | ret v => exact q
  | brk => exact q
  | cont => exact q
end
section
variable {X : Cx}
/-- not x, of a list or a tuple too -/
def tNotT (K : PySem.W.Frag) (ta : TE) : TE := fun σ H Q => ta σ H fun x H1 => ∃ k, TruV K x H1 k ∧ Q (.bl (!k)) H1
theorem pe_notT {a : Expr} {ta : TE} {pos : Pos} (ha : PE X a ta) : PE X (.UnaryOp .Not a pos) (tNotT X.K ta) := by
  intro pins s σ H Q I h
  refine UnaryOp_ (thn (ha pins s σ H _ I h) fun v s1 ⟨x, H1, I1, r1, q1⟩ => ?_)
  exact not_of (thn (tru_ok pins s1 σ H1 x v (fun k H2 => Q (.bl (!k)) H2) I1 r1 q1) fun b s2 ⟨H2, I2, q2⟩ => ⟨.bl (!b), H2, I2, rfl, q2⟩)
theorem eN_count {h : Heap} {t : T} : ∀ {ts : List T} {its : List Value}, Row h ts its → its.countP (eN h t) = ts.count t
  | _, _, .nil => rfl
  | m :: ts, _, .cons p r => by
    obtain ⟨c, rfl, q⟩ := p
    rw [List.countP_cons, eN_count r, eN_eq q, List.count_cons]
    congr 1
/-- xs.count(nest) -/
def rCountN : V → List V → Hp → VK → Prop := fun x vs H Q => ∃ (l : Addr) (xs : List V) (ts : List T) (v : V) (t : T), x = .ref l ∧ vs = [v] ∧ H l = some (.lst xs) ∧ RowV H ts xs ∧ IsN H v t ∧ (∀ m ∈ ts, m.depth ≤ 50) ∧ Q (.int ((ts.count t : Nat) : Int)) H
theorem mt_countN (hu : X.A.units + 64 < cLine) : MtM X "list.count" rCountN := by
  intro pins s σ H x vs v us Q I rx rv h
  obtain ⟨l, xs, ts, w', t, rfl, rfl, hH, hrow, hx, hd, q⟩ := h
  cases rx
  obtain ⟨u, rfl, ru⟩ := rv.one
  obtain ⟨b, _, rfl, _⟩ := id hx
  cases ru
  have hb := I.nest _ _ hx b rfl
  obtain ⟨z, its, n, r, hl, e⟩ := I.lstM hH
  have row := I.nests hrow r
  refine call_meets PySem.F.slot_list_count ⟨_, e, rfl⟩ PySem.F.entry_list_count (PySem.F.args_list_count_2 _ _)
    (SeqAt.list_countAt l its.toArray n none #[] (.ref b) (eN s.heap t)) ⟨e, fun y hy => eN_at rfl hu hb hd row y (by simpa using hy), ?_⟩
  have ec : its.toArray.toList.countP (eN s.heap t) = ts.count t := by simpa using eN_count row
  rw [ec]
  exact ⟨.int ((ts.count t : Nat) : Int), H, I.tok _, ⟨_, rfl⟩, q⟩
end
end L2
set_option Elab.async false
set_option linter.all false
set_option maxRecDepth 100000
namespace L2
open PySem PySem.Spec PyProof.Rows NM ND PySem.W
section
variable {X : Cx}
/-! ### list(range(n)) -/
def tListRng (ta : TA) : TE := fun σ H Q => ta σ H fun vs H1 => ∃ n : Nat, vs = [.int (n : Int)] ∧ n ≤ 1000 ∧ ∀ l, H1 l = none → Q (.ref l) (upd H1 l (.lst ((List.range n).map fun (i : Nat) => V.int (i : Int))))
end
end L2
set_option Elab.async false
set_option linter.all false
set_option maxRecDepth 100000
/-! ### pairs -/
namespace NM
open T
theorem canon_mem {t m : T} (c : canon t = true) (h : m ∈ t.toList) : canon m = true := ((canon_iff t).1 c).1 m h
theorem canon_asc {t : T} (c : canon t = true) : Asc ml t.toList := ((canon_iff t).1 c).2
theorem depth_of {l : List T} {n : Nat} (h : ∀ m ∈ l, m.depth < n) : (ofList l).depth ≤ n := depth_le fun m hm => h m (by rwa [to_of] at hm)
/-- the pair, by hand -/
def sg (a : T) : T := ofList [a]
def tw (a b : T) : T := ofList (hnl 9 [a, b] [])
def prT (a b : T) : T := ofList (hnl 9 [sg a, tw a b] [])
theorem sg_to (a : T) : (sg a).toList = [a] := to_of _
theorem asc1 (a : T) : Asc ml [a] := List.pairwise_singleton _ _
theorem asc2 {a b : T} (h : ml a b = true) : Asc ml [a, b] := by unfold Asc; simpa using h
theorem sg_canon {a : T} (c : canon a = true) : canon (sg a) = true := canon_of (by simpa using c) (asc1 a)
theorem sg_depth {a : T} {n : Nat} (h : a.depth < n) : (sg a).depth ≤ n := depth_of (by simpa using h)
section
variable {a b : T} (ha : a.depth ≤ 6) (hb : b.depth ≤ 6) (ca : canon a = true) (cb : canon b = true)
include ha hb ca cb
theorem tw_ok : ∀ z ∈ [a, b], z.depth ≤ 8 ∧ canon z = true := fun z hz => by
  rcases List.mem_cons.mp hz with rfl | hz
  · exact ⟨by omega, ca⟩
  · have : z = b := by simpa using hz
    subst this; exact ⟨by omega, cb⟩
theorem tw_spec : Asc ml (tw a b).toList ∧ ∀ z, z ∈ (tw a b).toList ↔ z = a ∨ z = b := by
  have s := hnl_spec 8 [a, b] [] (tw_ok ha hb ca cb) (fun _ h => by simp at h) (by simp [Asc])
  unfold tw
  rw [to_of]
  exact ⟨s.1, fun z => by rw [s.2 z]; simp⟩
theorem tw_canon : canon (tw a b) = true := (canon_iff _).2 ⟨fun m hm => by
  rcases ((tw_spec ha hb ca cb).2 m).1 hm with rfl | rfl
  · exact ca
  · exact cb, (tw_spec ha hb ca cb).1⟩
theorem tw_depth {n : Nat} (h1 : a.depth < n) (h2 : b.depth < n) : (tw a b).depth ≤ n := depth_le fun m hm => by
  rcases ((tw_spec ha hb ca cb).2 m).1 hm with rfl | rfl
  · exact h1
  · exact h2
theorem pr_ok : ∀ z ∈ [sg a, tw a b], z.depth ≤ 8 ∧ canon z = true := fun z hz => by
  rcases List.mem_cons.mp hz with rfl | hz
  · exact ⟨Nat.le_trans (sg_depth (n := 7) (by omega)) (by decide), sg_canon ca⟩
  · have : z = tw a b := by simpa using hz
    subst this; exact ⟨Nat.le_trans (tw_depth ha hb ca cb (n := 7) (by omega) (by omega)) (by decide), tw_canon ha hb ca cb⟩
theorem pr_spec : Asc ml (prT a b).toList ∧ ∀ z, z ∈ (prT a b).toList ↔ z = sg a ∨ z = tw a b := by
  have s := hnl_spec 8 [sg a, tw a b] [] (pr_ok ha hb ca cb) (fun _ h => by simp at h) (by simp [Asc])
  unfold prT
  rw [to_of]
  exact ⟨s.1, fun z => by rw [s.2 z]; simp⟩
theorem pr_canon : canon (prT a b) = true := (canon_iff _).2 ⟨fun m hm => by
  rcases ((pr_spec ha hb ca cb).2 m).1 hm with rfl | rfl
  · exact sg_canon ca
  · exact tw_canon ha hb ca cb, (pr_spec ha hb ca cb).1⟩
theorem pr_depth {n : Nat} (h1 : a.depth < n) (h2 : b.depth < n) : (prT a b).depth ≤ n + 1 := depth_le fun m hm => by
  rcases ((pr_spec ha hb ca cb).2 m).1 hm with rfl | rfl
  · have := sg_depth (a := a) (n := n) h1; omega
  · have := tw_depth ha hb ca cb (n := n) h1 h2; omega
/-- alone is less than together -/
theorem sg_lt (h : a ≠ b) : ml (sg a) (tw a b) = true := by
  rw [ml_lex]
  refine lex_sup tot (desc_rev (tw_spec ha hb ca cb).1) (desc_rev (by rw [sg_to]; exact asc1 a)) (fun x hx => ?_) ⟨b, ?_, ?_⟩
  · rw [List.mem_reverse, sg_to] at hx
    rw [List.mem_reverse, (tw_spec ha hb ca cb).2]
    exact .inl (by simpa using hx)
  · rw [List.mem_reverse, (tw_spec ha hb ca cb).2]; exact .inr rfl
  · rw [List.mem_reverse, sg_to]; simpa using fun e => h e.symm
theorem pr_ne (h : a ≠ b) : (prT a b).toList = [sg a, tw a b] := by
  unfold prT
  rw [to_of]
  exact hn_uniq 8 (pr_ok ha hb ca cb) (asc2 (sg_lt ha hb ca cb h)) fun z => Iff.rfl
theorem tw_ne (h : a ≠ b) : (tw a b).toList = [a, b] ∨ (tw a b).toList = [b, a] := by
  unfold tw
  rw [to_of]
  rcases tot.conn h with q | q
  · exact .inl (hn_uniq 8 (tw_ok ha hb ca cb) (asc2 q) fun z => Iff.rfl)
  · exact .inr (hn_uniq 8 (tw_ok ha hb ca cb) (asc2 q) fun z => by simp [or_comm])
end
theorem tw_same {a : T} (ha : a.depth ≤ 6) (ca : canon a = true) : tw a a = sg a := by
  unfold tw sg
  rw [hn_uniq 8 (tw_ok ha ha ca ca) (asc1 a) fun z => by simp]
theorem pr_same {a : T} (ha : a.depth ≤ 6) (ca : canon a = true) : (prT a a).toList = [sg a] := by
  unfold prT
  rw [to_of, tw_same ha ca]
  refine hn_uniq 8 (fun z hz => ?_) (asc1 _) fun z => by simp
  have : z = sg a := by simpa using hz
  subst this
  exact ⟨Nat.le_trans (sg_depth (n := 7) (by omega)) (by decide), sg_canon ca⟩
/-- whether it is a pair -/
def isPr (t : T) : Bool := match t.toList with
  | [x, y] => (decide (x.toList.length = 1) && decide (y.toList.length = 2)) && decide (x.toList.headD nil ∈ y.toList)
  | [x] => decide (x.toList.length = 1)
  | _ => false
def fsT (t : T) : T := (t.toList.headD nil).toList.headD nil
def snT (t : T) : T := ((t.toList.getLastD nil).toList.find? fun p => !decide (p = fsT t)).getD (fsT t)
section
variable {a b : T} (ha : a.depth ≤ 6) (hb : b.depth ≤ 6) (ca : canon a = true) (cb : canon b = true)
include ha hb ca cb
theorem isPr_pr : isPr (prT a b) = true := by
  by_cases e : a = b
  · subst e
    unfold isPr; rw [pr_same ha ca]; simp [sg_to]
  · unfold isPr; rw [pr_ne ha hb ca cb e]
    rcases tw_ne ha hb ca cb e with q | q <;> simp [sg_to, q]
theorem fsT_pr : fsT (prT a b) = a := by
  by_cases e : a = b
  · subst e
    unfold fsT; rw [pr_same ha ca]; simp [sg_to]
  · unfold fsT; rw [pr_ne ha hb ca cb e]; simp [sg_to]
theorem snT_pr : snT (prT a b) = b := by
  unfold snT
  rw [fsT_pr ha hb ca cb]
  by_cases e : a = b
  · subst e
    rw [pr_same ha ca]; simp [sg_to]
  · rw [pr_ne ha hb ca cb e]
    have e' : ¬ b = a := fun z => e z.symm
    rcases tw_ne ha hb ca cb e with q | q <;> simp [q, e']
end
end NM
set_option Elab.async false
set_option linter.all false
set_option maxRecDepth 100000
/-! ### few nests are shallow -/
namespace NM
open T
theorem asc_nodup {l : List T} (h : Asc ml l) : l.Nodup := h.imp fun {a b} q e => by rw [e, ml_irr] at q; cases q
theorem nodup_le {α : Type} [DecidableEq α] : ∀ {l L : List α}, l.Nodup → (∀ x ∈ l, x ∈ L) → l.length ≤ L.length
  | [], L, _, _ => Nat.zero_le _
  | a :: l, L, h, hs => by
    rw [List.nodup_cons] at h
    have ha := hs a (by simp)
    have := nodup_le (l := l) (L := L.erase a) h.2 fun x hx => (List.mem_erase_of_ne (fun e => h.1 (by rw [← e]; exact hx))).2 (hs x (by simp [hx]))
    rw [List.length_erase_of_mem ha] at this
    have := List.length_pos_of_mem ha
    rw [List.length_cons]
    omega
def one1 : T := ofList [nil]
def four : List T := [nil, one1, ofList [one1], ofList [nil, one1]]
end NM
set_option Elab.async false
set_option linter.all false
/-! ### products and maps -/
namespace NM
namespace T
/-- two, as they are held in rows -/
abbrev P2 := T × T
def prP (p : P2) : T := prT p.1 p.2
def OkP (p : P2) : Prop := (p.1.depth ≤ 5 ∧ canon p.1 = true) ∧ p.2.depth ≤ 5 ∧ canon p.2 = true
theorem OkP.isPr {p : P2} (h : OkP p) : isPr (prP p) = true := isPr_pr (by have := h.1.1; omega) (by have := h.2.1; omega) h.1.2 h.2.2
theorem OkP.fs {p : P2} (h : OkP p) : fsT (prP p) = p.1 := fsT_pr (by have := h.1.1; omega) (by have := h.2.1; omega) h.1.2 h.2.2
theorem OkP.sn {p : P2} (h : OkP p) : snT (prP p) = p.2 := snT_pr (by have := h.1.1; omega) (by have := h.2.1; omega) h.1.2 h.2.2
theorem OkP.inj {p q : P2} (h : OkP p) (h' : OkP q) (e : prP p = prP q) : p = q := by
  have e1 := h.fs
  have e2 := h.sn
  rw [e, h'.fs] at e1
  rw [e, h'.sn] at e2
  exact Prod.ext e1.symm e2.symm
theorem OkP.dep {p : P2} (h : OkP p) : (prP p).depth ≤ 7 ∧ canon (prP p) = true :=
  ⟨pr_depth (n := 6) (by have := h.1.1; omega) (by have := h.2.1; omega) h.1.2 h.2.2 (by have := h.1.1; omega) (by have := h.2.1; omega), pr_canon (by have := h.1.1; omega) (by have := h.2.1; omega) h.1.2 h.2.2⟩
theorem nodup_on {α β : Type} {f : α → β} : ∀ {l : List α}, (∀ x ∈ l, ∀ y ∈ l, f x = f y → x = y) → l.Nodup → (l.map f).Nodup
  | [], _, _ => by simp
  | a :: l, h, nd => by
    obtain ⟨n1, n2⟩ := List.nodup_cons.mp nd
    rw [List.map_cons, List.nodup_cons]
    refine ⟨fun hm => ?_, nodup_on (fun x hx y hy => h x (by simp [hx]) y (by simp [hy])) n2⟩
    obtain ⟨x, hx, e⟩ := List.mem_map.mp hm
    have : a = x := h a (by simp) x (by simp [hx]) e.symm
    exact n1 (by rw [this]; exact hx)
theorem on_nodup {α β : Type} {f : α → β} : ∀ {l : List α}, (l.map f).Nodup → ∀ x ∈ l, ∀ y ∈ l, f x = f y → x = y
  | [], _, x, hx, _, _, _ => by simp at hx
  | a :: l, nd, x, hx, y, hy, e => by
    rw [List.map_cons, List.nodup_cons] at nd
    rcases List.mem_cons.mp hx with h1 | h1
    · rcases List.mem_cons.mp hy with h2 | h2
      · rw [h1, h2]
      · exact absurd (List.mem_map.mpr ⟨y, h2, by rw [← e, h1]⟩) nd.1
    · rcases List.mem_cons.mp hy with h2 | h2
      · exact absurd (List.mem_map.mpr ⟨x, h1, by rw [e, h2]⟩) nd.1
      · exact on_nodup nd.2 x h1 y h2 e
theorem perm_nodup {α : Type} [DecidableEq α] : ∀ {l fs : List α}, l.Nodup → (∀ z ∈ l, z ∈ fs) → fs.length ≤ l.length → fs.Perm l
  | [], fs, _, _, hl => by
    have : fs = [] := List.length_eq_zero_iff.mp (by simpa using hl)
    rw [this]
  | a :: l, fs, nd, sub, hl => by
    obtain ⟨n1, n2⟩ := List.nodup_cons.mp nd
    have ha := sub a (by simp)
    have e := List.perm_cons_erase ha
    have hl' : (fs.erase a).length ≤ l.length := by
      rw [List.length_erase_of_mem ha]
      simp only [List.length_cons] at hl
      omega
    refine e.trans (.cons a (perm_nodup n2 (fun z hz => ?_) hl'))
    exact (List.mem_erase_of_ne (fun e : z = a => n1 (by rw [← e]; exact hz))).mpr (sub z (by simp [hz]))
theorem perm_ext {α : Type} [DecidableEq α] {l l' : List α} (h : l.Nodup) (h' : l'.Nodup) (e : ∀ z, z ∈ l ↔ z ∈ l') : l.Perm l' :=
  (perm_nodup h (fun z hz => (e z).1 hz) (nodup_le h' fun z hz => (e z).2 hz)).symm
theorem nodup_count {α : Type} [DecidableEq α] {l : List α} (h : l.Nodup) {a : α} (ha : a ∈ l) : l.count a = 1 := by
  have h1 := List.count_pos_iff.mpr ha
  have h2 := List.nodup_iff_count.mp h a
  omega
/-! what the program asks -/
def btw (a b m : T) : Bool := isPr m && (decide (fsT m ∈ a.toList) && decide (snT m ∈ b.toList))
def mapB (t a b : T) : Bool := t.toList.all (btw a b) && a.toList.all fun m => decide ((t.toList.map fsT).count m = 1)
/-! what the law asks -/
def inB (a b : T) (p : P2) : Bool := decide (p.1 ∈ a.toList) && decide (p.2 ∈ b.toList)
def lmapB (ks : List P2) (a b : T) (ss : List T) : Bool := ss.isEmpty && (decide ((ks.filter (inB a b)).length = ks.length) && (decide (ofList (hnl 9 (ks.map (·.1)) []) = a) && decide ((ks.map (·.1)).length = a.toList.length)))
def madeT (ks : List P2) (ss : List T) : T := ofList (hnl 9 (ks.map prP ++ ss) [])
section
variable {ks : List P2} {a b : T} {ss : List T} (hk : ∀ p ∈ ks, OkP p) (nd : ks.Nodup) (ca : canon a = true) (hs : ss = [] ∨ ss = [nil])
include hk hs
theorem made_ok : ∀ z ∈ ks.map prP ++ ss, z.depth ≤ 8 ∧ canon z = true := fun z hz => by
  rcases List.mem_append.mp hz with hz | hz
  · obtain ⟨p, hp, rfl⟩ := List.mem_map.mp hz
    have := (hk p hp).dep
    exact ⟨by omega, this.2⟩
  · rcases hs with rfl | rfl
    · simp at hz
    · have : z = nil := by simpa using hz
      subst this
      exact ⟨by decide, by decide⟩
theorem made_spec : Asc ml (madeT ks ss).toList ∧ ∀ z, z ∈ (madeT ks ss).toList ↔ z ∈ ks.map prP ++ ss := by
  unfold madeT
  rw [to_of]
  have := hnl_spec 8 (ks.map prP ++ ss) [] (made_ok hk hs) (fun _ h => by simp at h) (by simp [Asc])
  exact ⟨this.1, fun z => (this.2 z).trans (by simp)⟩
include nd ca
theorem map_same : mapB (madeT ks ss) a b = lmapB ks a b ss ∧ (mapB (madeT ks ss) a b = true → ss = [] ∧ (ks.map (·.1)).Nodup ∧ ∀ p ∈ ks, p.1 ∈ a.toList ∧ p.2 ∈ b.toList) := by
  obtain ⟨as, mem⟩ := made_spec hk hs
  rcases hs with rfl | rfl
  · have pm : (madeT ks []).toList.Perm (ks.map prP) := perm_ext (asc_nodup as) (nodup_on (fun x hx y hy e => (hk x hx).inj (hk y hy) e) nd) fun z => by rw [mem z, List.append_nil]
    have pf : ((madeT ks []).toList.map fsT).Perm (ks.map (·.1)) := by
      have := pm.map fsT
      rw [List.map_map] at this
      have e : ks.map (fsT ∘ prP) = ks.map (·.1) := List.map_congr_left fun p hp => (hk p hp).fs
      rw [e] at this
      exact this
    have allIn : (madeT ks []).toList.all (btw a b) = true ↔ ∀ p ∈ ks, p.1 ∈ a.toList ∧ p.2 ∈ b.toList := by
      rw [List.all_eq_true]
      constructor
      · intro h p hp
        have := h (prP p) ((mem _).2 (by rw [List.append_nil]; exact List.mem_map.mpr ⟨p, hp, rfl⟩))
        unfold btw at this
        rw [(hk p hp).isPr, (hk p hp).fs, (hk p hp).sn, Bool.true_and, Bool.and_eq_true, decide_eq_true_eq, decide_eq_true_eq] at this
        exact this
      · intro h z hz
        rw [mem z, List.append_nil] at hz
        obtain ⟨p, hp, rfl⟩ := List.mem_map.mp hz
        unfold btw
        rw [(hk p hp).isPr, (hk p hp).fs, (hk p hp).sn, decide_eq_true (h p hp).1, decide_eq_true (h p hp).2]; rfl
    have filt : (ks.filter (inB a b)).length = ks.length ↔ ∀ p ∈ ks, p.1 ∈ a.toList ∧ p.2 ∈ b.toList := by
      rw [List.length_filter_eq_length_iff]
      refine ⟨fun h p hp => ?_, fun h p hp => ?_⟩
      · have := h p hp
        unfold inB at this
        rw [Bool.and_eq_true, decide_eq_true_eq, decide_eq_true_eq] at this
        exact this
      · unfold inB
        rw [decide_eq_true (h p hp).1, decide_eq_true (h p hp).2]; rfl
    have na := asc_nodup (canon_asc ca)
    have fok : ∀ z ∈ ks.map (·.1), z.depth ≤ 8 ∧ canon z = true := fun z hz => by
      obtain ⟨p, hp, rfl⟩ := List.mem_map.mp hz
      have := (hk p hp).1
      exact ⟨by omega, this.2⟩
    have cnt : (a.toList.all fun m => decide (((madeT ks []).toList.map fsT).count m = 1)) = true ↔ ∀ m ∈ a.toList, (ks.map (·.1)).count m = 1 := by
      rw [List.all_eq_true]
      refine ⟨fun h m hm => ?_, fun h m hm => ?_⟩
      · have := of_decide_eq_true (h m hm)
        rw [← pf.count_eq]; exact this
      · exact decide_eq_true (by rw [pf.count_eq]; exact h m hm)
    have key : (∀ p ∈ ks, p.1 ∈ a.toList ∧ p.2 ∈ b.toList) → ((∀ m ∈ a.toList, (ks.map (·.1)).count m = 1) ↔ ofList (hnl 9 (ks.map (·.1)) []) = a ∧ (ks.map (·.1)).length = a.toList.length) := fun hin => by
      have sub : ∀ z ∈ ks.map (·.1), z ∈ a.toList := fun z hz => by
        obtain ⟨p, hp, rfl⟩ := List.mem_map.mp hz
        exact (hin p hp).1
      constructor
      · intro h
        have mm : ∀ z, z ∈ a.toList ↔ z ∈ ks.map (·.1) := fun z => ⟨fun hz => List.count_pos_iff.mp (by rw [h z hz]; decide), sub z⟩
        have nf : (ks.map (·.1)).Nodup := List.nodup_iff_count.mpr fun z => by
          by_cases c : z ∈ ks.map (·.1)
          · rw [h z (sub z c)]; exact Nat.le_refl _
          · rw [List.count_eq_zero.mpr c]; exact Nat.zero_le _
        refine ⟨?_, (perm_ext nf na fun z => (mm z).symm).length_eq⟩
        have := hn_uniq 8 fok (canon_asc ca) mm
        rw [this]
        exact of_to a
      · rintro ⟨h1, h2⟩
        have mm : ∀ z, z ∈ a.toList ↔ z ∈ ks.map (·.1) := fun z => by
          have := (hnl_spec 8 (ks.map (·.1)) [] fok (fun _ h => by simp at h) (by simp [Asc])).2 z
          rw [← h1, to_of, this]; simp
        have pp := perm_nodup na (fun z hz => (mm z).1 hz) (by omega)
        intro m hm
        rw [pp.count_eq]
        exact nodup_count na hm
    have eq : mapB (madeT ks []) a b = lmapB ks a b [] := by
      unfold mapB lmapB
      rw [Bool.eq_iff_iff, Bool.and_eq_true, allIn, cnt]
      show _ ↔ (true && _) = true
      rw [Bool.true_and, Bool.and_eq_true, Bool.and_eq_true, decide_eq_true_eq, decide_eq_true_eq, decide_eq_true_eq, filt]
      exact ⟨fun h => ⟨h.1, (key h.1).1 h.2⟩, fun h => ⟨h.1, (key h.1).2 h.2⟩⟩
    refine ⟨eq, fun h => ?_⟩
    unfold mapB at h
    rw [Bool.and_eq_true, allIn, cnt] at h
    obtain ⟨h1, h2⟩ := (key h.1).1 h.2
    have mm : ∀ z, z ∈ a.toList ↔ z ∈ ks.map (·.1) := fun z => by
      have := (hnl_spec 8 (ks.map (·.1)) [] fok (fun _ h => by simp at h) (by simp [Asc])).2 z
      rw [← h1, to_of, this]; simp
    have pp := perm_nodup na (fun z hz => (mm z).1 hz) (by omega)
    exact ⟨rfl, pp.nodup_iff.mpr na, h.1⟩
  · have f : mapB (madeT ks [nil]) a b = false := by
      unfold mapB
      have : (madeT ks [nil]).toList.all (btw a b) = false := by
        rw [List.all_eq_false]
        exact ⟨nil, (mem _).2 (by simp), by unfold btw; rw [show isPr nil = false by decide]; simp⟩
      rw [this]; rfl
    refine ⟨by rw [f]; rfl, fun h => by rw [f] at h; cases h⟩
/-- what a map tells -/
theorem map_value (h : mapB (madeT ks ss) a b = true) {p : P2} (hp : p ∈ ks) : (madeT ks ss).toList.find? (fun m => isPr m && decide (fsT m = p.1)) = some (prP p) := by
  obtain ⟨as, mem⟩ := made_spec hk hs
  obtain ⟨rfl, nf, _⟩ := (map_same hk nd ca hs).2 h
  have hin : prP p ∈ (madeT ks []).toList := (mem _).2 (by rw [List.append_nil]; exact List.mem_map.mpr ⟨p, hp, rfl⟩)
  cases e : (madeT ks []).toList.find? (fun m => isPr m && decide (fsT m = p.1)) with
  | none =>
    have := List.find?_eq_none.mp e _ hin
    rw [(hk p hp).isPr, (hk p hp).fs, decide_eq_true rfl] at this
    exact absurd rfl this
  | some z =>
    have hz := List.mem_of_find?_eq_some e
    have hf := List.find?_some e
    rw [mem z, List.append_nil] at hz
    obtain ⟨q, hq, rfl⟩ := List.mem_map.mp hz
    rw [Bool.and_eq_true, decide_eq_true_eq, (hk q hq).fs] at hf
    rw [on_nodup nf q hq p hp hf.2]
theorem map_none (h : mapB (madeT ks ss) a b = true) {z : T} (hz : z ∉ a.toList) : (madeT ks ss).toList.find? (fun m => isPr m && decide (fsT m = z)) = none := by
  obtain ⟨as, mem⟩ := made_spec hk hs
  obtain ⟨rfl, nf, hin⟩ := (map_same hk nd ca hs).2 h
  refine List.find?_eq_none.mpr fun m hm hf => ?_
  rw [mem m, List.append_nil] at hm
  obtain ⟨q, hq, rfl⟩ := List.mem_map.mp hm
  rw [Bool.and_eq_true, decide_eq_true_eq, (hk q hq).fs] at hf
  exact hz (by rw [← hf.2]; exact (hin q hq).1)
end
/-! ### products -/
def prods (a b : T) : List T := a.toList.flatMap fun x => b.toList.map fun y => prT x y
theorem prods_eq (a b : T) : prods a b = (a.toList.flatMap fun x => b.toList.map fun y => ((x, y) : P2)).map prP := by
  unfold prods
  rw [List.map_flatMap]
  congr 1
  funext x
  rw [List.map_map]
  rfl
theorem prods_len (a b : T) : (prods a b).length = a.toList.length * b.toList.length := by
  unfold prods
  rw [List.length_flatMap]
  have : (a.toList.map fun x => (b.toList.map fun y => prT x y).length) = a.toList.map fun _ => b.toList.length := List.map_congr_left fun x _ => List.length_map _
  rw [this]
  induction a.toList with
  | nil => simp
  | cons x l ih =>
    rw [List.map_cons, List.sum_cons, ih, List.length_cons, Nat.add_mul]
    omega
theorem pairs_nodup {l r : List T} (hl : l.Nodup) (hr : r.Nodup) : (l.flatMap fun x => r.map fun y => ((x, y) : P2)).Nodup := by
  induction l with
  | nil => simp
  | cons x l ih =>
    obtain ⟨n1, n2⟩ := List.nodup_cons.mp hl
    rw [List.flatMap_cons, List.nodup_append]
    refine ⟨nodup_on (fun _ _ _ _ e => (Prod.mk.inj e).2) hr, ih n2, fun p hp q hq e => ?_⟩
    obtain ⟨y, _, rfl⟩ := List.mem_map.mp hp
    obtain ⟨x', hx', hq⟩ := List.mem_flatMap.mp hq
    obtain ⟨y', _, rfl⟩ := List.mem_map.mp hq
    have := (Prod.mk.inj e).1
    exact n1 (by rw [this]; exact hx')
theorem prod_count {a b : T} (ha : ∀ m ∈ a.toList, m.depth ≤ 5) (hb : ∀ m ∈ b.toList, m.depth ≤ 5) (ca : canon a = true) (cb : canon b = true) : (hnl 9 (prods a b) []).length = a.toList.length * b.toList.length := by
  have hk : ∀ p ∈ a.toList.flatMap fun x => b.toList.map fun y => ((x, y) : P2), OkP p := fun p hp => by
    obtain ⟨x, hx, hp⟩ := List.mem_flatMap.mp hp
    obtain ⟨y, hy, rfl⟩ := List.mem_map.mp hp
    exact ⟨⟨ha x hx, canon_mem ca hx⟩, hb y hy, canon_mem cb hy⟩
  have ok : ∀ z ∈ prods a b, z.depth ≤ 8 ∧ canon z = true := fun z hz => by
    rw [prods_eq] at hz
    obtain ⟨p, hp, rfl⟩ := List.mem_map.mp hz
    have := (hk p hp).dep
    exact ⟨by omega, this.2⟩
  have sp := hnl_spec 8 (prods a b) [] ok (fun _ h => by simp at h) (by simp [Asc])
  have nd : (prods a b).Nodup := by
    rw [prods_eq]
    exact nodup_on (fun x hx y hy e => (hk x hx).inj (hk y hy) e) (pairs_nodup (asc_nodup (canon_asc ca)) (asc_nodup (canon_asc cb)))
  rw [(perm_ext (asc_nodup sp.1) nd fun z => (sp.2 z).trans (by simp)).length_eq, prods_len]
end T
end NM
set_option Elab.async false
set_option linter.all false
set_option maxRecDepth 100000
set_option maxHeartbeats 4000000
/-! ## the text -/
namespace K7
open PySem PySem.Spec PyProof.Rows NM L2
def top (i : Nat) : Stmt := PySem.Challenge.pw_nestsets_k07_whole_products_and_maps.main.body.getD i (.Pass ⟨0, 0, 0, 0⟩)
abbrev sMir : Stmt := top 4
abbrev s_gathered : Stmt := top 5
abbrev s_pair : Stmt := top 7
abbrev s_is_pair : Stmt := top 8
abbrev s_first : Stmt := top 9
abbrev s_second : Stmt := top 10
abbrev s_product : Stmt := top 11
abbrev s_is_map : Stmt := top 12
abbrev s_is_pair_between : Stmt := top 13
abbrev s_value : Stmt := top 14
abbrev sCell : Stmt := top 16
abbrev sMix : Stmt := top 17
abbrev sGr : Stmt := top 18
abbrev sGrt : Stmt := top 19
abbrev sHn : Stmt := top 20
abbrev sDr : Stmt := top 21
abbrev sSome : Stmt := top 22
abbrev s__law_value : Stmt := top 23
abbrev s__law_is_map : Stmt := top 24
abbrev sLaw : Stmt := top 25
end K7
set_option Elab.async false
set_option linter.all false
set_option maxRecDepth 100000
set_option maxHeartbeats 4000000
namespace K7
open PySem PySem.Spec PyProof.Rows NM L2
theorem kit_bl (K : PySem.W.Frag) : PySem.W.kitOne K (.type "bool") (.type "bool") = some true := by rfl

section
variable {P : Program} {w : World} {K : PySem.W.Frag} {mg : Str → Option Value} {base : Heap} {f g : Addr} {fd gd : FuncData}
theorem scMir : FnScope ["one"] ["one"] (defScope sMir) := ⟨rfl, rfl, rfl, by decide +kernel, rfl, by decide +kernel, by decide +kernel⟩
theorem ok_mir1 {n : Nat} (F : Fun K "mirrored" "mirrored" sMir f fd) (G : FnOk P w K mg base CX0 n f fd ["one"] (spMir n)) (b : Binds K fd ["one"] []) (m : mg "mirrored" = some (.ref f)) (mt : mg "tuple" = none) (mr : mg "reversed" = none) :
    FnOk P w K mg base CX0 (n + 1) f fd ["one"] (spMir (n + 1)) := by
  refine F.ok scMir (fun vs H Q E h => by obtain ⟨v, t, rfl, _⟩ := h; rfl) (fun cdv A outer s H vs Q E hr h => ?_)
  obtain ⟨v, t, rfl, hv, hd, q⟩ := h
  refine ⟨_, pss_one (ps_ret (pe_callTy call_tuple_of rfl mt PyProof.Rows.boot_tuple (pa_cons (pe_compF (defScope sMir) ["one"] (tCall (spMir n) [] E0 (tCons (tVar 0) tNil)) rfl scMir.nd (by decide +kernel) (pi_rev rfl mr (pa_cons (pv 0) pa_nil))
    fun cl C s H fp pins => ⟨pifs_nil, pe_call G hr rfl m F.kp b .nil pass0 (pa_cons (pv 0) pa_nil)⟩) pa_nil))), ?_⟩
  obtain ⟨a, ys, rfl, ha, hrow⟩ := hv.row
  refine ⟨_, rfl, a, ys, rfl, ha, fun hz => ?_⟩
  refine comp_run runs_rev (fun D i zs H' => H D = none ∧ H' D = some (.lst zs) ∧ Same H H' ∧ RowV H' ((t.toList.reverse.take i).map T.mir) zs) (fun D hD => ⟨hD, upd_same, same_new hD _, .nil⟩)
    (fun D i zs H' hi p => ⟨p.2.1, p.2.2.1 _ _ ha, fun hlt => ?_⟩) (fun D i zs H' x hx hi p => ?_) (fun D zs H' p => ?_)
  · obtain ⟨_, _, _, r⟩ := p
    have e := r.length
    have e2 := hrow.length
    rw [List.length_map, List.length_take, List.length_reverse] at e
    rw [List.length_reverse] at hlt
    omega
  · obtain ⟨hD, h1, sm, r⟩ := p
    obtain ⟨u, hu, iu⟩ := (RowV.reverse (RowV.mono hrow sm.t)).get hx
    have hm : u ∈ t.toList := List.mem_reverse.mp (List.mem_of_getElem? hu)
    have hdu := T.mem_depth hm
    refine ⟨_, rfl, x, u, rfl, iu, by omega, fun r' H2 sm2 i2 => ⟨sm2 _ _ h1, .mk hi ⟨hD, upd_same, same_upd hD (sm.trans sm2) _, ?_⟩⟩⟩
    have st : SameT H' (upd H2 D (.lst (zs ++ [r']))) := sm2.t.trans (sameT_lst (sm2 _ _ h1) _)
    have e : (t.toList.reverse.take (i + 1)).map T.mir = (t.toList.reverse.take i).map T.mir ++ [T.mir u] := by
      rw [List.take_succ, hu]; simp
    rw [e]
    exact RowV.append (RowV.mono r st) (RowV.one (i2.mono (sameT_lst (sm2 _ _ h1) _)))
  · obtain ⟨hD, h1, sm, r⟩ := p
    refine ⟨D, zs, rfl, .inl ⟨.of h1, fun l hl => ?_⟩⟩
    refine q _ _ (sm.trans (same_new hl _)) (.of upd_same ?_)
    rw [T.mir_to]
    have e : t.toList.reverse.take ys.reverse.length = t.toList.reverse := by
      apply List.take_of_length_le
      rw [List.length_reverse, List.length_reverse, hrow.length]; exact Nat.le_refl _
    rw [e] at r
    exact RowV.mono r (same_new hl _).t
theorem ok_mir (F : Fun K "mirrored" "mirrored" sMir f fd) (b : Binds K fd ["one"] []) (m : mg "mirrored" = some (.ref f)) (mt : mg "tuple" = none) (mr : mg "reversed" = none) : ∀ n, FnOk P w K mg base CX0 n f fd ["one"] (spMir n)
  | 0 => ⟨fun vs H Q E h => by obtain ⟨v, t, rfl, _⟩ := h; rfl, fun A outer s H args us vs Q E _ _ _ _ h => by obtain ⟨v, t, _, _, hd, _⟩ := h; omega⟩
  | n + 1 => ok_mir1 F (ok_mir F b m mt mr n) b m mt mr

end
end K7
set_option Elab.async false
set_option linter.all false
set_option maxRecDepth 100000
set_option maxHeartbeats 4000000
namespace K7
open PySem PySem.Spec PyProof.Rows NM L2
section
variable {P : Program} {w : World} {K : PySem.W.Frag} {mg : Str → Option Value} {base : Heap} {f g : Addr} {fd gd : FuncData}
/-! ### gathered -/
theorem sameT_dn {H : Hp} {p : Addr} {ps : Ks} (h : H p = some (DN p ps)) (o : HO) : SameT H (upd H p o) := fun b u q => by
  rw [upd_ne (ne_of q h (by intro z; unfold DN at z; cases z))]; exact q
theorem putN_mem (ps : Ks) (k : T) (a : Addr) (z : T) : z ∈ (putN ps k a).map (·.1) ↔ z ∈ ps.map (·.1) ∨ z = k := by
  unfold putN
  split
  · rename_i h
    constructor
    · exact .inl
    · rintro (q | rfl)
      · exact q
      · exact h
  · rw [List.map_append, List.mem_append]; simp
theorem putN_len (ps : Ks) (k : T) (a : Addr) : (putN ps k a).length ≤ ps.length + 1 := by
  unfold putN
  split
  · omega
  · simp
def spGath : Sp := fun vs H Q _ => ∃ a ys ts, vs = [.ref a] ∧ (H a = some (.lst ys) ∨ H a = some (.tup ys)) ∧ RowV H ts ys ∧ ts.length < 64 ∧ (∀ m ∈ ts, m.depth ≤ 7) ∧ ∀ r H' us, Same H H' → IsN H' r (T.ofList us) → Asc T.ml us → (∀ z, z ∈ us ↔ z ∈ ts) → Q r H'
theorem scGath : FnScope ["some", "members", "member"] ["some"] (defScope s_gathered) := ⟨rfl, rfl, rfl, by decide +kernel, rfl, by decide +kernel, by decide +kernel⟩
theorem ok_gath (F : Fun K "gathered" "gathered" s_gathered f fd) (G : FnOk P w K mg base CX0 9 g gd ["one"] (spMir 9)) (b : Binds K gd ["one"] []) (m : mg "mirrored" = some (.ref g)) (mt : mg "tuple" = none) (ms : mg "sorted" = none) :
    FnOk P w K mg base CX0 12 f fd ["some"] spGath := by
  refine F.ok scGath (fun vs H Q E h => by obtain ⟨_, _, _, rfl, _⟩ := h; rfl) (fun cdv A outer s H vs Q E hr h => ?_)
  obtain ⟨a, ys, ts, rfl, ha, hrow, h64, hd, q⟩ := h
  refine ⟨_, pss_cons (ps_set (i := 1) scGath.nd rfl (Or.inl rfl) pe_dnewN) (pss_cons (ps_for PassesOwn.never rfl (pi_seq (pv 0)) (pg_name (i := 2) scGath.nd rfl (Or.inl rfl)) (pss_one (ps_asg pe_bl (pg_sub (pv 1) (pv 2) (set_dn hr.units)))))
    (pss_one (ps_ret (pe_callTy call_tuple_of rfl mt PyProof.Rows.boot_tuple (pa_cons (pe_sortN G (by omega) hr b rfl rfl ms rfl m (pa_cons (pv 1) pa_nil)) pa_nil))))), ?_⟩
  intro d hdn
  have s0 : Same H (upd H d (DN d [])) := same_new hdn _
  have hl := hrow.length
  have ha0 : upd H d (DN d []) a = some (.lst ys) ∨ upd H d (DN d []) a = some (.tup ys) := ha.elim (fun e => .inl (s0 _ _ e)) fun e => .inr (s0 _ _ e)
  refine ⟨_, rfl, a, ys, rfl, ?_⟩
  refine for_seq (xs := ys) ha0 (fun i σ H' => ∃ ps o, σ = [some (.ref a), some (.ref d), o] ∧ Same H H' ∧ H' d = some (DN d ps) ∧ KeysN H' ps ∧ ps.length ≤ i ∧ ∀ z, z ∈ ps.map (·.1) ↔ z ∈ ts.take i) ⟨[], none, rfl, s0, upd_same, ⟨by simp, by simp, by simp⟩, Nat.le_refl _, by simp⟩
    (fun i σ H' _ p o e => by
      obtain ⟨_, _, _, sm, _⟩ := p
      have hne : a ≠ d := ha.elim (fun e => ne_of_none e hdn) fun e => ne_of_none e hdn
      rw [upd_ne hne] at e
      exact sm _ _ e) (fun i x σ H' hx p => ?_) (fun σ H' p => ?_)
  · obtain ⟨ps, o, rfl, sm, hD, KN, hlen, hm⟩ := p
    obtain ⟨u, hu, iu⟩ := (RowV.mono hrow sm.t).get hx
    obtain ⟨au, _, rfl, _⟩ := id iu
    have hi : i < ys.length := (List.getElem?_eq_some_iff.mp hx).1
    have hdu := hd u (List.mem_of_getElem? hu)
    have hsz : ps.length < sizeLine := small1000 (by omega)
    refine ⟨_, rfl, _, rfl, d, ps, au, u, rfl, rfl, rfl, hD, KN, iu, hdu, hsz, ?_⟩
    have st : SameT H' (upd H' d (DN d (putN ps u au))) := sameT_dn hD _
    refine ⟨putN ps u au, _, rfl, same_upd hdn sm _, upd_same, (KN.put iu hdu).mono st, ?_, fun z => ?_⟩
    · have := putN_len ps u au; omega
    · rw [putN_mem, hm z, List.take_succ, hu]; simp
  · obtain ⟨ps, o, rfl, sm, hD, KN, hlen, hm⟩ := p
    refine ⟨_, rfl, d, ps, rfl, hD, KN, by omega, fun l H2 ov us _ sm2 hl2 row perm asc => ?_⟩
    refine ⟨l, ov, rfl, .inl ⟨.of hl2, fun r hr' => ?_⟩⟩
    have sm3 : Same H2 (upd H2 r (.tup ov)) := same_new hr' _
    refine q _ _ us (sm.trans (sm2.trans sm3)) (.ofL upd_same (RowV.mono row sm3.t)) asc fun z => ?_
    rw [perm.mem_iff, hm z, List.take_of_length_le (by omega)]
end
end K7
set_option Elab.async false
set_option linter.all false
set_option maxRecDepth 100000
set_option maxHeartbeats 4000000
namespace K7
open PySem PySem.Spec PyProof.Rows NM L2
/-- those of the nest t that are not in t' -/
theorem rd_mine {K : PySem.W.Frag} {a b : Addr} {ys ws : List V} {t t' : T} {σ : L2.St} {j : Nat} {Q : VK} {H : Hp} (hz : ys.length ≤ sizeLine) (ha : H a = some (.tup ys)) (hrow : RowV H t.toList ys) (hb : H b = some (.tup ws)) (hrow2 : RowV H t'.toList ws)
    (hσ : σ[j]? = some (some (.ref b))) (hd : t'.depth ≤ 50) (q : ∀ D zs H', Same H H' → H' D = some (.lst zs) → RowV H' (mine t t') zs → Q (.ref D) H') : CompRd (Itt K a) (tTest (tOp (rInN K true) (tVar 0) (tVar (j + 1)))) (tVar 0) σ Q H := by
  have hl := hrow.length
  refine comp_run runs_tup (fun D i zs H' => H D = none ∧ H' D = some (.lst zs) ∧ Same H H' ∧ RowV H' ((t.toList.take i).filter fun m => decide (m ∉ t'.toList)) zs) (fun D hD => ⟨hD, upd_same, same_new hD _, .nil⟩)
    (fun D i zs H' hi p => ⟨p.2.1, .of (p.2.2.1 _ _ ha), fun hlt => ?_⟩) (fun D i zs H' x hx hi p => ?_) (fun D zs H' p => ?_)
  · obtain ⟨_, _, _, r⟩ := p
    have e := r.length
    have e2 := List.length_filter_le (fun m => decide (m ∉ t'.toList)) (t.toList.take i)
    rw [List.length_take] at e2
    omega
  · obtain ⟨hD, h1, sm, r⟩ := p
    obtain ⟨u, hu, iu⟩ := (RowV.mono hrow sm.t).get hx
    have et : t.toList.take (i + 1) = t.toList.take i ++ [u] := by rw [List.take_succ, hu]; rfl
    refine ⟨_, rfl, _, hσ, b, ws, t'.toList, u, rfl, .inr (.of (sm _ _ hb)), RowV.mono hrow2 sm.t, iu, fun m hm => by have := T.mem_depth hm; omega, _, rfl, ?_⟩
    by_cases c : u ∈ t'.toList
    · have e : (if true = true then !decide (u ∈ t'.toList) else decide (u ∈ t'.toList)) = false := by rw [if_pos rfl, decide_eq_true c]; rfl
      rw [e]
      refine iteF (.mk hi ⟨hD, h1, sm, ?_⟩)
      rw [et, List.filter_append, List.filter_cons_of_neg (by simpa using c), List.filter_nil, List.append_nil]
      exact r
    · have e : (if true = true then !decide (u ∈ t'.toList) else decide (u ∈ t'.toList)) = true := by rw [if_pos rfl, decide_eq_false c]; rfl
      rw [e]
      refine iteT ⟨_, rfl, h1, .mk hi ⟨hD, upd_same, same_upd hD sm _, ?_⟩⟩
      rw [et, List.filter_append, List.filter_cons_of_pos (by simpa using c), List.filter_nil]
      have st : SameT H' (upd H' D (.lst (zs ++ [x]))) := sameT_lst h1 _
      exact RowV.append (RowV.mono r st) (RowV.one (iu.mono st))
  · obtain ⟨hD, h1, sm, r⟩ := p
    rw [List.take_of_length_le (by omega)] at r
    exact q D zs H' sm h1 r
def spGr (n : Nat) : Sp := fun vs H Q _ => ∃ v u t t', vs = [v, u] ∧ IsN H v t ∧ IsN H u t' ∧ t.depth < n ∧ t'.depth < n ∧ ∀ H', Same H H' → Q (.bl (gr n t t')) H'
def spGrt (n : Nat) : Sp := fun vs H Q _ => ∃ a ys ts, vs = [.ref a] ∧ H a = some (.lst ys) ∧ RowV H ts ys ∧ ts ≠ [] ∧ (∀ m ∈ ts, m.depth < n) ∧ ∀ v H', Same H H' → IsN H' v (grt n ts) → Q v H'
theorem best_mem (g : T → T → Bool) : ∀ (l : List T) (f : T), best g l f ∈ f :: l
  | [], f => by simp [best]
  | a :: l, f => by
    have e : best g (a :: l) f = best g l (if g a f = true then a else f) := rfl
    rw [e]
    have := best_mem g l (if g a f = true then a else f)
    rcases List.mem_cons.mp this with q | q
    · rw [q]; split <;> simp
    · simp [q]
theorem best_app (g : T → T → Bool) (l : List T) (a f : T) : best g (l ++ [a]) f = if g a (best g l f) = true then a else best g l f := by
  unfold best; rw [List.foldl_append]; rfl
theorem row_empty {H : Hp} {ts : List T} {zs : List V} (r : RowV H ts zs) : zs.isEmpty = true ↔ ts = [] := by
  have := r.length
  rw [List.isEmpty_iff]
  constructor
  · intro e; rw [e] at this; exact List.length_eq_zero_iff.mp (by simpa using this)
  · intro e; rw [e] at this; exact List.length_eq_zero_iff.mp (by simpa using this.symm)
section
variable {P : Program} {w : World} {K : PySem.W.Frag} {mg : Str → Option Value} {base : Heap} {f g : Addr} {fd gd : FuncData}
theorem scGr : FnScope ["_law_one", "_law_other", "_law_mine", "_law_yours"] ["_law_one", "_law_other"] (defScope sGr) := ⟨rfl, rfl, rfl, by decide +kernel, rfl, by decide +kernel, by decide +kernel⟩
theorem scGrt : FnScope ["_law_some_here", "_law_found", "_law_one"] ["_law_some_here"] (defScope sGrt) := ⟨rfl, rfl, rfl, by decide +kernel, rfl, by decide +kernel, by decide +kernel⟩
theorem ok_gr1 {n : Nat} (hn : n ≤ 40) (F : Fun K "_law_greater" "_law_greater" sGr f fd) (I : FnOk P w K mg base CX0 (2 * n) f fd ["_law_one", "_law_other"] (spGr n)) (b : Binds K fd ["_law_one", "_law_other"] []) (m : mg "_law_greater" = some (.ref f))
    (G : FnOk P w K mg base CX0 (2 * n + 1) g gd ["_law_some_here"] (spGrt n)) (bG : Binds K gd ["_law_some_here"] []) (kG : PySem.W.keepIn K (.ref g) = true) (mG : mg "_law_greatest" = some (.ref g)) (ml : mg "len" = none) :
    FnOk P w K mg base CX0 (2 * (n + 1)) f fd ["_law_one", "_law_other"] (spGr (n + 1)) := by
  refine F.ok (k := 2 * n + 1) scGr (fun vs H Q E h => by obtain ⟨_, _, _, _, rfl, _⟩ := h; rfl) (fun cdv A outer s H vs Q E hr h => ?_)
  obtain ⟨v, u, t, t', rfl, hv, hu, d1, d2, q⟩ := h
  refine ⟨_, pss_cons (ps_setF (tt := tTest (tOp (rInN K true) (tVar 0) (tVar 2))) (defScope sGr) ["_law_one", "_law_other", "_law_mine", "_law_yours"] (tVar 0) 2 rfl scGr.nd (by decide +kernel) (pi_tupB (pv 0))
      (fun cl C s H fp pins => ⟨pifs_one (pt_cmpR (op_notInN hr.units) (pv 0) (pv 2) rfl), pv 0⟩) rfl (Or.inl rfl))
    (pss_cons (ps_setF (tt := tTest (tOp (rInN K true) (tVar 0) (tVar 1))) (defScope sGr) ["_law_one", "_law_other", "_law_mine", "_law_yours"] (tVar 0) 3 rfl scGr.nd (by decide +kernel) (pi_tupB (pv 1))
      (fun cl C s H fp pins => ⟨pifs_one (pt_cmpR (op_notInN hr.units) (pv 0) (pv 1) rfl), pv 0⟩) rfl (Or.inl rfl))
    (pss_cons (ps_if (PW.pt (pw_or (pt_not (pt_truth (pv 2) fun _ => rfl)) (pw_or1 (pt_not (pt_truth (pv 3) fun _ => rfl))))) (pss_one (ps_ret (pe_cmpR op_gt (pe_callB call_lenB rfl ml PySem.boot_len (pa_cons (pv 2) pa_nil)) pe_int (nomark _)))) pss_nil)
    (pss_one (ps_ret (pe_call (I.mono (by omega)) hr rfl m F.kp b .nil pass0 (pa_cons (pe_call G hr rfl mG kG bG .nil pass0 (pa_cons (pv 2) pa_nil)) (pa_cons (pe_call G hr rfl mG kG bG .nil pass0 (pa_cons (pv 3) pa_nil)) pa_nil))))))), ?_⟩
  obtain ⟨a, ys, rfl, ha, hrow⟩ := hv.row
  obtain ⟨c, ws, rfl, hc, hrow2⟩ := hu.row
  refine ⟨_, rfl, a, ys, rfl, .of ha, fun hz => rd_mine (j := 1) hz ha hrow hc hrow2 rfl (by omega) fun D zs H1 s1 h1 r1 => ?_⟩
  refine ⟨_, rfl, c, ws, rfl, .of (s1 _ _ hc), fun hz => rd_mine (j := 0) hz (s1 _ _ hc) (RowV.mono hrow2 s1.t) (s1 _ _ ha) (RowV.mono hrow s1.t) rfl (by omega) fun D2 zs2 H2 s2 h2 r2 => ?_⟩
  have r1' := RowV.mono r1 s2.t
  have e1 := row_empty r1'
  have e2 := row_empty r2
  have fin : (mine t t' = [] ∨ mine t' t = []) → Q (.bl (decide ((0 : Int) < (zs.length : Int)))) H2 := fun hh => by
    have : decide ((0 : Int) < (zs.length : Int)) = gr (n + 1) t t' := by
      rw [gr, if_pos hh, ← r1'.length]
      apply Bool.eq_iff_iff.mpr
      rw [decide_eq_true_iff, decide_eq_true_iff]
      omega
    rw [this]
    exact q _ (s1.trans s2)
  refine ⟨_, rfl, _, .inl ⟨zs, .of (s2 _ _ h1), rfl⟩, ?_⟩
  by_cases c1 : mine t t' = []
  · rw [e1.mpr c1]
    exact ⟨_, rfl, D, zs, rfl, .inl (.of (s2 _ _ h1)), fun _ => ⟨_, _, rfl, rfl, fin (.inl c1)⟩⟩
  · have x1 : zs.isEmpty = false := by cases z : zs.isEmpty; rfl; exact absurd (e1.mp z) c1
    rw [x1]
    refine ⟨_, rfl, _, .inl ⟨zs2, .of h2, rfl⟩, ?_⟩
    by_cases c2 : mine t' t = []
    · rw [e2.mpr c2]
      exact ⟨_, rfl, D, zs, rfl, .inl (.of (s2 _ _ h1)), fun _ => ⟨_, _, rfl, rfl, fin (.inr c2)⟩⟩
    · have x2 : zs2.isEmpty = false := by cases z : zs2.isEmpty; rfl; exact absurd (e2.mp z) c2
      rw [x2]
      have dm : ∀ (p p' : T) x, p.depth < n + 1 → x ∈ mine p p' → x.depth < n := fun p p' x hp hx => by have := T.mem_depth (mem_mine.1 hx).1; omega
      have gm : ∀ (p p' : T), p.depth < n + 1 → mine p p' ≠ [] → (grt n (mine p p')).depth < n := fun p p' hp hne => by
        obtain ⟨x, l, e⟩ := List.exists_cons_of_ne_nil hne
        have := best_mem (gr n) (mine p p') ((mine p p').headD T.nil)
        refine dm p p' _ hp ?_
        rcases List.mem_cons.mp this with z | z
        · unfold grt; rw [z, e]; simp
        · exact z
      refine ⟨_, rfl, D, zs, mine t t', rfl, s2 _ _ h1, r1', c1, fun x hx => dm _ _ x d1 hx, fun v3 H3 s3 i3 => ?_⟩
      refine ⟨_, rfl, D2, zs2, mine t' t, rfl, s3 _ _ h2, RowV.mono r2 s3.t, c2, fun x hx => dm _ _ x d2 hx, fun v4 H4 s4 i4 => ?_⟩
      refine ⟨v3, v4, _, _, rfl, i3.mono s4.t, i4, gm _ _ d1 c1, gm _ _ d2 c2, fun H5 s5 => ?_⟩
      have : gr n (grt n (mine t t')) (grt n (mine t' t)) = gr (n + 1) t t' := by
        rw [gr, if_neg (by rintro (z | z); exact c1 z; exact c2 z)]; rfl
      rw [this]
      exact q _ (s1.trans (s2.trans (s3.trans (s4.trans s5))))
theorem ok_grt {n : Nat} (F : Fun K "_law_greatest" "_law_greatest" sGrt f fd) (G : FnOk P w K mg base CX0 (2 * n) g gd ["_law_one", "_law_other"] (spGr n)) (b : Binds K gd ["_law_one", "_law_other"] []) (kG : PySem.W.keepIn K (.ref g) = true) (m : mg "_law_greater" = some (.ref g)) :
    FnOk P w K mg base CX0 (2 * n + 1) f fd ["_law_some_here"] (spGrt n) := by
  refine F.ok scGrt (fun vs H Q E h => by obtain ⟨_, _, _, rfl, _⟩ := h; rfl) (fun cdv A outer s H vs Q E hr h => ?_)
  obtain ⟨a, ys, ts, rfl, ha, hrow, hne, hd, q⟩ := h
  refine ⟨_, pss_cons (ps_set (i := 1) scGrt.nd rfl (Or.inl rfl) (pe_ix ix_list (pv 0) pe_int (fun _ _ => rfl)))
    (pss_cons (ps_for PassesOwn.never rfl (pi_lstB (pv 0)) (pg_name (i := 2) scGrt.nd rfl (Or.inl rfl)) (pss_one (ps_if (pt_val (pe_call G hr rfl m kG b .nil pass0 (pa_cons (pv 2) (pa_cons (pv 1) pa_nil)))) (pss_one (ps_set (i := 1) scGrt.nd rfl (Or.inl rfl) (pv 2))) pss_nil)))
    (pss_one (ps_ret (pv 1)))), ?_⟩
  obtain ⟨t0, tl, rfl⟩ := List.exists_cons_of_ne_nil hne
  obtain ⟨y0, yl, rfl⟩ : ∃ y0 yl, ys = y0 :: yl := by cases hrow; exact ⟨_, _, rfl⟩
  have i0 : IsN H y0 t0 := by cases hrow; assumption
  refine ⟨_, rfl, a, _, 0, y0, rfl, rfl, .of ha, atI_nat (j := 0) rfl, ?_⟩
  refine ⟨_, rfl, a, _, rfl, .of ha, fun hz => ?_⟩
  have hl := hrow.length
  have hmem : ∀ i, best (gr n) ((t0 :: tl).take i) t0 ∈ t0 :: tl := fun i => by
    rcases List.mem_cons.mp (best_mem (gr n) ((t0 :: tl).take i) t0) with z | z
    · rw [z]; simp
    · exact List.mem_of_mem_take z
  refine for_list (xs := y0 :: yl) (fun i σ H' => ∃ v o, σ = [some (.ref a), some v, o] ∧ Same H H' ∧ IsN H' v (best (gr n) ((t0 :: tl).take i) t0)) ⟨y0, none, rfl, fun _ _ h => h, i0⟩
    (fun i σ H' _ p => by obtain ⟨_, _, _, sm, _⟩ := p; exact .of (sm _ _ ha)) (fun i x σ H' hx p => ?_) (fun σ H' p => ?_)
  · obtain ⟨v, o, rfl, sm, iv⟩ := p
    obtain ⟨u, hu, iu⟩ := (RowV.mono hrow sm.t).get hx
    have et : (t0 :: tl).take (i + 1) = (t0 :: tl).take i ++ [u] := by rw [List.take_succ, hu]; rfl
    refine ⟨_, rfl, _, rfl, x, v, u, _, rfl, iu, iv, hd u (List.mem_of_getElem? hu), hd _ (hmem i), fun H2 s2 => ⟨_, rfl, ?_⟩⟩
    have ea := best_app (gr n) ((t0 :: tl).take i) u t0
    rw [← et] at ea
    cases c : gr n u (best (gr n) ((t0 :: tl).take i) t0) with
    | true =>
      rw [c, if_pos rfl] at ea
      exact iteT ⟨_, rfl, x, some x, rfl, sm.trans s2, by rw [ea]; exact iu.mono s2.t⟩
    | false =>
      rw [c, if_neg Bool.false_ne_true] at ea
      exact iteF ⟨v, some x, rfl, sm.trans s2, by rw [ea]; exact iv.mono s2.t⟩
  · obtain ⟨v, o, rfl, sm, iv⟩ := p
    rw [List.take_of_length_le (by omega)] at iv
    exact ⟨_, rfl, q _ _ sm iv⟩
theorem ok_gr (FG : Fun K "_law_greater" "_law_greater" sGr f fd) (bF : Binds K fd ["_law_one", "_law_other"] []) (m : mg "_law_greater" = some (.ref f)) (FT : Fun K "_law_greatest" "_law_greatest" sGrt g gd) (bG : Binds K gd ["_law_some_here"] []) (mG : mg "_law_greatest" = some (.ref g)) (ml : mg "len" = none) :
    ∀ n, n ≤ 40 → FnOk P w K mg base CX0 (2 * n) f fd ["_law_one", "_law_other"] (spGr n)
  | 0, _ => ⟨fun vs H Q E h => by obtain ⟨_, _, _, _, rfl, _⟩ := h; rfl, fun A outer s H args us vs Q E _ _ _ _ h => by obtain ⟨_, _, t, _, _, _, _, hd, _⟩ := h; exact absurd hd (Nat.not_lt_zero _)⟩
  | n + 1, hn => by
    have ih := ok_gr FG bF m FT bG mG ml n (by omega)
    exact ok_gr1 (by omega) FG ih bF m (ok_grt FT ih bF FG.kp m) bG FT.kp mG ml
end
end K7
set_option Elab.async false
set_option linter.all false
set_option maxRecDepth 100000
set_option maxHeartbeats 4000000
namespace K7
open PySem PySem.Spec PyProof.Rows NM L2
/-- how many of the row l the nest u is greater than -/
theorem rd_below {K : PySem.W.Frag} {L : Addr} {xs : List V} {l : List T} {u : T} {v : V} {σ : L2.St} {Q : VK} {H : Hp} (hz : xs.length ≤ sizeLine) (hL : H L = some (.lst xs)) (hrow : RowV H l xs) (hu : IsN H v u) (du : u.depth < 9) (dl : ∀ m ∈ l, m.depth < 9)
    (hσ : σ[2]? = some (some v)) (q : ∀ D zs H', Same H H' → H' D = some (.lst zs) → zs.length = (l.filter fun o => gr 9 u o).length → Q (.ref D) H') :
    CompRd (Itl K L) (tB (tCall (spGr 9) [] E0 (tCons (tVar 3) (tCons (tVar 0) tNil)))) (tVar 0) σ Q H := by
  have hl := hrow.length
  refine comp_run runs_list (fun D i zs H' => H D = none ∧ H' D = some (.lst zs) ∧ Same H H' ∧ zs.length = ((l.take i).filter fun o => gr 9 u o).length) (fun D hD => ⟨hD, upd_same, same_new hD _, rfl⟩)
    (fun D i zs H' hi p => ⟨p.2.1, .of (p.2.2.1 _ _ hL), fun hlt => ?_⟩) (fun D i zs H' x hx hi p => ?_) (fun D zs H' p => ?_)
  · obtain ⟨_, _, _, r⟩ := p
    have e2 := List.length_filter_le (fun o => gr 9 u o) (l.take i)
    rw [List.length_take] at e2
    omega
  · obtain ⟨hD, h1, sm, r⟩ := p
    obtain ⟨o, ho, io⟩ := (RowV.mono hrow sm.t).get hx
    have et : l.take (i + 1) = l.take i ++ [o] := by rw [List.take_succ, ho]; rfl
    refine ⟨v, hσ, _, rfl, v, x, u, o, rfl, hu.mono sm.t, io, du, dl o (List.mem_of_getElem? ho), fun H2 s2 => ⟨_, rfl, ?_⟩⟩
    cases c : gr 9 u o with
    | false =>
      refine iteF (.mk hi ⟨hD, s2 _ _ h1, sm.trans s2, ?_⟩)
      rw [et, List.filter_append, List.filter_cons_of_neg (by rw [c]; exact Bool.false_ne_true), List.filter_nil, List.append_nil]
      exact r
    | true =>
      refine iteT ⟨_, rfl, s2 _ _ h1, .mk hi ⟨hD, upd_same, same_upd hD (sm.trans s2) _, ?_⟩⟩
      rw [et, List.filter_append, List.filter_cons_of_pos c, List.filter_nil, List.length_append, List.length_append, r]; rfl
  · obtain ⟨hD, h1, sm, r⟩ := p
    rw [List.take_of_length_le (by omega)] at r
    exact q D zs H' sm h1 r
def spHn : Sp := fun vs H Q _ => ∃ a ys ts, vs = [.ref a] ∧ (H a = some (.lst ys) ∨ H a = some (.tup ys)) ∧ RowV H ts ys ∧ (∀ m ∈ ts, m.depth < 9) ∧ ts.length < 64 ∧ ∀ r H', Same H H' → IsN H' r (T.ofList (hnl 9 ts [])) → Q r H'
theorem hnl_app (n : Nat) (l : List T) (a : T) (f : List T) : hnl n (l ++ [a]) f = ins (gr n) a (hnl n l f) := by unfold hnl; rw [List.foldl_append]; rfl
theorem hnl_sub (n : Nat) : ∀ (l f : List T) (z : T), z ∈ hnl n l f → z ∈ l ∨ z ∈ f
  | [], f, z, h => .inr h
  | a :: l, f, z, h => by
    rcases hnl_sub n l (ins (gr n) a f) z h with q | q
    · exact .inl (by simp [q])
    · rcases (ins_mem (gr n) a f z).1 q with q | q
      · exact .inl (by simp [q])
      · exact .inr q
section
variable {P : Program} {w : World} {K : PySem.W.Frag} {mg : Str → Option Value} {base : Heap} {f g : Addr} {fd gd : FuncData}
theorem scHn : FnScope ["_law_some_here", "_law_found", "_law_one", "_law_at"] ["_law_some_here"] (defScope sHn) := ⟨rfl, rfl, rfl, by decide +kernel, rfl, by decide +kernel, by decide +kernel⟩
theorem ok_hn (F : Fun K "_law_nest" "_law_nest" sHn f fd) (G : FnOk P w K mg base CX0 18 g gd ["_law_one", "_law_other"] (spGr 9)) (b : Binds K gd ["_law_one", "_law_other"] []) (kG : PySem.W.keepIn K (.ref g) = true) (m : mg "_law_greater" = some (.ref g)) (ml : mg "len" = none) (mt : mg "tuple" = none) :
    FnOk P w K mg base CX0 19 f fd ["_law_some_here"] spHn := by
  refine F.ok scHn (fun vs H Q E h => by obtain ⟨_, _, _, rfl, _⟩ := h; rfl) (fun cdv A outer s H vs Q E hr h => ?_)
  obtain ⟨a, ys, ts, rfl, ha, hrow, hd, h64, q⟩ := h
  refine ⟨_, pss_cons (ps_set (i := 1) scHn.nd rfl (Or.inl rfl) (pe_lst pa_nil)) (pss_cons (ps_for PassesOwn.never rfl (pi_seq (pv 0)) (pg_name (i := 2) scHn.nd rfl (Or.inr rfl))
      (pss_one (ps_if (pt_cmpR (op_notInN hr.units) (pv 2) (pv 1) rfl)
        (pss_cons (ps_set (i := 3) scHn.nd rfl (Or.inl rfl) (pe_callB call_lenB rfl ml PySem.boot_len (pa_cons (pe_compF (tt := tB (tCall (spGr 9) [] E0 (tCons (tVar 3) (tCons (tVar 0) tNil)))) (defScope sHn) ["_law_some_here", "_law_found", "_law_one", "_law_at"] (tVar 0) rfl scHn.nd (by decide +kernel) (pi_lstB (pv 1))
            fun cl C s H fp pins => ⟨pifs_one (pt_val (pe_call G hr rfl m kG b .nil pass0 (pa_cons (pv 3) (pa_cons (pv 0) pa_nil)))), pv 0⟩) pa_nil)))
          (pss_one (ps_expr (pe_bm PySem.F.plainAttrs_list PySem.F.slot_list_insert PySem.F.type_list_insert mt_insert (pv 1) (pa_cons (pv 3) (pa_cons (pv 2) pa_nil))))))
        pss_nil)))
    (pss_one (ps_ret (pe_callTy call_tuple_of rfl mt PyProof.Rows.boot_tuple (pa_cons (pv 1) pa_nil))))), ?_⟩
  refine ⟨(by show 0 ≤ sizeLine; exact Nat.zero_le _), fun L hL => ?_⟩
  have s0 : Same H (upd H L (.lst [])) := same_new hL _
  have hl := hrow.length
  refine ⟨_, rfl, a, ys, rfl, ?_⟩
  have hz : ys.length < 1000 := by omega
  have ha0 : upd H L (.lst []) a = some (.lst ys) ∨ upd H L (.lst []) a = some (.tup ys) := ha.elim (fun e => .inl (s0 _ _ e)) fun e => .inr (s0 _ _ e)
  refine for_seq (xs := ys) ha0 (fun i σ H' => ∃ zs o1 o2, σ = [some (.ref a), some (.ref L), o1, o2] ∧ Same H H' ∧ H' L = some (.lst zs) ∧ RowV H' (hnl 9 (ts.take i) []) zs) ⟨[], none, none, rfl, s0, upd_same, .nil⟩
    (fun i σ H' _ p o e => by
      obtain ⟨_, _, _, _, sm, _⟩ := p
      have hne : a ≠ L := ha.elim (fun e => ne_of_none e hL) fun e => ne_of_none e hL
      rw [upd_ne hne] at e
      exact sm _ _ e) (fun i x σ H' hx p => ?_) (fun σ H' p => ?_)
  · obtain ⟨zs, o1, o2, rfl, sm, hL', row⟩ := p
    obtain ⟨u, hu, iu⟩ := (RowV.mono hrow sm.t).get hx
    have et : ts.take (i + 1) = ts.take i ++ [u] := by rw [List.take_succ, hu]; rfl
    have dl : ∀ m ∈ hnl 9 (ts.take i) [], m.depth < 9 := fun m hm => by
      rcases hnl_sub 9 _ _ m hm with z | z
      · exact hd m (List.mem_of_mem_take z)
      · simp at z
    have hi : i < ys.length := (List.getElem?_eq_some_iff.mp hx).1
    have hzl : zs.length ≤ i := by
      have e1 := row.length
      have e2 := hnl_len 9 (ts.take i) []
      rw [List.length_take, List.length_nil] at e2
      omega
    have hsz : zs.length < sizeLine := small1000 (by omega)
    have du := hd u (List.mem_of_getElem? hu)
    refine ⟨_, rfl, _, rfl, L, zs, _, u, rfl, .inl (.of hL'), row, iu, fun m hm => by have := dl m hm; omega, _, rfl, ?_⟩
    have ea : hnl 9 (ts.take (i + 1)) [] = ins (gr 9) u (hnl 9 (ts.take i) []) := by rw [et, hnl_app]
    by_cases c : u ∈ hnl 9 (ts.take i) []
    · have e : (if true = true then !decide (u ∈ hnl 9 (ts.take i) []) else decide (u ∈ hnl 9 (ts.take i) [])) = false := by rw [if_pos rfl, decide_eq_true c]; rfl
      rw [e]
      refine iteF ⟨zs, _, _, rfl, sm, hL', ?_⟩
      rw [ea, ins, if_pos c]
      exact row
    · have e : (if true = true then !decide (u ∈ hnl 9 (ts.take i) []) else decide (u ∈ hnl 9 (ts.take i) [])) = true := by rw [if_pos rfl, decide_eq_false c]; rfl
      rw [e]
      refine iteT ⟨_, rfl, L, zs, rfl, .of hL', fun _ => rd_below (by omega) hL' row iu du dl rfl fun D zs' H2 s2 h2 hlen => ?_⟩
      have hk : zs'.length ≤ zs.length := by
        have e2 := List.length_filter_le (fun o => gr 9 u o) (hnl 9 (ts.take i) [])
        have e3 := row.length
        omega
      refine ⟨D, zs', rfl, .inl (.of h2), fun _ => ?_⟩
      refine ⟨_, rfl, .inl ⟨rfl, _, .of (s2 _ _ hL')⟩, _, rfl, _, rfl, L, zs, zs'.length, x, rfl, rfl, s2 _ _ hL', hk, hsz, ?_⟩
      have st : SameT H2 (upd H2 L (.lst (zs.take zs'.length ++ x :: zs.drop zs'.length))) := sameT_lst (s2 _ _ hL') _
      refine ⟨_, _, _, rfl, same_upd hL (sm.trans s2) _, upd_same, ?_⟩
      rw [ea, ins, if_neg c, ← hlen]
      have row2 := RowV.mono (RowV.mono row s2.t) st
      exact RowV.append (RowV.take _ row2) (.cons ((iu.mono s2.t).mono st) (RowV.drop _ row2))
  · obtain ⟨zs, o1, o2, rfl, sm, hL', row⟩ := p
    refine ⟨_, rfl, L, zs, rfl, .inl ⟨.of hL', fun r hr' => ?_⟩⟩
    have s3 : Same H' (upd H' r (.tup zs)) := same_new hr' _
    rw [List.take_of_length_le (by omega)] at row
    exact q _ _ (sm.trans s3) (.ofL upd_same (RowV.mono row s3.t))

/-! ### cells -/
def spMix : Sp := fun vs H Q _ => ∃ c p m, vs = [.int c, .int p, .int m] ∧ 0 < p ∧ 0 < m ∧ ∀ H', Same H H' → Q (.int (c * 48271 % p % m)) H'
theorem scMix : FnScope ["_law_cell_here", "_law_prime", "_law_many"] ["_law_cell_here", "_law_prime", "_law_many"] (defScope sMix) := ⟨rfl, rfl, rfl, by decide +kernel, rfl, by decide +kernel, by decide +kernel⟩
theorem ok_mix (F : Fun K "_law_mix" "_law_mix" sMix f fd) : FnOk P w K mg base CX0 1 f fd ["_law_cell_here", "_law_prime", "_law_many"] spMix := by
  refine F.ok scMix (fun vs H Q E h => by obtain ⟨_, _, _, rfl, _⟩ := h; rfl) (fun cdv A outer s H vs Q E hr h => ?_)
  obtain ⟨c, p, m, rfl, hp, hm, q⟩ := h
  refine ⟨_, pss_one (ps_ret (pe_op op_mod (pe_op op_mod (pe_op op_mul (pv 0) pe_int) (pv 1)) (pv 2))), ?_⟩
  exact ⟨_, rfl, _, _, rfl, rfl, .inr ⟨by decide, by decide⟩, _, rfl, _, _, rfl, rfl, hp, _, rfl, _, _, rfl, rfl, hm, q _ fun _ _ h => h⟩
def spCell (K : PySem.W.Frag) : Sp := fun vs H Q _ => ∃ (a : Addr) (ns : List Int) (k : Int), vs = [.ref a, .int k] ∧ SqL K H a (ns.map V.int) ∧ 0 ≤ k ∧ ∀ i H', Same H H' → Q (.int i) H'
theorem scCell : FnScope ["_law_script", "_law_k"] ["_law_script", "_law_k"] (defScope sCell) := ⟨rfl, rfl, rfl, by decide +kernel, rfl, by decide +kernel, by decide +kernel⟩
theorem ok_cell (F : Fun K "_law_cell" "_law_cell" sCell f fd) (ml : mg "len" = none) : FnOk P w K mg base CX0 1 f fd ["_law_script", "_law_k"] (spCell K) := by
  refine F.ok scCell (fun vs H Q E h => by obtain ⟨_, _, _, rfl, _⟩ := h; rfl) (fun cdv A outer s H vs Q E hr h => ?_)
  obtain ⟨a, ns, k, rfl, ha, hk, q⟩ := h
  refine ⟨_, pss_cons (ps_if (pt_cmpR op_lt (pv 1) (pe_callB call_len_seq rfl ml PySem.boot_len (pa_cons (pv 0) pa_nil)) (nomark _)) (pss_one (ps_ret (pe_ix ix_list (pv 0) (pv 1) (fun _ _ => rfl)))) pss_nil) (pss_one (ps_ret pe_int)), ?_⟩
  refine ⟨_, rfl, _, rfl, a, _, rfl, .inl ha, _, _, rfl, rfl, _, rfl, ite2 (fun c => ?_) (fun c => q _ _ fun _ _ h => h)⟩
  have c' : k < ((ns.map V.int).length : Int) := of_decide_eq_true c
  rw [List.length_map] at c'
  have hk' : k.toNat < ns.length := by omega
  have ek : k = ((k.toNat : Nat) : Int) := by omega
  have hat : atI (ns.map V.int) ((k.toNat : Nat) : Int) = some (.int ns[k.toNat]) := atI_nat (by rw [List.getElem?_map, List.getElem?_eq_getElem hk'] <;> rfl)
  rw [← ek] at hat
  exact ⟨_, rfl, _, rfl, a, _, _, _, rfl, rfl, ha, hat, q _ _ fun _ _ h => h⟩

/-! ### drawn nests -/
/-- a nest as they are drawn -/
structure Drawn (t : T) (d : Nat) : Prop where
  can : canon t = true
  dep : t.depth ≤ d
  few : t.toList.length ≤ 3
def spDr (n : Nat) : Sp := fun vs H Q _ => ∃ c d, vs = [.int c, .int d] ∧ d.toNat < n ∧ d.toNat ≤ 6 ∧ ∀ r H' t, Same H H' → IsN H' r t → Drawn t d.toNat → Q r H'
theorem scDr : FnScope ["_law_cell_here", "_law_deep", "_law_found", "_law_k", "_law_less"] ["_law_cell_here", "_law_deep"] (defScope sDr) := ⟨rfl, rfl, rfl, by decide +kernel, rfl, by decide +kernel, by decide +kernel⟩
theorem ok_dr1 {fm fh : Addr} {fmd fhd : FuncData} {n : Nat} (F : Fun K "_law_drawn" "_law_drawn" sDr f fd) (I : FnOk P w K mg base CX0 (19 + n) f fd ["_law_cell_here", "_law_deep"] (spDr n)) (b : Binds K fd ["_law_cell_here", "_law_deep"] []) (m : mg "_law_drawn" = some (.ref f))
    (M : FnOk P w K mg base CX0 1 fm fmd ["_law_cell_here", "_law_prime", "_law_many"] spMix) (bM : Binds K fmd ["_law_cell_here", "_law_prime", "_law_many"] []) (kM : PySem.W.keepIn K (.ref fm) = true) (mM : mg "_law_mix" = some (.ref fm))
    (N : FnOk P w K mg base CX0 19 fh fhd ["_law_some_here"] spHn) (bN : Binds K fhd ["_law_some_here"] []) (kN : PySem.W.keepIn K (.ref fh) = true) (mN : mg "_law_nest" = some (.ref fh)) (mr : mg "range" = none) (mi : mg "int" = none) :
    FnOk P w K mg base CX0 (19 + (n + 1)) f fd ["_law_cell_here", "_law_deep"] (spDr (n + 1)) := by
  refine F.ok (k := 19 + n) scDr (fun vs H Q E h => by obtain ⟨_, _, rfl, _⟩ := h; rfl) (fun cdv A outer s H vs Q E hr h => ?_)
  obtain ⟨c, d, rfl, hd, hd6, q⟩ := h
  have M' := M.mono (k := 19 + n) (by omega)
  have N' := N.mono (k := 19 + n) (by omega)
  refine ⟨_, pss_cons (ps_set (i := 2) scDr.nd rfl (Or.inl rfl) (pe_lst pa_nil)) (pss_cons (ps_if (pt_cmpR op_gt (pv 1) pe_int (nomark _))
      (pss_one (ps_for PassesOwn.never rfl (pi_range1 rfl mr (pa_cons (pe_call M' hr rfl mM kM bM .nil pass0 (pa_cons (pv 0) (pa_cons pe_int (pa_cons pe_int pa_nil)))) pa_nil)) (pg_name (i := 3) scDr.nd rfl (Or.inl rfl))
        (pss_cons (ps_set (i := 4) scDr.nd rfl (Or.inl rfl) (pe_op op_add pe_int (pe_op op_mul (pe_call M' hr rfl mM kM bM .nil pass0 (pa_cons (pe_op op_add (pv 0) (pv 3)) (pa_cons pe_int (pa_cons pe_int pa_nil)))) (pe_callTy call_int1 rfl mi PyProof.Rows.boot_int (pa_cons (pe_cmpR op_gt (pv 1) pe_int (nomark _)) pa_nil)))))
        (pss_one (ps_expr (pe_bm PySem.F.plainAttrs_list PySem.F.slot_list_append PySem.F.type_list_append mt_append (pv 2) (pa_cons (pe_call I hr rfl m F.kp b .nil pass0 (pa_cons (pe_op op_add (pe_op op_add (pe_op op_mul (pv 0) pe_int) (pe_op op_mul pe_int (pv 3))) pe_int) (pa_cons (pe_op op_sub (pv 1) (pv 4)) pa_nil))) pa_nil)))))))
      pss_nil)
    (pss_one (ps_ret (pe_call N' hr rfl mN kN bN .nil pass0 (pa_cons (pv 2) pa_nil))))), ?_⟩
  refine ⟨Nat.zero_le _, fun L hL => ?_⟩
  have s0 : Same H (upd H L (.lst [])) := same_new hL _
  -- the end
  have fin : ∀ H' ys ts, Same H H' → H' L = some (.lst ys) → RowV H' ts ys → ts.length ≤ 3 → (∀ x ∈ ts, canon x = true ∧ x.depth + 1 ≤ d.toNat) → ∀ r H2, Same H' H2 → IsN H2 r (T.ofList (hnl 9 ts [])) → Q r H2 := fun H' ys ts sm hL' row hlen hx r H2 s2 ir => by
    have sp := hnl_spec 8 ts [] (fun x h => ⟨by have := (hx x h).2; omega, (hx x h).1⟩) (fun x h => by simp at h) (by simp [Asc])
    have mem : ∀ z ∈ hnl 9 ts [], z ∈ ts := fun z h => by
      rcases (sp.2 z).1 h with h | h
      · exact h
      · simp at h
    refine q r H2 _ (sm.trans s2) ir ⟨canon_of (fun z h => (hx z (mem z h)).1) sp.1, T.depth_le fun z h => ?_, ?_⟩
    · rw [T.to_of] at h
      have := (hx z (mem z h)).2
      omega
    · rw [T.to_of]
      have := hnl_len 9 ts []
      simp only [List.length_nil] at this
      omega
  refine ⟨_, rfl, _, _, rfl, rfl, _, rfl, ite2 (fun cc => ?_) (fun cc => ?_)⟩
  · have hpos : 0 < d := of_decide_eq_true cc
    refine ⟨_, rfl, c, 9973, 4, rfl, by decide, by decide, fun H1 s1 => ?_⟩
    have hj0 : 0 ≤ c * 48271 % 9973 % 4 := Int.emod_nonneg _ (by decide)
    have hj4 : c * 48271 % 9973 % 4 < 4 := Int.emod_lt_of_pos _ (by decide)
    refine ⟨c * 48271 % 9973 % 4, rfl, by omega, by omega, ?_⟩
    refine for_range (n := (c * 48271 % 9973 % 4).toNat) (fun i σ H' => ∃ ys ts o3 o4, σ = [some (.int c), some (.int d), some (.ref L), o3, o4] ∧ Same H H' ∧ H' L = some (.lst ys) ∧ RowV H' ts ys ∧ ts.length ≤ i ∧ ∀ x ∈ ts, canon x = true ∧ x.depth + 1 ≤ d.toNat)
      ⟨[], [], none, none, rfl, s0.trans s1, s1 _ _ upd_same, .nil, Nat.le_refl _, by simp⟩ (fun i σ H' hi p => ?_) (fun σ H' p => ?_)
    · obtain ⟨ys, ts, o3, o4, rfl, sm, hL', row, hlen, hx⟩ := p
      refine ⟨_, rfl, _, rfl, _, _, rfl, rfl, _, 9967, 2, rfl, by decide, by decide, fun H2 s2 => ?_⟩
      refine ⟨_, rfl, _, _, rfl, rfl, .inr ⟨_, rfl, ?_⟩⟩
      generalize hM : (c + (0 + (i : Int))) * 48271 % 9967 % 2 = M0
      have hm0 : 0 ≤ M0 := by rw [← hM]; exact Int.emod_nonneg _ (by decide)
      have hm2 : M0 < 2 := by rw [← hM]; exact Int.emod_lt_of_pos _ (by decide)
      generalize hB : (if decide ((1 : Int) < d) = true then (1 : Int) else 0) = B0
      have hb0 : 0 ≤ B0 := by rw [← hB]; split <;> decide
      have hmb : 0 ≤ M0 * B0 := Int.mul_nonneg hm0 hb0
      refine ⟨_, _, rfl, rfl, .inl ⟨by omega, by omega⟩, _, _, rfl, rfl, ?_⟩
      have hlr := row.length
      refine ⟨_, rfl, .inl ⟨rfl, _, .of (s2 _ _ hL')⟩, _, rfl, _, _, rfl, rfl, .inr ⟨by decide, by decide⟩, _, rfl, _, _, rfl, rfl, .inl ⟨by decide, by decide⟩, _, _, rfl, rfl, _, _, rfl, rfl, _, rfl, _, rfl, _, _, rfl, rfl, _, _, rfl, ?_, ?_, fun r H3 t s3 ir dr => ?_⟩
      · omega
      · omega
      have h3 := s3 _ _ (s2 _ _ hL')
      refine ⟨L, ys, r, rfl, rfl, h3, small1000 (by omega), ?_⟩
      have st : SameT H3 (upd H3 L (.lst (ys ++ [r]))) := sameT_lst h3 _
      refine ⟨_, ts ++ [t], _, _, rfl, same_upd hL (sm.trans (s2.trans s3)) _, upd_same, RowV.append (RowV.mono (RowV.mono (RowV.mono row s2.t) s3.t) st) (RowV.one (ir.mono st)), by rw [List.length_append, List.length_singleton]; omega, fun x hx' => ?_⟩
      rcases List.mem_append.mp hx' with z | z
      · exact hx x z
      · have z : x = t := by simpa using z
        subst z
        refine ⟨dr.can, ?_⟩
        have := dr.dep
        omega
    · obtain ⟨ys, ts, o3, o4, rfl, sm, hL', row, hlen, hx⟩ := p
      exact ⟨_, rfl, L, ys, ts, rfl, .inl hL', row, fun x h => by have := (hx x h).2; omega, by omega, fin H' ys ts sm hL' row (by omega) hx⟩
  · exact ⟨_, rfl, L, [], [], rfl, .inl upd_same, .nil, by simp, by simp, fin _ [] [] s0 upd_same .nil (by simp) (by simp)⟩
theorem ok_dr {fm fh : Addr} {fmd fhd : FuncData} (F : Fun K "_law_drawn" "_law_drawn" sDr f fd) (b : Binds K fd ["_law_cell_here", "_law_deep"] []) (m : mg "_law_drawn" = some (.ref f))
    (M : FnOk P w K mg base CX0 1 fm fmd ["_law_cell_here", "_law_prime", "_law_many"] spMix) (bM : Binds K fmd ["_law_cell_here", "_law_prime", "_law_many"] []) (kM : PySem.W.keepIn K (.ref fm) = true) (mM : mg "_law_mix" = some (.ref fm))
    (N : FnOk P w K mg base CX0 19 fh fhd ["_law_some_here"] spHn) (bN : Binds K fhd ["_law_some_here"] []) (kN : PySem.W.keepIn K (.ref fh) = true) (mN : mg "_law_nest" = some (.ref fh)) (mr : mg "range" = none) (mi : mg "int" = none) :
    ∀ n, FnOk P w K mg base CX0 (19 + n) f fd ["_law_cell_here", "_law_deep"] (spDr n)
  | 0 => ⟨fun vs H Q E h => by obtain ⟨_, _, rfl, _⟩ := h; rfl, fun A outer s H args us vs Q E _ _ _ _ h => by obtain ⟨_, _, _, hd, _⟩ := h; exact absurd hd (Nat.not_lt_zero _)⟩
  | n + 1 => ok_dr1 F (ok_dr F b m M bM kM mM N bN kN mN mr mi n) b m M bM kM mM N bN kN mN mr mi
end
end K7
set_option Elab.async false
set_option linter.all false
set_option maxRecDepth 100000
set_option maxHeartbeats 4000000
namespace K7
open PySem PySem.Spec PyProof.Rows NM L2
/-! ### some drawn nests -/
def cutN {α : Type} (xs : List α) (k m : Nat) : List α := (xs.drop (min k xs.length)).take (min (k + m) xs.length - min k xs.length)
theorem cutN_len {α : Type} (xs : List α) (k m : Nat) : (cutN xs k m).length ≤ m := by
  unfold cutN
  rw [List.length_take, List.length_drop]
  omega
theorem cutV_int (ns : List Int) (k m : Nat) : cutV (ns.map V.int) (some (k : Int)) (some ((k : Int) + (m : Int))) = (cutN ns k m).map V.int := by
  unfold cutV cutN
  rw [show ((k : Int) + (m : Int)) = ((k + m : Nat) : Int) by omega, HT.sIx_nat, HT.sIx_nat, List.length_map, List.map_take, List.map_drop]
def spSome (K : PySem.W.Frag) : Sp := fun vs H Q _ => ∃ (a : Addr) (ns : List Int) (k m : Nat), vs = [.ref a, .int (k : Int), .int (m : Int)] ∧ SqL K H a (ns.map V.int) ∧ m ≤ 63 ∧
  ∀ r xs ts H', H r = none → Same H H' → H' r = some (.lst xs) → RowV H' (ts ++ [T.nil]) xs → ts.length ≤ m → (∀ t ∈ ts, Drawn t 4) → Q (.ref r) H'
theorem isN_nil {H : Hp} {a : Addr} (h : H a = some (.tup [])) : IsN H (.ref a) T.nil := .of h .nil
section
variable {P : Program} {w : World} {K : PySem.W.Frag} {mg : Str → Option Value} {base : Heap} {f g : Addr} {fd gd : FuncData}
theorem scSome : FnScope ["_law_script", "_law_k", "_law_many"] ["_law_script", "_law_k", "_law_many"] (defScope sSome) := ⟨rfl, rfl, rfl, by decide +kernel, rfl, by decide +kernel, by decide +kernel⟩
theorem ok_some (F : Fun K "_law_some" "_law_some" sSome f fd) (G : FnOk P w K mg base CX0 24 g gd ["_law_cell_here", "_law_deep"] (spDr 5)) (b : Binds K gd ["_law_cell_here", "_law_deep"] []) (kG : PySem.W.keepIn K (.ref g) = true) (m : mg "_law_drawn" = some (.ref g)) :
    FnOk P w K mg base CX0 25 f fd ["_law_script", "_law_k", "_law_many"] (spSome K) := by
  refine F.ok scSome (fun vs H Q E h => by obtain ⟨_, _, _, _, rfl, _⟩ := h; rfl) (fun cdv A outer s H vs Q E hr h => ?_)
  obtain ⟨a, ns, k, n, rfl, ha, hn, q⟩ := h
  refine ⟨_, pss_one (ps_ret (pe_op op_cat (pe_compF (defScope sSome) ["_law_script", "_law_k", "_law_many"] (tCall (spDr 5) [] E0 (tCons (tVar 0) (tCons (tOp (rI0 fun i j => .int (i + j)) (tC (.int 1)) (tOp (rI (fun _ j => 0 < j) fun i j => .int (i % j)) (tVar 0) (tC (.int 4)))) tNil)))
      rfl scSome.nd (by decide +kernel) (pi_lstB (pe_slice sl_list (pv 0) (po_some (pv 1)) (po_some (pe_op op_add (pv 1) (pv 2)))))
      fun cl C s H fp pins => ⟨pifs_nil, pe_call G hr rfl m kG b .nil pass0 (pa_cons (pv 0) (pa_cons (pe_op op_add pe_int (pe_op op_mod (pv 0) pe_int)) pa_nil))⟩)
    (pe_lst (pa_cons (pe_tup pa_nil) pa_nil)))), ?_⟩
  refine ⟨_, rfl, _, rfl, _, rfl, _, rfl, _, rfl, _, _, rfl, rfl, _, rfl, a, _, rfl, ha, fun C hC => ?_⟩
  rw [cutV_int]
  have hcl := cutN_len ns k n
  have s0 : Same H (upd H C (.lst ((cutN ns k n).map V.int))) := same_new hC _
  refine ⟨C, _, rfl, .of upd_same, fun hz => ?_⟩
  refine comp_run runs_list (fun D i zs H' => upd H C (.lst ((cutN ns k n).map V.int)) D = none ∧ H' D = some (.lst zs) ∧ Same (upd H C (.lst ((cutN ns k n).map V.int))) H' ∧ ∃ ts, RowV H' ts zs ∧ ts.length = i ∧ ∀ t ∈ ts, Drawn t 4)
    (fun D hD => ⟨hD, upd_same, same_new hD _, [], .nil, rfl, by simp⟩)
    (fun D i zs H' hi p => ⟨p.2.1, .of (p.2.2.1 _ _ upd_same), fun hlt => ?_⟩) (fun D i zs H' x hx hi p => ?_) (fun D zs H' p => ?_)
  · obtain ⟨_, _, _, ts, r, e, _⟩ := p
    have := r.length
    rw [List.length_map] at hlt
    exact small1000 (by omega)
  · obtain ⟨hD, h1, sm, ts, r, e, hdr⟩ := p
    obtain ⟨c, rfl⟩ : ∃ c, x = .int c := by
      rw [List.getElem?_map] at hx
      cases z : (cutN ns k n)[i]? with
      | none => rw [z] at hx; cases hx
      | some c => rw [z] at hx; exact ⟨c, (Option.some.inj hx).symm⟩
    have h0 : 0 ≤ c % 4 := Int.emod_nonneg _ (by decide)
    have h4 : c % 4 < 4 := Int.emod_lt_of_pos _ (by decide)
    refine ⟨_, rfl, _, rfl, _, _, rfl, rfl, (by show (0 : Int) < 4; decide), _, _, rfl, rfl, c, 1 + c % 4, rfl, by omega, by omega, fun v H2 t s2 it dt => ⟨s2 _ _ h1, .mk hi ⟨hD, upd_same, same_upd hD (sm.trans s2) _, ts ++ [t], ?_, by rw [List.length_append, e]; rfl, fun u hu => ?_⟩⟩⟩
    · have st : SameT H2 (upd H2 D (.lst (zs ++ [v]))) := sameT_lst (s2 _ _ h1) _
      exact RowV.append (RowV.mono (RowV.mono r s2.t) st) (RowV.one (it.mono st))
    · rcases List.mem_append.mp hu with z | z
      · exact hdr u z
      · have z : u = t := by simpa using z
        subst z
        exact ⟨dt.can, by have := dt.dep; omega, dt.few⟩
  · obtain ⟨hD, h1, sm, ts, r, e, hdr⟩ := p
    rw [List.length_map] at e
    refine ⟨Nat.zero_le _, fun t0 ht0 => ⟨(by show 1 ≤ sizeLine; decide), fun l hl => ?_⟩⟩
    have s1 : Same H' (upd H' t0 (.tup [])) := same_new ht0 _
    have s2 : Same (upd H' t0 (.tup [])) (upd (upd H' t0 (.tup [])) l (.lst [.ref t0])) := same_new hl _
    have hlr := r.length
    refine ⟨D, l, zs, _, rfl, rfl, s2 _ _ (s1 _ _ h1), upd_same, ?_, fun r0 hr0 => ?_⟩
    · refine Nat.le_of_lt (small1000 ?_)
      show zs.length + 1 ≤ 1000
      omega
    · have s3 := same_new hr0 (.lst (zs ++ [.ref t0]))
      have sa := s1.trans (s2.trans s3)
      refine q r0 _ ts _ (((s0.trans sm).trans (s1.trans s2)).free hr0) ((s0.trans sm).trans sa) upd_same (RowV.append (RowV.mono r sa.t) (RowV.one ?_)) (by omega) hdr
      exact isN_nil (s3 _ _ (s2 _ _ upd_same))
end
end K7
set_option Elab.async false
set_option linter.all false
set_option maxRecDepth 100000
set_option maxHeartbeats 4000000
namespace K7
open PySem PySem.Spec PyProof.Rows NM L2
/-! ### the law -/
theorem iteS {c A B : Prop} [Decidable c] (hc : c) (h : A) : if decide c = true then A else B := by
  rw [decide_eq_true hc]
  exact iteT h
theorem iteN {c A B : Prop} [Decidable c] (hc : ¬ c) (h : B) : if decide c = true then A else B := by
  rw [decide_eq_false hc]
  exact iteF h
theorem iteNN {c A B : Prop} [Decidable c] (hc : ¬ c) (h : A) : if (!decide c) = true then A else B := by
  rw [decide_eq_false hc]
  exact iteT h
/-- a def of the text as it stands, with its promise -/
structure Has (P : Program) (w : World) (K : PySem.W.Frag) (mg : Str → Option Value) (base : Heap) (k : Nat) (x : Str) (ps : List Str) (sp : Sp) (f : Addr) (fd : FuncData) : Prop where
  ok : FnOk P w K mg base CX0 k f fd ps sp
  b : Binds K fd ps []
  kp : PySem.W.keepIn K (.ref f) = true
  m : mg x = some (.ref f)
def spLaw (K : PySem.W.Frag) : Sp := fun vs H Q _ => ∃ (a : Addr) (ns : List Int), vs = [.ref a] ∧ SqL K H a (ns.map V.int) ∧ ns.length ≤ 63 ∧ ∀ H', Q (.bl true) H'
end K7
set_option Elab.async false
set_option linter.all false
set_option maxRecDepth 100000
set_option maxHeartbeats 4000000
namespace K7
open PySem PySem.Spec PyProof.Rows NM L2
/-! ### what deeds promise -/
/-- of two nests: whether -/
def spAsk (f : T → T → Bool) : Sp := fun vs H Q _ => ∃ v u t t', vs = [v, u] ∧ IsN H v t ∧ IsN H u t' ∧ t.depth ≤ 7 ∧ t'.depth ≤ 7 ∧ t.toList.length ≤ 40 ∧ t'.toList.length ≤ 40 ∧ canon t = true ∧ canon t' = true ∧ ∀ H', Same H H' → Q (.bl (f t t')) H'
/-- of two nests: the nest of just these -/
def spTwo (R : T → T → T → Prop) : Sp := fun vs H Q _ => ∃ v u t t', vs = [v, u] ∧ IsN H v t ∧ IsN H u t' ∧ t.depth ≤ 7 ∧ t'.depth ≤ 7 ∧ t.toList.length ≤ 20 ∧ t'.toList.length ≤ 20 ∧ canon t = true ∧ canon t' = true ∧
  ∀ r H' us, Same H H' → IsN H' r (T.ofList us) → Asc T.ml us → (∀ z, z ∈ us ↔ R t t' z) → Q r H'
def fHas (t t' : T) : Bool := decide (t' ∈ t.toList)
def fWithin (t t' : T) : Bool := decide (∀ m ∈ t.toList, m ∈ t'.toList)
def rBoth (t t' z : T) : Prop := z ∈ t.toList ∨ z ∈ t'.toList
def rShared (t t' z : T) : Prop := z ∈ t.toList ∧ z ∈ t'.toList
def rWithout (t t' z : T) : Prop := z ∈ t.toList ∧ z ∉ t'.toList
/-- those of the nest t that are (neg: are not) in t' -/
def sel (neg : Bool) (t t' : T) : List T := t.toList.filter fun m => if neg then !decide (m ∈ t'.toList) else decide (m ∈ t'.toList)
/-- by hand and by the program: one nest -/
theorem hn_same {ts us : List T} (h : ∀ z ∈ ts, z.depth ≤ 8 ∧ canon z = true) (ha : Asc T.ml us) (hm : ∀ z, z ∈ us ↔ z ∈ ts) : T.ofList us = T.ofList (hnl 9 ts []) := by rw [hn_uniq 8 h ha hm]
theorem hn_depth {ts : List T} {n : Nat} (h : ∀ z ∈ ts, z.depth < n) : (T.ofList (hnl 9 ts [])).depth ≤ n := T.depth_le fun m hm => by
  rw [T.to_of] at hm
  rcases hnl_sub 9 ts [] m hm with z | z
  · exact h m z
  · simp at z
theorem hn_canon {ts : List T} (h : ∀ z ∈ ts, z.depth ≤ 8 ∧ canon z = true) : canon (T.ofList (hnl 9 ts [])) = true := by
  have sp := hnl_spec 8 ts [] h (fun x h => by simp at h) (by simp [Asc])
  refine canon_of (fun z hz => ?_) sp.1
  rcases (sp.2 z).1 hz with q | q
  · exact (h z q).2
  · simp at q
end K7
set_option Elab.async false
set_option linter.all false
set_option maxRecDepth 100000
set_option maxHeartbeats 4000000
namespace K7
open PySem PySem.Spec PyProof.Rows NM L2
/-! ### cuts -/
theorem cutV_to (xs : List V) (k : Nat) : cutV xs none (some (k : Int)) = xs.take k := by
  unfold cutV
  rw [HT.sIx_nat]
  show (xs.drop 0).take (min k xs.length - 0) = _
  rw [List.drop_zero, Nat.sub_zero]
  by_cases h : k ≤ xs.length
  · rw [Nat.min_eq_left h]
  · rw [Nat.min_eq_right (by omega), List.take_of_length_le (Nat.le_refl _), List.take_of_length_le (by omega)]
theorem cutV_from (xs : List V) (k : Nat) : cutV xs (some (k : Int)) none = xs.drop k := by
  unfold cutV
  rw [HT.sIx_nat]
  show (xs.drop (min k xs.length)).take (xs.length - min k xs.length) = _
  by_cases h : k ≤ xs.length
  · rw [Nat.min_eq_left h, List.take_of_length_le (by rw [List.length_drop]; exact Nat.le_refl _)]
  · rw [Nat.min_eq_right (by omega), List.drop_eq_nil_of_le (show xs.length ≤ k by omega)]; simp
end K7
set_option Elab.async false
set_option linter.all false
set_option maxRecDepth 100000
set_option maxHeartbeats 4000000
namespace K7
open PySem PySem.Spec PyProof.Rows NM L2
/-! ### pair, is_pair, first, second -/
def spPair : Sp := fun vs H Q _ => ∃ v u a b, vs = [v, u] ∧ IsN H v a ∧ IsN H u b ∧ a.depth ≤ 6 ∧ b.depth ≤ 6 ∧ canon a = true ∧ canon b = true ∧ ∀ r H', Same H H' → IsN H' r (prT a b) → Q r H'
def spIsp : Sp := fun vs H Q _ => ∃ v t, vs = [v] ∧ IsN H v t ∧ t.depth ≤ 50 ∧ ∀ H', Same H H' → Q (.bl (isPr t)) H'
def spFst (C : Addr) : Sp := fun vs H Q E => ∃ v t, vs = [v] ∧ IsN H v t ∧ t.depth ≤ 50 ∧ (isPr t = true → ∀ r H', Same H H' → IsN H' r (fsT t) → Q r H') ∧ (isPr t = false → ∀ H', Same H H' → E (.ref C) none H')
def spSnd (C : Addr) : Sp := fun vs H Q E => ∃ v t, vs = [v] ∧ IsN H v t ∧ t.depth ≤ 50 ∧ (isPr t = true → ∀ r H', Same H H' → IsN H' r (snT t) → Q r H') ∧ (isPr t = false → ∀ H', Same H H' → E (.ref C) none H')
theorem isPr_head {t : T} (h : isPr t = true) : ∃ x l a, t.toList = x :: l ∧ x.toList = [a] ∧ fsT t = a := by
  unfold isPr at h
  split at h
  · rename_i x y e
    rw [Bool.and_eq_true, Bool.and_eq_true] at h
    obtain ⟨a, ea⟩ := List.length_eq_one_iff.mp (of_decide_eq_true h.1.1)
    exact ⟨x, [y], a, e, ea, by unfold fsT; rw [e]; show x.toList.headD _ = a; rw [ea]; rfl⟩
  · rename_i x e
    obtain ⟨a, ea⟩ := List.length_eq_one_iff.mp (of_decide_eq_true h)
    exact ⟨x, [], a, e, ea, by unfold fsT; rw [e]; show x.toList.headD _ = a; rw [ea]; rfl⟩
  · cases h
theorem row_cons {H : Hp} {t : T} {l : List T} {ys : List V} (r : RowV H (t :: l) ys) : ∃ y zs, ys = y :: zs ∧ IsN H y t ∧ RowV H l zs := by
  cases r with
  | cons h1 h2 => exact ⟨_, _, rfl, h1, h2⟩
theorem row_nil {H : Hp} {ys : List V} (r : RowV H [] ys) : ys = [] := by cases r; rfl
section
variable {P : Program} {w : World} {K : PySem.W.Frag} {mg : Str → Option Value} {base : Heap} {f g : Addr} {fd gd : FuncData}
theorem scPair : FnScope ["one", "other"] ["one", "other"] (defScope s_pair) := ⟨rfl, rfl, rfl, by decide +kernel, rfl, by decide +kernel, by decide +kernel⟩
theorem ok_pair (F : Fun K "pair" "pair" s_pair f fd) (G : FnOk P w K mg base CX0 12 g gd ["some"] spGath) (b : Binds K gd ["some"] []) (kG : PySem.W.keepIn K (.ref g) = true) (m : mg "gathered" = some (.ref g)) :
    FnOk P w K mg base CX0 13 f fd ["one", "other"] spPair := by
  refine F.ok scPair (fun vs H Q E h => by obtain ⟨_, _, _, _, rfl, _⟩ := h; rfl) (fun cdv A outer s H vs Q E hr h => ?_)
  obtain ⟨v, u, a, c, rfl, iv, iu, da, dc, ca, cc, q⟩ := h
  refine ⟨_, pss_one (ps_ret (pe_call G hr rfl m kG b .nil pass0 (pa_cons (pe_tup (pa_cons (pe_tup (pa_cons (pv 0) pa_nil)) (pa_cons (pe_call G hr rfl m kG b .nil pass0 (pa_cons (pe_tup (pa_cons (pv 0) (pa_cons (pv 1) pa_nil))) pa_nil)) pa_nil))) pa_nil))), ?_⟩
  refine ⟨_, rfl, (by show 1 ≤ sizeLine; decide), fun p1 h1 => ?_⟩
  have s1 := same_new h1 (.tup [v])
  refine ⟨_, rfl, _, rfl, (by show 2 ≤ sizeLine; decide), fun p2 h2 => ?_⟩
  have s2 := same_new h2 (.tup [v, u])
  have s12 := s1.trans s2
  refine ⟨p2, _, [a, c], rfl, .inr upd_same, .cons (iv.mono s12.t) (.cons (iu.mono s12.t) .nil), by show 2 < 64; decide, fun z hz => ?_, fun r3 H3 us3 s3 i3 asc3 mem3 => ?_⟩
  · have := (tw_ok da dc ca cc z hz)
    rcases List.mem_cons.mp hz with rfl | hz
    · omega
    · have : z = c := by simpa using hz
      subst this; omega
  have e3 : T.ofList us3 = tw a c := by unfold tw; rw [hn_uniq 8 (tw_ok da dc ca cc) asc3 mem3]
  rw [e3] at i3
  refine ⟨(by show 2 ≤ sizeLine; decide), fun p4 h4 => ?_⟩
  have s4 := same_new h4 (.tup [.ref p1, r3])
  have i1 : IsN (upd H3 p4 (.tup [.ref p1, r3])) (.ref p1) (sg a) := .ofL (s4 _ _ (s3 _ _ (s2 _ _ upd_same))) (.cons ((iv.mono s12.t).mono (s3.trans s4).t) .nil)
  refine ⟨p4, _, [sg a, tw a c], rfl, .inr upd_same, .cons i1 (.cons (i3.mono s4.t) .nil), by show 2 < 64; decide, fun z hz => ?_, fun r5 H5 us5 s5 i5 asc5 mem5 => ?_⟩
  · rcases List.mem_cons.mp hz with rfl | hz
    · exact sg_depth (by omega)
    · have : z = tw a c := by simpa using hz
      subst this; exact tw_depth da dc ca cc (by omega) (by omega)
  have e5 : T.ofList us5 = prT a c := by unfold prT; rw [hn_uniq 8 (pr_ok da dc ca cc) asc5 mem5]
  rw [e5] at i5
  exact q _ _ (s12.trans (s3.trans (s4.trans s5))) i5
theorem scIsp : FnScope ["nest", "alone", "together"] ["nest"] (defScope s_is_pair) := ⟨rfl, rfl, rfl, by decide +kernel, rfl, by decide +kernel, by decide +kernel⟩
theorem ok_isp (F : Fun K "is_pair" "is_pair" s_is_pair f fd) (ml : mg "len" = none) : FnOk P w K mg base CX0 1 f fd ["nest"] spIsp := by
  refine F.ok scIsp (fun vs H Q E h => by obtain ⟨_, _, rfl, _⟩ := h; rfl) (fun cdv A outer s H vs Q E hr h => ?_)
  obtain ⟨v, t, rfl, iv, hd, q⟩ := h
  refine ⟨_, pss_cons (ps_if (pt_cmpR op_eq (pe_callB call_lenB rfl ml PySem.boot_len (pa_cons (pv 0) pa_nil)) pe_int (nomark _))
      (pss_cons (ps_set (i := 1) scIsp.nd rfl (Or.inl rfl) (pe_ix ix_tup (pv 0) pe_int (fun _ _ => rfl))) (pss_cons (ps_set (i := 2) scIsp.nd rfl (Or.inl rfl) (pe_ix ix_tup (pv 0) pe_int (fun _ _ => rfl)))
        (pss_one (ps_ret (pe_and (pe_cmpR op_eq (pe_callB call_lenB rfl ml PySem.boot_len (pa_cons (pv 1) pa_nil)) pe_int (nomark _)) (pe_and (pe_cmpR op_eq (pe_callB call_lenB rfl ml PySem.boot_len (pa_cons (pv 2) pa_nil)) pe_int (nomark _))
          (pe_one (pe_cmpR (op_inN hr.units) (pe_ix ix_tup (pv 1) pe_int (fun _ _ => rfl)) (pv 2) rfl)))))))) pss_nil)
    (pss_one (ps_ret (pe_and (pe_cmpR op_eq (pe_callB call_lenB rfl ml PySem.boot_len (pa_cons (pv 0) pa_nil)) pe_int (nomark _)) (pe_one (pe_cmpR op_eq (pe_callB call_lenB rfl ml PySem.boot_len (pa_cons (pe_ix ix_tup (pv 0) pe_int (fun _ _ => rfl)) pa_nil)) pe_int (nomark _)))))), ?_⟩
  obtain ⟨a, ys, rfl, ha, hrow⟩ := iv.row
  have hl := hrow.length
  have q := q H (Same.refl _)
  refine ⟨_, rfl, a, ys, rfl, .inr (.of ha), fun hz => ⟨rfl, _, rfl, ite2 (fun c => ?_) (fun c => ?_)⟩⟩
  · have c : ys.length = 2 := by have := V.int.inj (of_decide_eq_true c); omega
    obtain ⟨x, y, et⟩ : ∃ x y, t.toList = [x, y] := by
      match hy : t.toList, (show t.toList.length = 2 by omega) with
      | [p, q], _ => exact ⟨p, q, rfl⟩
    have dx := T.mem_depth (t := t) (m := x) (by rw [et]; simp)
    have dy := T.mem_depth (t := t) (m := y) (by rw [et]; simp)
    rw [et] at hrow
    obtain ⟨v0, ys', rfl, i0, hrow⟩ := row_cons hrow
    obtain ⟨v1, ys'', rfl, i1, hrow⟩ := row_cons hrow
    have := row_nil hrow
    subst this
    obtain ⟨a0, z0, rfl, ha0, hr0⟩ := i0.row
    obtain ⟨a1, z1, rfl, ha1, hr1⟩ := i1.row
    have l0 := hr0.length
    have l1 := hr1.length
    have ei : isPr t = ((decide (x.toList.length = 1) && decide (y.toList.length = 2)) && decide (x.toList.headD T.nil ∈ y.toList)) := by unfold isPr; rw [et]
    refine ⟨_, rfl, _, _, _, _, rfl, rfl, .of ha, atI_nat (j := 0) rfl, _, rfl, _, _, _, _, rfl, rfl, .of ha, atI_nat (j := 1) rfl, ?_⟩
    refine ⟨_, rfl, a0, z0, rfl, .inr (.of ha0), fun _ => ⟨rfl, _, rfl, ite2 (fun c0 => ?_) (fun c0 => ?_)⟩⟩
    · have c0 : z0.length = 1 := by have := V.int.inj (of_decide_eq_true c0); omega
      refine ⟨_, rfl, a1, z1, rfl, .inr (.of ha1), fun _ => ⟨rfl, _, rfl, ite2 (fun c1 => ?_) (fun c1 => ?_)⟩⟩
      · have c1 : z1.length = 2 := by have := V.int.inj (of_decide_eq_true c1); omega
        obtain ⟨p, ep⟩ := List.length_eq_one_iff.mp (show x.toList.length = 1 by omega)
        rw [ep] at hr0
        obtain ⟨w0, zz, rfl, iw, hr0⟩ := row_cons hr0
        have := row_nil hr0
        subst this
        refine ⟨_, rfl, _, _, _, _, rfl, rfl, .of ha0, atI_nat (j := 0) rfl, _, rfl, a1, z1, y.toList, p, rfl, .inr (.of ha1), hr1, iw, fun m hm => by have := T.mem_depth hm; omega, ?_⟩
        rw [ei, decide_eq_true (show x.toList.length = 1 by rw [ep]; rfl), decide_eq_true (show y.toList.length = 2 by omega), ep] at q
        exact q
      · have c1 : z1.length ≠ 2 := fun z => c1 (decide_eq_true (by rw [z]; rfl))
        rw [ei, decide_eq_false (show ¬ y.toList.length = 2 by omega), Bool.and_false, Bool.false_and] at q
        exact q
    · have c0 : z0.length ≠ 1 := fun z => c0 (decide_eq_true (by rw [z]; rfl))
      rw [ei, decide_eq_false (show ¬ x.toList.length = 1 by omega), Bool.false_and, Bool.false_and] at q
      exact q
  · have c : ys.length ≠ 2 := fun z => c (decide_eq_true (by rw [z]; rfl))
    refine ⟨_, rfl, a, ys, rfl, .inr (.of ha), fun _ => ⟨rfl, _, rfl, ite2 (fun c0 => ?_) (fun c0 => ?_)⟩⟩
    · have c0 : ys.length = 1 := by have := V.int.inj (of_decide_eq_true c0); omega
      obtain ⟨x, et⟩ := List.length_eq_one_iff.mp (show t.toList.length = 1 by omega)
      rw [et] at hrow
      obtain ⟨v0, ys', rfl, i0, hrow⟩ := row_cons hrow
      have := row_nil hrow
      subst this
      obtain ⟨a0, z0, rfl, ha0, hr0⟩ := i0.row
      have l0 := hr0.length
      refine ⟨_, rfl, _, _, _, _, rfl, rfl, .of ha, atI_nat (j := 0) rfl, a0, z0, rfl, .inr (.of ha0), fun _ => ⟨rfl, ?_⟩⟩
      have ei : isPr t = decide (x.toList.length = 1) := by unfold isPr; rw [et]
      have : decide (V.int (z0.length : Int) = V.int 1) = isPr t := by
        rw [ei]
        refine decide_eq_decide.mpr ⟨fun z => by have := V.int.inj z; omega, fun z => by rw [← l0, z]; rfl⟩
      rw [this]
      exact q
    · have c0 : ys.length ≠ 1 := fun z => c0 (decide_eq_true (by rw [z]; rfl))
      have ei : isPr t = false := by
        unfold isPr
        split
        · rename_i e; rw [e] at hl; exact absurd hl.symm c
        · rename_i e; rw [e] at hl; exact absurd hl.symm c0
        · rfl
      rw [ei] at q
      exact q
theorem scFst : FnScope ["nest"] ["nest"] (defScope s_first) := ⟨rfl, rfl, rfl, by decide +kernel, rfl, by decide +kernel, by decide +kernel⟩
theorem ok_fst {C : Addr} (F : Fun K "first" "first" s_first f fd) (G : FnOk P w K mg base CX0 1 g gd ["nest"] spIsp) (b : Binds K gd ["nest"] []) (kG : PySem.W.keepIn K (.ref g) = true) (m : mg "is_pair" = some (.ref g)) (mC : mg "NoPair" = some (.ref C)) (hC : ExcC K C) :
    FnOk P w K mg base (CXE P w) 2 f fd ["nest"] (spFst C) := by
  refine F.okX scFst (fun vs H Q E h => by obtain ⟨_, _, rfl, _⟩ := h; rfl) (fun cdv A outer s H vs Q E hr h => ?_)
  obtain ⟨v, t, rfl, iv, hd, q1, q2⟩ := h
  refine ⟨_, pss_cons (ps_if (pt_not (pt_val (pe_call G hr rfl m kG b .nil pass0 (pa_cons (pv 0) pa_nil)))) (pss_one (ps_raise FnCx.of rfl rfl mC hC (pa_cons pe_str pa_nil))) pss_nil)
    (pss_one (ps_ret (pe_ix ix_tup (pe_ix ix_tup (pv 0) pe_int (fun _ _ => rfl)) pe_int (fun _ _ => rfl)))), ?_⟩
  refine ⟨_, rfl, v, t, rfl, iv, hd, fun H1 s1 => ⟨_, rfl, ?_⟩⟩
  cases e : isPr t with
  | false => exact iteT ⟨by decide, q2 e H1 s1⟩
  | true =>
    obtain ⟨x, l, p, et, ex, ef⟩ := isPr_head e
    have iv1 := iv.mono s1.t
    obtain ⟨a, ys, rfl, ha, hrow⟩ := iv1.row
    rw [et] at hrow
    obtain ⟨v0, ys', rfl, i0, hrow⟩ := row_cons hrow
    obtain ⟨a0, z0, rfl, ha0, hr0⟩ := i0.row
    rw [ex] at hr0
    obtain ⟨w0, zz, rfl, iw, hr0⟩ := row_cons hr0
    refine iteF ⟨_, rfl, _, _, _, _, rfl, rfl, .of ha, atI_nat (j := 0) rfl, _, _, _, _, rfl, rfl, .of ha0, atI_nat (j := 0) rfl, ?_⟩
    exact q1 e _ _ s1 (by rw [ef]; exact iw)
theorem scSnd : FnScope ["nest", "one", "part"] ["nest"] (defScope s_second) := ⟨rfl, rfl, rfl, by decide +kernel, rfl, by decide +kernel, by decide +kernel⟩
theorem ok_snd {C : Addr} (F : Fun K "second" "second" s_second f fd) (G : FnOk P w K mg base (CXE P w) 2 g gd ["nest"] (spFst C)) (b : Binds K gd ["nest"] []) (kG : PySem.W.keepIn K (.ref g) = true) (m : mg "first" = some (.ref g)) :
    FnOk P w K mg base (CXE P w) 3 f fd ["nest"] (spSnd C) := by
  refine F.okX scSnd (fun vs H Q E h => by obtain ⟨_, _, rfl, _⟩ := h; rfl) (fun cdv A outer s H vs Q E hr h => ?_)
  obtain ⟨v, t, rfl, iv, hd, q1, q2⟩ := h
  refine ⟨_, pss_cons (ps_set (i := 1) scSnd.nd rfl (Or.inl rfl) (pe_call G hr rfl m kG b .nil (passX FnCx.of) (pa_cons (pv 0) pa_nil)))
    (pss_cons (ps_for (ownW FnCx.of) rfl (pi_tupB (pe_ix ix_tup (pv 0) (pe_un un_neg pe_int) (fun _ _ => rfl))) (pg_name (i := 2) scSnd.nd rfl (Or.inl rfl))
      (pss_one (ps_if (pt_cmpR (op_neN hr.units) (pv 2) (pv 1) (nomark _)) (pss_one (ps_ret (pv 2))) pss_nil)))
    (pss_one (ps_ret (pv 1)))), ?_⟩
  refine ⟨_, rfl, v, t, rfl, iv, hd, fun e r1 H1 s1 i1 => ?_, fun e => q2 e⟩
  obtain ⟨x, l, p, et, ex, ef⟩ := isPr_head e
  have iv1 := iv.mono s1.t
  obtain ⟨a, ys, rfl, ha, hrow⟩ := iv1.row
  have hne : t.toList ≠ [] := by rw [et]; simp
  have hl := hrow.length
  obtain ⟨ys', y, rfl⟩ : ∃ ys' y, ys = ys' ++ [y] := by
    have : ys ≠ [] := fun z => hne (List.length_eq_zero_iff.mp (by rw [hl, z]; rfl))
    exact ⟨ys.dropLast, ys.getLast this, (List.dropLast_concat_getLast this).symm⟩
  obtain ⟨lt, hlt, il⟩ := hrow.get (i := ys'.length) (v := y) (by simp)
  have elt : t.toList.getLastD T.nil = lt := by
    rw [List.getLastD_eq_getLast?, List.getLast?_eq_getElem?, hl, List.length_append, List.length_singleton, Nat.add_sub_cancel, hlt]; rfl
  obtain ⟨al, zl, rfl, hal, hrl⟩ := il.row
  refine ⟨_, rfl, _, rfl, _, _, _, _, rfl, rfl, .of ha, atI_last _ _, al, zl, rfl, .of hal, fun hz => ?_⟩
  have dl : lt.depth ≤ 50 := by have := T.mem_depth (List.mem_of_getElem? hlt); omega
  have hll := hrl.length
  have es : snT t = (lt.toList.find? fun z => !decide (z = fsT t)).getD (fsT t) := by unfold snT; rw [elt]
  refine for_tup (xs := zl) (fun i σ H' => ∃ o, σ = [some (.ref a), some r1, o] ∧ Same H1 H' ∧ ∀ z ∈ lt.toList.take i, z = fsT t) ⟨none, rfl, Same.refl _, by simp⟩
    (fun i σ H' _ p => by obtain ⟨_, _, sm, _⟩ := p; exact .of (sm _ _ hal)) (fun i x σ H' hx p => ?_) (fun σ H' p => ?_)
  · obtain ⟨o, rfl, sm, hall⟩ := p
    obtain ⟨u, hu, iu⟩ := (RowV.mono hrl sm.t).get hx
    have et2 : lt.toList.take (i + 1) = lt.toList.take i ++ [u] := by rw [List.take_succ, hu]; rfl
    have du := T.mem_depth (List.mem_of_getElem? hu)
    refine ⟨_, rfl, _, rfl, u, fsT t, iu, i1.mono sm.t, by omega, _, rfl, ?_⟩
    by_cases c : u = fsT t
    · refine iteNS c ⟨_, rfl, sm, fun z hz => ?_⟩
      rw [et2] at hz
      rcases List.mem_append.mp hz with hz | hz
      · exact hall z hz
      · have : z = u := by simpa using hz
        rw [this]; exact c
    · refine iteNN c ⟨_, rfl, q1 e _ _ (s1.trans sm) ?_⟩
      have : snT t = u := by
        have hd' : lt.toList.drop i = u :: lt.toList.drop (i + 1) := by
          have hi : i < lt.toList.length := (List.getElem?_eq_some_iff.mp hu).1
          rw [List.drop_eq_getElem_cons hi]
          rw [List.getElem?_eq_getElem hi] at hu
          rw [Option.some.inj hu]
        rw [es, ← List.take_append_drop i lt.toList, List.find?_append, hd']
        have h0 : (lt.toList.take i).find? (fun z => !decide (z = fsT t)) = none := List.find?_eq_none.mpr fun z hz => by simp [hall z hz]
        rw [h0, List.find?_cons_of_pos (by simpa using c)]
        rfl
      rw [this]
      exact iu
  · obtain ⟨o, rfl, sm, hall⟩ := p
    rw [List.take_of_length_le (by omega)] at hall
    refine ⟨_, rfl, q1 e _ _ (s1.trans sm) ?_⟩
    have : snT t = fsT t := by
      rw [es, List.find?_eq_none.mpr fun z hz => by simp [hall z hz]]; rfl
    rw [this]
    exact i1.mono sm.t
end
end K7
set_option Elab.async false
set_option linter.all false
set_option maxRecDepth 100000
set_option maxHeartbeats 4000000
namespace K7
open PySem PySem.Spec PyProof.Rows NM L2
/-! ### refusals -/
theorem kit_self (K : PySem.W.Frag) (v : Value) : PySem.W.kitOne K v v = some true := by unfold PySem.W.kitOne; simp
/-- the refusals of the text: what stands behind their classes -/
structure Refs (K : PySem.W.Frag) (mg : Str → Option Value) (S C C1 C2 C3 : Addr) (cn n1 n2 n3 : Str) : Prop where
  mS : mg "SetError" = some (.ref S)
  mC : mg cn = some (.ref C)
  m1 : mg n1 = some (.ref C1)
  m2 : mg n2 = some (.ref C2)
  m3 : mg n3 = some (.ref C3)
  sS : ExcS K S
  xC : ExcC K C
  qC : ExcQ K C
  sub : PySem.W.subIn K (.ref C) (.ref S) = some true
  any : PySem.W.kitAny K (.ref C) [.ref C1, .ref C2, .ref C3] = some false
  val : PySem.W.kitOne K (.ref C) (.type "ValueError") = some true
/-- the look at a refusal -/
abbrev tAsk (K : PySem.W.Frag) (C C1 C2 C3 : Addr) (i : Nat) : TT := tAnd (tB (tCB (rIsiX K) (tCons (tVar i) (tCons (tC (.ref C)) tNil))))
  (tAnd (tNot (tB (tCB (rIsiX K) (tCons (tVar i) (tCons (tTup (tCons (tC (.ref C1)) (tCons (tC (.ref C2)) (tCons (tC (.ref C3)) tNil)))) tNil))))) (tB (tCB (rIsiX K) (tCons (tVar i) (tCons (tC (.ty "ValueError")) tNil)))))
end K7
set_option Elab.async false
set_option linter.all false
set_option maxRecDepth 100000
set_option maxHeartbeats 4000000
namespace K7
open PySem PySem.Spec PyProof.Rows NM L2
/-! ### product, is_pair_between, is_map, value -/
def fS (sp : Addr → Sp) (C : Addr) : Sp := fun vs H Q _ => sp C vs H Q E0
/-- members as they are drawn -/
def Mem4 (t : T) : Prop := canon t = true ∧ t.toList.length ≤ 5 ∧ ∀ m ∈ t.toList, m.depth ≤ 4
def spProd : Sp := fun vs H Q _ => ∃ v u a b, vs = [v, u] ∧ IsN H v a ∧ IsN H u b ∧ Mem4 a ∧ Mem4 b ∧ ∀ r H', Same H H' → IsN H' r (T.ofList (hnl 9 (T.prods a b) [])) → Q r H'
def spIpb : Sp := fun vs H Q _ => ∃ v x y t a b, vs = [v, x, y] ∧ IsN H v t ∧ IsN H x a ∧ IsN H y b ∧ t.depth ≤ 50 ∧ a.depth ≤ 50 ∧ b.depth ≤ 50 ∧ ∀ H', Same H H' → Q (.bl (T.btw a b t)) H'
def spMap : Sp := fun vs H Q _ => ∃ v x y t a b, vs = [v, x, y] ∧ IsN H v t ∧ IsN H x a ∧ IsN H y b ∧ t.depth ≤ 50 ∧ a.depth ≤ 50 ∧ b.depth ≤ 50 ∧ t.toList.length ≤ 60 ∧ a.toList.length ≤ 60 ∧ ∀ H', Same H H' → Q (.bl (T.mapB t a b)) H'
def spVal (C : Addr) : Sp := fun vs H Q E => ∃ v x t z, vs = [v, x] ∧ IsN H v t ∧ IsN H x z ∧ t.depth ≤ 50 ∧ z.depth ≤ 50 ∧ t.toList.length ≤ 60 ∧
  (∀ m, t.toList.find? (fun m => isPr m && decide (fsT m = z)) = some m → ∀ r H', Same H H' → IsN H' r (snT m) → Q r H') ∧ (t.toList.find? (fun m => isPr m && decide (fsT m = z)) = none → ∀ H', Same H H' → E (.ref C) none H')
theorem fs_small (t : T) : (fsT t).depth ≤ t.depth := by
  unfold fsT
  cases e : t.toList with
  | nil => show (T.nil.toList.headD T.nil).depth ≤ _; exact Nat.zero_le _
  | cons x l =>
    have hx := T.mem_depth (t := t) (m := x) (by rw [e]; simp)
    show (x.toList.headD T.nil).depth ≤ _
    cases e2 : x.toList with
    | nil => exact Nat.zero_le _
    | cons y l2 =>
      have := T.mem_depth (t := x) (m := y) (by rw [e2]; simp)
      show y.depth ≤ _
      omega
section
variable {P : Program} {w : World} {K : PySem.W.Frag} {mg : Str → Option Value} {base : Heap} {f fA fB fC : Addr} {fd dA dB dC : FuncData}
theorem scProd : FnScope ["one", "other", "found", "here", "there"] ["one", "other"] (defScope s_product) := ⟨rfl, rfl, rfl, by decide +kernel, rfl, by decide +kernel, by decide +kernel⟩
theorem ok_prod (F : Fun K "product" "product" s_product f fd) (PR : Has P w K mg base 13 "pair" ["one", "other"] spPair fA dA) (G : Has P w K mg base 12 "gathered" ["some"] spGath fB dB) : FnOk P w K mg base CX0 14 f fd ["one", "other"] spProd := by
  refine F.ok scProd (fun vs H Q E h => by obtain ⟨_, _, _, _, rfl, _⟩ := h; rfl) (fun cdv A outer s H vs Q E hr h => ?_)
  obtain ⟨v, u, a, b, rfl, iv, iu, ma, mb, q⟩ := h
  have oPR := PR.ok
  have oG := G.ok.mono (k := 13) (by decide)
  refine ⟨_, pss_cons (ps_set (i := 2) scProd.nd rfl (Or.inl rfl) (pe_lst pa_nil)) (pss_cons (ps_for PassesOwn.never rfl (pi_tupB (pv 0)) (pg_name (i := 3) scProd.nd rfl (Or.inl rfl)) (pss_one (ps_for PassesOwn.never rfl (pi_tupB (pv 1)) (pg_name (i := 4) scProd.nd rfl (Or.inl rfl)) (pss_one (ps_expr (pe_bm PySem.F.plainAttrs_list PySem.F.slot_list_append PySem.F.type_list_append mt_append (pv 2) (pa_cons (pe_call oPR hr rfl PR.m PR.kp PR.b .nil pass0 (pa_cons (pv 3) (pa_cons (pv 4) pa_nil))) pa_nil))))))) (pss_one (ps_ret (pe_call oG hr rfl G.m G.kp G.b .nil pass0 (pa_cons (pv 2) pa_nil))))), ?_⟩
  obtain ⟨pa, xs, rfl, ha, rowa⟩ := iv.row
  obtain ⟨pb, ys, rfl, hb, rowb⟩ := iu.row
  have la := rowa.length
  have lb := rowb.length
  obtain ⟨ca, l5a, da⟩ := ma
  obtain ⟨cb, l5b, db⟩ := mb
  refine ⟨Nat.zero_le _, fun L hL => ?_⟩
  have s0 := same_new hL (.lst [])
  refine ⟨_, rfl, pa, xs, rfl, .of (s0 _ _ ha), fun _ => ?_⟩
  refine for_tup (xs := xs) (fun i σ H' => ∃ zs o3 o4, σ = [some (.ref pa), some (.ref pb), some (.ref L), o3, o4] ∧ Same H H' ∧ H' L = some (.lst zs) ∧ RowV H' ((a.toList.take i).flatMap fun x => b.toList.map fun y => prT x y) zs ∧ zs.length = i * ys.length) ⟨[], none, none, rfl, s0, upd_same, .nil, by simp⟩
    (fun i σ H' _ p => by obtain ⟨_, _, _, _, sm, _⟩ := p; exact .of (sm _ _ ha)) (fun i x σ H' hx p => ?_) (fun σ H' p => ?_)
  · obtain ⟨zs, o3, o4, rfl, sm, hL', row, hz⟩ := p
    obtain ⟨t, ht, it⟩ := (RowV.mono rowa sm.t).get hx
    have hi : i < xs.length := (List.getElem?_eq_some_iff.mp hx).1
    have htm := List.mem_of_getElem? ht
    refine ⟨_, rfl, pb, ys, rfl, .of (sm _ _ hb), fun _ => ?_⟩
    refine for_tup (xs := ys) (fun j σ H2 => ∃ zs o4, σ = [some (.ref pa), some (.ref pb), some (.ref L), some x, o4] ∧ Same H H2 ∧ H2 L = some (.lst zs) ∧ RowV H2 (((a.toList.take i).flatMap fun x => b.toList.map fun y => prT x y) ++ (b.toList.take j).map fun y => prT t y) zs ∧ zs.length = i * ys.length + j) ⟨zs, _, rfl, sm, hL', by simpa using row, by omega⟩
      (fun j σ H2 _ p => by obtain ⟨_, _, _, sm2, _⟩ := p; exact .of (sm2 _ _ hb)) (fun j y σ H2 hy p => ?_) (fun σ H2 p => ?_)
    · obtain ⟨zs, o4, rfl, sm2, hL2, row2, hz2⟩ := p
      obtain ⟨t2, ht2, it2⟩ := (RowV.mono rowb sm2.t).get hy
      have ht2m := List.mem_of_getElem? ht2
      obtain ⟨t1, ht1, it1⟩ := (RowV.mono rowa sm2.t).get hx
      rw [ht] at ht1
      cases ht1
      have hj : j < ys.length := (List.getElem?_eq_some_iff.mp hy).1
      refine ⟨_, rfl, .inl ⟨rfl, _, .of hL2⟩, ?_⟩
      refine ⟨_, rfl, _, rfl, x, y, t, t2, rfl, it1, it2, by have := da t htm; omega, by have := db t2 ht2m; omega, canon_mem ca htm, canon_mem cb ht2m, fun r H3 s3 ir => ?_⟩
      have hL3 := s3 _ _ hL2
      have hle : i * ys.length ≤ 5 * 5 := Nat.mul_le_mul (by omega) (by omega)
      refine ⟨L, zs, r, rfl, rfl, hL3, small1000 (by omega), ?_⟩
      have st : SameT H3 (upd H3 L (.lst (zs ++ [r]))) := sameT_lst hL3 _
      refine ⟨zs ++ [r], _, rfl, same_upd hL (sm2.trans s3) _, upd_same, ?_, by rw [List.length_append, List.length_singleton]; omega⟩
      have et : b.toList.take (j + 1) = b.toList.take j ++ [t2] := by rw [List.take_succ, ht2]; rfl
      rw [et, List.map_append, ← List.append_assoc]
      exact RowV.append (RowV.mono (RowV.mono row2 s3.t) st) (RowV.one (ir.mono st))
    · obtain ⟨zs, o4, rfl, sm2, hL2, row2, hz2⟩ := p
      refine ⟨zs, _, _, rfl, sm2, hL2, ?_, by rw [hz2, Nat.succ_mul]⟩
      have et : a.toList.take (i + 1) = a.toList.take i ++ [t] := by rw [List.take_succ, ht]; rfl
      rw [et, List.flatMap_append]
      have e2 : b.toList.take ys.length = b.toList := List.take_of_length_le (by omega)
      rw [e2] at row2
      simpa using row2
  · obtain ⟨zs, o3, o4, rfl, sm, hL', row, hz⟩ := p
    rw [List.take_of_length_le (by omega)] at row
    have okp : ∀ m ∈ T.prods a b, m.depth ≤ 7 ∧ canon m = true := fun m hm => by
      unfold T.prods at hm
      obtain ⟨x, hx, hm⟩ := List.mem_flatMap.mp hm
      obtain ⟨y, hy, rfl⟩ := List.mem_map.mp hm
      exact T.OkP.dep (p := (x, y)) ⟨⟨Nat.le_succ_of_le (da x hx), canon_mem ca hx⟩, Nat.le_succ_of_le (db y hy), canon_mem cb hy⟩
    refine ⟨_, rfl, L, zs, T.prods a b, rfl, .inl hL', row, ?_, fun m hm => (okp m hm).1, fun r H2 us s2 ir asc mem => ?_⟩
    · rw [T.prods_len]
      have : a.toList.length * b.toList.length ≤ 5 * 5 := Nat.mul_le_mul l5a l5b
      omega
    · have := hn_same (ts := T.prods a b) (fun z hz => ⟨by have := (okp z hz).1; omega, (okp z hz).2⟩) asc mem
      rw [this] at ir
      exact q r H2 (sm.trans s2) ir
theorem scIpb : FnScope ["nest", "one", "other"] ["nest", "one", "other"] (defScope s_is_pair_between) := ⟨rfl, rfl, rfl, by decide +kernel, rfl, by decide +kernel, by decide +kernel⟩
theorem ok_ipb {C : Addr} (F : Fun K "is_pair_between" "is_pair_between" s_is_pair_between f fd) (IP : Has P w K mg base 1 "is_pair" ["nest"] spIsp fA dA) (FI : Has P w K mg base 2 "first" ["nest"] (fS spFst C) fB dB) (SE : Has P w K mg base 3 "second" ["nest"] (fS spSnd C) fC dC) : FnOk P w K mg base CX0 4 f fd ["nest", "one", "other"] spIpb := by
  refine F.ok scIpb (fun vs H Q E h => by obtain ⟨_, _, _, _, _, _, rfl, _⟩ := h; rfl) (fun cdv A outer s H vs Q E hr h => ?_)
  obtain ⟨v, x, y, t, a, b, rfl, iv, ix, iy, dt, da, db, q⟩ := h
  have oIP := IP.ok.mono (k := 3) (by decide)
  have oFI := FI.ok.mono (k := 3) (by decide)
  have oSE := SE.ok
  refine ⟨_, pss_one (ps_ret (pe_and (pe_call oIP hr rfl IP.m IP.kp IP.b .nil pass0 (pa_cons (pv 0) pa_nil)) (pe_and (pe_cmpR (op_inN hr.units) (pe_call oFI hr rfl FI.m FI.kp FI.b .nil pass0 (pa_cons (pv 0) pa_nil)) (pv 1) rfl) (pe_one (pe_cmpR (op_inN hr.units) (pe_call oSE hr rfl SE.m SE.kp SE.b .nil pass0 (pa_cons (pv 0) pa_nil)) (pv 2) rfl))))), ?_⟩
  obtain ⟨px, xs, rfl, hx, rowx⟩ := ix.row
  obtain ⟨py, ys, rfl, hy, rowy⟩ := iy.row
  refine ⟨_, rfl, v, t, rfl, iv, dt, fun H1 s1 => ⟨_, rfl, ?_⟩⟩
  unfold T.btw at q
  cases c1 : isPr t with
  | false =>
    rw [c1] at q
    exact iteF (q H1 s1)
  | true =>
    rw [c1] at q
    refine iteT ⟨_, rfl, v, t, rfl, iv.mono s1.t, dt, fun _ r2 H2 s2 i2 => ?_, fun z => by rw [c1] at z; cases z⟩
    refine ⟨_, rfl, px, xs, a.toList, fsT t, rfl, .inr (.of ((s1.trans s2) _ _ hx)), RowV.mono rowx (s1.trans s2).t, i2, fun m hm => by have := T.mem_depth hm; omega, _, rfl, ?_⟩
    have e1 : (if false = true then !decide (fsT t ∈ a.toList) else decide (fsT t ∈ a.toList)) = decide (fsT t ∈ a.toList) := if_neg Bool.false_ne_true
    rw [e1]
    cases c2 : decide (fsT t ∈ a.toList) with
    | false =>
      rw [c2] at q
      exact iteF (q H2 (s1.trans s2))
    | true =>
      rw [c2] at q
      refine iteT ⟨_, rfl, v, t, rfl, iv.mono (s1.trans s2).t, dt, fun _ r3 H3 s3 i3 => ?_, fun z => by rw [c1] at z; cases z⟩
      have s13 := s1.trans (s2.trans s3)
      refine ⟨_, rfl, py, ys, b.toList, snT t, rfl, .inr (.of (s13 _ _ hy)), RowV.mono rowy s13.t, i3, fun m hm => by have := T.mem_depth hm; omega, ?_⟩
      have e2 : (if false = true then !decide (snT t ∈ b.toList) else decide (snT t ∈ b.toList)) = decide (snT t ∈ b.toList) := if_neg Bool.false_ne_true
      rw [e2]
      exact q H3 s13
end
end K7
set_option Elab.async false
set_option linter.all false
set_option maxRecDepth 100000
set_option maxHeartbeats 4000000
namespace K7
open PySem PySem.Spec PyProof.Rows NM L2
/-! ### is_map, value, _law_value -/
section
variable {P : Program} {w : World} {K : PySem.W.Frag} {mg : Str → Option Value} {base : Heap} {f fA fB fC fD : Addr} {fd dA dB dC dD : FuncData}
/-- an answer for each nest of a row -/
theorem rd_eachB {te : TE} {σ : L2.St} {Q : VK} {H : Hp} {a : Addr} {xs : List V} {ts : List T} {g : T → Bool} (ha : H a = some (.tup xs)) (row : RowV H ts xs) (h60 : ts.length ≤ 60)
    (hs : ∀ (i : Nat) (x : V) (t : T) (H' : Hp), ts[i]? = some t → Same H H' → IsN H' x t → ∀ Q' : VK, (∀ H'', Same H' H'' → Q' (.bl (g t)) H'') → te (some x :: σ) H' Q')
    (q : ∀ D H', Same H H' → H' D = some (.lst ((ts.map g).map V.bl)) → Q (.ref D) H') : CompRd (Itt K a) tAll te σ Q H := by
  have hl := row.length
  refine comp_run runs_tup (fun D i zs H' => H D = none ∧ H' D = some (.lst zs) ∧ Same H H' ∧ zs = ((ts.take i).map g).map V.bl) (fun D hD => ⟨hD, upd_same, same_new hD _, rfl⟩)
    (fun D i zs H' hi p => ⟨p.2.1, .of (p.2.2.1 _ _ ha), fun hlt => ?_⟩) (fun D i zs H' x hx hi p => ?_) (fun D zs H' p => ?_)
  · obtain ⟨_, _, _, e⟩ := p
    rw [e, List.length_map, List.length_map, List.length_take]
    exact small1000 (by omega)
  · obtain ⟨hD, h1, sm, e⟩ := p
    obtain ⟨t, ht, it⟩ := (RowV.mono row sm.t).get hx
    have et : ts.take (i + 1) = ts.take i ++ [t] := by rw [List.take_succ, ht]; rfl
    refine hs i x t H' ht sm it _ fun H2 s2 => ⟨s2 _ _ h1, .mk hi ⟨hD, upd_same, same_upd hD (sm.trans s2) _, ?_⟩⟩
    rw [et, List.map_append, List.map_append, e]; rfl
  · obtain ⟨hD, h1, sm, e⟩ := p
    rw [List.take_of_length_le (by omega)] at e
    exact q D H' sm (by rw [← e]; exact h1)
/-- a nest for each nest of a row -/
theorem rd_eachN {te : TE} {σ : L2.St} {Q : VK} {H : Hp} {a : Addr} {xs : List V} {ts : List T} {g : T → T} (ha : H a = some (.tup xs)) (row : RowV H ts xs) (h60 : ts.length ≤ 60)
    (hs : ∀ (i : Nat) (x : V) (t : T) (H' : Hp), ts[i]? = some t → Same H H' → IsN H' x t → ∀ Q' : VK, (∀ r H'', Same H' H'' → IsN H'' r (g t) → Q' r H'') → te (some x :: σ) H' Q')
    (q : ∀ D zs H', Same H H' → H' D = some (.lst zs) → RowV H' (ts.map g) zs → Q (.ref D) H') : CompRd (Itt K a) tAll te σ Q H := by
  have hl := row.length
  refine comp_run runs_tup (fun D i zs H' => H D = none ∧ H' D = some (.lst zs) ∧ Same H H' ∧ RowV H' ((ts.take i).map g) zs) (fun D hD => ⟨hD, upd_same, same_new hD _, .nil⟩)
    (fun D i zs H' hi p => ⟨p.2.1, .of (p.2.2.1 _ _ ha), fun hlt => ?_⟩) (fun D i zs H' x hx hi p => ?_) (fun D zs H' p => ?_)
  · obtain ⟨_, _, _, e⟩ := p
    have := e.length
    rw [List.length_map, List.length_take] at this
    exact small1000 (by omega)
  · obtain ⟨hD, h1, sm, e⟩ := p
    obtain ⟨t, ht, it⟩ := (RowV.mono row sm.t).get hx
    have et : ts.take (i + 1) = ts.take i ++ [t] := by rw [List.take_succ, ht]; rfl
    refine hs i x t H' ht sm it _ fun r H2 s2 ir => ⟨s2 _ _ h1, .mk hi ⟨hD, upd_same, same_upd hD (sm.trans s2) _, ?_⟩⟩
    have st : SameT H2 (upd H2 D (.lst (zs ++ [r]))) := sameT_lst (s2 _ _ h1) _
    rw [et, List.map_append]
    exact RowV.append (RowV.mono (RowV.mono e s2.t) st) (RowV.one (ir.mono st))
  · obtain ⟨hD, h1, sm, e⟩ := p
    rw [List.take_of_length_le (by omega)] at e
    exact q D zs H' sm h1 e
theorem scMap : FnScope ["nest", "one", "other", "firsts"] ["nest", "one", "other"] (defScope s_is_map) := ⟨rfl, rfl, rfl, by decide +kernel, rfl, by decide +kernel, by decide +kernel⟩
theorem ok_map {C : Addr} (F : Fun K "is_map" "is_map" s_is_map f fd) (IB : Has P w K mg base 4 "is_pair_between" ["nest", "one", "other"] spIpb fA dA) (FI : Has P w K mg base 2 "first" ["nest"] (fS spFst C) fB dB) (ma : mg "all" = none) : FnOk P w K mg base CX0 5 f fd ["nest", "one", "other"] spMap := by
  refine F.ok scMap (fun vs H Q E h => by obtain ⟨_, _, _, _, _, _, rfl, _⟩ := h; rfl) (fun cdv A outer s H vs Q E hr h => ?_)
  obtain ⟨v, x, y, t, a, b, rfl, iv, ix, iy, dt, da, db, lt, la, q⟩ := h
  have oIB := IB.ok
  have oFI := FI.ok.mono (k := 4) (by decide)
  refine ⟨_, pss_cons (ps_if (pt_not (pt_val (pe_callB (call_allB rfl) rfl ma PyProof.Rows.boot_all (pa_cons (pe_compF (defScope s_is_map) ["nest", "one", "other", "firsts"] (tCall spIpb [] E0 (tCons (tVar 0) (tCons (tVar 2) (tCons (tVar 3) tNil)))) rfl scMap.nd (by decide +kernel) (pi_tupB (pv 0)) (fun cl C s H fp pins => ⟨pifs_nil, pe_call oIB hr rfl IB.m IB.kp IB.b .nil pass0 (pa_cons (pv 0) (pa_cons (pv 2) (pa_cons (pv 3) pa_nil)))⟩)) pa_nil)))) (pss_one (ps_ret pe_bl)) pss_nil) (pss_cons (ps_set (i := 3) scMap.nd rfl (Or.inr rfl) (pe_compF (defScope s_is_map) ["nest", "one", "other", "firsts"] (tCall (fS spFst C) [] E0 (tCons (tVar 0) tNil)) rfl scMap.nd (by decide +kernel) (pi_tupB (pv 0)) (fun cl C s H fp pins => ⟨pifs_nil, pe_call oFI hr rfl FI.m FI.kp FI.b .nil pass0 (pa_cons (pv 0) pa_nil)⟩))) (pss_one (ps_ret (pe_callB (call_allB rfl) rfl ma PyProof.Rows.boot_all (pa_cons (pe_compF (defScope s_is_map) ["nest", "one", "other", "firsts"] (tOp rEq (tBM K "list" rCountN (tVar 4) (tCons (tVar 0) tNil)) (tC (.int 1))) rfl scMap.nd (by decide +kernel) (pi_tupB (pv 1)) (fun cl C s H fp pins => ⟨pifs_nil, pe_cmpR op_eq (pe_bm PySem.F.plainAttrs_list PySem.F.slot_list_count PySem.F.type_list_count (mt_countN hr.units) (pv 4) (pa_cons (pv 0) pa_nil)) pe_int (nomark _)⟩)) pa_nil))))), ?_⟩
  obtain ⟨pn, zs, rfl, hn, rown⟩ := iv.row
  obtain ⟨px, xs, rfl, hx, rowx⟩ := ix.row
  have dm : ∀ m ∈ t.toList, m.depth ≤ 50 := fun m hm => by have := T.mem_depth hm; omega
  refine ⟨_, rfl, pn, zs, rfl, .of hn, fun _ => ?_⟩
  refine rd_eachB (g := T.btw a b) hn rown lt (fun i u m H1 hm s1 im Q' q' => ?_) fun D H1 s1 h1 => ?_
  · exact ⟨_, rfl, _, rfl, _, rfl, u, _, y, m, a, b, rfl, im, ix.mono s1.t, iy.mono s1.t, dm m (List.mem_of_getElem? hm), da, db, q'⟩
  refine ⟨D, _, rfl, .of h1, _, rfl, ?_⟩
  have ea : (t.toList.map (T.btw a b)).all id = t.toList.all (T.btw a b) := by rw [List.all_map]; rfl
  unfold T.mapB at q
  rw [ea]
  cases c : t.toList.all (T.btw a b) with
  | false =>
    rw [c] at q
    exact iteT (q H1 s1)
  | true =>
    rw [c, Bool.true_and] at q
    have pr : ∀ m ∈ t.toList, isPr m = true := fun m hm => by
      have := List.all_eq_true.mp c m hm
      unfold T.btw at this
      rw [Bool.and_eq_true] at this
      exact this.1
    refine iteF ⟨_, rfl, pn, zs, rfl, .of (s1 _ _ hn), fun _ => ?_⟩
    refine rd_eachN (g := fsT) (s1 _ _ hn) (RowV.mono rown s1.t) lt (fun i u m H2 hm s2 im Q' q' => ?_) fun D2 ws H2 s2 h2 roww => ?_
    · have hp := pr m (List.mem_of_getElem? hm)
      exact ⟨_, rfl, u, m, rfl, im, dm m (List.mem_of_getElem? hm), fun _ => q', fun z => by rw [hp] at z; cases z⟩
    have s12 := s1.trans s2
    refine ⟨_, rfl, px, xs, rfl, .of (s12 _ _ hx), fun _ => ?_⟩
    refine rd_eachB (g := fun m => decide ((t.toList.map fsT).count m = 1)) (s12 _ _ hx) (RowV.mono rowx s12.t) la (fun i u m H3 hm s3 im Q' q' => ?_) fun D3 H3 s3 h3 => ?_
    · refine ⟨_, rfl, .inl ⟨rfl, _, .of (s3 _ _ h2)⟩, _, rfl, D2, ws, _, u, m, rfl, rfl, s3 _ _ h2, RowV.mono roww s3.t, im, fun z hz => ?_, rfl, ?_⟩
      · obtain ⟨z', hz', rfl⟩ := List.mem_map.mp hz
        exact Nat.le_trans (fs_small z') (dm z' hz')
      · have e : decide (V.int (((t.toList.map fsT).count m : Nat) : Int) = V.int 1) = decide ((t.toList.map fsT).count m = 1) := decide_eq_decide.mpr ⟨fun z => by have := V.int.inj z; omega, fun z => by rw [z]; rfl⟩
        rw [e]
        exact q' H3 (Same.refl _)
    refine ⟨D3, _, rfl, .of h3, ?_⟩
    have eb : (a.toList.map fun m => decide ((t.toList.map fsT).count m = 1)).all id = a.toList.all fun m => decide ((t.toList.map fsT).count m = 1) := by rw [List.all_map]; rfl
    rw [eb]
    exact q H3 (s12.trans s3)
theorem scVal : FnScope ["nest", "here", "member"] ["nest", "here"] (defScope s_value) := ⟨rfl, rfl, rfl, by decide +kernel, rfl, by decide +kernel, by decide +kernel⟩
theorem ok_val {C : Addr} (F : Fun K "value" "value" s_value f fd) (IP : Has P w K mg base 1 "is_pair" ["nest"] spIsp fA dA) (FI : Has P w K mg base 2 "first" ["nest"] (fS spFst C) fB dB) (SE : Has P w K mg base 3 "second" ["nest"] (fS spSnd C) fC dC) (mC : mg "NoPair" = some (.ref C)) (hC : ExcC K C) : FnOk P w K mg base (CXE P w) 4 f fd ["nest", "here"] (spVal C) := by
  refine F.okX scVal (fun vs H Q E h => by obtain ⟨_, _, _, _, rfl, _⟩ := h; rfl) (fun cdv A outer s H vs Q E hr h => ?_)
  obtain ⟨v, x, t, z, rfl, iv, ix, dt, dz, lt, q1, q2⟩ := h
  have oIP := IP.ok.mono (k := 3) (by decide)
  have oFI := FI.ok.mono (k := 3) (by decide)
  have oSE := SE.ok
  refine ⟨_, pss_cons (ps_for (ownW FnCx.of) rfl (pi_tupB (pv 0)) (pg_name (i := 2) scVal.nd rfl (Or.inl rfl)) (pss_one (ps_if (PW.pt (pw_and (pt_val (pe_call oIP hr rfl IP.m IP.kp IP.b .nil pass0 (pa_cons (pv 2) pa_nil))) (pw_and1 (pt_cmpR (op_eqN hr.units) (pe_call oFI hr rfl FI.m FI.kp FI.b .nil pass0 (pa_cons (pv 2) pa_nil)) (pv 1) (nomark _))))) (pss_one (ps_ret (pe_call oSE hr rfl SE.m SE.kp SE.b .nil pass0 (pa_cons (pv 2) pa_nil)))) pss_nil))) (pss_one (ps_raise FnCx.of rfl rfl mC hC (pa_cons pe_str pa_nil))), ?_⟩
  obtain ⟨pn, zs, rfl, hn, rown⟩ := iv.row
  have hl := rown.length
  have dm : ∀ m ∈ t.toList, m.depth ≤ 50 := fun m hm => by have := T.mem_depth hm; omega
  refine ⟨_, rfl, pn, zs, rfl, .of hn, fun _ => ?_⟩
  refine for_tup (xs := zs) (fun i σ H' => ∃ o, σ = [some (.ref pn), some x, o] ∧ Same H H' ∧ ∀ m ∈ t.toList.take i, (isPr m && decide (fsT m = z)) = false) ⟨none, rfl, Same.refl _, by simp⟩
    (fun i σ H' _ p => by obtain ⟨_, _, sm, _⟩ := p; exact .of (sm _ _ hn)) (fun i u σ H' hx p => ?_) (fun σ H' p => ?_)
  · obtain ⟨o, rfl, sm, hno⟩ := p
    obtain ⟨m, hm, im⟩ := (RowV.mono rown sm.t).get hx
    have hmm := List.mem_of_getElem? hm
    have et : t.toList.take (i + 1) = t.toList.take i ++ [m] := by rw [List.take_succ, hm]; rfl
    have more : (isPr m && decide (fsT m = z)) = false → ∀ m' ∈ t.toList.take (i + 1), (isPr m' && decide (fsT m' = z)) = false := fun h m' hm' => by
      rw [et] at hm'
      rcases List.mem_append.mp hm' with hm' | hm'
      · exact hno m' hm'
      · have : m' = m := by simpa using hm'
        rw [this]; exact h
    refine ⟨_, rfl, u, m, rfl, im, dm m hmm, fun H1 s1 => ⟨_, rfl, ?_⟩⟩
    cases c1 : isPr m with
    | false => exact iteF (iteF ⟨_, rfl, sm.trans s1, more (by rw [c1]; rfl)⟩)
    | true =>
      refine iteT ⟨_, rfl, u, m, rfl, im.mono s1.t, dm m hmm, fun _ r2 H2 s2 i2 => ?_, fun w' => by rw [c1] at w'; cases w'⟩
      have s12 := s1.trans s2
      refine ⟨_, rfl, _, _, i2, (ix.mono sm.t).mono s12.t, Nat.le_trans (fs_small m) (dm m hmm), _, rfl, ?_⟩
      by_cases c2 : fsT m = z
      · refine iteS c2 ⟨_, rfl, u, m, rfl, im.mono s12.t, dm m hmm, fun _ r3 H3 s3 i3 => ?_, fun w' => by rw [c1] at w'; cases w'⟩
        refine q1 m ?_ r3 H3 (sm.trans (s12.trans s3)) i3
        have hd' : t.toList.drop i = m :: t.toList.drop (i + 1) := by
          have hi : i < t.toList.length := (List.getElem?_eq_some_iff.mp hm).1
          rw [List.drop_eq_getElem_cons hi]
          rw [List.getElem?_eq_getElem hi] at hm
          rw [Option.some.inj hm]
        rw [← List.take_append_drop i t.toList, List.find?_append, hd']
        have h0 : (t.toList.take i).find? (fun m => isPr m && decide (fsT m = z)) = none := List.find?_eq_none.mpr fun m' hm' => by rw [hno m' hm']; exact Bool.false_ne_true
        rw [h0, List.find?_cons_of_pos (by rw [c1, decide_eq_true c2]; rfl)]
        rfl
      · exact iteN c2 ⟨_, rfl, sm.trans s12, more (by rw [c1, decide_eq_false c2]; rfl)⟩
  · obtain ⟨o, rfl, sm, hno⟩ := p
    rw [List.take_of_length_le (by omega)] at hno
    exact ⟨by decide, q2 (List.find?_eq_none.mpr fun m hm => by rw [hno m hm]; exact Bool.false_ne_true) H' sm⟩
/-! ### _law_value -/
def spLva : Sp := fun vs H Q _ => ∃ v x t z, vs = [v, x] ∧ IsN H v t ∧ IsN H x z ∧ t.depth ≤ 50 ∧ z.depth ≤ 50 ∧ t.toList.length ≤ 60 ∧
  (∀ m, t.toList.find? (fun m => isPr m && decide (fsT m = z)) = some m → ∀ r H', Same H H' → IsN H' r (snT m) → Q r H') ∧ (t.toList.find? (fun m => isPr m && decide (fsT m = z)) = none → ∀ H', Same H H' → Q .non H')
/-- the one refusal of this text -/
structure Refs2 (K : PySem.W.Frag) (mg : Str → Option Value) (S C : Addr) (cn : Str) : Prop where
  mS : mg "SetError" = some (.ref S)
  mC : mg cn = some (.ref C)
  sS : ExcS K S
  xC : ExcC K C
  qC : ExcQ K C
  sub : PySem.W.subIn K (.ref C) (.ref S) = some true
  val : PySem.W.kitOne K (.ref C) (.type "ValueError") = some true
abbrev tAsk2 (K : PySem.W.Frag) (C : Addr) (i : Nat) : TT := tAnd (tB (tCB (rIsiX K) (tCons (tVar i) (tCons (tC (.ref C)) tNil)))) (tB (tCB (rIsiX K) (tCons (tVar i) (tCons (tC (.ty "ValueError")) tNil))))
theorem rd_ask2 {S C : Addr} {cn : Str} {i : Nat} {x : Addr} {σ : L2.St} {H : Hp} {Q : Bool → Hp → Prop} (R : Refs2 K mg S C cn) (hσ : σ[i]? = some (some (.ref x))) (hx : H x = some (EXO x (.ref C))) (q : Q true H) : tAsk2 K C i σ H Q := by
  refine ⟨_, hσ, x, C, _, true, rfl, hx, R.qC, .inl ⟨_, fun u h => h, kit_self K _⟩, true, rfl, iteT ?_⟩
  exact ⟨_, hσ, x, C, _, true, rfl, hx, R.qC, .inl ⟨_, fun u h => h, R.val⟩, true, rfl, q⟩
theorem scLva : FnScope ["_law_one", "_law_here", "_law_found", "e"] ["_law_one", "_law_here"] (defScope s__law_value) := ⟨rfl, rfl, rfl, by decide +kernel, rfl, by decide +kernel, by decide +kernel⟩
theorem ok_lva {S C : Addr} (R : Refs2 K mg S C "NoPair") (F : Fun K "_law_value" "_law_value" s__law_value f fd) (G : FnOk P w K mg base (CXE P w) 4 fA dA ["nest", "here"] (spVal C)) (b : Binds K dA ["nest", "here"] []) (kG : PySem.W.keepIn K (.ref fA) = true) (m : mg "value" = some (.ref fA))
    (mi : mg "isinstance" = none) (mv : mg "ValueError" = none) : FnOk P w K mg base CX0 5 f fd ["_law_one", "_law_here"] spLva := by
  refine F.ok scLva (fun vs H Q E h => by obtain ⟨_, _, _, _, rfl, _⟩ := h; rfl) (fun cdv A outer s H vs Q E hr h => ?_)
  obtain ⟨v, x, t, z, rfl, iv, ix, dt, dz, lt, q1, q2⟩ := h
  refine ⟨_, pss_cons (ps_set (i := 2) scLva.nd rfl (Or.inl rfl) pe_str)
    (pss_cons (ps_try (j := 3) (S := S) (tb := fun E1 => tAsg (tCall (spVal C) [] E1 (tCons (tVar 0) (tCons (tVar 1) tNil))) (gName 2)) (th := tIfS (tAsk2 K C 3) (tAsg (tC .non) (gName 2)) tNext) ⟨rfl, rfl, rfl⟩ rfl scLva.nd rfl R.mS R.sS rfl rfl
      (fun pins E1 => pss_one (ps_set (i := 2) scLva.nd rfl (Or.inl rfl) (pe_call G hr rfl m kG b .nil (passX ⟨rfl, rfl, rfl⟩) (pa_cons (pv 0) (pa_cons (pv 1) pa_nil)))))
      (fun pins x => pss_one (ps_if (PW.pt (pw_and (pt_val (pe_callB call_isiX rfl mi PyProof.Rows.boot_isinstance (pa_cons (pv 3) (pa_cons (pe_glob (v := .ref C) rfl R.mC rfl) pa_nil))))
        (pw_and1 (pt_val (pe_callB call_isiX rfl mi PyProof.Rows.boot_isinstance (pa_cons (pv 3) (pa_cons (pe_bltn (v := .ty "ValueError") rfl mv PyProof.Rows.Boot.«ValueError» rfl) pa_nil))))))) (pss_one (ps_set (i := 2) scLva.nd rfl (Or.inl rfl) pe_non)) pss_nil))
      pss_nil)
    (pss_one (ps_ret (pv 2)))), ?_⟩
  have suite : ∀ H1, Same H H1 → (∀ H', Same H H' → Q .non H') → ∀ y, H1 y = none → tIfS (tAsk2 K C 3) (tAsg (tC .non) (gName 2)) tNext
      { nx := fun σ' H2 => tRet (tVar 2) { nx := fun _ H' => Q .non H', rt := Q } (σ'.set 3 none) H2, rt := Q, bk := fun _ _ => False, ct := fun _ _ => False } ((List.replicate 4 none).set 3 (some (.ref y))) (upd H1 y (EXO y (.ref C))) := fun H1 s1 q y hy => by
    have s2 := s1.trans (same_new hy (EXO y (.ref C)))
    exact rd_ask2 R rfl upd_same (iteT ⟨_, rfl, q _ s2⟩)
  exact ⟨_, rfl, _, rfl, v, x, t, z, rfl, iv, ix, dt, dz, lt, fun m e r H' sm i => ⟨_, rfl, q1 m e r H' sm i⟩, fun e H1 s1 => ⟨C, rfl, R.sub, fun y hy => suite H1 s1 (q2 e) y hy⟩⟩
end
end K7
set_option Elab.async false
set_option linter.all false
set_option maxRecDepth 100000
set_option maxHeartbeats 4000000
namespace K7
open PySem PySem.Spec PyProof.Rows NM L2
/-! ### rows of pairs; _law_is_map -/
def twT (p : T.P2) : T := T.ofList [p.1, p.2]
def IsP (H : Hp) (v : V) (p : T.P2) : Prop := ∃ a u w, v = .ref a ∧ H a = some (.tup [u, w]) ∧ IsN H u p.1 ∧ IsN H w p.2
abbrev RowP (H : Hp) : List T.P2 → List V → Prop := Paired fun p v => IsP H v p
theorem IsP.n {H : Hp} {v : V} {p : T.P2} (h : IsP H v p) : IsN H v (twT p) := by
  obtain ⟨a, u, w, rfl, ha, iu, iw⟩ := h
  exact .ofL ha (.cons iu (.cons iw .nil))
theorem isP_of {H : Hp} {v : V} {p : T.P2} (h : IsN H v (twT p)) : IsP H v p := by
  obtain ⟨a, ys, rfl, ha, row⟩ := h.row
  unfold twT at row
  rw [T.to_of] at row
  obtain ⟨u, l, rfl, iu, row⟩ := row_cons row
  obtain ⟨w, l, rfl, iw, row⟩ := row_cons row
  have := row_nil row
  subst this
  exact ⟨a, u, w, rfl, ha, iu, iw⟩
theorem IsP.mono {H H' : Hp} {v : V} {p : T.P2} (h : IsP H v p) (s : SameT H H') : IsP H' v p := isP_of (h.n.mono s)
theorem rowP_n {H : Hp} : ∀ {ps : List T.P2} {xs : List V}, RowP H ps xs → RowV H (ps.map twT) xs
  | _, _, .nil => .nil
  | _, _, .cons p r => .cons p.n (rowP_n r)
theorem rowP_mono {H H' : Hp} (s : SameT H H') : ∀ {ps : List T.P2} {xs : List V}, RowP H ps xs → RowP H' ps xs
  | _, _, .nil => .nil
  | _, _, .cons p r => .cons (p.mono s) (rowP_mono s r)
theorem rowP_get {H : Hp} : ∀ {ps : List T.P2} {xs : List V}, RowP H ps xs → ∀ {i : Nat} {x : V}, xs[i]? = some x → ∃ p, ps[i]? = some p ∧ IsP H x p
  | _, _, .nil, i, x, h => by simp at h
  | _, _, .cons p r, 0, x, h => by simp at h; subst h; exact ⟨_, rfl, p⟩
  | _, _, .cons p r, i + 1, x, h => by
    obtain ⟨y, h1, h2⟩ := rowP_get r (by simpa using h)
    exact ⟨y, by simpa using h1, h2⟩
def spLim : Sp := fun vs H Q _ => ∃ (p st : Addr) (v1 v2 : V) (xs sv : List V) (ks : List T.P2) (a b : T) (ss : List T), vs = [.ref p, v1, v2, .ref st] ∧ H p = some (.lst xs) ∧ RowP H ks xs ∧ ks.length ≤ 10 ∧ (∀ p ∈ ks, T.OkP p) ∧ IsN H v1 a ∧ IsN H v2 b ∧ a.depth ≤ 50 ∧ b.depth ≤ 50 ∧ H st = some (.lst sv) ∧ sv.isEmpty = ss.isEmpty ∧
  ∀ H', Same H H' → Q (.bl (T.lmapB ks a b ss)) H'
section
variable {P : Program} {w : World} {K : PySem.W.Frag} {mg : Str → Option Value} {base : Heap} {f fA : Addr} {fd dA : FuncData}
theorem rd_fsts {p : Addr} {xs : List V} {ks : List T.P2} {σ : L2.St} {Q : VK} {H : Hp} (hp : H p = some (.lst xs)) (row : RowP H ks xs) (h10 : ks.length ≤ 10)
    (q : ∀ D zs H', Same H H' → H' D = some (.lst zs) → RowV H' (ks.map (·.1)) zs → Q (.ref D) H') : CompRd2 K (Itl K p) tAll (tVar 0) σ Q H := by
  have hl : ks.length = xs.length := Paired.length row
  refine comp_run2 runs_list (fun D i zs H' => H D = none ∧ H' D = some (.lst zs) ∧ Same H H' ∧ RowV H' ((ks.take i).map (·.1)) zs) (fun D hD => ⟨hD, upd_same, same_new hD _, .nil⟩)
    (fun D i zs H' hi p => ⟨p.2.1, .of (p.2.2.1 _ _ hp), fun hlt => ?_⟩) (fun D i zs H' x hx hi p => ?_) (fun D zs H' p => ?_)
  · obtain ⟨_, _, _, e⟩ := p
    have := e.length
    rw [List.length_map, List.length_take] at this
    exact small1000 (by omega)
  · obtain ⟨hD, h1, sm, e⟩ := p
    obtain ⟨k, hk, ⟨a, u, w', rfl, ha, iu, iw⟩⟩ := rowP_get (rowP_mono sm.t row) hx
    have et : ks.take (i + 1) = ks.take i ++ [k] := by rw [List.take_succ, hk]; rfl
    refine ⟨a, u, w', rfl, .of ha, _, rfl, h1, .mk hi ⟨hD, upd_same, same_upd hD sm _, ?_⟩⟩
    have st : SameT H' (upd H' D (.lst (zs ++ [u]))) := sameT_lst h1 _
    rw [et, List.map_append]
    exact RowV.append (RowV.mono e st) (RowV.one (iu.mono st))
  · obtain ⟨hD, h1, sm, e⟩ := p
    rw [List.take_of_length_le (by omega)] at e
    exact q D zs H' sm h1 e
abbrev ttIn (K : PySem.W.Frag) : TT := tAnd (tTest (tOp (rInN K false) (tVar 0) (tVar 3))) (tTest (tOp (rInN K false) (tVar 1) (tVar 4)))
abbrev teIn : TE := tTup (tCons (tVar 0) (tCons (tVar 1) tNil))
theorem rd_ins {p : Addr} {xs : List V} {ks : List T.P2} {a b : T} {v1 v2 : V} {σ : L2.St} {Q : VK} {H : Hp} (hp : H p = some (.lst xs)) (row : RowP H ks xs) (h10 : ks.length ≤ 10) (i1 : IsN H v1 a) (i2 : IsN H v2 b) (da : a.depth ≤ 50) (db : b.depth ≤ 50) (h1σ : σ[1]? = some (some v1)) (h2σ : σ[2]? = some (some v2))
    (q : ∀ D zs H', Same H H' → H' D = some (.lst zs) → zs.length = (ks.filter (T.inB a b)).length → Q (.ref D) H') : CompRd2 K (Itl K p) (ttIn K) teIn σ Q H := by
  have hl : ks.length = xs.length := Paired.length row
  obtain ⟨pa, as, rfl, hpa, rowa⟩ := i1.row
  obtain ⟨pb, bs, rfl, hpb, rowb⟩ := i2.row
  refine comp_run2 runs_list (fun D i zs H' => H D = none ∧ H' D = some (.lst zs) ∧ Same H H' ∧ zs.length = ((ks.take i).filter (T.inB a b)).length) (fun D hD => ⟨hD, upd_same, same_new hD _, rfl⟩)
    (fun D i zs H' hi p => ⟨p.2.1, .of (p.2.2.1 _ _ hp), fun hlt => ?_⟩) (fun D i zs H' x hx hi p => ?_) (fun D zs H' p => ?_)
  · obtain ⟨_, _, _, e⟩ := p
    have := List.length_filter_le (T.inB a b) (ks.take i)
    rw [List.length_take] at this
    exact small1000 (by omega)
  · obtain ⟨hD, h1, sm, e⟩ := p
    obtain ⟨k, hk, ⟨c, u, w', rfl, hc, iu, iw⟩⟩ := rowP_get (rowP_mono sm.t row) hx
    have et : ks.take (i + 1) = ks.take i ++ [k] := by rw [List.take_succ, hk]; rfl
    have neg : T.inB a b k = false → NextP xs.length i (H D = none ∧ H' D = some (.lst zs) ∧ Same H H' ∧ zs.length = ((ks.take (i + 1)).filter (T.inB a b)).length) := fun c => .mk hi ⟨hD, h1, sm, by rw [et, List.filter_append, List.filter_cons_of_neg (by rw [c]; exact Bool.false_ne_true), List.filter_nil, List.append_nil]; exact e⟩
    refine ⟨c, u, w', rfl, .of hc, ?_⟩
    refine ⟨_, rfl, _, h1σ, pa, as, a.toList, k.1, rfl, .inr (.of (sm _ _ hpa)), RowV.mono rowa sm.t, iu, fun m hm => by have := T.mem_depth hm; omega, _, rfl, ?_⟩
    have e1 : (if false = true then !decide (k.1 ∈ a.toList) else decide (k.1 ∈ a.toList)) = decide (k.1 ∈ a.toList) := if_neg Bool.false_ne_true
    rw [e1]
    cases c1 : decide (k.1 ∈ a.toList) with
    | false => exact iteF (iteF (neg (by unfold T.inB; rw [c1]; rfl)))
    | true =>
      refine iteT ⟨_, rfl, _, h2σ, pb, bs, b.toList, k.2, rfl, .inr (.of (sm _ _ hpb)), RowV.mono rowb sm.t, iw, fun m hm => by have := T.mem_depth hm; omega, _, rfl, ?_⟩
      have e2 : (if false = true then !decide (k.2 ∈ b.toList) else decide (k.2 ∈ b.toList)) = decide (k.2 ∈ b.toList) := if_neg Bool.false_ne_true
      rw [e2]
      cases c2 : decide (k.2 ∈ b.toList) with
      | false => exact iteF (neg (by unfold T.inB; rw [c1, c2]; rfl))
      | true =>
        refine iteT ⟨_, rfl, _, rfl, (by show 2 ≤ sizeLine; decide), fun T0 hT => ?_⟩
        have sT := same_new hT (.tup [u, w'])
        refine ⟨sT _ _ h1, .mk hi ⟨hD, upd_same, same_upd hD (sm.trans sT) _, ?_⟩⟩
        rw [et, List.filter_append, List.filter_cons_of_pos (by unfold T.inB; rw [c1, c2]; rfl), List.filter_nil, List.length_append, List.length_append, e]; rfl
  · obtain ⟨hD, h1, sm, e⟩ := p
    rw [List.take_of_length_le (by omega)] at e
    exact q D zs H' sm h1 e
theorem scLim : FnScope ["_law_pairs", "_law_one", "_law_other", "_law_strange", "_law_firsts", "_law_inside"] ["_law_pairs", "_law_one", "_law_other", "_law_strange"] (defScope s__law_is_map) := ⟨rfl, rfl, rfl, by decide +kernel, rfl, by decide +kernel, by decide +kernel⟩
theorem ok_lim (F : Fun K "_law_is_map" "_law_is_map" s__law_is_map f fd) (HN : Has P w K mg base 19 "_law_nest" ["_law_some_here"] spHn fA dA) (ml : mg "len" = none) : FnOk P w K mg base CX0 20 f fd ["_law_pairs", "_law_one", "_law_other", "_law_strange"] spLim := by
  refine F.ok scLim (fun vs H Q E h => by obtain ⟨_, _, _, _, _, _, _, _, _, _, rfl, _⟩ := h; rfl) (fun cdv A outer s H vs Q E hr h => ?_)
  obtain ⟨p, st, v1, v2, xs, sv, ks, a, b, ss, rfl, hp, row, h10, okp, i1, i2, da, db, hst, hss, q⟩ := h
  have oHN := HN.ok
  refine ⟨_, pss_cons (ps_set2F (defScope s__law_is_map) ["_law_pairs", "_law_one", "_law_other", "_law_strange", "_law_firsts", "_law_inside"] (tVar 0) 4 rfl scLim.nd (by decide +kernel) (pi_lstB (pv 0)) (fun cl C s H fp pins => ⟨pifs_nil, pv 0⟩) rfl (Or.inl rfl)) (pss_cons (ps_set2F (tt := ttIn K) (defScope s__law_is_map) ["_law_pairs", "_law_one", "_law_other", "_law_strange", "_law_firsts", "_law_inside"] teIn 5 rfl scLim.nd (by decide +kernel) (pi_lstB (pv 0)) (fun cl C s H fp pins => ⟨pifs_one (PW.pt (pw_and (pt_cmpR (op_inN hr.units) (pv 0) (pv 3) rfl) (pw_and1 (pt_cmpR (op_inN hr.units) (pv 1) (pv 4) rfl)))), pe_tup (pa_cons (pv 0) (pa_cons (pv 1) pa_nil))⟩) rfl (Or.inl rfl)) (pss_one (ps_ret (pe_and (pe_notT (pv 3)) (pe_and (pe_cmpR op_eq (pe_callB call_lenB rfl ml PySem.boot_len (pa_cons (pv 5) pa_nil)) (pe_callB call_lenB rfl ml PySem.boot_len (pa_cons (pv 0) pa_nil)) (nomark _)) (pe_and (pe_cmpR (op_eqN hr.units) (pe_call oHN hr rfl HN.m HN.kp HN.b .nil pass0 (pa_cons (pv 4) pa_nil)) (pv 1) (nomark _)) (pe_one (pe_cmpR op_eq (pe_callB call_lenB rfl ml PySem.boot_len (pa_cons (pv 4) pa_nil)) (pe_callB call_lenB rfl ml PySem.boot_len (pa_cons (pv 1) pa_nil)) (nomark _))))))))), ?_⟩
  have hl : ks.length = xs.length := Paired.length row
  refine ⟨_, rfl, p, xs, rfl, .of hp, fun _ => ?_⟩
  refine rd_fsts hp row h10 fun D1 zs1 H1 s1 h1 row1 => ?_
  refine ⟨_, rfl, p, xs, rfl, .of (s1 _ _ hp), fun _ => ?_⟩
  refine rd_ins (s1 _ _ hp) (rowP_mono s1.t row) h10 (i1.mono s1.t) (i2.mono s1.t) da db rfl rfl fun D2 zs2 H2 s2 h2 len2 => ?_
  have s12 := s1.trans s2
  have q := q
  unfold T.lmapB at q
  refine ⟨_, rfl, _, .inl ⟨sv, .of (s12 _ _ hst), rfl⟩, _, rfl, ?_⟩
  rw [Bool.not_not, hss]
  cases c0 : ss.isEmpty with
  | false =>
    rw [c0] at q
    exact iteF (q H2 s12)
  | true =>
    rw [c0, Bool.true_and] at q
    refine iteT ⟨_, rfl, D2, zs2, rfl, .inl (.of h2), fun _ => ⟨_, rfl, p, xs, rfl, .inl (.of (s12 _ _ hp)), fun _ => ⟨rfl, _, rfl, ?_⟩⟩⟩
    have e1 : decide (V.int (zs2.length : Int) = V.int (xs.length : Int)) = decide ((ks.filter (T.inB a b)).length = ks.length) := decide_eq_decide.mpr ⟨fun z => by have := V.int.inj z; omega, fun z => by rw [len2, z, hl]⟩
    rw [e1]
    cases c1 : decide ((ks.filter (T.inB a b)).length = ks.length) with
    | false =>
      rw [c1] at q
      exact iteF (q H2 s12)
    | true =>
      rw [c1, Bool.true_and] at q
      have fok : ∀ z ∈ ks.map (·.1), z.depth ≤ 5 := fun z hz => by
        obtain ⟨k, hk, rfl⟩ := List.mem_map.mp hz
        exact (okp k hk).1.1
      refine iteT ⟨_, rfl, D1, zs1, ks.map (·.1), rfl, .inl (s2 _ _ h1), RowV.mono row1 s2.t, fun z hz => by have := fok z hz; omega, by rw [List.length_map]; omega, fun r3 H3 s3 i3 => ?_⟩
      have s13 := s12.trans s3
      have d3 := hn_depth (ts := ks.map (·.1)) (n := 6) (fun z hz => by have := fok z hz; omega)
      refine ⟨_, rfl, _, _, i3, i1.mono s13.t, by omega, _, rfl, ?_⟩
      show if decide (T.ofList (hnl 9 (ks.map (·.1)) []) = a) = true then _ else _
      cases c2 : decide (T.ofList (hnl 9 (ks.map (·.1)) []) = a) with
      | false =>
        rw [c2] at q
        exact iteF (q H3 s13)
      | true =>
        rw [c2, Bool.true_and] at q
        have i13 := i1.mono s13.t
        obtain ⟨pa, as, rfl, hpa, rowa⟩ := i13.row
        have la := rowa.length
        have l1 := row1.length
        refine iteT ⟨_, rfl, D1, zs1, rfl, .inl (.of ((s2.trans s3) _ _ h1)), fun _ => ⟨_, rfl, pa, as, rfl, .inr (.of hpa), fun _ => ⟨rfl, ?_⟩⟩⟩
        have e3 : decide (V.int (zs1.length : Int) = V.int (as.length : Int)) = decide ((ks.map (·.1)).length = a.toList.length) := decide_eq_decide.mpr ⟨fun z => by have := V.int.inj z; omega, fun z => by rw [← l1, z, la]⟩
        rw [e3]
        exact q H3 s13
end
end K7
set_option Elab.async false
set_option linter.all false
set_option maxRecDepth 100000
set_option maxHeartbeats 4000000
namespace K7
open PySem PySem.Spec PyProof.Rows NM L2
/-! ### what the law reads over and over -/
abbrev rLenK (K : PySem.W.Frag) : List V → Hp → VK → Prop := fun xs H Q => ∃ p ys, xs = [.ref p] ∧ (SqL K H p ys ∨ SqT K H p ys) ∧ (ys.length ≤ sizeLine → Q (.int ys.length) H)
abbrev te71 : TE := tCall spPair [] E0 (tCons (tVar 15) (tCons (tVar 0) tNil))
abbrev te72 (K : PySem.W.Frag) : TE := tTup (tCons (tVar 1) (tCons (tOp (rIxT K) (tVar 4) (tCall spMix [] E0 (tCons (tOp (rI0 fun i j => .int (i + j)) (tCall (spCell K) [] E0 (tCons (tVar 2) (tCons (tC (.int 8)) tNil))) (tVar 0)) (tCons (tC (.int 9949)) (tCons (tCB (rLenK K) (tCons (tVar 4) tNil)) tNil))))) tNil))
abbrev te73 : TE := tCall spPair [] E0 (tCons (tVar 0) (tCons (tVar 1) tNil))
theorem drawn_mem {us : List T} (h : ∀ t ∈ us, Drawn t 4) (hl : us.length ≤ 4) : (∀ m ∈ us ++ [T.nil], m.depth < 9) ∧ (us ++ [T.nil]).length < 64 ∧ Mem4 (T.ofList (hnl 9 (us ++ [T.nil]) [])) ∧ 1 ≤ (T.ofList (hnl 9 (us ++ [T.nil]) [])).toList.length := by
  have ok : ∀ m ∈ us ++ [T.nil], m.depth ≤ 4 ∧ canon m = true := fun m hm => by
    rcases List.mem_append.mp hm with z | z
    · exact ⟨(h m z).dep, (h m z).can⟩
    · have z : m = T.nil := by simpa using z
      subst z
      exact ⟨by decide, by decide⟩
  have ok8 : ∀ m ∈ us ++ [T.nil], m.depth ≤ 8 ∧ canon m = true := fun m hm => ⟨by have := (ok m hm).1; omega, (ok m hm).2⟩
  have hn := hnl_len 9 (us ++ [T.nil]) []
  rw [List.length_append, List.length_singleton, List.length_nil] at hn
  refine ⟨fun m hm => by have := (ok m hm).1; omega, by rw [List.length_append, List.length_singleton]; omega, ⟨hn_canon ok8, by rw [T.to_of]; omega, fun m hm => ?_⟩, ?_⟩
  · rw [T.to_of] at hm
    rcases hnl_sub 9 _ _ m hm with z | z
    · exact (ok m z).1
    · simp at z
  · rw [T.to_of]
    have sp := hnl_spec 8 (us ++ [T.nil]) [] ok8 (fun _ h => by simp at h) (by simp [Asc])
    exact List.length_pos_of_mem ((sp.2 T.nil).2 (by simp))
theorem okP_in {A B : T} (mA : Mem4 A) (mB : Mem4 B) {p : T.P2} (h1 : p.1 ∈ A.toList ∨ p.1 ∈ B.toList) (h2 : p.2 ∈ A.toList ∨ p.2 ∈ B.toList) : T.OkP p := by
  obtain ⟨cA, _, dA⟩ := mA
  obtain ⟨cB, _, dB⟩ := mB
  refine ⟨?_, ?_⟩
  · rcases h1 with h | h
    · exact ⟨by have := dA _ h; omega, canon_mem cA h⟩
    · exact ⟨by have := dB _ h; omega, canon_mem cB h⟩
  · rcases h2 with h | h
    · exact ⟨by have := dA _ h; omega, canon_mem cA h⟩
    · exact ⟨by have := dB _ h; omega, canon_mem cB h⟩
theorem Mem4.dep {A : T} (m : Mem4 A) : A.depth ≤ 5 := T.depth_le fun z hz => by have := m.2.2 z hz; omega
theorem rowP_at {H : Hp} : ∀ {ps : List T.P2} {xs : List V}, RowP H ps xs → ∀ {i : Nat} {p : T.P2}, ps[i]? = some p → ∃ x, xs[i]? = some x ∧ IsP H x p
  | _, _, .nil, i, x, h => by simp at h
  | _, _, .cons p r, 0, x, h => by simp at h; subst h; exact ⟨_, rfl, p⟩
  | _, _, .cons p r, i + 1, x, h => by
    obtain ⟨y, h1, h2⟩ := rowP_at r (by simpa using h)
    exact ⟨y, by simpa using h1, h2⟩
theorem rowP_app {H : Hp} {ps qs : List T.P2} {xs ys : List V} (h1 : RowP H ps xs) (h2 : RowP H qs ys) : RowP H (ps ++ qs) (xs ++ ys) := SET.paired_app h1 h2
theorem twT_dep {p : T.P2} (h : T.OkP p) : (twT p).depth ≤ 7 := T.depth_le fun z hz => by
  unfold twT at hz
  rw [T.to_of] at hz
  have h1 := h.1.1
  have h2 := h.2.1
  rcases List.mem_cons.mp hz with rfl | hz
  · omega
  · have : z = p.2 := by simpa using hz
    subst this; omega
theorem twT_inj {p q : T.P2} (h : twT p = twT q) : p = q := by
  have := congrArg T.toList h
  unfold twT at this
  rw [T.to_of, T.to_of] at this
  injection this with e1 e2
  injection e2 with e2 _
  exact Prod.ext e1 e2
/-- a sorted row of two-rows, read back -/
theorem un_row {ps : List T.P2} {us : List T} (rise : us.Pairwise fun x y => T.lt x y = true) (mem : ∀ z, z ∈ us ↔ z ∈ ps.map twT) : ∃ ks : List T.P2, us = ks.map twT ∧ ks.Nodup ∧ ∀ p, p ∈ ks ↔ p ∈ ps := by
  obtain ⟨ks, rfl⟩ : ∃ ks : List T.P2, us = ks.map twT := by
    have sub : ∀ z ∈ us, z ∈ ps.map twT := fun z hz => (mem z).1 hz
    clear mem rise
    induction us with
    | nil => exact ⟨[], rfl⟩
    | cons u us ih =>
      obtain ⟨ks, e⟩ := ih fun z hz => sub z (by simp [hz])
      obtain ⟨p, _, hp⟩ := List.mem_map.mp (sub u (by simp))
      exact ⟨p :: ks, by rw [List.map_cons, hp, e]⟩
  refine ⟨ks, rfl, ?_, fun p => ?_⟩
  · rw [List.nodup_iff_pairwise_ne]
    rw [List.pairwise_map] at rise
    exact rise.imp fun {x y} h e => by rw [e, T.lt_irr] at h; cases h
  · constructor
    · intro h
      obtain ⟨q, hq, e⟩ := List.mem_map.mp ((mem (twT p)).1 (List.mem_map.mpr ⟨p, h, rfl⟩))
      rw [← twT_inj e]; exact hq
    · intro h
      obtain ⟨q, hq, e⟩ := List.mem_map.mp ((mem (twT p)).2 (List.mem_map.mpr ⟨p, h, rfl⟩))
      rw [← twT_inj e]; exact hq
theorem row_tw {H : Hp} : ∀ {ks : List T.P2} {xs : List V}, RowV H (ks.map twT) xs → RowP H ks xs
  | [], _, r => by cases r; exact .nil
  | k :: ks, _, r => by
    cases r with
    | cons p q => exact .cons (isP_of p) (row_tw q)
section
variable {P : Program} {w : World} {K : PySem.W.Frag} {mg : Str → Option Value} {base : Heap}
theorem rd_rows {a pa pb : Addr} {xa xb : List V} {ns : List Int} {A B : T} {σ : L2.St} {Q : VK} {H : Hp} (ha : SqL K H a (ns.map V.int)) (hpa : H pa = some (.tup xa)) (rowA : RowV H A.toList xa) (hpb : H pb = some (.tup xb)) (rowB : RowV H B.toList xb) (lA : A.toList.length ≤ 5) (nB : 1 ≤ B.toList.length) (h0 : σ[0]? = some (some (.ref a))) (h2 : σ[2]? = some (some (.ref pb)))
    (q : ∀ D zs ps H', Same H H' → H' D = some (.lst zs) → RowP H' ps zs → ps.length = xa.length → (∀ p ∈ ps, p.1 ∈ A.toList ∧ p.2 ∈ B.toList) → Q (.ref D) H') : CompRd2 K (IteT K pa xa) tAll (te72 K) σ Q H := by
  have la := rowA.length
  have lb := rowB.length
  refine comp_runE runs_enumT (fun D i zs H' => H D = none ∧ H' D = some (.lst zs) ∧ Same H H' ∧ ∃ ps, RowP H' ps zs ∧ ps.length = i ∧ ∀ p ∈ ps, p.1 ∈ A.toList ∧ p.2 ∈ B.toList) (fun D hD => ⟨hD, upd_same, same_new hD _, [], .nil, rfl, by simp⟩)
    (fun D i zs H' hi p => ⟨p.2.1, .of (p.2.2.1 _ _ hpa), fun hlt => ?_⟩) (fun D i zs H' x T0 hx hi p hT => ?_) (fun D zs H' p => ?_)
  · obtain ⟨_, _, _, ps, e, e2, _⟩ := p
    have : ps.length = zs.length := Paired.length e
    exact small1000 (by omega)
  · obtain ⟨hD, h1, sm, ps, e, e2, e3⟩ := p
    have sT : Same H' (upd H' T0 (.tup [.int (i : Int), x])) := same_new hT _
    revert sT
    generalize upd H' T0 (.tup [.int (i : Int), x]) = H2
    intro sT
    have sm2 := sm.trans sT
    obtain ⟨t, ht, it⟩ := (RowV.mono rowA sm2.t).get hx
    refine ⟨_, rfl, _, h2, _, h0, a, ns, 8, rfl, sm2.seq ha, by decide, fun c H3 s3 => ?_⟩
    have s23 := sm2.trans s3
    refine ⟨_, rfl, _, _, rfl, rfl, _, h2, pb, xb, rfl, .inr (.of (s23 _ _ hpb)), fun _ => ?_⟩
    refine ⟨_, 9949, (xb.length : Int), rfl, by decide, by omega, fun H4 s4 => ?_⟩
    generalize hz : (c + (i : Int)) * 48271 % 9949 % (xb.length : Int) = z
    have z0 : 0 ≤ z := by rw [← hz]; exact Int.emod_nonneg _ (by omega)
    have z1 : z < (xb.length : Int) := by rw [← hz]; exact Int.emod_lt_of_pos _ (by omega)
    obtain ⟨m, rfl⟩ : ∃ m : Nat, z = (m : Int) := ⟨z.toNat, by omega⟩
    have hm : m < xb.length := by omega
    have s24 := s23.trans s4
    obtain ⟨t2, ht2, it2⟩ := (RowV.mono rowB s24.t).get (List.getElem?_eq_getElem hm)
    refine ⟨pb, xb, _, _, rfl, rfl, .of (s24 _ _ hpb), atI_nat (List.getElem?_eq_getElem hm), (by show 2 ≤ sizeLine; decide), fun p hp => ?_⟩
    have s5 := same_new hp (.tup [x, xb[m]])
    have s25 := sT.trans (s3.trans (s4.trans s5))
    have h1' := s25 _ _ h1
    refine ⟨h1', .mk hi ⟨hD, upd_same, same_upd hD (sm.trans s25) _, ps ++ [(t, t2)], ?_, by rw [List.length_append, List.length_singleton]; omega, fun p' hp' => ?_⟩⟩
    · have st : SameT (upd H4 p (.tup [x, xb[m]])) (upd (upd H4 p (.tup [x, xb[m]])) D (.lst (zs ++ [.ref p]))) := sameT_lst h1' _
      refine rowP_app (rowP_mono st (rowP_mono s25.t e)) (.cons ⟨p, x, xb[m], rfl, st _ _ upd_same, ?_, ?_⟩ .nil)
      · exact ((it.mono (s3.trans (s4.trans s5)).t)).mono st
      · exact (it2.mono s5.t).mono st
    · rcases List.mem_append.mp hp' with z | z
      · exact e3 p' z
      · have z : p' = (t, t2) := by simpa using z
        subst z
        exact ⟨List.mem_of_getElem? ht, List.mem_of_getElem? ht2⟩
  · obtain ⟨hD, h1, sm, ps, e, e2, e3⟩ := p
    exact q D zs ps H' sm h1 e e2 e3
theorem rd_prs {p : Addr} {xs : List V} {ks : List T.P2} {σ : L2.St} {Q : VK} {H : Hp} (hp : H p = some (.lst xs)) (row : RowP H ks xs) (h10 : ks.length ≤ 10) (okp : ∀ p ∈ ks, T.OkP p)
    (q : ∀ D zs H', Same H H' → H' D = some (.lst zs) → RowV H' (ks.map T.prP) zs → Q (.ref D) H') : CompRd2 K (Itl K p) tAll te73 σ Q H := by
  have hl : ks.length = xs.length := Paired.length row
  refine comp_run2 runs_list (fun D i zs H' => H D = none ∧ H' D = some (.lst zs) ∧ Same H H' ∧ RowV H' ((ks.take i).map T.prP) zs) (fun D hD => ⟨hD, upd_same, same_new hD _, .nil⟩)
    (fun D i zs H' hi p => ⟨p.2.1, .of (p.2.2.1 _ _ hp), fun hlt => ?_⟩) (fun D i zs H' x hx hi p => ?_) (fun D zs H' p => ?_)
  · obtain ⟨_, _, _, e⟩ := p
    have := e.length
    rw [List.length_map, List.length_take] at this
    exact small1000 (by omega)
  · obtain ⟨hD, h1, sm, e⟩ := p
    obtain ⟨k, hk, ⟨a, u, w', rfl, ha, iu, iw⟩⟩ := rowP_get (rowP_mono sm.t row) hx
    have ok := okp k (List.mem_of_getElem? hk)
    have et : ks.take (i + 1) = ks.take i ++ [k] := by rw [List.take_succ, hk]; rfl
    refine ⟨a, u, w', rfl, .of ha, _, rfl, _, rfl, u, w', k.1, k.2, rfl, iu, iw, by have := ok.1.1; omega, by have := ok.2.1; omega, ok.1.2, ok.2.2, fun r H2 s2 ir => ?_⟩
    have h1' := s2 _ _ h1
    refine ⟨h1', .mk hi ⟨hD, upd_same, same_upd hD (sm.trans s2) _, ?_⟩⟩
    have st : SameT H2 (upd H2 D (.lst (zs ++ [r]))) := sameT_lst h1' _
    rw [et, List.map_append]
    exact RowV.append (RowV.mono (RowV.mono e s2.t) st) (RowV.one (ir.mono st))
  · obtain ⟨hD, h1, sm, e⟩ := p
    rw [List.take_of_length_le (by omega)] at e
    exact q D zs H' sm h1 e
/-- a part of the row at the place -/
theorem rd_at0 {l6 : Addr} {zs : List V} {ps : List T.P2} {k : Nat} {p : T.P2} {σ : L2.St} {Q : VK} {H : Hp} (h6 : σ[6]? = some (some (.ref l6))) (h8 : σ[8]? = some (some (.int (k : Int)))) (hl : H l6 = some (.lst zs)) (row : RowP H ps zs) (hk : ps[k]? = some p) (q : ∀ u, IsN H u p.1 → Q u H) : tOp (rIxT K) (tOp (rIxL K) (tVar 6) (tVar 8)) (tC (.int 0)) σ H Q := by
  obtain ⟨x, hx, ⟨c, u, w', rfl, hc, iu, iw⟩⟩ := rowP_at row hk
  exact ⟨_, h6, _, h8, l6, zs, _, _, rfl, rfl, .of hl, atI_nat hx, c, _, _, _, rfl, rfl, .of hc, atI_nat (j := 0) rfl, q u iu⟩
theorem rd_at1 {l6 : Addr} {zs : List V} {ps : List T.P2} {k : Nat} {p : T.P2} {σ : L2.St} {Q : VK} {H : Hp} (h6 : σ[6]? = some (some (.ref l6))) (h8 : σ[8]? = some (some (.int (k : Int)))) (hl : H l6 = some (.lst zs)) (row : RowP H ps zs) (hk : ps[k]? = some p) (q : ∀ u, IsN H u p.2 → Q u H) : tOp (rIxT K) (tOp (rIxL K) (tVar 6) (tVar 8)) (tC (.int 1)) σ H Q := by
  obtain ⟨x, hx, ⟨c, u, w', rfl, hc, iu, iw⟩⟩ := rowP_at row hk
  exact ⟨_, h6, _, h8, l6, zs, _, _, rfl, rfl, .of hl, atI_nat hx, c, _, _, _, rfl, rfl, .of hc, atI_nat (j := 1) rfl, q w' iw⟩
theorem rd_oth {pb : Addr} {xb : List V} {B : T} {c : Int} {σ : L2.St} {Q : VK} {H : Hp} (h2 : σ[2]? = some (some (.ref pb))) (h5 : σ[5]? = some (some (.int c))) (hpb : H pb = some (.tup xb)) (rowB : RowV H B.toList xb) (nB : 1 ≤ B.toList.length) (q : ∀ u t, t ∈ B.toList → IsN H u t → Q u H) :
    tOp (rIxT K) (tVar 2) (tOp (rI (fun _ j => 0 < j) fun i j => .int (i % j)) (tVar 5) (tCB (rLenK K) (tCons (tVar 2) tNil))) σ H Q := by
  have lb := rowB.length
  have hpos : (0 : Int) < (xb.length : Int) := by omega
  have z0 : 0 ≤ c % (xb.length : Int) := Int.emod_nonneg _ (by omega)
  have z1 : c % (xb.length : Int) < (xb.length : Int) := Int.emod_lt_of_pos _ hpos
  obtain ⟨m, hm⟩ : ∃ m : Nat, c % (xb.length : Int) = (m : Int) := ⟨(c % (xb.length : Int)).toNat, by omega⟩
  have hmx : m < xb.length := by omega
  obtain ⟨t2, ht2, it2⟩ := rowB.get (List.getElem?_eq_getElem hmx)
  have at_ : atI xb (c % (xb.length : Int)) = some xb[m] := by rw [hm]; exact atI_nat (List.getElem?_eq_getElem hmx)
  exact ⟨_, h2, _, h5, _, h2, pb, xb, rfl, .inr (.of hpb), fun _ => ⟨_, _, rfl, rfl, hpos, pb, xb, _, _, rfl, rfl, .of hpb, at_, q _ t2 (List.mem_of_getElem? ht2) it2⟩⟩
end
end K7
set_option Elab.async false
set_option linter.all false
set_option maxRecDepth 100000
set_option maxHeartbeats 4000000
namespace K7
open PySem PySem.Spec PyProof.Rows NM L2
/-! ### the law -/
theorem nd15 : (["_law_script", "_law_one", "_law_other", "_law_due", "_law_rows", "_law_cell_here", "_law_some_here", "_law_strange", "_law_at", "_law_more", "_law_far", "_law_kept", "_law_made", "_law_found", "_law_mine"] : List Str).Nodup := by decide +kernel
theorem nd14 : (["_law_script", "_law_one", "_law_other", "_law_due", "_law_rows", "_law_cell_here", "_law_some_here", "_law_strange", "_law_at", "_law_more", "_law_far", "_law_kept", "_law_made", "_law_found"] : List Str).Nodup := by decide +kernel
structure G7 (K : PySem.W.Frag) (H : Hp) (a pa pb R : Addr) (ns : List Int) (A B : T) (xa xb zs : List V) (ps : List T.P2) : Prop where
  sq : SqL K H a (ns.map V.int)
  hpa : H pa = some (.tup xa)
  rowA : RowV H A.toList xa
  hpb : H pb = some (.tup xb)
  rowB : RowV H B.toList xb
  hR : H R = some (.lst zs)
  rowR : RowP H ps zs
theorem G7.mono {K : PySem.W.Frag} {H H' : Hp} {a pa pb R : Addr} {ns : List Int} {A B : T} {xa xb zs : List V} {ps : List T.P2} (g : G7 K H a pa pb R ns A B xa xb zs ps) (s : Same H H') : G7 K H' a pa pb R ns A B xa xb zs ps :=
  ⟨s.seq g.sq, s _ _ g.hpa, RowV.mono g.rowA s.t, s _ _ g.hpb, RowV.mono g.rowB s.t, s _ _ g.hR, rowP_mono s.t g.rowR⟩
theorem mem_cut {xs : List V} {lo hi : Option Int} {x : V} (h : x ∈ cutV xs lo hi) : x ∈ xs := by
  unfold cutV at h
  exact List.mem_of_mem_drop (List.mem_of_mem_take h)
theorem row_last {H : Hp} {B : T} {xb : List V} (row : RowV H B.toList xb) (nB : 1 ≤ B.toList.length) : ∃ y t, atI xb (-1) = some y ∧ t ∈ B.toList ∧ IsN H y t := by
  have lb := row.length
  have hne : xb ≠ [] := fun e => by rw [e, List.length_nil] at lb; omega
  have e := (List.dropLast_concat_getLast hne).symm
  obtain ⟨t, ht, it⟩ := row.get (i := xb.length - 1) (v := xb.getLast hne) (by rw [List.getLast_eq_getElem, List.getElem?_eq_getElem])
  refine ⟨_, t, ?_, List.mem_of_getElem? ht, it⟩
  have := atI_last xb.dropLast (xb.getLast hne)
  rw [List.dropLast_concat_getLast hne] at this
  exact this
theorem rowP_take {H : Hp} (n : Nat) {ps : List T.P2} {xs : List V} (h : RowP H ps xs) : RowP H (ps.take n) (xs.take n) := SET.paired_take n h
theorem rowP_drop {H : Hp} (n : Nat) {ps : List T.P2} {xs : List V} (h : RowP H ps xs) : RowP H (ps.drop n) (xs.drop n) := SET.paired_drop n h
section
variable {P : Program} {w : World} {K : PySem.W.Frag} {mg : Str → Option Value} {base : Heap} {f f1 f2 f3 f4 f5 f6 f7 f8 f9 : Addr} {fd d1 d2 d3 d4 d5 d6 d7 d8 d9 : FuncData}
theorem scLaw : FnScope ["_law_script", "_law_one", "_law_other", "_law_due", "_law_rows", "_law_cell_here", "_law_some_here", "_law_strange", "_law_at", "_law_more", "_law_far", "_law_kept", "_law_made", "_law_found", "_law_mine", "_law_yours"] ["_law_script"] (defScope sLaw) := ⟨rfl, rfl, rfl, by decide +kernel, rfl, by decide +kernel, by decide +kernel⟩
theorem ok_law (F : Fun K "law" "law" sLaw f fd) (SO : Has P w K mg base 25 "_law_some" ["_law_script", "_law_k", "_law_many"] (spSome K) f1 d1) (HN : Has P w K mg base 19 "_law_nest" ["_law_some_here"] spHn f2 d2) (PR : Has P w K mg base 13 "pair" ["one", "other"] spPair f3 d3)
    (PD : Has P w K mg base 14 "product" ["one", "other"] spProd f4 d4) (CE : Has P w K mg base 1 "_law_cell" ["_law_script", "_law_k"] (spCell K) f5 d5) (MX : Has P w K mg base 1 "_law_mix" ["_law_cell_here", "_law_prime", "_law_many"] spMix f6 d6) (IM : Has P w K mg base 5 "is_map" ["nest", "one", "other"] spMap f7 d7)
    (LM : Has P w K mg base 20 "_law_is_map" ["_law_pairs", "_law_one", "_law_other", "_law_strange"] spLim f8 d8) (LV : Has P w K mg base 5 "_law_value" ["_law_one", "_law_here"] spLva f9 d9)
    (mi : mg "isinstance" = none) (mb : mg "bool" = none) (ml : mg "len" = none) (me : mg "enumerate" = none) (mL : mg "list" = none) (ms : mg "sorted" = none) (mS : mg "set" = none) (mI : mg "int" = none) :
    FnOk P w K mg base CX0 31 f fd ["_law_script"] (spLaw K) := by
  refine F.ok scLaw (fun vs H Q E h => by obtain ⟨_, _, rfl, _⟩ := h; rfl) (fun cdv A outer s H vs Q E hr h => ?_)
  obtain ⟨a, ns, rfl, ha, hns, q⟩ := h
  have oSO := SO.ok.mono (k := 30) (by decide)
  have oHN := HN.ok.mono (k := 30) (by decide)
  have oPR := PR.ok.mono (k := 30) (by decide)
  have oPD := PD.ok.mono (k := 30) (by decide)
  have oCE := CE.ok.mono (k := 30) (by decide)
  have oMX := MX.ok.mono (k := 30) (by decide)
  have oIM := IM.ok.mono (k := 30) (by decide)
  have oLM := LM.ok.mono (k := 30) (by decide)
  have oLV := LV.ok.mono (k := 30) (by decide)
  refine ⟨_, pss_cons (ps_set (i := 1) scLaw.nd rfl (Or.inl rfl) (pe_call oHN hr rfl HN.m HN.kp HN.b .nil pass0 (pa_cons (pe_call oSO hr rfl SO.m SO.kp SO.b .nil pass0 (pa_cons (pv 0) (pa_cons pe_int (pa_cons pe_int pa_nil)))) pa_nil))) (pss_cons (ps_set (i := 2) scLaw.nd rfl (Or.inr rfl) (pe_call oHN hr rfl HN.m HN.kp HN.b .nil pass0 (pa_cons (pe_call oSO hr rfl SO.m SO.kp SO.b .nil pass0 (pa_cons (pv 0) (pa_cons pe_int (pa_cons pe_int pa_nil)))) pa_nil))) (pss_cons (ps_set (i := 3) scLaw.nd rfl (Or.inl rfl) (pe_lst pa_nil)) (pss_cons (ps_for PassesOwn.never rfl (pi_tupB (pv 1)) (pg_name (i := 14) scLaw.nd rfl (Or.inr rfl)) (pss_one (ps_hide (N := ["_law_script", "_law_one", "_law_other", "_law_due", "_law_rows", "_law_cell_here", "_law_some_here", "_law_strange", "_law_at", "_law_more", "_law_far", "_law_kept", "_law_made", "_law_found", "_law_mine"]) (R := ["_law_yours"]) rfl (ps_expr (pe_bm PySem.F.plainAttrs_list PySem.F.slot_list_extend PySem.F.type_list_extend mt_extend (pv 3) (pa_cons (pe_compF (defScope sLaw) ["_law_script", "_law_one", "_law_other", "_law_due", "_law_rows", "_law_cell_here", "_law_some_here", "_law_strange", "_law_at", "_law_more", "_law_far", "_law_kept", "_law_made", "_law_found", "_law_mine"] te71 rfl nd15 (by decide +kernel) (pi_tupB (pv 2)) (fun cl C s H fp pins => ⟨pifs_nil, pe_call oPR hr rfl PR.m PR.kp PR.b .nil pass0 (pa_cons (pv 15) (pa_cons (pv 0) pa_nil))⟩)) pa_nil)))))) (pss_cons (ps_if (PW.pt (pw_or (pt_cmpR (op_neN hr.units) (pe_call oPD hr rfl PD.m PD.kp PD.b .nil pass0 (pa_cons (pv 1) (pa_cons (pv 2) pa_nil))) (pe_call oHN hr rfl HN.m HN.kp HN.b .nil pass0 (pa_cons (pv 3) pa_nil)) (nomark _)) (pw_or1 (pt_cmpR op_ne (pe_callB call_lenB rfl ml PySem.boot_len (pa_cons (pe_call oPD hr rfl PD.m PD.kp PD.b .nil pass0 (pa_cons (pv 1) (pa_cons (pv 2) pa_nil))) pa_nil)) (pe_op op_mul (pe_callB call_lenB rfl ml PySem.boot_len (pa_cons (pv 1) pa_nil)) (pe_callB call_lenB rfl ml PySem.boot_len (pa_cons (pv 2) pa_nil))) (nomark _))))) (pss_one (ps_ret pe_bl)) pss_nil) (pss_cons (ps_hide (N := ["_law_script", "_law_one", "_law_other", "_law_due", "_law_rows", "_law_cell_here", "_law_some_here", "_law_strange", "_law_at", "_law_more", "_law_far", "_law_kept", "_law_made", "_law_found"]) (R := ["_law_mine", "_law_yours"]) rfl (ps_set2F (defScope sLaw) ["_law_script", "_law_one", "_law_other", "_law_due", "_law_rows", "_law_cell_here", "_law_some_here", "_law_strange", "_law_at", "_law_more", "_law_far", "_law_kept", "_law_made", "_law_found"] (te72 K) 4 rfl nd14 (by decide +kernel) (pi_enumT rfl me (pa_cons (pv 1) pa_nil)) (fun cl C s H fp pins => ⟨pifs_nil, pe_tup (pa_cons (pv 1) (pa_cons (pe_ix ix_tup (pv 4) (pe_call oMX hr rfl MX.m MX.kp MX.b .nil pass0 (pa_cons (pe_op op_add (pe_call oCE hr rfl CE.m CE.kp CE.b .nil pass0 (pa_cons (pv 2) (pa_cons pe_int pa_nil))) (pv 0)) (pa_cons pe_int (pa_cons (pe_callB call_lenB rfl ml PySem.boot_len (pa_cons (pv 4) pa_nil)) pa_nil)))) (fun _ _ => rfl)) pa_nil))⟩) rfl (Or.inl rfl))) (pss_cons (ps_for PassesOwn.never rfl (pi_lstB (pe_op op_cat (pe_lst (pa_cons pe_non pa_nil)) (pe_callTy call_list_of rfl mL PyProof.Rows.boot_list (pa_cons (pe_slice sl_list (pv 0) (po_some pe_int) (po_some pe_int)) pa_nil)))) (pg_name (i := 5) scLaw.nd rfl (Or.inl rfl)) (pss_cons (ps_set (i := 6) scLaw.nd rfl (Or.inl rfl) (pe_callTy call_list_of rfl mL PyProof.Rows.boot_list (pa_cons (pv 4) pa_nil))) (pss_cons (ps_set (i := 7) scLaw.nd rfl (Or.inl rfl) (pe_lst pa_nil)) (pss_mid (ps_if (pt_cmpR op_notN (pv 5) pe_non (nomark _)) (pss_cons (ps_set (i := 8) scLaw.nd rfl (Or.inl rfl) (pe_op op_mod (pv 5) (pe_callB call_lenB rfl ml PySem.boot_len (pa_cons (pv 6) pa_nil)))) (pss_mid (ps_set (i := 9) scLaw.nd rfl (Or.inl rfl) (PEx.pe (px_lst (.cons ⟨pe_tup (pa_cons (pe_ix ix_tup (pe_ix ix_list (pv 6) (pv 8) (fun _ _ => rfl)) pe_int (fun _ _ => rfl)) (pa_cons (pe_ix ix_tup (pv 2) (pe_op op_mod (pv 5) (pe_callB call_lenB rfl ml PySem.boot_len (pa_cons (pv 2) pa_nil))) (fun _ _ => rfl)) pa_nil)), fun _ => rfl⟩ (.cons ⟨pe_tup (pa_cons (pe_ix ix_tup (pv 2) (pe_un un_neg pe_int) (fun _ _ => rfl)) (pa_cons (pe_ix ix_tup (pe_ix ix_list (pv 6) (pv 8) (fun _ _ => rfl)) pe_int (fun _ _ => rfl)) pa_nil)), fun _ => rfl⟩ (.cons ⟨pe_tup (pa_cons (pe_ix ix_tup (pe_ix ix_list (pv 6) (pv 8) (fun _ _ => rfl)) pe_int (fun _ _ => rfl)) (pa_cons (pe_ix ix_tup (pv 1) pe_int (fun _ _ => rfl)) pa_nil)), fun _ => rfl⟩ .nil)))))) (pss_mid (ps_set (i := 10) scLaw.nd rfl (Or.inl rfl) (pe_op op_cat (pe_op op_cat (pe_slice sl_list (pv 6) po_none (po_some (pv 8))) (pe_lst (pa_cons (pe_tup (pa_cons (pe_ix ix_tup (pe_ix ix_list (pv 6) (pv 8) (fun _ _ => rfl)) pe_int (fun _ _ => rfl)) (pa_cons (pv 2) pa_nil))) pa_nil))) (pe_slice sl_list (pv 6) (po_some (pe_op op_add (pv 8) pe_int)) po_none))) (pss_mid (ps_set (i := 6) scLaw.nd rfl (Or.inl rfl) (pe_ix ix_list (PEx.pe (px_lst (.cons ⟨pe_op op_cat (pe_slice sl_list (pv 6) po_none (po_some (pv 8))) (pe_slice sl_list (pv 6) (po_some (pe_op op_add (pv 8) pe_int)) po_none), fun _ => rfl⟩ (.cons ⟨pe_op op_cat (pv 6) (pe_lst (pa_cons (pe_ix ix_list (pv 9) (pe_op op_mod (pe_op op_fdiv (pv 5) pe_int) pe_int) (fun _ _ => rfl)) pa_nil)), fun _ => rfl⟩ (.cons ⟨pv 6, fun _ => rfl⟩ (.cons ⟨pv 10, fun _ => rfl⟩ .nil)))))) (pe_op op_mod (pe_op op_fdiv (pv 5) pe_int) pe_int) (fun _ _ => rfl))) (pss_one (ps_set (i := 7) scLaw.nd rfl (Or.inl rfl) (pe_ix ix_list (pe_lst (pa_cons (pe_lst pa_nil) (pa_cons (pe_lst (pa_cons (pe_tup pa_nil) pa_nil)) pa_nil))) (pe_callTy call_int1 rfl mI PyProof.Rows.boot_int (pa_cons (pe_cmpR op_eq (pe_op op_mod (pe_op op_fdiv (pv 5) pe_int) pe_int) pe_int (nomark _)) pa_nil)) (fun _ _ => rfl)))))))) pss_nil) (pss_cons (ps_set (i := 11) scLaw.nd rfl (Or.inl rfl) (pe_sortSetN hr.units rfl rfl ms rfl mS (pa_cons (pv 6) pa_nil))) (pss_cons (ps_hide (N := ["_law_script", "_law_one", "_law_other", "_law_due", "_law_rows", "_law_cell_here", "_law_some_here", "_law_strange", "_law_at", "_law_more", "_law_far", "_law_kept", "_law_made", "_law_found"]) (R := ["_law_mine", "_law_yours"]) rfl (ps_set (i := 12) nd14 rfl (Or.inl rfl) (pe_call oHN hr rfl HN.m HN.kp HN.b .nil pass0 (pa_cons (pe_op op_cat (pe_comp2F (defScope sLaw) ["_law_script", "_law_one", "_law_other", "_law_due", "_law_rows", "_law_cell_here", "_law_some_here", "_law_strange", "_law_at", "_law_more", "_law_far", "_law_kept", "_law_made", "_law_found"] te73 rfl nd14 (by decide +kernel) (pi_lstB (pv 11)) (fun cl C s H fp pins => ⟨pifs_nil, pe_call oPR hr rfl PR.m PR.kp PR.b .nil pass0 (pa_cons (pv 0) (pa_cons (pv 1) pa_nil))⟩)) (pv 7)) pa_nil)))) (pss_cons (ps_set (i := 13) scLaw.nd rfl (Or.inl rfl) (pe_call oIM hr rfl IM.m IM.kp IM.b .nil pass0 (pa_cons (pv 12) (pa_cons (pv 1) (pa_cons (pv 2) pa_nil))))) (pss_cons (ps_if (PW.pt (pw_or (pt_not (pt_val (pe_callB (call_isi (c := .type "bool")) rfl mi PyProof.Rows.boot_isinstance (pa_cons (pv 13) (pa_cons (pe_bltn (v := .ty "bool") rfl mb PyProof.Rows.boot_bool rfl) pa_nil))))) (pw_or1 (pt_cmpR op_ne (pv 13) (pe_call oLM hr rfl LM.m LM.kp LM.b .nil pass0 (pa_cons (pv 11) (pa_cons (pv 1) (pa_cons (pv 2) (pa_cons (pv 7) pa_nil))))) (nomark _))))) (pss_one (ps_ret pe_bl)) pss_nil) (pss_cons (ps_for PassesOwn.never rfl (pi_lstB (pv 11)) (pg_tup rfl (pgs_cons (pg_name (i := 14) scLaw.nd rfl (Or.inr rfl)) (pgs_cons (pg_name (i := 15) scLaw.nd rfl (Or.inl rfl)) pgs_nil))) (pss_one (ps_if (PW.pt (pw_and (pt_val (pv 13)) (pw_and1 (pt_cmpR (op_neN hr.units) (pe_call oLV hr rfl LV.m LV.kp LV.b .nil pass0 (pa_cons (pv 12) (pa_cons (pv 14) pa_nil))) (pv 15) (nomark _))))) (pss_one (ps_ret pe_bl)) pss_nil))) (pss_one (ps_if (PW.pt (pw_and (pt_val (pv 13)) (pw_and1 (pt_cmpR op_notN (pe_call oLV hr rfl LV.m LV.kp LV.b .nil pass0 (pa_cons (pv 12) (pa_cons (PEx.pe (px_tup (.cons (px_tup (.cons (px_tup (.cons (px_tup (.cons (px_tup (.cons (px_tup .nil) .nil)) .nil)) .nil)) .nil)) .nil))) pa_nil))) pe_non (nomark _))))) (pss_one (ps_ret pe_bl)) pss_nil))))))))))) (pss_one (ps_ret pe_bl)))))))), ?_⟩
  have hs : sizeLine = 16777216 := sizeLine_eq
  -- the two nests
  refine ⟨_, rfl, a, ns, 0, 4, rfl, ha, by decide, fun r0 xs0 us0 H1 hr0 s1 hx0 row0 hul0 hdr0 => ?_⟩
  obtain ⟨dm0, l0, mA, nA⟩ := drawn_mem hdr0 hul0
  refine ⟨r0, xs0, _, rfl, .inl hx0, row0, dm0, l0, fun r1 H2 s2 i1 => ?_⟩
  generalize T.ofList (hnl 9 (us0 ++ [T.nil]) []) = A at i1 mA nA
  refine ⟨_, rfl, a, ns, 4, 3, rfl, (s1.trans s2).seq ha, by decide, fun r0' xs0' us0' H3 hr0' s3 hx0' row0' hul0' hdr0' => ?_⟩
  obtain ⟨dm1, l1, mB, nB⟩ := drawn_mem hdr0' (by omega)
  refine ⟨r0', xs0', _, rfl, .inl hx0', row0', dm1, l1, fun r2 H4 s4 i2 => ?_⟩
  generalize T.ofList (hnl 9 (us0' ++ [T.nil]) []) = B at i2 mB nB
  have s14 := s1.trans (s2.trans (s3.trans s4))
  have i1 := i1.mono (s3.trans s4).t
  obtain ⟨pa, xa, rfl, hpa, rowA⟩ := i1.row
  obtain ⟨pb, xb, rfl, hpb, rowB⟩ := i2.row
  have la := rowA.length
  have lb := rowB.length
  obtain ⟨cA, l5A, dA⟩ := id mA
  obtain ⟨cB, l5B, dB⟩ := id mB
  have ha4 := s14.seq ha
  clear hx0 row0 hx0' row0' hdr0 hdr0' dm0 dm1 s1 s2 s3 s4 s14 ha
  -- due
  refine ⟨Nat.zero_le _, fun L hL => ?_⟩
  have s5 := same_new hL (.lst [])
  refine ⟨_, rfl, pa, xa, rfl, .of (s5 _ _ hpa), fun _ => ?_⟩
  refine for_tup (xs := xa) (fun i σ H' => ∃ zs o14, σ = [some (.ref a), some (.ref pa), some (.ref pb), some (.ref L), none, none, none, none, none, none, none, none, none, none, o14, none] ∧ Same H4 H' ∧ H' L = some (.lst zs) ∧ RowV H' ((A.toList.take i).flatMap fun x => B.toList.map fun y => prT x y) zs ∧ zs.length = i * xb.length) ⟨[], none, rfl, s5, upd_same, .nil, by simp⟩
    (fun i σ H' _ p => by obtain ⟨_, _, _, sm, _⟩ := p; exact .of (sm _ _ hpa)) (fun i x σ H' hx p => ?_) (fun σ H' p => ?_)
  · obtain ⟨zs, o14, rfl, sm, hL', row, hz⟩ := p
    obtain ⟨t, ht, it⟩ := (RowV.mono rowA sm.t).get hx
    have hi : i < xa.length := (List.getElem?_eq_some_iff.mp hx).1
    have htm := List.mem_of_getElem? ht
    refine ⟨_, rfl, .inl ⟨rfl, _, .of hL'⟩, ?_⟩
    refine ⟨_, rfl, pb, xb, rfl, .of (sm _ _ hpb), fun _ => ?_⟩
    refine rd_eachN (g := fun y => prT t y) (sm _ _ hpb) (RowV.mono rowB sm.t) (by omega) (fun j u m H5 hm s6 im Q' q' => ?_) fun D ws H5 s6 h5 roww => ?_
    · have hmm := List.mem_of_getElem? hm
      exact ⟨_, rfl, _, rfl, x, u, t, m, rfl, it.mono s6.t, im, by have := dA t htm; omega, by have := dB m hmm; omega, canon_mem cA htm, canon_mem cB hmm, q'⟩
    have hle : i * xb.length ≤ 5 * 5 := Nat.mul_le_mul (by omega) (by omega)
    have hwl := roww.length
    rw [List.length_map] at hwl
    refine ⟨L, D, zs, ws, rfl, rfl, s6 _ _ hL', h5, by omega, ?_⟩
    have st : SameT H5 (upd H5 L (.lst (zs ++ ws))) := sameT_lst (s6 _ _ hL') _
    refine ⟨zs ++ ws, _, rfl, same_upd hL (sm.trans s6) _, upd_same, ?_, by rw [List.length_append, Nat.succ_mul]; omega⟩
    have et : A.toList.take (i + 1) = A.toList.take i ++ [t] := by rw [List.take_succ, ht]; rfl
    rw [et, List.flatMap_append, List.flatMap_singleton]
    exact RowV.append (RowV.mono (RowV.mono row s6.t) st) (RowV.mono roww st)
  obtain ⟨zs, o14, rfl, sm, hL5, rowD, hz⟩ := p
  have eA : A.toList.take xa.length = A.toList := List.take_of_length_le (by omega)
  rw [eA] at rowD
  have rowD : RowV H' (T.prods A B) zs := rowD
  have okd : ∀ m ∈ T.prods A B, m.depth ≤ 7 := fun m hm => by
    rw [T.prods_eq] at hm
    obtain ⟨p, hp, rfl⟩ := List.mem_map.mp hm
    obtain ⟨x, hx, hp⟩ := List.mem_flatMap.mp hp
    obtain ⟨y, hy, rfl⟩ := List.mem_map.mp hp
    exact (T.OkP.dep (okP_in mA mB (p := (x, y)) (.inl hx) (.inr hy))).1
  have hle : A.toList.length * B.toList.length ≤ 5 * 5 := Nat.mul_le_mul l5A l5B
  have iA' : IsN H' (.ref pa) A := i1.mono sm.t
  have iB' : IsN H' (.ref pb) B := i2.mono sm.t
  have dpr : (T.ofList (hnl 9 (T.prods A B) [])).depth ≤ 8 := hn_depth fun z hz => by have := okd z hz; omega
  refine ⟨_, rfl, _, rfl, .ref pa, .ref pb, A, B, rfl, iA', iB', mA, mB, fun r6 H6 s6 i6 => ?_⟩
  refine ⟨_, rfl, L, zs, T.prods A B, rfl, .inl (s6 _ _ hL5), RowV.mono rowD s6.t, fun m hm => by have := okd m hm; omega, by rw [T.prods_len]; omega, fun r7 H7 s7 i7 => ?_⟩
  refine ⟨_, _, i6.mono s7.t, i7, by omega, _, rfl, iteNS rfl ?_⟩
  have s67 := s6.trans s7
  refine ⟨_, rfl, _, rfl, .ref pa, .ref pb, A, B, rfl, iA'.mono s67.t, iB'.mono s67.t, mA, mB, fun r8 H8 s8 i8 => ?_⟩
  obtain ⟨p8, x8, rfl, hp8, row8⟩ := i8.row
  rw [T.to_of] at row8
  have l8 := row8.length
  rw [T.prod_count (fun m hm => by have := dA m hm; omega) (fun m hm => by have := dB m hm; omega) cA cB] at l8
  have s48 := sm.trans (s67.trans s8)
  refine ⟨p8, x8, rfl, .inr (.of hp8), fun _ => ⟨_, rfl, pa, xa, rfl, .inr (.of (s48 _ _ hpa)), fun _ => ⟨_, rfl, pb, xb, rfl, .inr (.of (s48 _ _ hpb)), fun _ => ?_⟩⟩⟩
  refine ⟨_, _, rfl, rfl, .inl ⟨by omega, by omega⟩, rfl, _, rfl, iteNS ?_ ?_⟩
  · show V.int (x8.length : Int) = V.int ((xa.length : Int) * (xb.length : Int))
    rw [← l8, la, lb]; simp
  -- rows
  refine ⟨_, rfl, pa, xa, rfl, .of (s48 _ _ hpa), ?_⟩
  refine rd_rows (s48.seq ha4) (s48 _ _ hpa) (RowV.mono rowA s48.t) (s48 _ _ hpb) (RowV.mono rowB s48.t) l5A nB rfl rfl fun R zr ps H9 s9 h9 row9 len9 ps9 => ?_
  have s49 := s48.trans s9
  have g0 : G7 K H9 a pa pb R ns A B xa xb zr ps := ⟨s49.seq ha4, s49 _ _ hpa, RowV.mono rowA s49.t, s49 _ _ hpb, RowV.mono rowB s49.t, h9, row9⟩
  have lps : ps.length ≤ 5 ∧ 1 ≤ ps.length := by omega
  have lzr : ps.length = zr.length := Paired.length row9
  clear s49 s9 h9 row9 s48 s8 s67 s7 s6 i8 hp8 row8 i7 i6 iA' iB' rowD hL5 sm rowA rowB hpa hpb i1 i2 ha4 s5 hL
  -- the loop
  refine ⟨(by show 1 ≤ sizeLine; decide), fun l1 hl1 => ?_⟩
  have t1 := same_new hl1 (.lst [.non])
  refine ⟨_, rfl, _, rfl, _, rfl, a, _, rfl, t1.seq g0.sq, fun l2 hl2 => ?_⟩
  have t2 := same_new hl2 (.lst (cutV (ns.map V.int) (some 9) (some 15)))
  refine ⟨l2, _, rfl, .inl (.of upd_same), fun l3 hl3 => ?_⟩
  have t3 := same_new hl3 (.lst (cutV (ns.map V.int) (some 9) (some 15)))
  have lcut := cutV_length (ns.map V.int) (some 9) (some 15)
  rw [List.length_map] at lcut
  refine ⟨l1, l3, [.non], _, rfl, rfl, t3 _ _ (t2 _ _ upd_same), upd_same, Nat.le_of_lt (small1000 (by rw [List.length_singleton]; omega)), fun l4 hl4 => ?_⟩
  have t4 := same_new hl4 (.lst ([.non] ++ cutV (ns.map V.int) (some 9) (some 15)))
  have g1 := g0.mono (t1.trans (t2.trans (t3.trans t4)))
  refine ⟨l4, _, rfl, .of upd_same, fun _ => ?_⟩
  have h4 : (upd (upd (upd (upd H9 l1 (.lst [.non])) l2 (.lst (cutV (ns.map V.int) (some 9) (some 15)))) l3 (.lst (cutV (ns.map V.int) (some 9) (some 15)))) l4 (.lst ([.non] ++ cutV (ns.map V.int) (some 9) (some 15)))) l4 = some (.lst ([.non] ++ cutV (ns.map V.int) (some 9) (some 15))) := upd_same
  revert g1 h4
  generalize upd (upd (upd (upd H9 l1 (.lst [.non])) l2 (.lst (cutV (ns.map V.int) (some 9) (some 15)))) l3 (.lst (cutV (ns.map V.int) (some 9) (some 15)))) l4 (.lst ([.non] ++ cutV (ns.map V.int) (some 9) (some 15))) = H10
  intro g1 h4
  clear t1 t2 t3 t4 hl1 hl2 hl3 hl4 g0
  refine for_list (xs := [.non] ++ cutV (ns.map V.int) (some 9) (some 15)) (fun i σ H' => ∃ o5 o6 o7 o8 o9 o10 o11 o12 o13 o14 o15, σ = [some (.ref a), some (.ref pa), some (.ref pb), some (.ref L), some (.ref R), o5, o6, o7, o8, o9, o10, o11, o12, o13, o14, o15] ∧ Same H10 H') ⟨_, _, _, _, _, _, _, _, _, _, _, rfl, Same.refl _⟩
    (fun i σ H' _ p => by obtain ⟨_, _, _, _, _, _, _, _, _, _, _, _, sm⟩ := p; exact .of (sm _ _ h4)) (fun i x σ H11 hx p => ?_) (fun σ H' p => q _)
  obtain ⟨o5, o6, o7, o8, o9, o10, o11, o12, o13, o14, o15, rfl, sm⟩ := p
  have g := g1.mono sm
  have xk : x = .non ∨ ∃ c : Int, x = .int c := by
    rcases List.mem_append.mp (List.mem_of_getElem? hx) with z | z
    · exact .inl (by simpa using z)
    · obtain ⟨c, _, e⟩ := List.mem_map.mp (mem_cut z)
      exact .inr ⟨c, e.symm⟩
  refine ⟨_, rfl, R, zr, rfl, .inl (.of g.hR), fun l6 hl6 => ?_⟩
  have u1 := same_new hl6 (.lst zr)
  refine ⟨Nat.zero_le _, fun l7 hl7 => ?_⟩
  have u2 := same_new hl7 (.lst [])
  have h6 : (upd (upd H11 l6 (.lst zr)) l7 (.lst [])) l6 = some (.lst zr) := u2 _ _ upd_same
  have g := g.mono (u1.trans u2)
  have sm := sm.trans (u1.trans u2)
  have h7 : (upd (upd H11 l6 (.lst zr)) l7 (.lst [])) l7 = some (.lst []) := upd_same
  revert g sm h6 h7
  generalize upd (upd H11 l6 (.lst zr)) l7 (.lst []) = H12
  intro h6 g sm h7
  clear u1 u2 hl6 hl7
  refine ⟨fun σ' H' => ∃ (l6 l7 : Addr) (xs sv : List V) (qs : List T.P2) (ss : List T) (o8 o9 o10 : Option V), σ' = [some (.ref a), some (.ref pa), some (.ref pb), some (.ref L), some (.ref R), some x, some (.ref l6), some (.ref l7), o8, o9, o10, o11, o12, o13, o14, o15] ∧ Same H10 H' ∧ H' l6 = some (.lst xs) ∧ RowP H' qs xs ∧ qs.length ≤ 6 ∧ (∀ p ∈ qs, T.OkP p) ∧ H' l7 = some (.lst sv) ∧ RowV H' ss sv ∧ (ss = [] ∨ ss = [T.nil]), ?_, fun σ' H' p => ?_⟩
  · refine ⟨_, rfl, rfl, _, rfl, ?_⟩
    rcases xk with rfl | ⟨c, rfl⟩
    · exact iteNS rfl ⟨l6, l7, zr, [], ps, [], _, _, _, rfl, sm, h6, g.rowR, by omega, fun p hp => okP_in mA mB (.inl (ps9 p hp).1) (.inr (ps9 p hp).2), h7, .nil, .inl rfl⟩
    · refine iteNN (fun z => nomatch z) ?_
      have k0 : 0 ≤ c % (zr.length : Int) := Int.emod_nonneg _ (by omega)
      have k1 : c % (zr.length : Int) < (zr.length : Int) := Int.emod_lt_of_pos _ (by omega)
      obtain ⟨k, hk⟩ : ∃ k : Nat, c % (zr.length : Int) = (k : Int) := ⟨(c % (zr.length : Int)).toNat, by omega⟩
      have hkp : k < ps.length := by omega
      obtain ⟨pk, hpk⟩ : ∃ p, ps[k]? = some p := ⟨_, List.getElem?_eq_getElem hkp⟩
      have pkm := ps9 pk (List.mem_of_getElem? hpk)
      have okps : ∀ p ∈ ps, T.OkP p := fun p hp => okP_in mA mB (.inl (ps9 p hp).1) (.inr (ps9 p hp).2)
      have e8 : some (some (V.int (c % (zr.length : Int)))) = some (some (V.int (k : Int))) := by rw [hk]
      refine ⟨_, rfl, _, rfl, l6, zr, rfl, .inl (.of h6), fun _ => ⟨_, _, rfl, rfl, (by show (0 : Int) < (zr.length : Int); omega), ?_⟩⟩
      -- more
      refine ⟨fun σ' H' => ∃ (l9 : Addr) (v9 : List V) (qs9 : List T.P2), σ' = [some (.ref a), some (.ref pa), some (.ref pb), some (.ref L), some (.ref R), some (.int c), some (.ref l6), some (.ref l7), some (.int (c % (zr.length : Int))), some (.ref l9), o10, o11, o12, o13, o14, o15] ∧ Same H10 H' ∧ H' l6 = some (.lst zr) ∧ H' l9 = some (.lst v9) ∧ RowP H' qs9 v9 ∧ qs9.length = 3 ∧ ∀ p ∈ qs9, T.OkP p, ?_, fun σ' H' p => ?_⟩
      · refine rd_at0 (k := k) rfl e8 h6 g.rowR hpk fun u1 iu1 => ?_
        refine rd_oth rfl rfl g.hpb g.rowB nB fun u2 t2 ht2 iu2 => ?_
        refine ⟨(by show 2 ≤ sizeLine; decide), fun p1 hp1 => ?_⟩
        have y1 := same_new hp1 (.tup [u1, u2])
        obtain ⟨u3, t3, at3, ht3, iu3⟩ := row_last (RowV.mono g.rowB y1.t) nB
        refine ⟨_, rfl, _, rfl, pb, xb, _, _, rfl, rfl, .of (y1 _ _ g.hpb), at3, ?_⟩
        refine rd_at1 (k := k) rfl e8 (y1 _ _ h6) (rowP_mono y1.t g.rowR) hpk fun u4 iu4 => ?_
        refine ⟨(by show 2 ≤ sizeLine; decide), fun p2 hp2 => ?_⟩
        have y2 := same_new hp2 (.tup [u3, u4])
        have y12 := y1.trans y2
        refine rd_at1 (k := k) rfl e8 (y12 _ _ h6) (rowP_mono y12.t g.rowR) hpk fun u5 iu5 => ?_
        have hxa : 0 < xa.length := by omega
        obtain ⟨t0, ht0, iu6⟩ := (RowV.mono g.rowA y12.t).get (List.getElem?_eq_getElem hxa)
        refine ⟨_, rfl, pa, xa, _, _, rfl, rfl, .of (y12 _ _ g.hpa), atI_nat (j := 0) (List.getElem?_eq_getElem hxa), ?_⟩
        refine ⟨(by show 2 ≤ sizeLine; decide), fun p3 hp3 => ?_⟩
        have y3 := same_new hp3 (.tup [u5, xa[0]])
        refine ⟨(by show 3 ≤ sizeLine; decide), fun l9 hl9 => ?_⟩
        have y4 := same_new hl9 (.lst [.ref p1, .ref p2, .ref p3])
        have y34 := y3.trans y4
        have y24 := y2.trans y34
        have y14 := y1.trans y24
        refine ⟨l9, _, [(pk.1, t2), (t3, pk.2), (pk.2, t0)], rfl, sm.trans y14, y14 _ _ h6, upd_same, .cons ⟨p1, u1, u2, rfl, y24 _ _ upd_same, iu1.mono y14.t, iu2.mono y14.t⟩ (.cons ⟨p2, u3, u4, rfl, y34 _ _ upd_same, iu3.mono y24.t, iu4.mono y24.t⟩ (.cons ⟨p3, u5, xa[0], rfl, y4 _ _ upd_same, iu5.mono y34.t, iu6.mono y34.t⟩ .nil)), rfl, fun p hp => ?_⟩
        have ht0 := List.mem_of_getElem? ht0
        rcases List.mem_cons.mp hp with rfl | hp
        · exact okP_in mA mB (.inl pkm.1) (.inr ht2)
        · rcases List.mem_cons.mp hp with rfl | hp
          · exact okP_in mA mB (.inr ht3) (.inr pkm.2)
          · have : p = (pk.2, t0) := by simpa using hp
            subst this
            exact okP_in mA mB (.inr pkm.2) (.inl ht0)
      clear h6 h7 sm g
      obtain ⟨l9, v9, qs9, rfl, sm, h6, h9, row9, len9', ok9⟩ := p
      have g := g1.mono sm
      have lz9 : qs9.length = v9.length := Paired.length row9
      have ct : cutV zr none (some (c % (zr.length : Int))) = zr.take k := by rw [hk]; exact cutV_to zr k
      have cf : cutV zr (some (c % (zr.length : Int) + 1)) none = zr.drop (k + 1) := by rw [hk, show (k : Int) + 1 = ((k + 1 : Nat) : Int) by omega]; exact cutV_from zr (k + 1)
      -- far
      refine ⟨fun σ' H' => ∃ (l10 : Addr) (v10 : List V) (qs10 : List T.P2), σ' = [some (.ref a), some (.ref pa), some (.ref pb), some (.ref L), some (.ref R), some (.int c), some (.ref l6), some (.ref l7), some (.int (c % (zr.length : Int))), some (.ref l9), some (.ref l10), o11, o12, o13, o14, o15] ∧ Same H10 H' ∧ H' l6 = some (.lst zr) ∧ H' l9 = some (.lst v9) ∧ RowP H' qs9 v9 ∧ H' l10 = some (.lst v10) ∧ RowP H' qs10 v10 ∧ qs10.length ≤ 6 ∧ ∀ p ∈ qs10, T.OkP p, ?_, fun σ' H' p => ?_⟩
      · refine ⟨_, rfl, _, rfl, _, rfl, l6, zr, rfl, .of h6, fun la hla => ?_⟩
        rw [ct] at *
        have y1 := same_new hla (.lst (zr.take k))
        refine rd_at0 (k := k) rfl e8 (y1 _ _ h6) (rowP_mono y1.t g.rowR) hpk fun u1 iu1 => ?_
        refine ⟨_, rfl, (by show 2 ≤ sizeLine; decide), fun p1 hp1 => ?_⟩
        have y2 := same_new hp1 (.tup [u1, .ref pb])
        refine ⟨(by show 1 ≤ sizeLine; decide), fun lb' hlb => ?_⟩
        have y3 := same_new hlb (.lst [.ref p1])
        have y23 := y2.trans y3
        refine ⟨la, lb', _, _, rfl, rfl, y23 _ _ upd_same, upd_same, Nat.le_of_lt (small1000 (by rw [List.length_take, List.length_singleton]; omega)), fun lc hlc => ?_⟩
        have y4 := same_new hlc (.lst (zr.take k ++ [.ref p1]))
        have y14 := y1.trans (y23.trans y4)
        refine ⟨_, rfl, _, rfl, _, _, rfl, rfl, _, rfl, l6, zr, rfl, .of (y14 _ _ h6), fun ld hld => ?_⟩
        rw [cf] at *
        have y5 := same_new hld (.lst (zr.drop (k + 1)))
        refine ⟨lc, ld, _, _, rfl, rfl, y5 _ _ upd_same, upd_same, Nat.le_of_lt (small1000 (by rw [List.length_append, List.length_take, List.length_singleton, List.length_drop]; omega)), fun le hle => ?_⟩
        have y6 := same_new hle (.lst (zr.take k ++ [.ref p1] ++ zr.drop (k + 1)))
        have y46 := y4.trans (y5.trans y6)
        have y26 := y23.trans y46
        have y16 := y1.trans y26
        have g6 := g.mono y16
        refine ⟨le, _, ps.take k ++ [(pk.1, B)] ++ ps.drop (k + 1), rfl, sm.trans y16, y16 _ _ h6, y16 _ _ h9, rowP_mono y16.t row9, upd_same, rowP_app (rowP_app (rowP_take k g6.rowR) (.cons ⟨p1, u1, .ref pb, rfl, (y3.trans y46) _ _ upd_same, iu1.mono y26.t, .of g6.hpb g6.rowB⟩ .nil)) (rowP_drop (k + 1) g6.rowR), ?_, fun p hp => ?_⟩
        · rw [List.length_append, List.length_append, List.length_take, List.length_singleton, List.length_drop]; omega
        · rcases List.mem_append.mp hp with hp | hp
          · rcases List.mem_append.mp hp with hp | hp
            · exact okps p (List.mem_of_mem_take hp)
            · have : p = (pk.1, B) := by simpa using hp
              subst this
              exact ⟨⟨Nat.le_succ_of_le (dA _ pkm.1), canon_mem cA pkm.1⟩, mB.dep, cB⟩
          · exact okps p (List.mem_of_mem_drop hp)
      clear h6 h9 row9 sm g
      obtain ⟨l10, v10, qs10, rfl, sm, h6, h9, row9, h10, row10, len10, ok10⟩ := p
      have g := g1.mono sm
      have z70 : 0 ≤ c / 7 % 3 := Int.emod_nonneg _ (by decide)
      have z71 : c / 7 % 3 < 3 := Int.emod_lt_of_pos _ (by decide)
      have z50 : 0 ≤ c / 5 % 4 := Int.emod_nonneg _ (by decide)
      have z51 : c / 5 % 4 < 4 := Int.emod_lt_of_pos _ (by decide)
      obtain ⟨j, hj⟩ : ∃ j : Nat, c / 7 % 3 = (j : Int) := ⟨(c / 7 % 3).toNat, by omega⟩
      have hjq : j < qs9.length := by omega
      obtain ⟨x9, hx9, ix9⟩ := rowP_at row9 (List.getElem?_eq_getElem hjq)
      have at9 : atI v9 (c / 7 % 3) = some x9 := by rw [hj]; exact atI_nat hx9
      -- which row
      refine ⟨fun σ' H' => ∃ (l6 : Addr) (xs : List V) (qs : List T.P2), σ' = [some (.ref a), some (.ref pa), some (.ref pb), some (.ref L), some (.ref R), some (.int c), some (.ref l6), some (.ref l7), some (.int (c % (zr.length : Int))), some (.ref l9), some (.ref l10), o11, o12, o13, o14, o15] ∧ Same H10 H' ∧ H' l6 = some (.lst xs) ∧ RowP H' qs xs ∧ qs.length ≤ 6 ∧ ∀ p ∈ qs, T.OkP p, ?_, fun σ' H' p => ?_⟩
      · refine ⟨_, rfl, _, rfl, _, rfl, l6, zr, rfl, .of h6, fun la hla => ?_⟩
        rw [ct] at *
        have y1 := same_new hla (.lst (zr.take k))
        refine ⟨_, rfl, _, rfl, _, _, rfl, rfl, _, rfl, l6, zr, rfl, .of (y1 _ _ h6), fun ld hld => ?_⟩
        rw [cf] at *
        have y2 := same_new hld (.lst (zr.drop (k + 1)))
        refine ⟨la, ld, _, _, rfl, rfl, y2 _ _ upd_same, upd_same, Nat.le_of_lt (small1000 (by rw [List.length_take, List.length_drop]; omega)), fun lc hlc => ?_⟩
        have y3 := same_new hlc (.lst (zr.take k ++ zr.drop (k + 1)))
        have y13 := y1.trans (y2.trans y3)
        refine ⟨_, rfl, _, rfl, _, rfl, _, _, rfl, rfl, ⟨by decide, by decide⟩, _, _, rfl, rfl, (by show (0 : Int) < 3; decide), l9, v9, _, _, rfl, rfl, .of (y13 _ _ h9), at9, ?_⟩
        refine ⟨(by show 1 ≤ sizeLine; decide), fun lb' hlb => ?_⟩
        have y4 := same_new hlb (.lst [x9])
        have y14 := y13.trans y4
        refine ⟨l6, lb', _, _, rfl, rfl, y14 _ _ h6, upd_same, Nat.le_of_lt (small1000 (by rw [List.length_singleton]; omega)), fun le hle => ?_⟩
        have y5 := same_new hle (.lst (zr ++ [x9]))
        refine ⟨_, rfl, _, rfl, (by show 4 ≤ sizeLine; decide), fun lf hlf => ?_⟩
        have y6 := same_new hlf (.lst [.ref lc, .ref le, .ref l6, .ref l10])
        have y46 := y4.trans (y5.trans y6)
        have y16 := y13.trans y46
        have g6 := g.mono y16
        have hcase : c / 5 % 4 = 0 ∨ c / 5 % 4 = 1 ∨ c / 5 % 4 = 2 ∨ c / 5 % 4 = 3 := by omega
        refine ⟨_, rfl, _, _, rfl, rfl, ⟨by decide, by decide⟩, _, _, rfl, rfl, (by show (0 : Int) < 4; decide), ?_⟩
        rcases hcase with hc | hc | hc | hc
        · refine ⟨lf, _, _, .ref lc, rfl, rfl, .of upd_same, (by rw [hc]; exact atI_nat (j := 0) rfl), lc, _, ps.take k ++ ps.drop (k + 1), rfl, sm.trans y16, y46 _ _ upd_same, rowP_app (rowP_take k g6.rowR) (rowP_drop (k + 1) g6.rowR), ?_, fun p hp => ?_⟩
          · rw [List.length_append, List.length_take, List.length_drop]; omega
          · rcases List.mem_append.mp hp with hp | hp
            · exact okps p (List.mem_of_mem_take hp)
            · exact okps p (List.mem_of_mem_drop hp)
        · refine ⟨lf, _, _, .ref le, rfl, rfl, .of upd_same, (by rw [hc]; exact atI_nat (j := 1) rfl), le, _, ps ++ [qs9[j]], rfl, sm.trans y16, y6 _ _ upd_same, rowP_app g6.rowR (.cons (ix9.mono y16.t) .nil), ?_, fun p hp => ?_⟩
          · rw [List.length_append, List.length_singleton]; omega
          · rcases List.mem_append.mp hp with hp | hp
            · exact okps p hp
            · have : p = qs9[j] := by simpa using hp
              subst this
              exact ok9 _ (List.getElem_mem hjq)
        · exact ⟨lf, _, _, .ref l6, rfl, rfl, .of upd_same, (by rw [hc]; exact atI_nat (j := 2) rfl), l6, zr, ps, rfl, sm.trans y16, y16 _ _ h6, g6.rowR, by omega, okps⟩
        · exact ⟨lf, _, _, .ref l10, rfl, rfl, .of upd_same, (by rw [hc]; exact atI_nat (j := 3) rfl), l10, v10, qs10, rfl, sm.trans y16, y16 _ _ h10, rowP_mono y16.t row10, len10, ok10⟩
      clear h6 h9 row9 sm g h10 row10 ix9
      obtain ⟨l6, xs, qs, rfl, sm, h6, rowq, lq, okq⟩ := p
      -- what is strange
      refine ⟨Nat.zero_le _, fun la hla => ?_⟩
      have y1 := same_new hla (.lst [])
      refine ⟨Nat.zero_le _, fun p1 hp1 => ?_⟩
      have y2 := same_new hp1 (.tup [])
      refine ⟨(by show 1 ≤ sizeLine; decide), fun lb' hlb => ?_⟩
      have y3 := same_new hlb (.lst [.ref p1])
      refine ⟨(by show 2 ≤ sizeLine; decide), fun lc hlc => ?_⟩
      have y4 := same_new hlc (.lst [.ref la, .ref lb'])
      have y24 := y2.trans (y3.trans y4)
      have y14 := y1.trans y24
      refine ⟨_, rfl, _, _, rfl, rfl, ⟨by decide, by decide⟩, _, _, rfl, rfl, (by show (0 : Int) < 4; decide), rfl, .inr ⟨_, rfl, ?_⟩⟩
      by_cases hc : c / 5 % 4 = 2
      · refine ⟨lc, _, _, .ref lb', rfl, rfl, .of upd_same, (by rw [decide_eq_true (show V.int (c / 5 % 4) = V.int 2 by rw [hc])]; exact atI_nat (j := 1) rfl), ?_⟩
        exact ⟨l6, lb', xs, [.ref p1], qs, [T.nil], _, _, _, rfl, sm.trans y14, y14 _ _ h6, rowP_mono y14.t rowq, lq, okq, y4 _ _ upd_same, .cons (isN_nil ((y3.trans y4) _ _ upd_same)) .nil, .inr rfl⟩
      · refine ⟨lc, _, _, .ref la, rfl, rfl, .of upd_same, (by rw [decide_eq_false (fun z : V.int (c / 5 % 4) = V.int 2 => hc (V.int.inj z))]; exact atI_nat (j := 0) rfl), ?_⟩
        exact ⟨l6, la, xs, [], qs, [], _, _, _, rfl, sm.trans y14, y14 _ _ h6, rowP_mono y14.t rowq, lq, okq, y24 _ _ upd_same, .nil, .inl rfl⟩
  · clear h6 h7 sm g hx xk
    obtain ⟨l6, l7, xs, sv, qs, ss, o8, o9, o10, rfl, sm, h6, rowq, l6q, okq, h7, rows, hss⟩ := p
    have g := g1.mono sm
    have lss : ss.length ≤ 1 := by rcases hss with rfl | rfl <;> simp
    refine ⟨_, rfl, l6, xs, qs.map twT, rfl, .of h6, rowP_n rowq, by rw [List.length_map]; omega, fun t ht => ?_, fun l ov us hl rise mem rowu => ?_⟩
    · obtain ⟨p, hp, rfl⟩ := List.mem_map.mp ht
      exact twT_dep (okq p hp)
    obtain ⟨ks, rfl, nk, memk⟩ := un_row rise mem
    have okk : ∀ p ∈ ks, T.OkP p := fun p hp => okq p ((memk p).1 hp)
    have lks : ks.length ≤ 6 := Nat.le_trans (NM.nodup_le nk fun p hp => (memk p).1 hp) l6q
    have v1 := same_new hl (.lst ov)
    have hlk : (upd H' l (.lst ov)) l = some (.lst ov) := upd_same
    have rowk := rowP_mono v1.t (row_tw rowu)
    have g := g.mono v1
    have sm := sm.trans v1
    have h7 := v1 _ _ h7
    have rows := RowV.mono rows v1.t
    revert hlk rowk g sm h7 rows
    generalize upd H' l (.lst ov) = H13
    intro hlk rowk g sm h7 rows
    clear v1 hl rise mem rowu h6 rowq
    have lov : ks.length = ov.length := Paired.length rowk
    -- made
    refine ⟨_, rfl, l, ov, rfl, .of hlk, fun _ => ?_⟩
    refine rd_prs hlk rowk (by omega) okk fun D zs2 H14 w1 h14 row14 => ?_
    have l14 := row14.length
    rw [List.length_map] at l14
    have lsv := rows.length
    refine ⟨_, rfl, D, l7, zs2, sv, rfl, rfl, h14, w1 _ _ h7, by omega, fun l8 hl8 => ?_⟩
    have w2 := same_new hl8 (.lst (zs2 ++ sv))
    have w12 := w1.trans w2
    have okm := T.made_ok okk hss
    refine ⟨l8, _, ks.map T.prP ++ ss, rfl, .inl upd_same, RowV.append (RowV.mono row14 w2.t) (RowV.mono rows w12.t), fun m hm => by have := (okm m hm).1; omega, by rw [List.length_append, List.length_map]; omega, fun r9 H15 w3 i9 => ?_⟩
    have i9 : IsN H15 r9 (T.madeT ks ss) := i9
    have w13 := w12.trans w3
    have g := g.mono w13
    have sm := sm.trans w13
    have hlk := w13 _ _ hlk
    have rowk := rowP_mono w13.t rowk
    have h7 := w13 _ _ h7
    have rows := RowV.mono rows w13.t
    clear w13 w12 w1 w2 w3 hl8 h14 row14 l14
    have dmd : (T.madeT ks ss).depth ≤ 9 := hn_depth fun z hz => by have := (okm z hz).1; omega
    have lmd : (T.madeT ks ss).toList.length ≤ 60 := by
      unfold T.madeT
      rw [T.to_of]
      have := hnl_len 9 (ks.map T.prP ++ ss) []
      rw [List.length_append, List.length_map, List.length_nil] at this
      omega
    have dA5 := mA.dep
    have dB5 := mB.dep
    have iA : IsN H15 (.ref pa) A := .of g.hpa g.rowA
    have iB : IsN H15 (.ref pb) B := .of g.hpb g.rowB
    obtain ⟨same1, same2⟩ := T.map_same (a := A) (b := B) okk nk cA hss
    -- is_map
    refine ⟨_, rfl, _, rfl, _, rfl, r9, .ref pa, .ref pb, T.madeT ks ss, A, B, rfl, i9, iA, iB, by omega, by omega, by omega, lmd, by omega, fun H16 w4 => ?_⟩
    refine ⟨_, rfl, _, _, _, true, rfl, fun u h => h, .bl _, kit_bl K, _, rfl, iteF ?_⟩
    refine ⟨_, rfl, _, rfl, _, rfl, _, rfl, _, rfl, l, l7, .ref pa, .ref pb, ov, sv, ks, A, B, ss, rfl, w4 _ _ hlk, rowP_mono w4.t rowk, by omega, okk, iA.mono w4.t, iB.mono w4.t, by omega, by omega, w4 _ _ h7, ?_, fun H17 w5 => ?_⟩
    · cases rows <;> rfl
    refine ⟨rfl, _, rfl, iteNS (by rw [same1]) ?_⟩
    have w45 := w4.trans w5
    have sm := sm.trans w45
    have hlk := w45 _ _ hlk
    have rowk := rowP_mono w45.t rowk
    have i9 := i9.mono w45.t
    -- the values
    refine ⟨_, rfl, l, ov, rfl, .of hlk, fun _ => ?_⟩
    refine for_list (xs := ov) (fun j σ H' => ∃ o14 o15, σ = [some (.ref a), some (.ref pa), some (.ref pb), some (.ref L), some (.ref R), some x, some (.ref l6), some (.ref l7), o8, o9, o10, some (.ref l), some r9, some (.bl (T.mapB (T.madeT ks ss) A B)), o14, o15] ∧ Same H17 H') ⟨_, _, rfl, Same.refl _⟩
      (fun j σ H' _ p => by obtain ⟨_, _, _, z⟩ := p; exact .of (z _ _ hlk)) (fun j y σ H18 hy p => ?_) (fun σ H18 p => ?_)
    · obtain ⟨o14, o15, rfl, z⟩ := p
      obtain ⟨k, hk, ⟨c, u, w', rfl, hc, iu, iw⟩⟩ := rowP_get (rowP_mono z.t rowk) hy
      have hkm := List.mem_of_getElem? hk
      have ok := okk k hkm
      refine ⟨c, _, rfl, .of hc, rfl, _, _, rfl, _, _, rfl, rfl, ?_⟩
      refine ⟨_, rfl, _, rfl, ?_⟩
      cases cm : T.mapB (T.madeT ks ss) A B with
      | false => exact iteF (iteF ⟨_, _, rfl, z⟩)
      | true =>
        have mv := T.map_value (a := A) (b := B) okk nk cA hss cm hkm
        refine iteT ⟨_, rfl, _, rfl, r9, u, T.madeT ks ss, k.1, rfl, i9.mono z.t, iu, by omega, by have := ok.1.1; omega, lmd, fun m hm r H19 z2 ir => ?_, fun hn => by rw [mv] at hn; cases hn⟩
        rw [mv] at hm
        have hm := Option.some.inj hm
        rw [← hm, ok.sn] at ir
        refine ⟨_, rfl, _, _, ir, iw.mono z2.t, by have := ok.2.1; omega, _, rfl, iteNS rfl ⟨_, _, rfl, z.trans z2⟩⟩
    · obtain ⟨o14, o15, rfl, z⟩ := p
      refine ⟨_, rfl, _, rfl, ?_⟩
      cases cm : T.mapB (T.madeT ks ss) A B with
      | false => exact iteF (iteF ⟨_, _, _, _, _, _, _, _, _, _, _, rfl, sm.trans z⟩)
      | true =>
        refine iteT ⟨_, rfl, Nat.zero_le _, fun p1 hp1 => ?_⟩
        have y1 := same_new hp1 (.tup [])
        refine ⟨(by show 1 ≤ sizeLine; decide), fun p2 hp2 => ?_⟩
        have y2 := same_new hp2 (.tup [.ref p1])
        refine ⟨(by show 1 ≤ sizeLine; decide), fun p3 hp3 => ?_⟩
        have y3 := same_new hp3 (.tup [.ref p2])
        refine ⟨(by show 1 ≤ sizeLine; decide), fun p4 hp4 => ?_⟩
        have y4 := same_new hp4 (.tup [.ref p3])
        refine ⟨(by show 1 ≤ sizeLine; decide), fun p5 hp5 => ?_⟩
        have y5 := same_new hp5 (.tup [.ref p4])
        refine ⟨(by show 1 ≤ sizeLine; decide), fun p6 hp6 => ?_⟩
        have y6 := same_new hp6 (.tup [.ref p5])
        have e1 : IsN (upd H18 p1 (.tup [])) (.ref p1) T.nil := isN_nil upd_same
        have e2 : IsN _ (.ref p2) (sg T.nil) := .ofL upd_same (.cons (e1.mono y2.t) .nil)
        have e3 : IsN _ (.ref p3) (sg (sg T.nil)) := .ofL upd_same (.cons (e2.mono y3.t) .nil)
        have e4 : IsN _ (.ref p4) (sg (sg (sg T.nil))) := .ofL upd_same (.cons (e3.mono y4.t) .nil)
        have e5 : IsN _ (.ref p5) (sg (sg (sg (sg T.nil)))) := .ofL upd_same (.cons (e4.mono y5.t) .nil)
        have e6 : IsN _ (.ref p6) (sg (sg (sg (sg (sg T.nil))))) := .ofL upd_same (.cons (e5.mono y6.t) .nil)
        have y16 := y1.trans (y2.trans (y3.trans (y4.trans (y5.trans y6))))
        have deep : (sg (sg (sg (sg (sg T.nil))))).depth = 5 := by decide
        have mn := T.map_none (a := A) (b := B) okk nk cA hss cm (z := sg (sg (sg (sg (sg T.nil))))) fun hz => by have := dA _ hz; omega
        refine ⟨r9, .ref p6, T.madeT ks ss, _, rfl, (i9.mono z.t).mono y16.t, e6, by omega, by omega, lmd, fun m hm => (by rw [mn] at hm; cases hm), fun _ H19 y7 => ?_⟩
        exact ⟨rfl, _, rfl, iteNS rfl ⟨_, _, _, _, _, _, _, _, _, _, _, rfl, sm.trans (z.trans (y16.trans y7))⟩⟩
end
end K7
set_option Elab.async false
set_option linter.all false
set_option maxRecDepth 100000
set_option maxHeartbeats 4000000
namespace K7
open PySem PySem.Spec PyProof.Rows NM L2
/-! ### what the top has written -/
/-- a def stands behind the top -/
structure DefK (K : PySem.W.Frag) (x : Str) (st : Stmt) : Prop where
  ex : ∃ (f : Addr) (oc : Value) (od an : Option Addr) (osl : Array (Option Value)) (kV doc pm cdv ct : Value), PySem.W.nsIn K mainGlobals x = some (some (.ref f)) ∧
    K.lookup f = some ⟨oc, od, .func (PySem.W.fnOf x x (defArgs st) (defBody st) (defScope st) .none kV doc pm an cdv ct), osl⟩ ∧ PySem.W.codeIn K cdv x = true ∧ PySem.W.keepIn K (.ref f) = true
theorem DefK.mk' {K : PySem.W.Frag} {x : Str} {st : Stmt} {f : Addr} {oc : Value} {od an : Option Addr} {osl : Array (Option Value)} {kV doc pm cdv ct : Value} (h1 : PySem.W.nsIn K mainGlobals x = some (some (.ref f)))
    (h2 : K.lookup f = some ⟨oc, od, .func (PySem.W.fnOf x x (defArgs st) (defBody st) (defScope st) .none kV doc pm an cdv ct), osl⟩) (h3 : PySem.W.codeIn K cdv x = true) (h4 : PySem.W.keepIn K (.ref f) = true) : DefK K x st := ⟨_, _, _, _, _, _, _, _, _, _, h1, h2, h3, h4⟩
theorem DefK.get {K : PySem.W.Frag} {x : Str} {st : Stmt} {h : Heap} {mg : Str → Option Value} (D : DefK K x st) (X : K.In h) (G : h.Ns mainGlobals mg) : ∃ f fd, Fun K x x st f fd ∧ mg x = some (.ref f) ∧
    ∃ kV doc pm an cdv ct, fd = PySem.W.fnOf x x (defArgs st) (defBody st) (defScope st) .none kV doc pm an cdv ct := by
  obtain ⟨f, oc, od, an, osl, kV, doc, pm, cdv, ct, h1, h2, h3, h4⟩ := D.ex
  exact ⟨f, _, fun_mk h2 h3 h4, PySem.W.mg_of X G h1, kV, doc, pm, an, cdv, ct, rfl⟩
theorem kit_meta : PySem.W.kitMeta "ValueError" = true := by decide +kernel
theorem kit_val {K : PySem.W.Frag} {C : Addr} (h : PySem.W.subIn K (.ref C) (.type "ValueError") = some true) : PySem.W.kitOne K (.ref C) (.type "ValueError") = some true := by
  unfold PySem.W.kitOne PySem.W.kitCls
  rw [if_neg (by simp)]
  simp only [kit_meta, if_true, h]
end K7
set_option Elab.async false
set_option linter.all false
set_option maxRecDepth 100000
set_option maxHeartbeats 4000000
namespace K7
open PySem PySem.Spec PyProof.Rows NM L2
theorem all_mk {l : PySem.W.OpenLaw} {w : World} {K : PySem.W.Frag} {h : Heap} {mg : Str → Option Value} {fa : Addr} {S C : Addr} {kS kC : ClassData} (X : K.In h) (G : h.Ns mainGlobals mg) (hfa : mg "law" = some (.ref fa))
    (D0 : DefK K "mirrored" sMir) (D1 : DefK K "gathered" s_gathered) (D2 : DefK K "pair" s_pair) (D3 : DefK K "is_pair" s_is_pair) (D4 : DefK K "first" s_first) (D5 : DefK K "second" s_second) (D6 : DefK K "product" s_product) (D7 : DefK K "is_map" s_is_map) (D8 : DefK K "is_pair_between" s_is_pair_between) (D9 : DefK K "value" s_value) (D10 : DefK K "_law_cell" sCell) (D11 : DefK K "_law_mix" sMix) (D12 : DefK K "_law_greater" sGr) (D13 : DefK K "_law_greatest" sGrt) (D14 : DefK K "_law_nest" sHn) (D15 : DefK K "_law_drawn" sDr) (D16 : DefK K "_law_some" sSome) (D17 : DefK K "_law_value" s__law_value) (D18 : DefK K "_law_is_map" s__law_is_map) (D19 : DefK K "law" sLaw)
    (z_len : PySem.W.nsIn K mainGlobals "len" = some none) (z_tuple : PySem.W.nsIn K mainGlobals "tuple" = some none) (z_reversed : PySem.W.nsIn K mainGlobals "reversed" = some none) (z_all : PySem.W.nsIn K mainGlobals "all" = some none) (z_range : PySem.W.nsIn K mainGlobals "range" = some none) (z_isinstance : PySem.W.nsIn K mainGlobals "isinstance" = some none) (z_sorted : PySem.W.nsIn K mainGlobals "sorted" = some none) (z_set : PySem.W.nsIn K mainGlobals "set" = some none) (z_int : PySem.W.nsIn K mainGlobals "int" = some none) (z_bool : PySem.W.nsIn K mainGlobals "bool" = some none) (z_enumerate : PySem.W.nsIn K mainGlobals "enumerate" = some none) (z_list : PySem.W.nsIn K mainGlobals "list" = some none) (z_ValueError : PySem.W.nsIn K mainGlobals "ValueError" = some none)
    (c_S : PySem.W.nsIn K mainGlobals "SetError" = some (some (.ref S)))
    (c_C : PySem.W.nsIn K mainGlobals "NoPair" = some (some (.ref C)))
    (e1 : PySem.W.typeIn K (.ref S) = some (.type "type"))
    (e2 : PySem.W.clsIn K S = some kS)
    (e3 : PySem.W.subIn K (.ref S) (.type "BaseException") = some true)
    (e4 : PySem.W.excIn K C bmV "ValueError.__new__" = true)
    (q1 : PySem.W.mroIn K C (.type "object") = some true)
    (q2 : PySem.W.mroIn K C (.type "BaseException") = some true)
    (q3 : PySem.W.findIn K (.ref C) "__getattribute__" = some (some (.builtin "BaseException.__getattribute__")))
    (q4 : PySem.W.findIn K (.ref C) "__getattr__" = some none)
    (q5 : PySem.W.findIn K (.ref C) "__class__" = some (some (.builtin "object.__class__")))
    (q6 : PySem.W.clsIn K C = some kC)
    (r1 : PySem.W.subIn K (.ref C) (.ref S) = some true)
    (r3 : PySem.W.subIn K (.ref C) (.type "ValueError") = some true) :
    ∃ fd : FuncData, (∀ (s : Shared) (v : Value), BindsTo s fd ⟨[v], []⟩ [("_law_script", v)]) ∧ ∀ base : Heap, K.In base → base.Ns mainGlobals mg → FnOk l.prog w K mg base CX0 31 fa fd ["_law_script"] (spLaw K) := by
  obtain ⟨f0, d0, F0, m0, e0_⟩ := D0.get X G
  obtain ⟨f1, d1, F1, m1, e1_⟩ := D1.get X G
  obtain ⟨f2, d2, F2, m2, e2_⟩ := D2.get X G
  obtain ⟨f3, d3, F3, m3, e3_⟩ := D3.get X G
  obtain ⟨f4, d4, F4, m4, e4_⟩ := D4.get X G
  obtain ⟨f5, d5, F5, m5, e5_⟩ := D5.get X G
  obtain ⟨f6, d6, F6, m6, e6_⟩ := D6.get X G
  obtain ⟨f7, d7, F7, m7, e7_⟩ := D7.get X G
  obtain ⟨f8, d8, F8, m8, e8_⟩ := D8.get X G
  obtain ⟨f9, d9, F9, m9, e9_⟩ := D9.get X G
  obtain ⟨f10, d10, F10, m10, e10_⟩ := D10.get X G
  obtain ⟨f11, d11, F11, m11, e11_⟩ := D11.get X G
  obtain ⟨f12, d12, F12, m12, e12_⟩ := D12.get X G
  obtain ⟨f13, d13, F13, m13, e13_⟩ := D13.get X G
  obtain ⟨f14, d14, F14, m14, e14_⟩ := D14.get X G
  obtain ⟨f15, d15, F15, m15, e15_⟩ := D15.get X G
  obtain ⟨f16, d16, F16, m16, e16_⟩ := D16.get X G
  obtain ⟨f17, d17, F17, m17, e17_⟩ := D17.get X G
  obtain ⟨f18, d18, F18, m18, e18_⟩ := D18.get X G
  obtain ⟨f19, d19, F19, m19, e19_⟩ := D19.get X G
  have b0 := F0.binds (ps := ["one"]) fun _ _ _ _ _ _ us hl => match us, hl with | [_], _ => rfl
  have b1 := F1.binds (ps := ["some"]) fun _ _ _ _ _ _ us hl => match us, hl with | [_], _ => rfl
  have b2 := F2.binds (ps := ["one", "other"]) fun _ _ _ _ _ _ us hl => match us, hl with | [_, _], _ => rfl
  have b3 := F3.binds (ps := ["nest"]) fun _ _ _ _ _ _ us hl => match us, hl with | [_], _ => rfl
  have b4 := F4.binds (ps := ["nest"]) fun _ _ _ _ _ _ us hl => match us, hl with | [_], _ => rfl
  have b5 := F5.binds (ps := ["nest"]) fun _ _ _ _ _ _ us hl => match us, hl with | [_], _ => rfl
  have b6 := F6.binds (ps := ["one", "other"]) fun _ _ _ _ _ _ us hl => match us, hl with | [_, _], _ => rfl
  have b7 := F7.binds (ps := ["nest", "one", "other"]) fun _ _ _ _ _ _ us hl => match us, hl with | [_, _, _], _ => rfl
  have b8 := F8.binds (ps := ["nest", "one", "other"]) fun _ _ _ _ _ _ us hl => match us, hl with | [_, _, _], _ => rfl
  have b9 := F9.binds (ps := ["nest", "here"]) fun _ _ _ _ _ _ us hl => match us, hl with | [_, _], _ => rfl
  have b10 := F10.binds (ps := ["_law_script", "_law_k"]) fun _ _ _ _ _ _ us hl => match us, hl with | [_, _], _ => rfl
  have b11 := F11.binds (ps := ["_law_cell_here", "_law_prime", "_law_many"]) fun _ _ _ _ _ _ us hl => match us, hl with | [_, _, _], _ => rfl
  have b12 := F12.binds (ps := ["_law_one", "_law_other"]) fun _ _ _ _ _ _ us hl => match us, hl with | [_, _], _ => rfl
  have b13 := F13.binds (ps := ["_law_some_here"]) fun _ _ _ _ _ _ us hl => match us, hl with | [_], _ => rfl
  have b14 := F14.binds (ps := ["_law_some_here"]) fun _ _ _ _ _ _ us hl => match us, hl with | [_], _ => rfl
  have b15 := F15.binds (ps := ["_law_cell_here", "_law_deep"]) fun _ _ _ _ _ _ us hl => match us, hl with | [_, _], _ => rfl
  have b16 := F16.binds (ps := ["_law_script", "_law_k", "_law_many"]) fun _ _ _ _ _ _ us hl => match us, hl with | [_, _, _], _ => rfl
  have b17 := F17.binds (ps := ["_law_one", "_law_here"]) fun _ _ _ _ _ _ us hl => match us, hl with | [_, _], _ => rfl
  have b18 := F18.binds (ps := ["_law_pairs", "_law_one", "_law_other", "_law_strange"]) fun _ _ _ _ _ _ us hl => match us, hl with | [_, _, _, _], _ => rfl
  have n_len := PySem.W.mg_none_of X G z_len
  have n_tuple := PySem.W.mg_none_of X G z_tuple
  have n_reversed := PySem.W.mg_none_of X G z_reversed
  have n_all := PySem.W.mg_none_of X G z_all
  have n_range := PySem.W.mg_none_of X G z_range
  have n_isinstance := PySem.W.mg_none_of X G z_isinstance
  have n_sorted := PySem.W.mg_none_of X G z_sorted
  have n_set := PySem.W.mg_none_of X G z_set
  have n_int := PySem.W.mg_none_of X G z_int
  have n_bool := PySem.W.mg_none_of X G z_bool
  have n_enumerate := PySem.W.mg_none_of X G z_enumerate
  have n_list := PySem.W.mg_none_of X G z_list
  have n_ValueError := PySem.W.mg_none_of X G z_ValueError
  have R : Refs2 K mg S C "NoPair" := ⟨PySem.W.mg_of X G c_S, PySem.W.mg_of X G c_C, ⟨e1, by rw [e2]; rfl, e3⟩, e4, ⟨q1, q2, q3, q4, q5, by rw [q6]; rfl⟩, r1, kit_val r3⟩
  have e := hfa.symm.trans m19
  cases e
  obtain ⟨kV, doc, pm, an, cdv, ct, rfl⟩ := e19_
  refine ⟨PySem.W.fnOf "law" "law" (defArgs sLaw) (defBody sLaw) (defScope sLaw) .none kV doc pm an cdv ct, fun s v => .of_eq rfl, fun base _ _ => ?_⟩
  have Gmir := ok_mir (P := l.prog) (w := w) (base := base) F0 b0 m0 n_tuple n_reversed 9
  have Ggr := ok_gr (P := l.prog) (w := w) (base := base) F12 b12 m12 F13 b13 m13 n_len 9 (by decide)
  have Ghn := ok_hn F14 Ggr b12 F12.kp m12 n_len n_tuple
  have Gmix := ok_mix (P := l.prog) (w := w) (mg := mg) (base := base) F11
  have Gcell := ok_cell (P := l.prog) (w := w) (base := base) F10 n_len
  have Gdr := ok_dr F15 b15 m15 Gmix b11 F11.kp m11 Ghn b14 F14.kp m14 n_range n_int 5
  have Gsome := ok_some F16 Gdr b15 F15.kp m15
  have Ggath := ok_gath F1 Gmir b0 m0 n_tuple n_sorted
  have Gpair := ok_pair F2 Ggath b1 F1.kp m1
  have Gisp := ok_isp (P := l.prog) (w := w) (base := base) F3 n_len
  have Gfst := ok_fst F4 Gisp b3 F3.kp m3 R.mC R.xC
  have Gsnd := ok_snd F5 Gfst b4 F4.kp m4
  have Gprod := ok_prod F6 ⟨Gpair, b2, F2.kp, m2⟩ ⟨Ggath, b1, F1.kp, m1⟩
  have Gipb := ok_ipb F8 ⟨Gisp, b3, F3.kp, m3⟩ ⟨Gfst.sure, b4, F4.kp, m4⟩ ⟨Gsnd.sure, b5, F5.kp, m5⟩
  have Gmap := ok_map F7 ⟨Gipb, b8, F8.kp, m8⟩ ⟨Gfst.sure, b4, F4.kp, m4⟩ n_all
  have Gval := ok_val F9 ⟨Gisp, b3, F3.kp, m3⟩ ⟨Gfst.sure, b4, F4.kp, m4⟩ ⟨Gsnd.sure, b5, F5.kp, m5⟩ R.mC R.xC
  have Glva := ok_lva R F17 Gval b9 F9.kp m9 n_isinstance n_ValueError
  have Glim := ok_lim F18 ⟨Ghn, b14, F14.kp, m14⟩ n_len
  exact ok_law F19 ⟨Gsome, b16, F16.kp, m16⟩ ⟨Ghn, b14, F14.kp, m14⟩ ⟨Gpair, b2, F2.kp, m2⟩ ⟨Gprod, b6, F6.kp, m6⟩ ⟨Gcell, b10, F10.kp, m10⟩ ⟨Gmix, b11, F11.kp, m11⟩ ⟨Gmap, b7, F7.kp, m7⟩ ⟨Glim, b18, F18.kp, m18⟩ ⟨Glva, b17, F17.kp, m17⟩ n_isinstance n_bool n_len n_enumerate n_list n_sorted n_set n_int
theorem walk {l : PySem.W.OpenLaw} {q : Program} {loose : List Str} {XP : (Str → Option Value) → Heap → Prop} {YP : World → Heap → Prop} {d : DefRec} {K : Params → PySem.W.Frag} (hn : l.most = some 63) (hdf : d.params.defaults = [])
    (hY : ∀ (w : World) (h : Heap), YP w h → (K w.params).In h)
    (F : ∀ (w : World) (mg : Str → Option Value) (fa : Addr) (h : Heap), (K w.params).In h → h.Ns mainGlobals mg → mg d.name = some (.ref fa) →
      ∃ fd : FuncData, (∀ (s : Shared) (u : Value), BindsTo s fd ⟨[u], []⟩ [("_law_script", u)]) ∧ ∀ base : Heap, (K w.params).In base → base.Ns mainGlobals mg → FnOk l.prog w (K w.params) mg base CX0 31 fa fd ["_law_script"] (spLaw (K w.params))) :
    PySem.W.WalkO q loose XP YP l.row.toRowW d [] (fun f vs => PySem.call f vs) :=
  L2.walk_of (n := 63) (k := 31) (x := "_law_script") (CX := fun _ => CX0) (sp := fun w => spLaw (K w.params)) hn (by decide) hdf ⟨rfl, by decide, by decide⟩ hY F (fun _ _ a ns hl _ hS => ⟨a, ns, rfl, hS, hl, fun _ => rfl⟩) fun _ _ _ _ _ z => z
end K7
open PySem PySem.W PyProof.Rows
set_option Elab.async false
set_option maxRecDepth 100000 in
set_option maxHeartbeats 0 in
theorem PySem.Challenge.cw_nestsets_k07_whole_products_and_maps_holds : PySem.Challenge.rw_nestsets_k07_whole_products_and_maps.Holds := by
  w_on; o_law; k_head; (case hw => w_witness2)
  k_fill
  refine K7.walk (l := PySem.Challenge.rw_nestsets_k07_whole_products_and_maps) rfl rfl (fun w h Y => PySem.W.kIn_of Y) ?F
  case F =>
    intro w mg fa h KX G hmg
    refine' K7.all_mk KX G hmg (.mk' ?a0 ?l0 ?c0 ?k0) (.mk' ?a1 ?l1 ?c1 ?k1) (.mk' ?a2 ?l2 ?c2 ?k2) (.mk' ?a3 ?l3 ?c3 ?k3) (.mk' ?a4 ?l4 ?c4 ?k4) (.mk' ?a5 ?l5 ?c5 ?k5) (.mk' ?a6 ?l6 ?c6 ?k6) (.mk' ?a7 ?l7 ?c7 ?k7) (.mk' ?a8 ?l8 ?c8 ?k8) (.mk' ?a9 ?l9 ?c9 ?k9) (.mk' ?a10 ?l10 ?c10 ?k10) (.mk' ?a11 ?l11 ?c11 ?k11) (.mk' ?a12 ?l12 ?c12 ?k12) (.mk' ?a13 ?l13 ?c13 ?k13) (.mk' ?a14 ?l14 ?c14 ?k14) (.mk' ?a15 ?l15 ?c15 ?k15) (.mk' ?a16 ?l16 ?c16 ?k16) (.mk' ?a17 ?l17 ?c17 ?k17) (.mk' ?a18 ?l18 ?c18 ?k18) (.mk' ?a19 ?l19 ?c19 ?k19) ?z_len ?z_tuple ?z_reversed ?z_all ?z_range ?z_isinstance ?z_sorted ?z_set ?z_int ?z_bool ?z_enumerate ?z_list ?z_ValueError ?c_S ?c_C ?e1 ?e2 ?e3 ?e4 ?q1 ?q2 ?q3 ?q4 ?q5 ?q6 ?r1 ?r3
    (case a0 => k_is); (case l0 => k_is); (case c0 => k_is); (case k0 => k_is)
    (case a1 => k_is); (case l1 => k_is); (case c1 => k_is); (case k1 => k_is)
    (case a2 => k_is); (case l2 => k_is); (case c2 => k_is); (case k2 => k_is)
    (case a3 => k_is); (case l3 => k_is); (case c3 => k_is); (case k3 => k_is)
    (case a4 => k_is); (case l4 => k_is); (case c4 => k_is); (case k4 => k_is)
    (case a5 => k_is); (case l5 => k_is); (case c5 => k_is); (case k5 => k_is)
    (case a6 => k_is); (case l6 => k_is); (case c6 => k_is); (case k6 => k_is)
    (case a7 => k_is); (case l7 => k_is); (case c7 => k_is); (case k7 => k_is)
    (case a8 => k_is); (case l8 => k_is); (case c8 => k_is); (case k8 => k_is)
    (case a9 => k_is); (case l9 => k_is); (case c9 => k_is); (case k9 => k_is)
    (case a10 => k_is); (case l10 => k_is); (case c10 => k_is); (case k10 => k_is)
    (case a11 => k_is); (case l11 => k_is); (case c11 => k_is); (case k11 => k_is)
    (case a12 => k_is); (case l12 => k_is); (case c12 => k_is); (case k12 => k_is)
    (case a13 => k_is); (case l13 => k_is); (case c13 => k_is); (case k13 => k_is)
    (case a14 => k_is); (case l14 => k_is); (case c14 => k_is); (case k14 => k_is)
    (case a15 => k_is); (case l15 => k_is); (case c15 => k_is); (case k15 => k_is)
    (case a16 => k_is); (case l16 => k_is); (case c16 => k_is); (case k16 => k_is)
    (case a17 => k_is); (case l17 => k_is); (case c17 => k_is); (case k17 => k_is)
    (case a18 => k_is); (case l18 => k_is); (case c18 => k_is); (case k18 => k_is)
    (case a19 => k_is); (case l19 => k_is); (case c19 => k_is); (case k19 => k_is)
    (case z_len => k_is); (case z_tuple => k_is); (case z_reversed => k_is); (case z_all => k_is); (case z_range => k_is); (case z_isinstance => k_is); (case z_sorted => k_is); (case z_set => k_is); (case z_int => k_is); (case z_bool => k_is); (case z_enumerate => k_is); (case z_list => k_is); (case z_ValueError => k_is)
    (case c_S => k_is); (case c_C => k_is); (case e1 => k_is); (case e2 => k_is); (case e3 => k_is); (case e4 => k_exc); (case q1 => k_is); (case q2 => k_is); (case q3 => k_is); (case q4 => k_is); (case q5 => k_is); (case q6 => k_is); (case r1 => k_is); (case r3 => k_is)
