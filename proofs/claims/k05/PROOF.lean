import PyProof.Rows.All
import Wide.All
import OpenK.AllK
import Wide.FinOn
import Lean
import PyProof.EqAt
import PyProof.EqKinds
import PyProof.TupleCall
import KE.KSortTup
import KE.KDictSum
import PyProof.Rows.SortStr
import PySem.Challenge.RW_restways_k05_towns_that_are_none
set_option Elab.async false
set_option linter.all false
set_option maxRecDepth 100000
/-! THE HAND LAYER, for ints, bools, texts, own classes, LISTS and tuples (index, slices, in, append, pop ..), calls, loops. Paste it whole ahead of your own text; what your proof does not reach may be deleted. -/
namespace L2
open PySem PySem.Spec PyProof.Rows

/-- a key: an int or a str -/
abbrev Key := Sum Int Str
def keyIs : Key → Value → Bool
  | .inl k, v => Value.isInt k v
  | .inr x, v => Value.isStrOf x v
def keyH (w : World) : Key → Int
  | .inl k => hashInt k
  | .inr x => hashStr w x
theorem keyIs_shape : ∀ {k : Key} {v : Value}, keyIs k v = true → (∃ i t, k = Sum.inl i ∧ v = Value.int i t) ∨ (∃ x t, k = Sum.inr x ∧ v = Value.str x t)
  | .inl i, v, h => by
    obtain ⟨t, e⟩ := Value.isInt_shape (k := i) (v := v) h
    exact .inl ⟨i, t, rfl, e⟩
  | .inr x, v, h => by
    obtain ⟨t, e⟩ := Value.isStrOf_shape (x := x) (v := v) h
    exact .inr ⟨x, t, rfl, e⟩
theorem keyIs_int (i : Int) (t : Tok) : keyIs (.inl i) (.int i t) = true := by simp [keyIs, Value.isInt]
theorem keyIs_str (x : Str) (t : Tok) : keyIs (.inr x) (.str x t) = true := by simp [keyIs, Value.isStrOf]
theorem key_ll (a b : Int) : decide ((Sum.inl a : Key) = Sum.inl b) = (a == b) := by
  by_cases e : a = b
  · subst e; simp
  · have h : ¬ (Sum.inl a : Key) = Sum.inl b := fun q => e (Sum.inl.inj q)
    rw [decide_eq_false h]
    exact (beq_eq_false_iff_ne.mpr e).symm
theorem key_rr (a b : Str) : decide ((Sum.inr a : Key) = Sum.inr b) = decide (a = b) := by
  by_cases e : a = b
  · subst e; simp
  · have h : ¬ (Sum.inr a : Key) = Sum.inr b := fun q => e (Sum.inr.inj q)
    rw [decide_eq_false h, decide_eq_false e]
theorem key_lr (a : Int) (b : Str) : decide ((Sum.inl a : Key) = Sum.inr b) = false := decide_eq_false (fun q => nomatch q)
theorem key_rl (a : Str) (b : Int) : decide ((Sum.inr a : Key) = Sum.inl b) = false := decide_eq_false (fun q => nomatch q)

def mixKind (prog : Program) (w : World) : PySem.KeyKind prog w Key where
  is := keyIs
  hash := keyH w
  inj := fun v a b ha hb => by
    rcases keyIs_shape ha with ⟨i, t, rfl, rfl⟩ | ⟨x, t, rfl, rfl⟩
    · rcases keyIs_shape hb with ⟨j, u, rfl, e⟩ | ⟨y, u, rfl, e⟩
      · injection e with e1 _; rw [e1]
      · exact nomatch e
    · rcases keyIs_shape hb with ⟨j, u, rfl, e⟩ | ⟨y, u, rfl, e⟩
      · exact nomatch e
      · injection e with e1 _; rw [e1]
  byValue := fun k v h => by
    rcases keyIs_shape h with ⟨i, t, rfl, rfl⟩ | ⟨x, t, rfl, rfl⟩ <;> rfl
  pyHash := fun hv h => by
    rcases keyIs_shape hv with ⟨i, t, rfl, rfl⟩ | ⟨x, t, rfl, rfl⟩
    · exact wpAny_pyHash_int h
    · exact wpAny_pyHash_str h
  eqBool := fun hu hv h => by
    rcases keyIs_shape hu with ⟨i, t, rfl, rfl⟩ | ⟨x, t, rfl, rfl⟩
    · rcases keyIs_shape hv with ⟨j, u, rfl, rfl⟩ | ⟨y, u, rfl, rfl⟩
      · rw [key_ll] at h; exact wpAny_eqBool_int h
      · rw [key_lr] at h; exact SeqAt.EqAt.int_str i t y u _ _ _ _ h
    · rcases keyIs_shape hv with ⟨j, u, rfl, rfl⟩ | ⟨y, u, rfl, rfl⟩
      · rw [key_rl] at h; exact SeqAt.EqAt.str_int x t j u _ _ _ _ h
      · rw [key_rr] at h; exact wpAny_eqBool_str h
  «strs» := fun k x t v h => by
    rcases keyIs_shape h with ⟨i, u, rfl, e⟩ | ⟨y, u, rfl, e⟩
    · exact nomatch e
    · injection e with e1 _
      subst e1
      cases v <;> rfl

theorem mixKind_int (prog : Program) (w : World) (i : Int) (t : Tok) : (mixKind prog w).is (.inl i) (.int i t) = true := keyIs_int i t
theorem mixKind_str (prog : Program) (w : World) (x : Str) (t : Tok) : (mixKind prog w).is (.inr x) (.str x t) = true := keyIs_str x t
end L2

namespace L2
open PySem PySem.Spec PyProof.Rows

/-- a value, without the heap -/
inductive V where
  | non | bl (b : Bool) | int (i : Int) | str (x : Str) | byt (b : Array UInt8) | flt (b : UInt64) | ref (a : Addr) | ty (n : String)
  deriving DecidableEq

def RelV : V → Value → Prop
  | .non, u => u = Value.none
  | .bl b, u => u = Value.bool b
  | .int i, u => ∃ t, u = Value.int i t
  | .str x, u => ∃ t, u = Value.str x t
  | .byt b, u => ∃ t, u = Value.bytes b t
  | .flt b, u => ∃ t, u = Value.float b t
  | .ref a, u => u = Value.ref a
  | .ty n, u => u = Value.type n

abbrev Vals : List V → List Value → Prop := Paired RelV
theorem Vals.length {xs : List V} {us : List Value} (r : Vals xs us) : xs.length = us.length := Paired.length r
theorem Vals.get : ∀ {xs : List V} {us : List Value} {i : Nat} {x : V}, Vals xs us → xs[i]? = some x → ∃ u, us[i]? = some u ∧ RelV x u
  | _, _, _, _, .nil, e => by simp at e
  | _, _, 0, _, .cons r _, e => by simp at e; subst e; exact ⟨_, rfl, r⟩
  | _, _, i + 1, x, .cons _ t, e => by
    obtain ⟨u, h1, h2⟩ := Vals.get (i := i) (x := x) t (by simpa using e)
    exact ⟨u, by simpa using h1, h2⟩
theorem Vals.set {x : V} {u : Value} (r : RelV x u) : ∀ {xs : List V} {us : List Value} (i : Nat), Vals xs us → Vals (xs.set i x) (us.set i u)
  | _, _, _, .nil => .nil
  | _, _, 0, .cons _ t => .cons r t
  | _, _, i + 1, .cons q t => .cons q (Vals.set r i t)
theorem Vals.append : ∀ {xs ys : List V} {us ws : List Value}, Vals xs us → Vals ys ws → Vals (xs ++ ys) (us ++ ws)
  | _, _, _, _, .nil, s => s
  | _, _, _, _, .cons r t, s => .cons r (Vals.append t s)
theorem Vals.take : ∀ {xs : List V} {us : List Value} (n : Nat), Vals xs us → Vals (xs.take n) (us.take n)
  | _, _, 0, _ => .nil
  | _, _, _ + 1, .nil => .nil
  | _, _, n + 1, .cons r t => .cons r (Vals.take n t)
theorem Vals.drop : ∀ {xs : List V} {us : List Value} (n : Nat), Vals xs us → Vals (xs.drop n) (us.drop n)
  | _, _, 0, r => r
  | _, _, _ + 1, .nil => .nil
  | _, _, n + 1, .cons _ t => Vals.drop n t

def RelO : Option V → Option Value → Prop
  | some v, some u => RelV v u
  | none, none => True
  | _, _ => False
def KV {κ : Type} : List (κ × V) → List (κ × Value) → Prop := Paired fun (p : κ × V) (q : κ × Value) => p.1 = q.1 ∧ RelV p.2 q.2

/-- a key of a dict (00_mix): an int or a text -/
def kV : Key → V
  | .inl i => .int i
  | .inr x => .str x

/-- what stands at a tracked address -/
inductive HO where
  /-- a list -/
  | lst (xs : List V)
  /-- a tuple (never changes) -/
  | tup (xs : List V)
  /-- a dict whose keys are ints and texts; one whose keys are tuples of ints and texts (the empty one is both) -/
  | dK (kvs : List (Key × V)) | dT (kvs : List (List Key × V))
  /-- a set of ints: its members, its size -/
  | set (S : Int → Bool) (n : Nat)
  /-- an instance of the class at C, its dict at dx, its attributes -/
  | ins (C dx : Addr) (fs : List (Str × V))
  /-- the dict of the instance at x -/
  | own (x : Addr)
  /-- the dict of an exception -/
  | xd (fs : List (Str × V))
  /-- a bound method, f of x -/
  | met (f x : Addr)
  /-- a range object lo, lo + 1, .. below hi -/
  | rng (lo hi : Int)
  /-- a thing that is known to the object (the script; a dict while a loop walks it): read, never written while it is so -/
  | frz (o : Obj) (u : HO)
  /-- a code object's table -/
  | tbl (ps : Array Value)
  /-- any other thing, by what is true of its one object (a def of one's own: SetO a S n := HO.ext fun h => ..) -/
  | ext (φ : Heap → Prop)

abbrev Hp := Addr → Option HO
def upd (H : Hp) (a : Addr) (o : HO) : Hp := fun b => if b = a then some o else H b
theorem upd_same {H : Hp} {a : Addr} {o : HO} : upd H a o a = some o := by unfold upd; rw [if_pos rfl]
theorem upd_ne {H : Hp} {a b : Addr} {o : HO} (h : b ≠ a) : upd H a o b = H b := by unfold upd; rw [if_neg h]
theorem upd_upd {H : Hp} {a : Addr} {o u : HO} : upd (upd H a o) a u = upd H a u := by
  funext b; unfold upd; split <;> rfl
/-- two objects of different content stand apart -/
theorem ne_of {H : Hp} {a b : Addr} {o u : HO} (h : H a = some o) (h' : H b = some u) (d : o ≠ u) : a ≠ b := by
  intro e; subst e; rw [h] at h'; exact d (Option.some.inj h')
theorem ne_of_none {H : Hp} {a b : Addr} {o : HO} (h : H a = some o) (h' : H b = none) : a ≠ b := by
  intro e; subst e; rw [h] at h'; cases h'

section
variable (P : Program) (w : World)
def ObjOk (H : Hp) (h : Heap) (a : Addr) : HO → Prop
  | .lst xs => xs.length ≤ sizeLine ∧ ∃ (its : List Value) (n : Nat), Vals xs its ∧ h.get? a = some { cls := .type "list", data := .seq its.toArray n }
  | .tup xs => xs.length ≤ sizeLine ∧ ∃ its : List Value, Vals xs its ∧ IsTup h a its.toArray
  | .dK kvs => kvs.length ≤ sizeLine ∧ (a == sysModules) = false ∧ ∃ vs, KV kvs vs ∧ h.DictOf (mixKind P w) a vs
  | .dT kvs => kvs.length ≤ sizeLine ∧ (a == sysModules) = false ∧ ∃ xs : List (List Key × Addr × Value),
      Paired (fun (p : List Key × V) (q : List Key × Addr × Value) => p.1 = q.1 ∧ H q.2.1 = some (.tup (p.1.map kV)) ∧ RelV p.2 q.2.2) kvs xs ∧
      ∃ o es ep, h.get? a = some o ∧ o.ExactDict ∧ o.data = .dict es ep ∧ es.toList = xs.map (entryOfKey (tupleKind (mixKind P w))) ∧ (xs.map (·.1)).Nodup
  | .set S n => h.SetOf (intKind P w) a S n
  | .ins C dx fs => H dx = some (.own a) ∧ fs.length ≤ 1000 ∧ dx ≠ a ∧ h.get? a = some (PySem.W.instObj C dx) ∧
      ∃ mA, h.Ns1 dx mA ∧ (∀ f, RelO (fs.lookup f) (mA f)) ∧ PySem.Within mA (fs.map (·.1))
  | .own _ => ∃ o, h.get? a = some o
  | .xd fs => ∃ mA, h.Ns1 a mA ∧ ∀ f, RelO (fs.lookup f) (mA f)
  | .rng lo hi => ∃ t u v, h.get? a = some { cls := .type "range", data := .fields #[.int lo t, .int hi u, .int 1 v] }
  | .frz o u => h.get? a = some o ∧ ObjOk H h a u
  | .tbl ps => h.get? a = some { cls := .none, data := .fields ps }
  | .met f x => h.get? a = some (PySem.W.methodObj (.ref f) (.ref x))
  | .ext φ => φ h ∧ (∃ o, h.get? a = some o) ∧ ∀ h1 h2 : Heap, φ h1 → (∀ o, h1.get? a = some o → h2.get? a = some o) → φ h2
/-- the abstract heap is held -/
def HOk (H : Hp) (h : Heap) : Prop := ∀ a o, H a = some o → ObjOk P w H h a o
end

section
variable {P : Program} {w : World} {H H' : Hp} {h h' : Heap} {a : Addr} {o : HO}
theorem ObjOk.lt (x : ObjOk P w H h a o) : a < h.objs.size := by
  cases o with
  | lst xs => obtain ⟨_, _, _, _, e⟩ := x; exact Heap.lt_size e
  | tup xs => obtain ⟨_, _, _, p⟩ := x; exact p.lt
  | dK kvs => obtain ⟨_, _, _, _, o, _, _, e, _⟩ := x; exact Heap.lt_size e
  | dT kvs => obtain ⟨_, _, _, _, o, _, _, e, _⟩ := x; exact Heap.lt_size e
  | set S n => obtain ⟨o, _, _, _, e, _⟩ := x; exact Heap.lt_size e
  | ins C dx fs => obtain ⟨_, _, _, e, _⟩ := x; exact Heap.lt_size e
  | own y => obtain ⟨_, e⟩ := x; exact Heap.lt_size e
  | xd fs => obtain ⟨_, ⟨_, _, _, e, _⟩, _⟩ := x; exact Heap.lt_size e
  | rng lo hi => obtain ⟨_, _, _, e⟩ := x; exact Heap.lt_size e
  | frz ob u => obtain ⟨e, _⟩ := x; exact Heap.lt_size e
  | tbl ps => exact Heap.lt_size (show h.get? a = some _ from x)
  | met f y => exact Heap.lt_size (show h.get? a = some _ from x)
  | ext φ => obtain ⟨_, ⟨_, e⟩, _⟩ := x; exact Heap.lt_size e
theorem Paired.mapP {α β : Type} {F G : α → β → Prop} : ∀ {l₁ : List α} {l₂ : List β}, Paired F l₁ l₂ → (∀ a b, F a b → G a b) → Paired G l₁ l₂
  | _, _, .nil, _ => .nil
  | _, _, .cons r t, f => .cons (f _ _ r) (Paired.mapP t f)
/-- what an object's description leans on: its own object, its own dict, the tuples -/
theorem ObjOk.stay (x : ObjOk P w H h a o) (k : ∀ b u, (b = a ∨ H b = some (.own a)) → h.get? b = some u → h'.get? b = some u)
    (ho : ∀ b, H b = some (.own a) → H' b = some (.own a)) (ht : ∀ b xs, H b = some (.tup xs) → H' b = some (.tup xs)) : ObjOk P w H' h' a o := by
  induction o with
  | lst xs => obtain ⟨z, its, n, r, e⟩ := x; exact ⟨z, its, n, r, k _ _ (.inl rfl) e⟩
  | tup xs => obtain ⟨z, its, r, ob, e, c⟩ := x; exact ⟨z, its, r, ob, k _ _ (.inl rfl) e, c⟩
  | dK kvs => obtain ⟨z, y, vs, r, ob, es, ep, e, c⟩ := x; exact ⟨z, y, vs, r, ob, es, ep, k _ _ (.inl rfl) e, c⟩
  | dT kvs =>
    obtain ⟨z, y, xs, r, ob, es, ep, e, c⟩ := x
    exact ⟨z, y, xs, Paired.mapP r fun p q z => ⟨z.1, ht _ _ z.2.1, z.2.2⟩, ob, es, ep, k _ _ (.inl rfl) e, c⟩
  | set S n => obtain ⟨ob, es, ep, t, e, c⟩ := x; exact ⟨ob, es, ep, t, k _ _ (.inl rfl) e, c⟩
  | ins C dx fs =>
    obtain ⟨d, z, ne, e, mA, ⟨od, es, ep, e2, c⟩, r⟩ := x
    exact ⟨ho _ d, z, ne, k _ _ (.inl rfl) e, mA, ⟨od, es, ep, k _ _ (.inr d) e2, c⟩, r⟩
  | own y => obtain ⟨ob, e⟩ := x; exact ⟨ob, k _ _ (.inl rfl) e⟩
  | xd fs => obtain ⟨mA, ⟨od, es, ep, e, c⟩, r⟩ := x; exact ⟨mA, ⟨od, es, ep, k _ _ (.inl rfl) e, c⟩, r⟩
  | rng lo hi => obtain ⟨t, u, v, e⟩ := x; exact ⟨t, u, v, k _ _ (.inl rfl) e⟩
  | frz ob u ih => obtain ⟨e, q⟩ := x; exact ⟨k _ _ (.inl rfl) e, ih q⟩
  | tbl ps =>
    have e : h.get? a = some { cls := .none, data := .fields ps } := x
    show h'.get? a = some { cls := .none, data := .fields ps }
    exact k a _ (.inl rfl) e
  | met f y =>
    have e : h.get? a = some (PySem.W.methodObj (.ref f) (.ref y)) := x
    show h'.get? a = some (PySem.W.methodObj (.ref f) (.ref y))
    exact k a _ (.inl rfl) e
  | ext φ => obtain ⟨p, ⟨o, e⟩, st⟩ := x; exact ⟨st _ _ p fun o q => k _ _ (.inl rfl) q, ⟨o, k _ _ (.inl rfl) e⟩, st⟩
theorem HOk.lt (x : HOk P w H h) (e : H a = some o) : a < h.objs.size := (x a o e).lt
theorem HOk.fresh (x : HOk P w H h) (e : h.objs.size ≤ a) : H a = none := by
  cases q : H a with
  | none => rfl
  | some u => exact absurd (Nat.lt_of_lt_of_le (x.lt q) e) (Nat.lt_irrefl _)
/-- every object of the heap is kept -/
theorem HOk.kept (x : HOk P w H h) (k : ∀ b u, h.get? b = some u → h'.get? b = some u) : HOk P w H h' := fun a o e =>
  (x a o e).stay (fun b u _ q => k b u q) (fun _ q => q) fun _ _ q => q
/-- a new object is laid and tracked -/
theorem HOk.laid (x : HOk P w H h) (k : ∀ b u, h.get? b = some u → h'.get? b = some u) (hp : h.objs.size ≤ a) (new : ObjOk P w (upd H a o) h' a o) : HOk P w (upd H a o) h' := fun b u e => by
  have hn := x.fresh hp
  by_cases hb : b = a
  · subst hb; rw [upd_same] at e; cases e; exact new
  · rw [upd_ne hb] at e
    exact (x b u e).stay (fun c v _ q => k c v q) (fun c q => by rw [upd_ne (ne_of_none q hn)]; exact q) fun c xs q => by rw [upd_ne (ne_of_none q hn)]; exact q
end

/-- what may be read as u: it is u, or a known u -/
def Rd (H : Hp) (a : Addr) (u : HO) : Prop := H a = some u ∨ ∃ o, H a = some (.frz o u)
theorem Rd.ok {P : Program} {w : World} {H : Hp} {h : Heap} {a : Addr} {u : HO} (r : Rd H a u) (x : HOk P w H h) : ObjOk P w H h a u := by
  rcases r with r | ⟨o, r⟩
  · exact x a u r
  · obtain ⟨_, q⟩ := x a _ r
    exact q
/-- what may be written -/
def Mut : Option HO → Prop
  | some (.lst _) => True
  | some (.dK _) => True
  | some (.dT _) => True
  | some (.set _ _) => True
  | some (.ins _ _ _) => True
  | some (.ext _) => True
  | _ => False
section
variable {P : Program} {w : World} {H : Hp} {h h' : Heap} {x e : Addr} {o' : HO}
/-- the object at e is changed: x itself, or the dict of the instance x -/
theorem HOk.write (ok : HOk P w H h) (mu : Mut (H x)) (he : e = x ∨ H e = some (.own x)) (k : ∀ b u, b ≠ e → h.get? b = some u → h'.get? b = some u) (heo : ∃ u, h'.get? e = some u)
    (new : ObjOk P w (upd H x o') h' x o') : HOk P w (upd H x o') h' := fun b u q => by
  have nown : ∀ c y, H c = some (.own y) → c ≠ x := fun c y r z => by subst z; rw [r] at mu; exact mu
  have ntup : ∀ c xs, H c = some (.tup xs) → c ≠ x := fun c xs r z => by subst z; rw [r] at mu; exact mu
  by_cases hb : b = x
  · subst hb; rw [upd_same] at q; cases q; exact new
  · rw [upd_ne hb] at q
    by_cases hbe : b = e
    · have q' : H b = some (.own x) := by
        rcases he with z | z
        · exact absurd (hbe.trans z) hb
        · rw [hbe]; exact z
      rw [q] at q'; cases q'
      obtain ⟨v, hv⟩ := heo
      exact ⟨v, by rw [hbe]; exact hv⟩
    · refine (ok b u q).stay (fun c v hc r => k c v ?_ r) (fun c r => by rw [upd_ne (nown c b r)]; exact r) fun c xs r => by rw [upd_ne (ntup c xs r)]; exact r
      rcases hc with rfl | hc
      · exact hbe
      · rintro rfl
        rcases he with z | z
        · exact nown c b hc z
        · rw [hc] at z; cases z; exact hb rfl
end

/-! ### kept unless tracked; of the frames at fs (the callers') the slots may change (an exception that passes writes there); of the records at ex (iterators) nothing is said -/
structure Un (fs ex : List Addr) (H H' : Hp) (h h' : Heap) : Prop where
  keep : ∀ b o, h.get? b = some o → H b = none → b ∉ fs → b ∉ ex → h'.get? b = some o
  slot : ∀ b o, h.get? b = some o → H b = none → b ∈ fs → b ∉ ex → ∃ sl, h'.get? b = some { o with slots := sl }
  free : ∀ b o, h.get? b = some o → H b = none → b ∉ ex → H' b = none
  there : ∀ b o, h.get? b = some o → b ∉ ex → ∃ o', h'.get? b = some o'
  tups : ∀ b xs, H b = some (.tup xs) → H' b = some (.tup xs)
  frzs : ∀ b o u, H b = some (.frz o u) → H' b = some (.frz o u)
  tbls : ∀ b ps, H b = some (.tbl ps) → ∃ more, H' b = some (.tbl (ps ++ more))
section
variable {fs fs' ex ex' : List Addr} {H H1 H2 : Hp} {h h1 h2 h' : Heap} {a x e : Addr} {o : HO}
theorem Un.any (u : Un fs ex H H1 h h1) {b : Addr} {ob : Obj} (q : h.get? b = some ob) (n : H b = none) (hx : b ∉ ex) : ∃ sl, h1.get? b = some { ob with slots := sl } := by
  by_cases hb : b ∈ fs
  · exact u.slot b ob q n hb hx
  · exact ⟨ob.slots, u.keep b ob q n hb hx⟩
theorem Un.kept (k : ∀ b u, h.get? b = some u → h'.get? b = some u) : Un fs ex H H h h' :=
  ⟨fun b ob q _ _ _ => k b ob q, fun b ob q _ _ _ => ⟨ob.slots, k b ob q⟩, fun _ _ _ n _ => n, fun b ob q _ => ⟨ob, k b ob q⟩, fun _ _ q => q, fun _ _ _ q => q, fun _ ps q => ⟨#[], by rw [q]; simp⟩⟩
theorem Un.refl : Un fs ex H H h h := Un.kept fun _ _ q => q
theorem Un.laid (k : ∀ b u, h.get? b = some u → h'.get? b = some u) (hp : h.objs.size ≤ a) (hn : H a = none) : Un fs ex H (upd H a o) h h' where
  keep := fun b u q _ _ _ => k b u q
  slot := fun b u q _ _ _ => ⟨u.slots, k b u q⟩
  free := fun b u q n _ => by rw [upd_ne (Nat.ne_of_lt (Nat.lt_of_lt_of_le (Heap.lt_size q) hp))]; exact n
  there := fun b u q _ => ⟨u, k b u q⟩
  tups := fun b xs q => by rw [upd_ne (ne_of_none q hn)]; exact q
  frzs := fun b u xs q => by rw [upd_ne (ne_of_none q hn)]; exact q
  tbls := fun b ps q => ⟨#[], by rw [upd_ne (ne_of_none q hn), q]; simp⟩
theorem Un.write (mu : Mut (H x)) (he : e = x ∨ H e = some (.own x)) (k : ∀ b u, b ≠ e → h.get? b = some u → h'.get? b = some u) (heo : ∃ u, h'.get? e = some u) : Un fs ex H (upd H x o) h h' := by
  have hx : ∀ b, H b = none → b ≠ x := fun b n z => by subst z; rw [n] at mu; exact mu
  have hb : ∀ b, H b = none → b ≠ e := fun b n z => by
    subst z
    rcases he with r | r
    · exact hx b n r
    · rw [n] at r; cases r
  have hm : ∀ b u, H b = some u → ¬ Mut (some u) → b ≠ x := fun b u q nm z => by subst z; rw [q] at mu; exact nm mu
  refine ⟨fun b u q n _ _ => k b u (hb b n) q, fun b u q n _ _ => ⟨u.slots, k b u (hb b n) q⟩, fun b u q n _ => by rw [upd_ne (hx b n)]; exact n, fun b u q _ => ?_,
    fun b xs q => by rw [upd_ne (hm b _ q fun z => z)]; exact q, fun b u xs q => by rw [upd_ne (hm b _ q fun z => z)]; exact q, fun b ps q => ⟨#[], by rw [upd_ne (hm b _ q fun z => z), q]; simp⟩⟩
  by_cases hbe : b = e
  · subst hbe; exact heo
  · exact ⟨u, k b u hbe q⟩
end

/-! ### the heap without what is tracked -/
def trk (h : Heap) (H : Hp) : List Addr := (List.range h.objs.size).filter fun a => (H a).isSome
def hidT (h : Heap) (H : Hp) : Heap := PySem.W.hideAll h (trk h H)
theorem hidT_size (h : Heap) (H : Hp) : (hidT h H).objs.size = h.objs.size := PySem.W.hideAll_size _ _
theorem hidT_get {h : Heap} {H : Hp} {b : Addr} {o : Obj} (e : h.get? b = some o) (n : H b = none) : (hidT h H).get? b = some o :=
  PySem.W.hideAll_get _ e fun hm => by
    have q : (H b).isSome = true := (List.mem_filter.mp hm).2
    rw [n] at q; simp at q
theorem of_hidT {h : Heap} {H : Hp} {b : Addr} {o : Obj} (e : (hidT h H).get? b = some o) : h.get? b = some o ∧ H b = none := by
  have e' : h.get? b = some o := PySem.W.of_hideAll (trk h H) e
  refine ⟨e', ?_⟩
  cases q : H b with
  | none => rfl
  | some x =>
    have hm : b ∈ trk h H := List.mem_filter.mpr ⟨List.mem_range.mpr (Heap.lt_size e'), by simp [q]⟩
    have z : (hidT h H).get? b = none := PySem.W.hideAll_none (trk h H) hm
    rw [z] at e; cases e

/-! ### OpenK's ledger, filled with every new object but one -/
end L2

namespace L2
open PySem PySem.Spec PyProof.Rows

/-- the module's facts, over the base: the heap at the law's entry without what is tracked there -/
structure Mod (K : PySem.W.Frag) (mg : Str → Option Value) (base : Heap) : Prop where
  kin : K.In base
  glob : base.Ns mainGlobals mg
  blt : ∃ mb, base.Ns builtinsNs mb ∧ ∀ x : Str, x ≠ "__name__" → mb x = bootBuiltins x
  nolimit : base.NoLimit

/-- the context: a def's body (or a comprehension's block) running. base: fixed through the whole law; s₀, H₀: the entry; outer: the frames whose slots others may change (a def's callers); stack: all frames that run;
   ex: iterators that were made ahead of the entry and are walked here (a comprehension's); fn: the names whose cells were made at the entry (a def: all; a comprehension's block: its own); calm: not within an except suite; pn: pins that every state bears; xe: what is wanted of an exception that leaves the code -/
structure Cx where
  prog : Program
  w : World
  K : PySem.W.Frag
  mg : Str → Option Value
  base : Heap
  A : Around
  N : List Str
  s₀ : Shared
  H₀ : Hp
  env : Env
  outer : List Env
  stack : List Env
  ex : List Addr
  fn : Str → Bool
  calm : Bool
  pn : List (Addr × Obj)
  xe : Value → Shared → Prop
/-- the callers' frames -/
def frs (l : List Env) : List Addr := l.filterMap (·.frame)
abbrev Cx.fs (X : Cx) : List Addr := frs X.outer

def Vis (sc : Scope) (x : Str) : Prop := sc.names.lookup x = some .local ∨ sc.names.lookup x = some .cell ∨ sc.names.lookup x = some .free
def Loc (sc : Scope) (x : Str) : Prop := sc.names.lookup x = some .local ∨ sc.names.lookup x = some .cell
def Look (env : Env) (h : Heap) (m : Str → Option Value) (x : Str) (u : Value) : Prop :=
  (env.kindOf x = some .local ∧ m x = some u) ∨ ((env.kindOf x = some .cell ∨ env.kindOf x = some .free) ∧ ∃ c, env.cells.lookup x = some c ∧ h.IsCell c (some u))

structure Cx.Ok (X : Cx) : Prop where
  mod : Mod X.K X.mg X.base
  kind : X.env.scope.kind = .function
  glob : X.env.globals = mainGlobals
  blt : X.env.builtins = builtinsNs
  above : X.s₀.heap.objs.size ≤ X.env.locals
  inj : ∀ x y c, X.env.cells.lookup x = some c → X.env.cells.lookup y = some c → x = y
  has : ∀ x, (X.env.kindOf x = some .cell ∨ X.env.kindOf x = some .free) → ∃ c, X.env.cells.lookup x = some c
  cab : ∀ x c, X.fn x = true → X.env.cells.lookup x = some c → X.s₀.heap.objs.size ≤ c
  hd : X.calm = true → X.A.handled = none
  frames : X.A.frames = some X.stack
  stk : X.stack = X.outer ∨ (X.stack = X.env :: X.outer ∧ X.env.frame = some X.env.locals)
  exf : ∀ b ∈ X.ex, b ≠ X.env.locals ∧ ∀ x c, X.env.cells.lookup x = some c → c ≠ b
  bs : ∀ b o, X.base.get? b = some o → X.s₀.heap.get? b = some o ∧ X.H₀ b = none
  bsz : X.base.objs.size ≤ X.s₀.heap.objs.size
  noex : ∀ b o, X.base.get? b = some o → b ∉ X.ex
  exfs : ∀ b ∈ X.ex, b ∉ X.fs
  funs : X.s₀.heap.FunFrames X.base X.outer
  frf : ∀ b ∈ X.fs, X.H₀ b = none

structure Inv (X : Cx) (pins : List (Addr × Obj)) (σ : List (Option V)) (H : Hp) (s : Shared) : Prop where
  ok : X.Ok
  os : s.os = X.s₀.os
  bare : AllBare s.gens
  base : Un X.fs X.ex X.H₀ H X.s₀.heap s.heap
  loc : ∃ m, s.heap.Ns X.env.locals m ∧ ∀ (i : Nat) (x : Str) (v : V), X.N[i]? = some x → σ[i]? = some (some v) → Vis X.env.scope x → ∃ u, RelV v u ∧ Look X.env s.heap m x u
  cell : ∀ x c, X.env.cells.lookup x = some c → ∃ v, s.heap.IsCell c v
  free : H X.env.locals = none
  freeC : ∀ x c, X.env.cells.lookup x = some c → H c = none
  pin : ∀ p ∈ X.pn ++ pins, s.heap.get? p.1 = some p.2 ∧ H p.1 = none ∧ p.1 ≠ X.env.locals ∧ p.1 ∉ X.fs ∧ ∀ v, p.2.data ≠ .cell v
  hok : HOk X.prog X.w H s.heap
  len : σ.length = X.N.length

section
variable {X : Cx} {pins : List (Addr × Obj)} {σ : List (Option V)} {H H' : Hp} {s : Shared} {h' : Heap}

theorem Cx.Ok.nofr (ok : X.Ok) {b : Addr} {o : Obj} (e : X.base.get? b = some o) : b ∉ X.fs := fun hb => by
  have := (ok.funs.mem hb).1
  rw [e] at this; cases this
theorem Inv.bs (I : Inv X pins σ H s) : ∀ b o, X.base.get? b = some o → s.heap.get? b = some o ∧ H b = none := fun b o e =>
  ⟨I.base.keep b o (I.ok.bs b o e).1 (I.ok.bs b o e).2 (I.ok.nofr e) (I.ok.noex b o e), I.base.free b o (I.ok.bs b o e).1 (I.ok.bs b o e).2 (I.ok.noex b o e)⟩
theorem Inv.bk (I : Inv X pins σ H s) : ∀ b o, X.base.get? b = some o → s.heap.get? b = some o := fun b o e => (I.bs b o e).1
theorem Inv.mod (I : Inv X pins σ H s) : Mod X.K X.mg X.base := I.ok.mod
theorem Inv.kIn (I : Inv X pins σ H s) : X.K.In s.heap := I.ok.mod.kin.keeps I.bk
theorem Inv.lt (I : Inv X pins σ H s) : X.env.locals < s.heap.objs.size := let ⟨_, hn, _⟩ := I.loc; hn.lt
theorem Inv.sz (I : Inv X pins σ H s) : X.s₀.heap.objs.size ≤ s.heap.objs.size := Nat.le_trans I.ok.above (Nat.le_of_lt I.lt)
theorem Inv.nofs (I : Inv X pins σ H s) {a : Addr} (h : s.heap.objs.size ≤ a) : a ∉ X.fs := fun hb => by
  obtain ⟨_, o, ho, _⟩ := I.ok.funs.mem hb
  exact absurd (Nat.lt_of_lt_of_le (Heap.lt_size ho) (Nat.le_trans I.sz h)) (Nat.lt_irrefl _)
theorem Inv.cne (I : Inv X pins σ H s) : ∀ x c, X.env.cells.lookup x = some c → c ≠ X.env.locals := fun x c e z => by
  obtain ⟨v, o, ho, hd⟩ := I.cell x c e
  obtain ⟨m, ⟨o', es, ep, ho', hd', _⟩, _⟩ := I.loc
  rw [z, ho'] at ho; cases ho; rw [hd'] at hd; cases hd
theorem Inv.funs (I : Inv X pins σ H s) : s.heap.FunFrames X.base X.outer := by
  have all : ∀ (l : List Env), (∀ b ∈ frs l, b ∈ X.fs) → X.s₀.heap.FunFrames X.base l → s.heap.FunFrames X.base l := by
    intro l
    induction l with
    | nil => intro _ _; trivial
    | cons env r ih =>
      intro hs hl
      obtain ⟨hk, ⟨L, o, hf, hn, ho, hd⟩, hr⟩ := hl
      have hL : L ∈ X.fs := hs L (by unfold frs; rw [List.filterMap_cons, hf]; exact List.mem_cons_self)
      obtain ⟨sl, e⟩ := I.base.slot L o ho (I.ok.frf L hL) hL fun z => I.ok.exfs L z hL
      exact ⟨hk, ⟨L, _, hf, hn, e, hd⟩, ih (fun b hb => hs b (by unfold frs; rw [List.filterMap_cons, hf]; exact List.mem_cons_of_mem _ hb)) hr⟩
  exact all X.outer (fun _ hb => hb) I.ok.funs

/-- the frames that run, for a call -/
theorem Inv.stack (I : Inv X pins σ H s) : s.heap.FunFrames X.base X.stack := by
  rcases I.ok.stk with e | ⟨e, hf⟩
  · rw [e]; exact I.funs
  · rw [e]
    obtain ⟨m, hn, _⟩ := I.loc
    refine .cons (by rw [I.ok.kind]; decide) hf hn ?_ I.funs
    exact Heap.get?_none_of_le (Nat.le_trans I.ok.bsz I.ok.above)
theorem Inv.stkSub (I : Inv X pins σ H s) : ∀ b ∈ frs X.stack, b ∈ X.env.locals :: X.fs := fun b hb => by
  rcases I.ok.stk with e | ⟨e, hf⟩
  · rw [e] at hb; exact List.mem_cons_of_mem _ hb
  · rw [e] at hb
    unfold frs at hb
    rw [List.filterMap_cons, hf] at hb
    exact hb
theorem Inv.stkFree (I : Inv X pins σ H s) : ∀ b ∈ frs X.stack, H b = none := fun b hb => by
  rcases List.mem_cons.mp (I.stkSub b hb) with e | hb
  · rw [e]; exact I.free
  · obtain ⟨_, o, ho, _⟩ := I.ok.funs.mem hb
    exact I.base.free b o ho (I.ok.frf b hb) fun z => I.ok.exfs b z hb

/-- THE STEP: the untracked objects but the frame and the records at ch are kept (the callers' frames up to slots), the frame's map is kept, the new abstract heap is held -/
theorem Inv.step {g' : Array GenState} {t' : Nat} {d' : Drawn} {ch : List Addr} (I : Inv X pins σ H s)
    (hch : ∀ b ∈ ch, (b ∈ X.ex ∨ X.s₀.heap.objs.size ≤ b) ∧ b ≠ X.env.locals ∧ (∀ x c, X.env.cells.lookup x = some c → c ≠ b) ∧ ∀ p ∈ X.pn ++ pins, p.1 ≠ b)
    (keep : ∀ b o, b ≠ X.env.locals → b ∉ X.fs → b ∉ ch → s.heap.get? b = some o → H b = none → h'.get? b = some o)
    (slot : ∀ b o, b ≠ X.env.locals → b ∈ X.fs → b ∉ ch → s.heap.get? b = some o → H b = none → ∃ sl, h'.get? b = some { o with slots := sl }) (free : ∀ b o, b ∉ ch → s.heap.get? b = some o → H b = none → H' b = none)
    (there : ∀ b o, b ∉ ch → s.heap.get? b = some o → ∃ o', h'.get? b = some o')
    (tups : ∀ b xs, H b = some (.tup xs) → H' b = some (.tup xs)) (frzs : ∀ b o u, H b = some (.frz o u) → H' b = some (.frz o u)) (tbls : ∀ b ps, H b = some (.tbl ps) → ∃ more, H' b = some (.tbl (ps ++ more)))
    (ns : ∀ m, s.heap.Ns X.env.locals m → h'.Ns X.env.locals m) (hok : HOk X.prog X.w H' h') (hg : AllBare g') :
    Inv X pins σ H' { s with heap := h', gens := g', drawn := d', toks := t' } := by
  have neL : ∀ b o, X.s₀.heap.get? b = some o → b ≠ X.env.locals := fun b o e => Nat.ne_of_lt (Nat.lt_of_lt_of_le (Heap.lt_size e) I.ok.above)
  have neC : ∀ b o, X.s₀.heap.get? b = some o → b ∉ X.ex → b ∉ ch := fun b o e hx hb => by
    rcases (hch b hb).1 with z | z
    · exact hx z
    · exact absurd (Nat.lt_of_lt_of_le (Heap.lt_size e) z) (Nat.lt_irrefl _)
  have cellK : ∀ x c, X.env.cells.lookup x = some c → ∀ v, s.heap.IsCell c v → h'.IsCell c v := fun x c e v ⟨o, ho, hd⟩ => by
    have nch : c ∉ ch := fun z => (hch c z).2.2.1 x c e rfl
    by_cases hc : c ∈ X.fs
    · obtain ⟨sl, q⟩ := slot c o (I.cne x c e) hc nch ho (I.freeC x c e)
      exact ⟨_, q, hd⟩
    · exact ⟨o, keep c o (I.cne x c e) hc nch ho (I.freeC x c e), hd⟩
  refine ⟨I.ok, I.os, hg, ⟨fun b o e n hb hx => ?_, fun b o e n hb hx => ?_, fun b o e n hx => ?_, fun b o e hx => ?_, fun b xs e => tups b xs (I.base.tups b xs e), fun b o xs e => frzs b o xs (I.base.frzs b o xs e), fun b ps e => ?_⟩, ?_, fun x c e => ?_, ?_, fun x c e => ?_, fun p hp => ?_, hok, I.len⟩
  · exact keep b o (neL b o e) hb (neC b o e hx) (I.base.keep b o e n hb hx) (I.base.free b o e n hx)
  · obtain ⟨sl, e1⟩ := I.base.slot b o e n hb hx
    obtain ⟨sl', e2⟩ := slot b _ (neL b o e) hb (neC b o e hx) e1 (I.base.free b o e n hx)
    exact ⟨sl', e2⟩
  · obtain ⟨o', e1⟩ := I.base.there b o e hx
    exact free b o' (neC b o e hx) e1 (I.base.free b o e n hx)
  · obtain ⟨o', e1⟩ := I.base.there b o e hx
    exact there b o' (neC b o e hx) e1
  · obtain ⟨m1, e1⟩ := I.base.tbls b ps e
    obtain ⟨m2, e2⟩ := tbls b _ e1
    exact ⟨m1 ++ m2, by rw [e2, Array.append_assoc]⟩
  · obtain ⟨m, hn, hl⟩ := I.loc
    refine ⟨m, ns m hn, fun i x v e1 e2 e3 => ?_⟩
    obtain ⟨u, r, l⟩ := hl i x v e1 e2 e3
    refine ⟨u, r, ?_⟩
    rcases l with l | ⟨k, c, e, z⟩
    · exact .inl l
    · exact .inr ⟨k, c, e, cellK x c e _ z⟩
  · obtain ⟨v, z⟩ := I.cell x c e
    exact ⟨v, cellK x c e v z⟩
  · obtain ⟨m, ⟨o, _, _, ho, _⟩, _⟩ := I.loc
    exact free _ o (fun z => (hch _ z).2.1 rfl) ho I.free
  · obtain ⟨v, o, ho, hd⟩ := I.cell x c e
    exact free c o (fun z => (hch c z).2.2.1 x c e rfl) ho (I.freeC x c e)
  · obtain ⟨e, n, ne, nf, d⟩ := I.pin p hp
    have nch : p.1 ∉ ch := fun z => (hch p.1 z).2.2.2 p hp rfl
    exact ⟨keep p.1 p.2 ne nf nch e n, free p.1 p.2 nch e n, ne, nf, d⟩
/-- .. where the frame's own object is kept too -/
theorem Inv.un {t' : Nat} (I : Inv X pins σ H s) (u : Un X.fs [] H H' s.heap h') (hok : HOk X.prog X.w H' h') : Inv X pins σ H' { s with heap := h', toks := t' } := by
  obtain ⟨m, ⟨o, es, ep, ho, r⟩, _⟩ := id I.loc
  obtain ⟨sl, hL⟩ := u.any ho I.free (by simp)
  exact I.step (g' := s.gens) (d' := s.drawn) (ch := []) (fun _ z => nomatch z) (fun b o _ hb _ e n => u.keep b o e n hb (by simp)) (fun b o _ hb _ e n => u.slot b o e n hb (by simp)) (fun b o _ e n => u.free b o e n (by simp)) (fun b o _ e => u.there b o e (by simp)) u.tups u.frzs u.tbls (fun m' hm => by
    obtain ⟨o', es', ep', ho', r'⟩ := hm
    rw [ho] at ho'; cases ho'
    exact ⟨_, es', ep', hL, r'⟩) hok I.bare
/-- behind a call (or a comprehension's block): the slots of this frame may have changed too, the records at ch may have turned -/
theorem Inv.call {g' : Array GenState} {t' : Nat} {d' : Drawn} {ch : List Addr} (I : Inv X pins σ H s) (u : Un (frs X.stack) ch H H' s.heap h') (hok : HOk X.prog X.w H' h') (hg : AllBare g')
    (hch : ∀ b ∈ ch, (b ∈ X.ex ∨ X.s₀.heap.objs.size ≤ b) ∧ b ≠ X.env.locals ∧ (∀ x c, X.env.cells.lookup x = some c → c ≠ b) ∧ ∀ p ∈ X.pn ++ pins, p.1 ≠ b) :
    Inv X pins σ H' { s with heap := h', gens := g', drawn := d', toks := t' } := by
  obtain ⟨m, ⟨o, es, ep, ho, r⟩, _⟩ := id I.loc
  obtain ⟨sl, hL⟩ := u.any ho I.free fun z => (hch _ z).2.1 rfl
  exact I.step (ch := ch) hch (fun b o hL hb hc e n => u.keep b o e n (fun z => (List.mem_cons.mp (I.stkSub b z)).elim hL hb) hc) (fun b o _ _ hc e n => u.any e n hc) (fun b o hc e n => u.free b o e n hc) (fun b o hc e => u.there b o e hc) u.tups u.frzs u.tbls (fun m' hm => by
    obtain ⟨o', es', ep', ho', r'⟩ := hm
    rw [ho] at ho'; cases ho'
    exact ⟨_, es', ep', hL, r'⟩) hok hg
/-- an untracked record of ours (an iterator) has turned -/
theorem Inv.turned {t' : Nat} {it : Addr} (I : Inv X pins σ H s) (k : ∀ b o, b ≠ it → s.heap.get? b = some o → h'.get? b = some o) (hn : H it = none) (hL : it ≠ X.env.locals)
    (h1 : it ∈ X.ex ∨ X.s₀.heap.objs.size ≤ it) (h2 : ∀ x c, X.env.cells.lookup x = some c → c ≠ it) (h3 : ∀ p ∈ X.pn ++ pins, p.1 ≠ it) : Inv X pins σ H { s with heap := h', toks := t' } := by
  have nit : ∀ b u, H b = some u → b ≠ it := fun b u e z => by rw [z, hn] at e; cases e
  refine I.step (g' := s.gens) (d' := s.drawn) (ch := [it]) (fun b hb => ?_) (fun b o _ _ hc e _ => k b o (fun z => hc (by simp [z])) e) (fun b o _ _ hc e _ => ⟨o.slots, k b o (fun z => hc (by simp [z])) e⟩) (fun _ _ _ _ n => n)
    (fun b o hc e => ⟨o, k b o (fun z => hc (by simp [z])) e⟩) (fun _ _ e => e) (fun _ _ _ e => e) (fun b ps e => ⟨#[], by rw [e]; simp⟩) (fun m hm => ?_) (fun b u e => ?_) I.bare
  · have e : b = it := by simpa using hb
    subst e
    exact ⟨h1, hL, h2, h3⟩
  · obtain ⟨o, es, ep, ho, r⟩ := hm
    exact ⟨o, es, ep, k _ o (Ne.symm hL) ho, r⟩
  · refine (I.hok b u e).stay (fun c v hc q => k c v ?_ q) (fun _ q => q) fun _ _ q => q
    rcases hc with z | z
    · rw [z]; exact nit b u e
    · exact nit c _ z
theorem Inv.tok (I : Inv X pins σ H s) (t : Nat) : Inv X pins σ H { s with toks := t } := I.un (h' := s.heap) (t' := t) Un.refl I.hok
/-- all objects kept -/
theorem Inv.kept {t' : Nat} (I : Inv X pins σ H s) (k : ∀ b u, s.heap.get? b = some u → h'.get? b = some u) : Inv X pins σ H { s with heap := h', toks := t' } := I.un (Un.kept k) (I.hok.kept k)
/-- a new object laid and tracked -/
theorem Inv.laid {a : Addr} {o : HO} {t' : Nat} (I : Inv X pins σ H s) (k : ∀ b u, s.heap.get? b = some u → h'.get? b = some u) (hp : s.heap.objs.size ≤ a) (new : ObjOk X.prog X.w (upd H a o) h' a o) :
    Inv X pins σ (upd H a o) { s with heap := h', toks := t' } := I.un (Un.laid k hp (I.hok.fresh hp)) (I.hok.laid k hp new)
/-- an object written -/
theorem Inv.write {x e : Addr} {o : HO} {t' : Nat} (I : Inv X pins σ H s) (mu : Mut (H x)) (he : e = x ∨ H e = some (.own x)) (k : ∀ b u, b ≠ e → s.heap.get? b = some u → h'.get? b = some u) (heo : ∃ u, h'.get? e = some u)
    (new : ObjOk X.prog X.w (upd H x o) h' x o) : Inv X pins σ (upd H x o) { s with heap := h', toks := t' } := I.un (Un.write mu he k heo) (I.hok.write mu he k heo new)
theorem Inv.pins_of {pins' : List (Addr × Obj)} (I : Inv X pins σ H s) (h : ∀ p ∈ pins', s.heap.get? p.1 = some p.2 ∧ H p.1 = none ∧ p.1 ≠ X.env.locals ∧ p.1 ∉ X.fs ∧ ∀ v, p.2.data ≠ .cell v) : Inv X pins' σ H s :=
  ⟨I.ok, I.os, I.bare, I.base, I.loc, I.cell, I.free, I.freeC, fun p hp => (List.mem_append.mp hp).elim (fun z => I.pin p (List.mem_append_left _ z)) (h p), I.hok, I.len⟩

theorem nodup_ix {N : List Str} (hN : N.Nodup) {i j : Nat} {x : Str} (a : N[i]? = some x) (b : N[j]? = some x) : i = j := by
  obtain ⟨h1, e1⟩ := List.getElem?_eq_some_iff.mp a
  obtain ⟨h2, e2⟩ := List.getElem?_eq_some_iff.mp b
  exact (List.getElem_inj hN).mp (e1.trans e2.symm)

/-- a name is stored; what changed -/
theorem store_ok2 {M : Model} {A : Around} {E : Value → Shared → Prop} {i : Nat} {x : Str} {v : V} {u : Value} {Q : Unit → Shared → Prop} (I : Inv X pins σ H s) (hN : X.N.Nodup) (hi : X.N[i]? = some x) (hx : Loc X.env.scope x) (r : RelV v u)
    (h : ∀ s', Inv X pins (σ.set i (some v)) H s' → (∃ a, Heap.SameBut a s.heap s'.heap ∧ (a = X.env.locals ∨ X.env.cells.lookup x = some a)) → Q () s') (hf : X.fn x = true ∨ X.env.scope.names.lookup x = some .local := by first | exact .inl rfl | exact .inr rfl | assumption) : wpAny M A (storeName X.env x u) Q E s := by
  obtain ⟨m, hn, hl⟩ := id I.loc
  have hcls : (X.env.scope.kind == .class || (X.env.scope.kind == .module && X.env.locals != X.env.globals)) = false := by rw [I.ok.kind]; rfl
  have hiσ : i < σ.length := by rw [I.len]; exact (List.getElem?_eq_some_iff.mp hi).1
  have cne := I.cne
  have tracked : ∀ {a : Addr} {h' : Heap}, (∃ o, s.heap.get? a = some o ∧ H a = none) → Heap.SameBut a s.heap h' → HOk X.prog X.w H h' := fun {a h'} ha hs b ob e => by
    obtain ⟨_, _, hfree⟩ := ha
    refine (I.hok b ob e).stay (fun c w' hc q => (hs.2 c ?_).trans q) (fun _ q => q) fun _ _ q => q
    rintro rfl
    rcases hc with rfl | hc
    · rw [hfree] at e; cases e
    · rw [hfree] at hc; cases hc
  rcases hx with hk | hk
  · refine wpAny_storeName_local hk hn (fun h' hn' hs => ?_) hcls
    obtain ⟨oL, _, _, hoL, _⟩ := id hn
    refine h _ ⟨I.ok, I.os, I.bare, ⟨fun b o e n hb hx => ?_, fun b o e n hb hx => ?_, I.base.free, fun b o e hx => ?_, I.base.tups, I.base.frzs, I.base.tbls⟩, ⟨_, hn', fun j y v' e1 e2 e3 => ?_⟩, fun y c e => ?_, I.free, I.freeC, fun p hp => ?_, tracked ⟨oL, hoL, I.free⟩ hs, by simpa using I.len⟩ ⟨_, hs, .inl rfl⟩
    · exact (hs.2 b (Nat.ne_of_lt (Nat.lt_of_lt_of_le (Heap.lt_size e) I.ok.above))).trans (I.base.keep b o e n hb hx)
    · obtain ⟨sl, e1⟩ := I.base.slot b o e n hb hx
      exact ⟨sl, (hs.2 b (Nat.ne_of_lt (Nat.lt_of_lt_of_le (Heap.lt_size e) I.ok.above))).trans e1⟩
    · obtain ⟨o', e1⟩ := I.base.there b o e hx
      exact ⟨o', (hs.2 b (Nat.ne_of_lt (Nat.lt_of_lt_of_le (Heap.lt_size e) I.ok.above))).trans e1⟩
    · by_cases hj : j = i
      · subst hj
        rw [hi] at e1; cases e1
        rw [List.getElem?_set_self hiσ] at e2
        cases e2
        exact ⟨u, r, .inl ⟨hk, by simp⟩⟩
      · rw [List.getElem?_set_ne (Ne.symm hj)] at e2
        obtain ⟨u', r', q⟩ := hl j y v' e1 e2 e3
        refine ⟨u', r', ?_⟩
        rcases q with ⟨k, e⟩ | ⟨k, c, e, z⟩
        · refine .inl ⟨k, ?_⟩
          have : y ≠ x := fun e => hj (nodup_ix hN e1 (e ▸ hi))
          simp [this, e]
        · exact .inr ⟨k, c, e, z.sameBut hs (cne y c e)⟩
    · obtain ⟨w', z⟩ := I.cell y c e
      exact ⟨w', z.sameBut hs (cne y c e)⟩
    · obtain ⟨e, n, ne, nf, d⟩ := I.pin p hp
      exact ⟨(hs.2 p.1 ne).trans e, n, ne, nf, d⟩
  · have hfn : X.fn x = true := by
      rcases hf with z | z
      · exact z
      · rw [z] at hk; cases hk
    obtain ⟨c, hc⟩ := I.ok.has x (.inl hk)
    obtain ⟨w', z⟩ := I.cell x c hc
    refine wpAny_storeName_cell I.ok.kind hk hc z (fun h' hc' hs => ?_)
    obtain ⟨oc, hoc, hocd⟩ := id z
    refine h { s with heap := h' } ⟨I.ok, I.os, I.bare, ⟨fun b o e n hb hx => ?_, fun b o e n hb hx => ?_, I.base.free, fun b o e hx => ?_, I.base.tups, I.base.frzs, I.base.tbls⟩, ⟨m, hn.sameBut hs (Ne.symm (cne x c hc)), fun j y v' e1 e2 e3 => ?_⟩, fun y c' e => ?_, I.free, I.freeC, fun p hp => ?_, tracked ⟨oc, hoc, I.freeC x c hc⟩ hs, by simpa using I.len⟩ ⟨c, hs, .inr hc⟩
    · exact (hs.2 b (Nat.ne_of_lt (Nat.lt_of_lt_of_le (Heap.lt_size e) (I.ok.cab x c hfn hc)))).trans (I.base.keep b o e n hb hx)
    · obtain ⟨sl, e1⟩ := I.base.slot b o e n hb hx
      exact ⟨sl, (hs.2 b (Nat.ne_of_lt (Nat.lt_of_lt_of_le (Heap.lt_size e) (I.ok.cab x c hfn hc)))).trans e1⟩
    · obtain ⟨o', e1⟩ := I.base.there b o e hx
      exact ⟨o', (hs.2 b (Nat.ne_of_lt (Nat.lt_of_lt_of_le (Heap.lt_size e) (I.ok.cab x c hfn hc)))).trans e1⟩
    · by_cases hj : j = i
      · subst hj
        rw [hi] at e1; cases e1
        rw [List.getElem?_set_self hiσ] at e2
        cases e2
        exact ⟨u, r, .inr ⟨.inl hk, c, hc, hc'⟩⟩
      · rw [List.getElem?_set_ne (Ne.symm hj)] at e2
        obtain ⟨u', r', q⟩ := hl j y v' e1 e2 e3
        refine ⟨u', r', ?_⟩
        rcases q with q | ⟨k, c', e, z'⟩
        · exact .inl q
        · refine .inr ⟨k, c', e, z'.sameBut hs ?_⟩
          rintro rfl
          exact hj (nodup_ix hN e1 (I.ok.inj _ _ _ e hc ▸ hi))
    · by_cases hcc : c' = c
      · subst hcc; exact ⟨_, hc'⟩
      · obtain ⟨w2, z2⟩ := I.cell y c' e
        exact ⟨w2, z2.sameBut hs hcc⟩
    · obtain ⟨e, n, ne, nf, d⟩ := I.pin p hp
      refine ⟨(hs.2 p.1 ?_).trans e, n, ne, nf, d⟩
      intro q
      rw [q, hoc] at e
      have q' : oc = p.2 := Option.some.inj e
      exact d w' (by rw [← q']; exact hocd)
theorem store_ok {M : Model} {A : Around} {E : Value → Shared → Prop} {i : Nat} {x : Str} {v : V} {u : Value} {Q : Unit → Shared → Prop} (I : Inv X pins σ H s) (hN : X.N.Nodup) (hi : X.N[i]? = some x) (hx : Loc X.env.scope x) (r : RelV v u)
    (h : ∀ s', Inv X pins (σ.set i (some v)) H s' → Q () s') (hf : X.fn x = true ∨ X.env.scope.names.lookup x = some .local := by first | exact .inl rfl | exact .inr rfl | assumption) : wpAny M A (storeName X.env x u) Q E s :=
  store_ok2 I hN hi hx r (fun s' I' _ => h s' I') hf
/-- behind a call or a block, the state as it is -/
theorem Inv.call' {s' : Shared} {ch : List Addr} (I : Inv X pins σ H s) (ho : s'.os = s.os) (u : Un (frs X.stack) ch H H' s.heap s'.heap) (hok : HOk X.prog X.w H' s'.heap) (hg : AllBare s'.gens)
    (hch : ∀ b ∈ ch, (b ∈ X.ex ∨ X.s₀.heap.objs.size ≤ b) ∧ b ≠ X.env.locals ∧ (∀ x c, X.env.cells.lookup x = some c → c ≠ b) ∧ ∀ p ∈ X.pn ++ pins, p.1 ≠ b) : Inv X pins σ H' s' := by
  obtain ⟨h', g', d', t', o'⟩ := s'
  have e : o' = s.os := ho
  subst e
  exact I.call (g' := g') (t' := t') (d' := d') u hok hg hch
end

/-! ### the judgements -/
/-- an exception: its class, its own dict's address (where it has one), the abstract heap behind it -/
abbrev XK := Value → Option Addr → Hp → Prop
abbrev St := List (Option V)
abbrev VK := V → Hp → Prop
/-- an expression's reading; a test's; an argument list's -/
abbrev TE := St → Hp → VK → Prop
abbrev TT := St → Hp → (Bool → Hp → Prop) → Prop
abbrev TA := St → Hp → (List V → Hp → Prop) → Prop
/-- what is wanted behind a statement -/
structure Ends where
  nx : St → Hp → Prop
  rt : VK
  bk : St → Hp → Prop := fun _ _ => False
  ct : St → Hp → Prop := fun _ _ => False
abbrev TS := Ends → St → Hp → Prop

def EP (X : Cx) (pins : List (Addr × Obj)) (σ : St) (Q : VK) (u : Value) (s' : Shared) : Prop := ∃ v H', Inv X pins σ H' s' ∧ RelV v u ∧ Q v H'
def TP (X : Cx) (pins : List (Addr × Obj)) (σ : St) (Q : Bool → Hp → Prop) (b : Bool) (s' : Shared) : Prop := ∃ H', Inv X pins σ H' s' ∧ Q b H'
def AP (X : Cx) (pins : List (Addr × Obj)) (σ : St) (Q : List V → Hp → Prop) (us : List Value) (s' : Shared) : Prop := ∃ vs H', Inv X pins σ H' s' ∧ Vals vs us ∧ Q vs H'
def SP (X : Cx) (pins : List (Addr × Obj)) (D : Ends) (f : Flow) (s' : Shared) : Prop :=
  match f with
  | .next => ∃ σ' H', Inv X pins σ' H' s' ∧ D.nx σ' H'
  | .brk => ∃ σ' H', Inv X pins σ' H' s' ∧ D.bk σ' H'
  | .cont => ∃ σ' H', Inv X pins σ' H' s' ∧ D.ct σ' H'
  | .ret u => ∃ v σ' H', Inv X pins σ' H' s' ∧ RelV v u ∧ D.rt v H'

def PE (X : Cx) (e : Expr) (t : TE) : Prop :=
  ∀ (pins : List (Addr × Obj)) (s : Shared) (σ : St) (H : Hp) (Q : VK), Inv X pins σ H s → t σ H Q → wpAny (model X.prog X.w) X.A (eval e X.env) (EP X pins σ Q) X.xe s
def PT (X : Cx) (e : Expr) (t : TT) : Prop :=
  ∀ (pins : List (Addr × Obj)) (s : Shared) (σ : St) (H : Hp) (Q : Bool → Hp → Prop), Inv X pins σ H s → t σ H Q → wpAny (model X.prog X.w) X.A (isTrue e X.env (eval e X.env)) (TP X pins σ Q) X.xe s
/-- a test whatever its 'whole' is (and, or) -/
def PW (X : Cx) (e : Expr) (t : TT) : Prop :=
  ∀ (whole : Sem Value) (pins : List (Addr × Obj)) (s : Shared) (σ : St) (H : Hp) (Q : Bool → Hp → Prop), Inv X pins σ H s → t σ H Q → wpAny (model X.prog X.w) X.A (isTrue e X.env whole) (TP X pins σ Q) X.xe s
theorem PW.pt {X : Cx} {e : Expr} {t : TT} (h : PW X e t) : PT X e t := h _
/-- an argument list (no star), from the left -/
def PA (X : Cx) (es : List Expr) (t : TA) : Prop :=
  ∀ (pos : Pos) (pins : List (Addr × Obj)) (s : Shared) (σ : St) (H : Hp) (Q : List V → Hp → Prop), Inv X pins σ H s → t σ H Q → wpAny (model X.prog X.w) X.A (spliced (backTo pos (starEach es X.env))) (AP X pins σ Q) X.xe s
def PS (X : Cx) (st : Stmt) (t : TS) : Prop :=
  ∀ (pins : List (Addr × Obj)) (s : Shared) (σ : St) (H : Hp) (D : Ends), Inv X pins σ H s → t D σ H → wpAny (model X.prog X.w) X.A (exec st X.env) (SP X pins D) X.xe s
def PSs (X : Cx) (st : List Stmt) (t : TS) : Prop :=
  ∀ (pins : List (Addr × Obj)) (s : Shared) (σ : St) (H : Hp) (D : Ends), Inv X pins σ H s → t D σ H → wpAny (model X.prog X.w) X.A (execs st X.env) (SP X pins D) X.xe s
/-- weaken the end -/
theorem thn {α : Type} {t : Sem α} {Q Q' : α → Shared → Prop} {M : Model} {A : Around} {E : Value → Shared → Prop} {s : Shared} (h : wpAny M A t Q E s) (hQ : ∀ a s, Q a s → Q' a s) : wpAny M A t Q' E s := wpAny_mono h hQ fun _ _ x => x
end L2

namespace L2
open PySem PySem.Spec PyProof.Rows
section
variable {X : Cx}

/-- two expressions in a row -/
theorem bin {a b : Expr} {ta tb : TE} (ha : PE X a ta) (hb : PE X b tb) {pins : List (Addr × Obj)} {s : Shared} {σ : St} {H : Hp} {R : V → V → Hp → Prop} (I : Inv X pins σ H s) (h : ta σ H fun x H1 => tb σ H1 fun y H2 => R x y H2)
    {α : Type} {Q : α → Shared → Prop} {f : Value → Value → Sem α}
    (hf : ∀ v u s2 x y H2, Inv X pins σ H2 s2 → RelV x v → RelV y u → R x y H2 → wpAny (model X.prog X.w) X.A (f v u) Q X.xe s2) :
    wpAny (model X.prog X.w) X.A (eval a X.env) (fun v s₁ => wpAny (model X.prog X.w) X.A (eval b X.env) (fun u s₂ => wpAny (model X.prog X.w) X.A (f v u) Q X.xe s₂) X.xe s₁) X.xe s := by
  refine thn (ha pins s σ H _ I h) fun v s1 ⟨x, H1, I1, r1, q1⟩ => ?_
  refine thn (hb pins s1 σ H1 _ I1 q1) fun u s2 ⟨y, H2, I2, r2, q2⟩ => ?_
  exact hf v u s2 x y H2 I2 r1 r2 q2

/-! ### names and constants -/
def tVar (i : Nat) : TE := fun σ H Q => ∃ v, σ[i]? = some (some v) ∧ Q v H
def tC (v : V) : TE := fun _ H Q => Q v H
theorem pe_var {i : Nat} {x : Str} {pos : Pos} (hN : X.N[i]? = some x) (hv : Vis X.env.scope x) (hd : (x == ("__debug__" : Str)) = false := by decide) (hcd : (x == ("__classdict__" : Str)) = false := by decide) : PE X (.Name x pos) (tVar i) := by
  intro pins s σ H Q I h
  obtain ⟨v, e, h⟩ := h
  obtain ⟨m, hn, hl⟩ := I.loc
  obtain ⟨u, r, l⟩ := hl i x v hN e hv
  have fin : EP X pins σ Q u s := ⟨v, H, I, r, h⟩
  rcases l with ⟨hk, hm⟩ | ⟨hk, c, hc, hcell⟩
  · exact wpAny_Name (wpAny_loadName_local I.ok.kind hk hn hm fin) hd
  · rcases hk with hk | hk
    · exact wpAny_Name (wpAny_loadName_cell I.ok.kind hk hc hcell fin) hd
    · exact wpAny_Name (wpAny_loadName_free I.ok.kind hk hc hcell fin hcd) hd
theorem pe_int {i j pos} : PE X (.Constant (.int i) j pos) (tC (.int i)) := fun _ _ _ H _ I h => wpAny_Constant_int ⟨.int i, H, I.tok _, ⟨_, rfl⟩, h⟩
theorem pe_bl {b j pos} : PE X (.Constant (.bool b) j pos) (tC (.bl b)) := fun _ _ _ H _ I h => Constant_bool ⟨.bl b, H, I, rfl, h⟩
theorem pe_non {j pos} : PE X (.Constant .none j pos) (tC .non) := fun _ _ _ H _ I h => Constant_none ⟨.non, H, I, rfl, h⟩
theorem pe_str {x j pos} : PE X (.Constant (.str x) j pos) (tC (.str x)) := fun _ _ _ H _ I h => Calls.Constant_str ⟨.str x, H, I.tok _, ⟨_, rfl⟩, h⟩

/-- a global name of the def -/
def Gl (X : Cx) (x : Str) : Prop := X.env.kindOf x = some .globalImplicit
theorem ld_glob {E : Value → Shared → Prop} {pins : List (Addr × Obj)} {s : Shared} {σ : St} {H : Hp} {x : Str} {u : Value} {pos : Pos} {Q : Value → Shared → Prop} (I : Inv X pins σ H s) (hg : Gl X x) (hm : X.mg x = some u) (h : Q u s)
    (hd : (x == ("__debug__" : Str)) = false := by decide) : wpAny (model X.prog X.w) X.A (eval (.Name x pos) X.env) Q E s :=
  Calls.Name_function_global I.ok.kind hg (Calls.loadGlobal_global (by rw [I.ok.glob]; exact I.mod.glob.keeps I.bk) hm h) hd
theorem ld_blt {E : Value → Shared → Prop} {pins : List (Addr × Obj)} {s : Shared} {σ : St} {H : Hp} {x : Str} {u : Value} {pos : Pos} {Q : Value → Shared → Prop} (I : Inv X pins σ H s) (hg : Gl X x) (hm : X.mg x = none) (hv : bootBuiltins x = some u) (h : Q u s)
    (hn : x ≠ "__name__" := by decide) (hd : (x == ("__debug__" : Str)) = false := by decide) : wpAny (model X.prog X.w) X.A (eval (.Name x pos) X.env) Q E s := by
  obtain ⟨mb, h1, h2⟩ := I.mod.blt
  exact Calls.Name_function_global I.ok.kind hg (Calls.loadGlobal_builtin (by rw [I.ok.glob]; exact I.mod.glob.keeps I.bk) hm (by rw [I.ok.blt]; exact h1.keeps I.bk) ((h2 x hn).trans hv) h) hd
/-- a module's constant, a class, a function, as a value -/
theorem pe_glob {x : Str} {v : V} {u : Value} {pos : Pos} (hg : Gl X x) (hm : X.mg x = some u) (r : RelV v u) (hd : (x == ("__debug__" : Str)) = false := by decide) : PE X (.Name x pos) (tC v) :=
  fun _ _ _ H _ I h => ld_glob I hg hm ⟨v, H, I, r, h⟩ hd
theorem pe_bltn {x : Str} {v : V} {u : Value} {pos : Pos} (hg : Gl X x) (hm : X.mg x = none) (hv : bootBuiltins x = some u) (r : RelV v u) (hn : x ≠ "__name__" := by decide) (hd : (x == ("__debug__" : Str)) = false := by decide) : PE X (.Name x pos) (tC v) :=
  fun _ _ _ H _ I h => ld_blt I hg hm hv ⟨v, H, I, r, h⟩ hn hd

/-! ### arithmetic -/
variable {a b : Expr} {ta tb : TE} {pos : Pos}

/-! ### comparisons -/
def PC (X : Cx) (op : CmpOp) (a b : Expr) (t : TE) : Prop :=
  ∀ (pins : List (Addr × Obj)) (s : Shared) (σ : St) (H : Hp) (Q : VK), Inv X pins σ H s → t σ H Q →
    wpAny (model X.prog X.w) X.A (eval a X.env) (fun v s₁ => wpAny (model X.prog X.w) X.A (eval b X.env) (fun u s₂ => wpAny (model X.prog X.w) X.A (compareOp op v u) (EP X pins σ Q) X.xe s₂) X.xe s₁) X.xe s
/-- a comparison as a value, as a test -/
def tB (t : TE) : TT := fun σ H Q => t σ H fun x H1 => ∃ c, x = .bl c ∧ Q c H1
theorem pt_cmp {op : CmpOp} {t : TE} (h : PC X op a b t) (h1 : behindInMarks op b = false := by first | exact nobehind _ (by decide) (by decide) | rfl) : PT X (.Compare a [op] [b] pos) (tB t) := by
  intro pins s σ H Q I hw
  refine wpAny_isTrue_Compare1 (thn (h pins s σ H _ I hw) fun v s1 h1 => thn h1 fun u s2 h2 => thn h2 fun c s3 ⟨x, H1, I1, r1, q1⟩ => ?_) h1
  obtain ⟨d, rfl, q⟩ := q1
  cases r1
  exact wpAny_truthy_bool ⟨H1, I1, q⟩
/-- an expression whose value is a bool, as a test -/
theorem pt_val {e : Expr} {t : TE} (h : PE X e t) (he : ∀ whole, isTrue e X.env whole = (do let v ← whole; standAt e.pos; holding [v] (truthy v)) := by intro _; rfl) : PT X e (tB t) := by
  intro pins s σ H Q I hw
  refine isTrue_plain (thn (h pins s σ H _ I hw) fun v s1 ⟨x, H1, I1, r1, q1⟩ => ?_) (he _)
  obtain ⟨d, rfl, q⟩ := q1
  cases r1
  exact wpAny_truthy_bool ⟨H1, I1, q⟩

/-! ### and, or, not -/
variable {tA tB' : TT} {rest : List Expr}
def tAnd (t u : TT) : TT := fun σ H Q => t σ H fun c H1 => if c = true then u σ H1 Q else Q false H1
def tOr (t u : TT) : TT := fun σ H Q => t σ H fun c H1 => if c = true then Q true H1 else u σ H1 Q
def tNot (t : TT) : TT := fun σ H Q => t σ H fun c H1 => Q (!c) H1
theorem pw_and1 (ha : PT X a tA) : PW X (.BoolOp .And [a] pos) tA := by
  intro wh pins s σ H Q I h
  refine isTrue_and (thn (ha pins s σ H Q I h) fun c s1 e => ?_)
  cases c with
  | true => exact isTrue_and_nil e
  | false => exact e
theorem pw_or1 (ha : PT X a tA) : PW X (.BoolOp .Or [a] pos) tA := by
  intro wh pins s σ H Q I h
  refine isTrue_or (thn (ha pins s σ H Q I h) fun c s1 e => ?_)
  cases c with
  | false => exact isTrue_or_nil e
  | true => exact e
theorem pw_and (ha : PT X a tA) (hb : PW X (.BoolOp .And (b :: rest) pos) tB') : PW X (.BoolOp .And (a :: b :: rest) pos) (tAnd tA tB') := by
  intro wh pins s σ H Q I h
  refine isTrue_and (thn (ha pins s σ H _ I h) fun c s1 ⟨H1, I1, q1⟩ => ?_)
  cases c with
  | true => exact hb wh pins s1 σ H1 Q I1 q1
  | false => exact ⟨H1, I1, q1⟩
theorem pw_or (ha : PT X a tA) (hb : PW X (.BoolOp .Or (b :: rest) pos) tB') : PW X (.BoolOp .Or (a :: b :: rest) pos) (tOr tA tB') := by
  intro wh pins s σ H Q I h
  refine isTrue_or (thn (ha pins s σ H _ I h) fun c s1 ⟨H1, I1, q1⟩ => ?_)
  cases c with
  | true => exact ⟨H1, I1, q1⟩
  | false => exact hb wh pins s1 σ H1 Q I1 q1
theorem pt_not (ha : PT X a tA) : PT X (.UnaryOp .Not a pos) (tNot tA) := by
  intro pins s σ H Q I h
  exact isTrue_not (ha pins s σ H (fun c H1 => Q (!c) H1) I h)
/-- .. as values (bools) -/
def tAndV (ta tb : TE) : TE := fun σ H Q => ta σ H fun x H1 => ∃ c, x = .bl c ∧ if c = true then tb σ H1 Q else Q (.bl false) H1
def tOrV (ta tb : TE) : TE := fun σ H Q => ta σ H fun x H1 => ∃ c, x = .bl c ∧ if c = true then Q (.bl true) H1 else tb σ H1 Q
def tNotV (ta : TE) : TE := fun σ H Q => ta σ H fun x H1 => ∃ c, x = .bl c ∧ Q (.bl (!c)) H1
theorem pe_one {op} {t : TE} (h : PE X a t) : PE X (.BoolOp op [a] pos) t := fun pins s σ H Q I hw => BoolOp_one (h pins s σ H Q I hw)
theorem pe_and (ha : PE X a ta) (hb : PE X (.BoolOp .And (b :: rest) pos) tb) : PE X (.BoolOp .And (a :: b :: rest) pos) (tAndV ta tb) := by
  intro pins s σ H Q I h
  refine BoolOp_and (thn (ha pins s σ H _ I h) fun v s1 ⟨x, H1, I1, r1, q1⟩ => ?_)
  obtain ⟨c, rfl, q1⟩ := q1
  cases r1
  refine wpAny_truthy_bool ?_
  cases c with
  | true => exact hb pins s1 σ H1 Q I1 q1
  | false => exact ⟨.bl false, H1, I1, rfl, q1⟩
theorem pe_or (ha : PE X a ta) (hb : PE X (.BoolOp .Or (b :: rest) pos) tb) : PE X (.BoolOp .Or (a :: b :: rest) pos) (tOrV ta tb) := by
  intro pins s σ H Q I h
  refine BoolOp_or (thn (ha pins s σ H _ I h) fun v s1 ⟨x, H1, I1, r1, q1⟩ => ?_)
  obtain ⟨c, rfl, q1⟩ := q1
  cases r1
  refine wpAny_truthy_bool ?_
  cases c with
  | false => exact hb pins s1 σ H1 Q I1 q1
  | true => exact ⟨.bl true, H1, I1, rfl, q1⟩
theorem pe_not (ha : PE X a ta) : PE X (.UnaryOp .Not a pos) (tNotV ta) := by
  intro pins s σ H Q I h
  refine UnaryOp_ (thn (ha pins s σ H _ I h) fun v s1 ⟨x, H1, I1, r1, q1⟩ => ?_)
  obtain ⟨c, rfl, q1⟩ := q1
  cases r1
  exact not_of (wpAny_truthy_bool ⟨.bl (!c), H1, I1, rfl, q1⟩)
end
end L2

namespace L2
open PySem PySem.Spec PyProof.Rows

/-! ### a list, a tuple that is read: tracked, frozen, or an object of the module -/
def SqL (K : PySem.W.Frag) (H : Hp) (a : Addr) (xs : List V) : Prop :=
  Rd H a (.lst xs) ∨
    ∃ (o : Obj) (its : Array Value) (n : Nat), K.lookup a = some o ∧ o.cls = .type "list" ∧ o.dict = none ∧ o.data = .seq its n ∧ its.size ≤ sizeLine ∧ Vals xs its.toList
def SqT (K : PySem.W.Frag) (H : Hp) (a : Addr) (xs : List V) : Prop :=
  Rd H a (.tup xs) ∨
    ∃ (o : Obj) (its : Array Value) (n : Nat), K.lookup a = some o ∧ o.cls = .type "tuple" ∧ o.data = .seq its n ∧ its.size ≤ sizeLine ∧ Vals xs its.toList
def absV : Value → Option V
  | .none => some .non
  | .bool b => some (.bl b)
  | .int i _ => some (.int i)
  | .str x _ => some (.str x)
  | .bytes b _ => some (.byt b)
  | .float b _ => some (.flt b)
  | .ref a => some (.ref a)
  | .type n => some (.ty n)
  | _ => none
theorem RelV.abs {x : V} {u : Value} (r : RelV x u) : absV u = some x := by
  cases x with
  | non => cases r; rfl
  | bl _ => cases r; rfl
  | int _ => obtain ⟨t, rfl⟩ := r; rfl
  | str _ => obtain ⟨t, rfl⟩ := r; rfl
  | byt _ => obtain ⟨t, rfl⟩ := r; rfl
  | flt _ => obtain ⟨t, rfl⟩ := r; rfl
  | ref _ => cases r; rfl
  | ty _ => cases r; rfl
theorem RelV.inj {x y : V} {u : Value} (r : RelV x u) (q : RelV y u) : x = y := Option.some.inj (r.abs.symm.trans q.abs)
theorem Vals.inj : ∀ {xs ys : List V} {us : List Value}, Vals xs us → Vals ys us → xs = ys
  | _, _, _, .nil, .nil => rfl
  | _, _, _, .cons r t, .cons r' t' => by rw [r.inj r', Vals.inj t t']
section
variable {X : Cx} {pins : List (Addr × Obj)} {σ : St} {H : Hp} {s : Shared} {a : Addr} {xs ys : List V}
theorem SqL.of {K : PySem.W.Frag} (h : H a = some (.lst xs)) : SqL K H a xs := .inl (.inl h)
theorem SqT.of {K : PySem.W.Frag} (h : H a = some (.tup xs)) : SqT K H a xs := .inl (.inl h)
theorem Inv.list (I : Inv X pins σ H s) (h : SqL X.K H a xs) : ∃ its : List Value, Vals xs its ∧ PlainL s.heap a its.toArray ∧ xs.length ≤ sizeLine := by
  rcases h with h | ⟨o, its, n, hk, hc, hd, hs, hz, r⟩
  · obtain ⟨z, its, n, r, e⟩ := h.ok I.hok
    exact ⟨its, r, ⟨_, n, e, rfl, rfl, rfl⟩, z⟩
  · refine ⟨its.toList, r, ⟨o, n, I.kIn a o hk, hc, hd, by simpa using hs⟩, ?_⟩
    have e := r.length
    simp only [Array.length_toList] at e
    omega
theorem Inv.tuple (I : Inv X pins σ H s) (h : SqT X.K H a xs) : ∃ its : List Value, Vals xs its ∧ IsTup s.heap a its.toArray ∧ xs.length ≤ sizeLine := by
  rcases h with h | ⟨o, its, n, hk, hc, hs, hz, r⟩
  · obtain ⟨z, its, r, p⟩ := h.ok I.hok
    exact ⟨its, r, p, z⟩
  · refine ⟨its.toList, r, ⟨o, I.kIn a o hk, hc, n, by simpa using hs⟩, ?_⟩
    have e := r.length
    simp only [Array.length_toList] at e
    omega
theorem Inv.list_inj (I : Inv X pins σ H s) (h : SqL X.K H a xs) (h' : SqL X.K H a ys) : xs = ys := by
  obtain ⟨its, r, ⟨o, n, e, _, _, d⟩, _⟩ := I.list h
  obtain ⟨its', r', ⟨o', n', e', _, _, d'⟩, _⟩ := I.list h'
  rw [e] at e'; cases e'
  rw [d] at d'
  injection d' with d1 _
  have : its = its' := by simpa using congrArg Array.toList d1
  subst this
  exact r.inj r'
theorem Inv.tuple_inj (I : Inv X pins σ H s) (h : SqT X.K H a xs) (h' : SqT X.K H a ys) : xs = ys := by
  obtain ⟨its, r, ⟨o, e, _, n, d⟩, _⟩ := I.tuple h
  obtain ⟨its', r', ⟨o', e', _, n', d'⟩, _⟩ := I.tuple h'
  rw [e] at e'; cases e'
  rw [d] at d'
  injection d' with d1 _
  have : its = its' := by simpa using congrArg Array.toList d1
  subst this
  exact r.inj r'
end

/-! ### another wish about exceptions -/
abbrev Cx.wish (X : Cx) (E : Value → Shared → Prop) : Cx := { X with xe := E }
/-- no exception leaves -/
abbrev Cx.nox (X : Cx) : Cx := X.wish fun _ _ => False
theorem Cx.Ok.wish {X : Cx} (ok : X.Ok) (E : Value → Shared → Prop) : (X.wish E).Ok :=
  ⟨ok.mod, ok.kind, ok.glob, ok.blt, ok.above, ok.inj, ok.has, ok.cab, ok.hd, ok.frames, ok.stk, ok.exf, ok.bs, ok.bsz, ok.noex, ok.exfs, ok.funs, ok.frf⟩
theorem Cx.Ok.unwish {X : Cx} {E : Value → Shared → Prop} (ok : (X.wish E).Ok) : X.Ok :=
  ⟨ok.mod, ok.kind, ok.glob, ok.blt, ok.above, ok.inj, ok.has, ok.cab, ok.hd, ok.frames, ok.stk, ok.exf, ok.bs, ok.bsz, ok.noex, ok.exfs, ok.funs, ok.frf⟩
section
variable {X : Cx} {pins : List (Addr × Obj)} {σ : St} {H : Hp} {s : Shared} {E : Value → Shared → Prop}
theorem Inv.wish (I : Inv X pins σ H s) (E : Value → Shared → Prop) : Inv (X.wish E) pins σ H s := ⟨I.ok.wish E, I.os, I.bare, I.base, I.loc, I.cell, I.free, I.freeC, I.pin, I.hok, I.len⟩
theorem Inv.unwish (I : Inv (X.wish E) pins σ H s) : Inv X pins σ H s := ⟨I.ok.unwish, I.os, I.bare, I.base, I.loc, I.cell, I.free, I.freeC, I.pin, I.hok, I.len⟩
theorem SP.unwish {D : Ends} {f : Flow} {s' : Shared} (h : SP (X.wish E) pins D f s') : SP X pins D f s' := by
  cases f with
  | next => obtain ⟨σ', H', I, q⟩ := h; exact ⟨σ', H', I.unwish, q⟩
  | brk => obtain ⟨σ', H', I, q⟩ := h; exact ⟨σ', H', I.unwish, q⟩
  | cont => obtain ⟨σ', H', I, q⟩ := h; exact ⟨σ', H', I.unwish, q⟩
  | ret u => obtain ⟨v, σ', H', I, r, q⟩ := h; exact ⟨v, σ', H', I.unwish, r, q⟩
theorem PSs.nox {st : List Stmt} {t : TS} (h : PSs X.nox st t) : PSs X st t := fun pins s σ H D I hw =>
  wpAny_mono (h pins s σ H D (I.wish _) hw) (fun _ _ q => q.unwish) fun _ _ z => False.elim z
end

/-! ### blocks and small statements -/
section
variable {X : Cx} {st : Stmt} {rest : List Stmt} {t u : TS} {e : Expr} {te : TE} {pos : Pos}
def tNext : TS := fun D σ H => D.nx σ H
def tSeq (t u : TS) : TS := fun D σ H => t { D with nx := u D } σ H
theorem pss_nil : PSs X [] tNext := fun _ _ σ H _ I h => wpAny_execs_nil ⟨σ, H, I, h⟩
theorem pss_cons (h1 : PS X st t) (h2 : PSs X rest u) : PSs X (st :: rest) (tSeq t u) := by
  intro pins s σ H D I h
  refine wpAny_execs_cons (thn (h1 pins s σ H { D with nx := u D } I h) fun f s1 q => ?_)
  cases f with
  | next =>
    obtain ⟨σ', H', I', q⟩ := q
    exact h2 pins s1 σ' H' D I' q
  | ret v => exact q
  | brk => exact q
  | cont => exact q
theorem pss_one (h1 : PS X st t) : PSs X [st] t := by
  intro pins s σ H D I h
  refine wpAny_execs_cons (thn (h1 pins s σ H D I h) fun f s1 q => ?_)
  cases f with
  | next => exact wpAny_execs_nil q
  | ret v => exact q
  | brk => exact q
  | cont => exact q
/-- in a def's body nothing is shown -/
theorem Inv.quiet {pins : List (Addr × Obj)} {σ : St} {H : Hp} {s : Shared} (I : Inv X pins σ H s) : interactive X.env = false := by simp [interactive, I.ok.kind]
/-- an expression whose value is dropped -/
def tDrop (te : TE) : TS := fun D σ H => te σ H fun _ H1 => D.nx σ H1
theorem ps_expr (he : PE X e te) (hs : swapsWith e none pos.line X.env = pure false := by rfl) : PS X (.Expr e pos) (tDrop te) := by
  intro pins s σ H D I h
  exact wpAny_Expr_any (thn (he pins s σ H _ I h) fun v s1 ⟨x, H1, I1, r1, q1⟩ => ⟨σ, H1, I1, q1⟩) I.quiet hs
def tRet (te : TE) : TS := fun D σ H => te σ H D.rt
theorem ps_ret (he : PE X e te) : PS X (.Return (some e) pos) (tRet te) := by
  intro pins s σ H D I h
  exact wpAny_Return_some (thn (he pins s σ H _ I h) fun v s1 ⟨x, H1, I1, r1, q1⟩ => ⟨x, σ, H1, I1, r1, q1⟩)
def tIfS (c : TT) (t u : TS) : TS := fun D σ H => c σ H fun b H1 => if b = true then t D σ H1 else u D σ H1
theorem ps_if {c : Expr} {a b : List Stmt} {tc : TT} (hc : PT X c tc) (ha : PSs X a t) (hb : PSs X b u) : PS X (.If c a b pos) (tIfS tc t u) := by
  intro pins s σ H D I h
  refine wpAny_If (thn (hc pins s σ H _ I h) fun d s1 ⟨H1, I1, q1⟩ => ?_)
  cases d with
  | true => exact ha pins s1 σ H1 D I1 q1
  | false => exact hb pins s1 σ H1 D I1 q1
end

/-! ### targets -/
abbrev TG := V → St → Hp → (St → Hp → Prop) → Prop
abbrev TGs := List V → St → Hp → (St → Hp → Prop) → Prop
def PG (X : Cx) (target : Expr) (t : TG) : Prop :=
  ∀ (pins : List (Addr × Obj)) (s : Shared) (σ : St) (H : Hp) (v : V) (u : Value) (Q : St → Hp → Prop), Inv X pins σ H s → RelV v u → t v σ H Q →
    wpAny (model X.prog X.w) X.A (assign target X.env u) (fun _ s' => ∃ σ' H', Inv X pins σ' H' s' ∧ Q σ' H') X.xe s
/-- several targets, one after another -/
def PGs (X : Cx) (ts : List Expr) (t : TGs) : Prop :=
  ∀ (pins : List (Addr × Obj)) (s : Shared) (σ : St) (H : Hp) (vs : List V) (us : List Value) (Q : St → Hp → Prop), Inv X pins σ H s → Vals vs us → t vs σ H Q →
    wpAny (model X.prog X.w) X.A (assignInOrder ((assignEach ts X.env).map (·.2)) us) (fun _ s' => ∃ σ' H', Inv X pins σ' H' s' ∧ Q σ' H') X.xe s
/-- o[i] = v, by values -/
abbrev TSet := V → V → V → Hp → (Hp → Prop) → Prop
def PSet (X : Cx) (t : TSet) : Prop :=
  ∀ (pins : List (Addr × Obj)) (s : Shared) (σ : St) (H : Hp) (o i v : V) (ov iv u : Value) (Q : Hp → Prop), Inv X pins σ H s → RelV o ov → RelV i iv → RelV v u → t o i v H Q →
    wpAny (model X.prog X.w) X.A (setItem ov iv u) (fun _ s' => ∃ H', Inv X pins σ H' s' ∧ Q H') X.xe s
section
variable {X : Cx} {pos : Pos}
def gName (i : Nat) : TG := fun v σ H Q => Q (σ.set i (some v)) H
theorem pg_name {i : Nat} {x : Str} (hN : X.N.Nodup) (hi : X.N[i]? = some x) (hx : Loc X.env.scope x) (hf : X.fn x = true ∨ X.env.scope.names.lookup x = some .local := by first | exact .inl rfl | exact .inr rfl | assumption) : PG X (.Name x pos) (gName i) := by
  intro pins s σ H v u Q I r h
  exact wpAny_assign_Name (store_ok I hN hi hx r (fun s' I' => ⟨_, H, I', h⟩) hf)
def gNil : TGs := fun vs σ H Q => vs = [] ∧ Q σ H
def gCons (t : TG) (u : TGs) : TGs := fun vs σ H Q => ∃ v r, vs = v :: r ∧ t v σ H fun σ' H' => u r σ' H' Q
theorem pgs_nil : PGs X [] gNil := by
  intro pins s σ H vs us Q I r h
  obtain ⟨e, h⟩ := h
  subst e
  cases r
  exact assignInOrder_nil ⟨σ, H, I, h⟩
theorem pgs_cons {e : Expr} {es : List Expr} {t : TG} {u : TGs} (h1 : PG X e t) (h2 : PGs X es u)
    (hs : (assignEach (e :: es) X.env).map (·.2) = assign e X.env :: (assignEach es X.env).map (·.2) := by rfl) : PGs X (e :: es) (gCons t u) := by
  intro pins s σ H vs us Q I r h
  obtain ⟨v, vr, e1, h⟩ := h
  subst e1
  cases r with
  | cons r rr =>
    rw [hs]
    refine assignInOrder_cons (thn (h1 pins s σ H _ _ _ I r h) fun _ s1 ⟨σ1, H1, I1, q1⟩ => ?_)
    exact h2 pins s1 σ1 H1 _ _ Q I1 rr q1
/-- (a, b, ..) = a tuple of that length -/
def gTup (K : PySem.W.Frag) (n : Nat) (t : TGs) : TG := fun v σ H Q => ∃ a xs, v = .ref a ∧ SqT K H a xs ∧ xs.length = n ∧ t xs σ H Q
theorem pg_tup {es : List Expr} {k : Nat} {t : TGs} {n : Nat} (hc : X.calm = true) (h : PGs X es t)
    (hn : (assignEach es X.env).length = n := by rfl) (hst : (assignEach es X.env).findIdx? (·.1) = none := by rfl) : PG X (.Tuple es k pos) (gTup X.K n t) := by
  intro pins s σ H v u Q I r hw
  obtain ⟨a, xs, e1, hq, hl, hw⟩ := hw
  subst e1
  cases r
  obtain ⟨its, rv, ht, hz⟩ := I.tuple hq
  refine assign_Tuple_tuple (I.ok.hd hc) ht (by simp [hn, ← hl, rv.length]) hst fun h' hx => ?_
  have I1 : Inv X pins σ H { s with heap := h' } := I.kept (t' := s.toks) fun b o e => hx b o (Nat.ne_of_lt (Heap.lt_size e)) e
  exact h pins _ σ H xs _ Q I1 (by simpa using rv) hw
/-- o[i] = .. -/
def gSub (to ti : TE) (t : TSet) : TG := fun v σ H Q => to σ H fun o H1 => ti σ H1 fun i H2 => t o i v H2 fun H3 => Q σ H3
theorem pg_sub {o i : Expr} {to ti : TE} {t : TSet} (ho : PE X o to) (hi : PE X i ti) (hs : PSet X t)
    (ha : ∀ v, assign (.Subscript o i pos) X.env v = (do
      let ov ← holding [v] (eval o X.env)
      let iv ← holding [v, ov] (eval i X.env)
      standAt pos
      holding [v, ov, iv] (setItem ov iv v)
      release [v, ov, iv] []) := by intro _; rfl) : PG X (.Subscript o i pos) (gSub to ti t) := by
  intro pins s σ H v u Q I r h
  rw [ha]
  refine wpAny_bind (wpAny_holding (thn (ho pins s σ H _ I h) fun ov s1 ⟨x, H1, I1, r1, q1⟩ => ?_))
  refine wpAny_bind (wpAny_holding (thn (hi pins s1 σ H1 _ I1 q1) fun iv s2 ⟨y, H2, I2, r2, q2⟩ => ?_))
  refine wpAny_bind (wpAny_standAt (wpAny_bind (wpAny_holding (thn (hs pins s2 σ H2 x y v ov iv u _ I2 r1 r2 r q2) fun _ s3 ⟨H3, I3, q3⟩ => ?_))))
  exact wpAny_release ⟨σ, H3, I3, q3⟩
/-- target = value -/
def tAsg (te : TE) (g : TG) : TS := fun D σ H => te σ H fun x H1 => g x σ H1 D.nx
theorem ps_asg {tg e : Expr} {te : TE} {g : TG} (he : PE X e te) (hg : PG X tg g) (hs : swapsWithSole [tg] e pos.line X.env = pure false := by rfl) (hw : swappedStores [tg] e X.env = pure none := by rfl)
    (h1 : (assignEach [tg] X.env).map (·.2) = [assign tg X.env] := by rfl) : PS X (.Assign [tg] e pos) (tAsg te g) := by
  intro pins s σ H D I h
  refine wpAny_Assign_stores (thn (he pins s σ H _ I h) fun v s1 ⟨x, H1, I1, r1, q1⟩ => ?_) hs hw
  rw [h1]
  exact thn (hg pins s1 σ H1 x v _ I1 r1 q1) fun _ s2 q => q
/-- name = value -/
theorem ps_set {i : Nat} {x : Str} {e : Expr} {te : TE} {pos' : Pos} (hN : X.N.Nodup) (hi : X.N[i]? = some x) (hx : Loc X.env.scope x) (he : PE X e te) (hs : swapsWith e (some (.Name x pos')) pos.line X.env = pure false := by rfl) (hf : X.fn x = true ∨ X.env.scope.names.lookup x = some .local := by first | exact .inl rfl | exact .inr rfl | assumption) :
    PS X (.Assign [.Name x pos'] e pos) (tAsg te (gName i)) := by
  intro pins s σ H D I h
  refine wpAny_Assign_Name (thn (he pins s σ H _ I h) fun v s1 ⟨y, H1, I1, r1, q1⟩ => ?_) hs
  exact store_ok I1 hN hi hx r1 (fun s2 I2 => ⟨_, H1, I2, q1⟩) hf
/-- a, b = x, y with plain local names: stored from the right; the pair itself is not tracked (the opening rows as in PyProof/Rows/TupAssign.lean:23) -/
def tPar (i j : Nat) (ta : TA) : TS := fun D σ H => ta σ H fun vs H1 => ∃ v w, vs = [v, w] ∧ D.nx ((σ.set i (some v)).set j (some w)) H1
theorem ps_par {i j : Nat} {x y : Str} {a b : Expr} {ta : TA} {px py pt : Pos} {kt k2 pt2} (hc : X.calm = true) (hN : X.N.Nodup) (hi : X.N[i]? = some x) (hj : X.N[j]? = some y) (hij : i ≠ j)
    (hx : X.env.scope.names.lookup x = some .local) (hy : X.env.scope.names.lookup y = some .local) (ha : PA X [a, b] ta)
    (hw : swappedStores [.Tuple [.Name x px, .Name y py] kt pt] (.Tuple [a, b] k2 pt2) X.env = pure (some [x, y]))
    (hs : swapsWithSole [.Tuple [.Name x px, .Name y py] kt pt] (.Tuple [a, b] k2 pt2) pos.line X.env = pure false := by rfl) :
    PS X (.Assign [.Tuple [.Name x px, .Name y py] kt pt] (.Tuple [a, b] k2 pt2) pos) (tPar i j ta) := by
  intro pins s σ H D I h
  rw [exec_Assign_arm]
  refine wpAny_bind (wpAny_standAt ?_)
  rw [hs]
  refine wpAny_bind (wpAny_pure ?_)
  rw [if_neg (by decide)]
  refine wpAny_bind (Tuple_ (thn (ha _ pins s σ H _ I h) fun us s1 ⟨vs, H1, I1, r1, q1⟩ => ?_))
  obtain ⟨v, w, e1, q1⟩ := q1
  subst e1
  obtain ⟨u1, u2, rfl, rv, rw'⟩ : ∃ u1 u2, us = [u1, u2] ∧ RelV v u1 ∧ RelV w u2 := by
    cases r1 with
    | cons p q =>
      cases q with
      | cons p' q' =>
        cases q'
        exact ⟨_, _, rfl, p, p'⟩
  refine wpAny_newObj_type ?_ (by show 2 ≤ sizeLine; decide)
  have I2 : Inv X pins σ H1 { s1 with heap := s1.heap.push { cls := .type "tuple", data := .seq [u1, u2].toArray } } := I1.kept (t' := s1.toks) fun b o e => Heap.get?_push_of_some _ e
  rw [hw]
  refine wpAny_bind (wpAny_pure ?_)
  show wpAny (model X.prog X.w) X.A (do rule "assign.swapped-stores"; let items ← unpackItems (.ref s1.heap.objs.size) 2 none; assignInOrder [fun v => bindName X.env y v, fun v => bindName X.env x v] items.reverse; pure Flow.next) _ _ _
  refine wpAny_bind (wpAny_rule (wpAny_bind (unpackItems_tuple (items := #[u1, u2]) (I.ok.hd hc) (IsTup.new s1.heap _) fun h' hx' => ?_)))
  have I3 := I2.kept (h' := h') (t' := s1.toks) fun b o e => hx' b o (Nat.ne_of_lt (Heap.lt_size e)) e
  show wpAny _ _ (assignInOrder [fun v => bindName X.env y v, fun v => bindName X.env x v] [u2, u1] >>= fun _ => pure Flow.next) _ _ _
  refine wpAny_bind (assignInOrder_cons (wpAny_bindName (store_ok I3 hN hj (.inl hy) rw' (fun s2 I4 => ?_) (.inr hy))))
  refine assignInOrder_cons (wpAny_bindName (store_ok I4 hN hi (.inl hx) rv (fun s3 I5 => assignInOrder_nil (wpAny_pure ?_)) (.inr hx)))
  rw [List.set_comm _ _ (Ne.symm hij)] at I5
  exact ⟨_, H1, I5, q1⟩
end

/-! ### while -/
section
variable {X : Cx} {pos : Pos}
end

/-! ### what a loop or a comprehension walks -/
/-- at turn i: it yields x (the heap may grow), or it stops -/
structure It where
  go : Nat → Hp → Prop
  yld : Nat → Hp → V → Hp → Prop
  stop : Nat → Hp → Prop
/-- the iterator's own objects may turn: they are not the frame's, not pinned, younger than the entry (or a comprehension's own) -/
def FpOk (X : Cx) (pins : List (Addr × Obj)) (H : Hp) (b : Addr) : Prop :=
  H b = none ∧ b ≠ X.env.locals ∧ b ∉ X.fs ∧ (b ∈ X.ex ∨ X.s₀.heap.objs.size ≤ b) ∧ (∀ x c, X.env.cells.lookup x = some c → c ≠ b) ∧ ∀ p ∈ X.pn ++ pins, p.1 ≠ b
theorem Inv.fpOk {X : Cx} {pins : List (Addr × Obj)} {σ : St} {H H' : Hp} {s : Shared} {b : Addr} (I : Inv X pins σ H s) (hb : s.heap.objs.size ≤ b) (hn : H' b = none) : FpOk X pins H' b := by
  refine ⟨hn, Nat.ne_of_gt (Nat.lt_of_lt_of_le I.lt hb), I.nofs hb, .inr (Nat.le_trans I.sz hb), fun x c e z => ?_, fun p hp z => ?_⟩
  · obtain ⟨v, q⟩ := I.cell x c e
    exact absurd (Nat.lt_of_lt_of_le q.lt (by rw [z]; exact hb)) (Nat.lt_irrefl _)
  · exact absurd (Nat.lt_of_lt_of_le (Heap.lt_size (I.pin p hp).1) (by rw [z]; exact hb)) (Nat.lt_irrefl _)
structure Turn (P : Program) (w : World) (K : PySem.W.Frag) (tg : Expr) (J : It) (fp : List Addr) (it : Addr) (tn : Nat → Heap → Prop) : Prop where
  mem : it ∈ fp
  obj : ∀ i h, tn i h → ∀ b ∈ fp, ∃ o, h.get? b = some o ∧ ∀ v, o.data ≠ .cell v
  keep : ∀ i h h', tn i h → (∀ b ∈ fp, ∀ o, h.get? b = some o → h'.get? b = some o) → tn i h'
  item : ∀ (X : Cx), X.prog = P → X.w = w → X.K = K → X.calm = true → ∀ (i : Nat) (pins : List (Addr × Obj)) (s : Shared) (σ : St) (H : Hp) (E : Value → Shared → Prop), Inv X pins σ H s → (∀ b ∈ fp, FpOk X pins H b) → tn i s.heap → J.go i H →
    wpAny (model P w) X.A (pyNext (.ref it)) (fun r s1 => ∃ u, r = some u ∧
      wpAny (model P w) X.A (letOwnedTupleGo tg (.ref it) u) (fun _ s2 => ∃ x H', Inv X pins σ H' s2 ∧ RelV x u ∧ J.yld i H x H' ∧ tn (i + 1) s2.heap ∧ ∀ b ∈ fp, H' b = none) E s1) E s
  done : ∀ (X : Cx), X.prog = P → X.w = w → X.K = K → X.calm = true → ∀ (i : Nat) (pins : List (Addr × Obj)) (s : Shared) (σ : St) (H : Hp) (E : Value → Shared → Prop), Inv X pins σ H s → (∀ b ∈ fp, FpOk X pins H b) → tn i s.heap → J.stop i H →
    wpAny (model P w) X.A (pyNext (.ref it)) (fun r s1 => r = none ∧ Inv X pins σ H s1) E s
  self : ∀ (A : Around) (i : Nat) (s : Shared) (Q : Value → Shared → Prop) (E : Value → Shared → Prop), tn i s.heap → Q (.ref it) s → wpAny (model P w) A (pyIter (.ref it)) Q E s
abbrev TI := St → Hp → (It → Hp → Prop) → Prop
/-- an iterator has come -/
def PIE (X : Cx) (pins : List (Addr × Obj)) (σ : St) (tg : Expr) (R : It → Hp → Prop) (itv : Value) (s2 : Shared) : Prop :=
  ∃ (it : Addr) (fp : List Addr) (tn : Nat → Heap → Prop) (J : It) (H' : Hp), itv = .ref it ∧ Inv X pins σ H' s2 ∧ Turn X.prog X.w X.K tg J fp it tn ∧ tn 0 s2.heap ∧ (∀ b ∈ fp, FpOk X pins H' b) ∧ R J H'
def PI (X : Cx) (tg iter : Expr) (wi : TI) : Prop :=
  ∀ (pins : List (Addr × Obj)) (s : Shared) (σ : St) (H : Hp) (R : It → Hp → Prop), Inv X pins σ H s → wi σ H R →
    wpAny (model X.prog X.w) X.A (eval iter X.env) (fun v s1 => wpAny (model X.prog X.w) X.A (pyIter v) (PIE X pins σ tg R) X.xe s1) X.xe s

/-- the step ahead of the store is nothing for an iterator that keeps no tuple -/
theorem go_of {M : Model} {A : Around} {E : Value → Shared → Prop} {s : Shared} {tg : Expr} {it : Addr} {u : Value} {o : Obj} {n : String} {vs : Array Value} {Q : Unit → Shared → Prop} (ho : s.heap.get? it = some o) (hc : o.cls = .type n) (hd : o.data = .fields vs)
    (hn : ["enumerate", "zip", "dict_itemiterator", "dict_reverseitemiterator", "odict_iterator", "itertools.zip_longest", "itertools.pairwise"].contains n = false) (hQ : Q () s) : wpAny M A (letOwnedTupleGo tg (.ref it) u) Q E s := by
  unfold letOwnedTupleGo
  cases tg <;> first
    | exact wpAny_pure hQ
    | (cases u <;> first
        | exact wpAny_pure hQ
        | (refine wpAny_bind (wpAny_load ho ?_)
           rw [hc, hd]
           show wpAny M A (if (["enumerate", "zip", "dict_itemiterator", "dict_reverseitemiterator", "odict_iterator", "itertools.zip_longest", "itertools.pairwise"].contains n && vs[0]? == some (rawInt _)) = true then _ else _) Q E s
           rw [if_neg (by intro h; rw [hn, Bool.false_and] at h; cases h)]
           exact wpAny_pure hQ))

/-- the list at a, as it stands at each turn (a loop may append to it) -/
def Itl (K : PySem.W.Frag) (a : Addr) : It :=
  ⟨fun i H => ∃ xs x, SqL K H a xs ∧ xs[i]? = some x, fun i H x H' => H' = H ∧ ∀ xs, SqL K H a xs → xs[i]? = some x, fun i H => ∃ xs, SqL K H a xs ∧ xs.length ≤ i⟩
def Itt (K : PySem.W.Frag) (a : Addr) : It :=
  ⟨fun i H => ∃ xs x, SqT K H a xs ∧ xs[i]? = some x, fun i H x H' => H' = H ∧ ∀ xs, SqT K H a xs → xs[i]? = some x, fun i H => ∃ xs, SqT K H a xs ∧ xs.length ≤ i⟩
/-- lo, lo + 1, .. (n of them) -/
def Itr (lo : Int) (n : Nat) : It := ⟨fun i _ => i < n, fun i H x H' => H' = H ∧ x = .int (lo + i), fun i _ => n ≤ i⟩
theorem turn_list {P : Program} {w : World} {K : PySem.W.Frag} {tg : Expr} (a it : Addr) : Turn P w K tg (Itl K a) [it] it (fun i h => h.IsListIter it a i) where
  mem := by simp
  obj := fun i h st b hb => by
    have e : b = it := by simpa using hb
    subst e
    obtain ⟨o, e, c, d⟩ := st
    exact ⟨o, e, fun v z => by rw [d] at z; cases z⟩
  keep := fun i h h' st k => st.at fun o e => k it (by simp) o e
  item := by
    intro X hP hw hK hc i pins s σ H E I hf st hg
    subst hP hw hK
    obtain ⟨xs, x, hq, hx⟩ := hg
    obtain ⟨its, rv, p, hz⟩ := I.list hq
    obtain ⟨u, hu, ru⟩ := rv.get hx
    obtain ⟨f0, f1, f2, f3, f4, f5⟩ := hf it (by simp)
    refine wpAny_pyNext_list_item st p.isList (x := u) (by simpa using hu) fun h' st' sb => ?_
    have I1 : Inv X pins σ H { s with heap := h' } := I.turned (t' := s.toks) (fun b o hb e => (sb.2 b hb).trans e) f0 f1 f3 f4 f5
    obtain ⟨o, e, c, d⟩ := id st'
    exact ⟨u, rfl, go_of (s := { s with heap := h' }) e c d (by decide) ⟨x, H, I1, ru, ⟨rfl, fun ys hy => by rw [I.list_inj hy hq]; exact hx⟩, st', fun b hb => (hf b hb).1⟩⟩
  done := by
    intro X hP hw hK hc i pins s σ H E I hf st hg
    subst hP hw hK
    obtain ⟨xs, hq, hx⟩ := hg
    obtain ⟨its, rv, p, hz⟩ := I.list hq
    obtain ⟨f0, f1, f2, f3, f4, f5⟩ := hf it (by simp)
    have hl := rv.length
    exact wpAny_pyNext_list_end (I.ok.hd hc) st p.isList (by simp; omega) fun h' eb => ⟨rfl, I.turned (t' := s.toks) (fun b o hb e => eb b o hb e) f0 f1 f3 f4 f5⟩
  self := fun _ _ _ _ _ st h => wpAny_pyIter_listiter st h
theorem turn_tuple {P : Program} {w : World} {K : PySem.W.Frag} {tg : Expr} (a it : Addr) : Turn P w K tg (Itt K a) [it] it (fun i h => h.IsTupleIter it a i) where
  mem := by simp
  obj := fun i h st b hb => by
    have e : b = it := by simpa using hb
    subst e
    obtain ⟨o, e, c, d⟩ := st
    exact ⟨o, e, fun v z => by rw [d] at z; cases z⟩
  keep := fun i h h' st k => st.at fun o e => k it (by simp) o e
  item := by
    intro X hP hw hK hc i pins s σ H E I hf st hg
    subst hP hw hK
    obtain ⟨xs, x, hq, hx⟩ := hg
    obtain ⟨its, rv, p, hz⟩ := I.tuple hq
    obtain ⟨u, hu, ru⟩ := rv.get hx
    obtain ⟨f0, f1, f2, f3, f4, f5⟩ := hf it (by simp)
    refine wpAny_pyNext_tuple_item st (show s.heap.IsTuple a its.toArray from p) (x := u) (by simpa using hu) fun h' st' sb => ?_
    have I1 : Inv X pins σ H { s with heap := h' } := I.turned (t' := s.toks) (fun b o hb e => (sb.2 b hb).trans e) f0 f1 f3 f4 f5
    obtain ⟨o, e, c, d⟩ := id st'
    exact ⟨u, rfl, go_of (s := { s with heap := h' }) e c d (by decide) ⟨x, H, I1, ru, ⟨rfl, fun ys hy => by rw [I.tuple_inj hy hq]; exact hx⟩, st', fun b hb => (hf b hb).1⟩⟩
  done := by
    intro X hP hw hK hc i pins s σ H E I hf st hg
    subst hP hw hK
    obtain ⟨xs, hq, hx⟩ := hg
    obtain ⟨its, rv, p, hz⟩ := I.tuple hq
    obtain ⟨f0, f1, f2, f3, f4, f5⟩ := hf it (by simp)
    have hl := rv.length
    exact wpAny_pyNext_tuple_end (I.ok.hd hc) st (show s.heap.IsTuple a its.toArray from p) (by simp; omega) fun h' eb => ⟨rfl, I.turned (t' := s.toks) (fun b o hb e => eb b o hb e) f0 f1 f3 f4 f5⟩
  self := fun _ _ _ _ _ st h => wpAny_pyIter_tupleiter st h
theorem turn_range {P : Program} {w : World} {K : PySem.W.Frag} {tg : Expr} (it : Addr) (lo : Int) (n : Nat) : Turn P w K tg (Itr lo n) [it] it (fun i h => IsRangeIter h it (lo + (i : Nat) * 1) ((n : Int) - (i : Nat)) 1) where
  mem := by simp
  obj := fun i h st b hb => by
    have e : b = it := by simpa using hb
    subst e
    exact ⟨_, st, fun v z => by
      have z' : Data.fields _ = Data.cell v := z
      cases z'⟩
  keep := fun i h h' st k => k it (by simp) _ st
  item := by
    intro X hP hw hK hc i pins s σ H E I hf st hg
    subst hP hw hK
    obtain ⟨f0, f1, f2, f3, f4, f5⟩ := hf it (by simp)
    have W := Walks.range (prog := X.prog) (w := X.w) (I.ok.hd hc) it lo 1 n
    refine W.item i s _ _ hg st fun v h' tk hv st' kk => ?_
    obtain ⟨t, rfl⟩ := hv
    have I1 : Inv X pins σ H { s with heap := h', toks := tk } := I.turned (fun b o hb e => kk b o (by simpa using hb) e) f0 f1 f3 f4 f5
    refine ⟨_, rfl, go_of (s := { s with heap := h', toks := tk }) (n := "range_iterator") st' rfl rfl (by decide) ⟨.int (lo + i), H, I1, ⟨t, ?_⟩, ⟨rfl, rfl⟩, st', fun b hb => (hf b hb).1⟩⟩
    rw [Int.mul_one]
  done := by
    intro X hP hw hK hc i pins s σ H E I hf st hg
    subst hP hw hK
    obtain ⟨f0, f1, f2, f3, f4, f5⟩ := hf it (by simp)
    exact wpAny_pyNext_range_end (I.ok.hd hc) st (by have : n ≤ i := hg; omega) fun h' eb => ⟨rfl, I.turned (t' := s.toks) (fun b o hb e => eb b o hb e) f0 f1 f3 f4 f5⟩
  self := fun _ _ _ _ _ st h => wpAny_pyIter_rangeiter st h
end L2

namespace L2
open PySem PySem.Spec PyProof.Rows
section
variable {X : Cx} {tg : Expr}
def iList (K : PySem.W.Frag) (tl : TE) : TI := fun σ H R => tl σ H fun x H1 => ∃ a, x = .ref a ∧ (∃ xs, SqL K H1 a xs) ∧ R (Itl K a) H1
def iTup (K : PySem.W.Frag) (tl : TE) : TI := fun σ H R => tl σ H fun x H1 => ∃ a, x = .ref a ∧ (∃ xs, SqT K H1 a xs) ∧ R (Itt K a) H1
theorem pi_list {l : Expr} {tl : TE} (hl : PE X l tl) : PI X tg l (iList X.K tl) := by
  intro pins s σ H R I h
  refine thn (hl pins s σ H _ I h) fun v s1 ⟨x, H1, I1, r1, q1⟩ => ?_
  obtain ⟨a, e, ⟨xs, hq⟩, q⟩ := q1
  subst e
  cases r1
  obtain ⟨its, rv, p, hz⟩ := I1.list hq
  refine wpAny_pyIter_list p.isList ?_
  refine ⟨s1.heap.objs.size, [s1.heap.objs.size], _, _, H1, rfl, I1.kept (t' := s1.toks) fun b o e => Heap.get?_push_of_some _ e, turn_list a _, ⟨_, Heap.get?_push_size _ rfl, rfl, rfl⟩, fun b hb => ?_, q⟩
  have e : b = s1.heap.objs.size := by simpa using hb
  subst e
  exact I1.fpOk (Nat.le_refl _) (I1.hok.fresh (Nat.le_refl _))
theorem pi_tup {l : Expr} {tl : TE} (hl : PE X l tl) : PI X tg l (iTup X.K tl) := by
  intro pins s σ H R I h
  refine thn (hl pins s σ H _ I h) fun v s1 ⟨x, H1, I1, r1, q1⟩ => ?_
  obtain ⟨a, e, ⟨xs, hq⟩, q⟩ := q1
  subst e
  cases r1
  obtain ⟨its, rv, p, hz⟩ := I1.tuple hq
  refine wpAny_pyIter_tuple (show s1.heap.IsTuple a its.toArray from p) ?_
  refine ⟨s1.heap.objs.size, [s1.heap.objs.size], _, _, H1, rfl, I1.kept (t' := s1.toks) fun b o e => Heap.get?_push_of_some _ e, turn_tuple a _, ⟨_, Heap.get?_push_size _ rfl, rfl, rfl⟩, fun b hb => ?_, q⟩
  have e : b = s1.heap.objs.size := by simpa using hb
  subst e
  exact I1.fpOk (Nat.le_refl _) (I1.hok.fresh (Nat.le_refl _))
/-- a range object just made, walked -/
theorem range_it {pins : List (Addr × Obj)} {σ : St} {H : Hp} {s : Shared} {R : It → Hp → Prop} {E : Value → Shared → Prop} {lo hi : Int} {t u v : Tok} {tk : Nat} (I : Inv X pins σ H s) (h1 : -(2 ^ 62) ≤ lo) (h2 : lo < 2 ^ 62) (h3 : -(2 ^ 62) ≤ hi) (h4 : hi < 2 ^ 62)
    (q : R (Itr lo (hi - lo).toNat) H) : wpAny (model X.prog X.w) X.A (pyIter (.ref s.heap.objs.size)) (PIE X pins σ tg R) E { s with heap := s.heap.push { cls := .type "range", data := .fields #[.int lo t, .int hi u, .int 1 v] }, toks := tk } := by
  refine wpAny_pyIter_range (IsRange.new ..) (small_one h1 h2 h3 h4) ?_
  have I1 : Inv X pins σ H { s with heap := s.heap.push { cls := .type "range", data := .fields #[.int lo t, .int hi u, .int 1 v] }, toks := tk } := I.kept fun b o e => Heap.get?_push_of_some _ e
  refine ⟨(s.heap.push { cls := .type "range", data := .fields #[.int lo t, .int hi u, .int 1 v] }).objs.size, [(s.heap.push { cls := .type "range", data := .fields #[.int lo t, .int hi u, .int 1 v] }).objs.size], _, _, H, rfl,
    I1.kept (t' := tk) fun b o e => Heap.get?_push_of_some _ e, turn_range _ lo (hi - lo).toNat, ?_, fun b hb => ?_, q⟩
  · have e1 : lo + ((0 : Nat) : Int) * 1 = lo := by simp
    have e2 : (((hi - lo).toNat : Nat) : Int) - ((0 : Nat) : Int) = Builtin.Range.rangeSize lo hi 1 := by rw [rangeSize_one]; split <;> omega
    show IsRangeIter _ _ (lo + ((0 : Nat) : Int) * 1) ((((hi - lo).toNat : Nat) : Int) - ((0 : Nat) : Int)) 1
    rw [e1, e2]
    exact Heap.get?_push_size _ rfl
  · have e : b = (s.heap.push { cls := .type "range", data := .fields #[.int lo t, .int hi u, .int 1 v] }).objs.size := by simpa using hb
    subst e
    exact I1.fpOk (Nat.le_refl _) (I1.hok.fresh (Nat.le_refl _))
def iRng1 (ta : TA) : TI := fun σ H R => ta σ H fun vs H1 => ∃ j : Int, vs = [.int j] ∧ -(2 ^ 62) ≤ j ∧ j < 2 ^ 62 ∧ R (Itr 0 j.toNat) H1
def iRng2 (ta : TA) : TI := fun σ H R => ta σ H fun vs H1 => ∃ i j : Int, vs = [.int i, .int j] ∧ (-(2 ^ 62) ≤ i ∧ i < 2 ^ 62 ∧ -(2 ^ 62) ≤ j ∧ j < 2 ^ 62) ∧ R (Itr i (j - i).toNat) H1
theorem pi_range1 {a : Expr} {ta : TA} {p pos : Pos} (hg : Gl X "range") (hm : X.mg "range" = none) (ha : PA X [a] ta) (hs : starEach [a] X.env = [(false, eval a X.env)] := by rfl) : PI X tg (.Call (.Name "range" p) [a] [] pos) (iRng1 ta) := by
  intro pins s σ H R I h
  refine Call_ (ld_blt I hg hm boot_range (PyProof.Rows.callWith_type1 (thn (ha pos pins s σ H _ I h) fun us s1 ⟨vs, H1, I1, r1, q1⟩ => ?_) hs rfl))
  obtain ⟨j, e, q1, q2, q⟩ := q1
  subst e
  cases r1 with
  | cons r rr =>
    cases rr
    obtain ⟨t, rfl⟩ := r
    exact call_range_1 (range_it I1 (by omega) (by omega) q1 q2 (by simpa using q))
theorem pi_range2 {a b : Expr} {ta : TA} {p pos : Pos} (hg : Gl X "range") (hm : X.mg "range" = none) (ha : PA X [a, b] ta) (hs : starEach [a, b] X.env = [(false, eval a X.env), (false, eval b X.env)] := by rfl) (hs2 : starEach [b] X.env = [(false, eval b X.env)] := by rfl) :
    PI X tg (.Call (.Name "range" p) [a, b] [] pos) (iRng2 ta) := by
  intro pins s σ H R I h
  refine Call_ (ld_blt I hg hm boot_range (PyProof.Rows.callWith_type1 (thn (ha pos pins s σ H _ I h) fun us s1 ⟨vs, H1, I1, r1, q1⟩ => ?_) (by rw [hs, hs2]) (by rw [hs2]; rfl)))
  obtain ⟨i, j, e, ⟨q1, q2, q3, q4⟩, q⟩ := q1
  subst e
  cases r1 with
  | cons r rr =>
    cases rr with
    | cons r' rr =>
      cases rr
      obtain ⟨t, rfl⟩ := r
      obtain ⟨t', rfl⟩ := r'
      exact call_range_2 (range_it I1 q1 q2 q3 q4 q)

/-! ### for -/
/-- W: the invariant by the turn and a measure; N: what the body is to reach -/
def tFor (wi : TI) (g : TG) (tb : TS) : TS := fun D σ H => wi σ H fun J H1 => ∃ W : Nat → Nat → St → Hp → Prop, (∃ m, W 0 m σ H1) ∧ ∀ i m σ H, W i m σ H →
  (J.stop i H ∧ D.nx σ H) ∨ (J.go i H ∧ ∃ N : St → Hp → Prop, (∀ σ' H', N σ' H' → ∃ m', m' < m ∧ W (i + 1) m' σ' H') ∧ ∀ x H', J.yld i H x H' → g x σ H' fun σ2 H2 => tb { D with nx := N, ct := N, bk := D.nx } σ2 H2)
/-- the records at fp as they stand -/
def pinsAt (fp : List Addr) (h : Heap) : List (Addr × Obj) := fp.filterMap fun b => (h.get? b).map fun o => (b, o)
theorem mem_pinsAt {fp : List Addr} {h : Heap} {b : Addr} {o : Obj} (hb : b ∈ fp) (e : h.get? b = some o) : (b, o) ∈ pinsAt fp h := List.mem_filterMap.mpr ⟨b, hb, by rw [e]; rfl⟩
theorem of_pinsAt {fp : List Addr} {h : Heap} {p : Addr × Obj} (hp : p ∈ pinsAt fp h) : p.1 ∈ fp ∧ h.get? p.1 = some p.2 := by
  obtain ⟨b, hb, e⟩ := List.mem_filterMap.mp hp
  cases q : h.get? b with
  | none => rw [q] at e; cases e
  | some o =>
    rw [q] at e
    have e' : (b, o) = p := Option.some.inj e
    subst e'
    exact ⟨hb, q⟩
theorem Inv.pinned {pins : List (Addr × Obj)} {σ : St} {H : Hp} {s : Shared} {fp : List Addr} (I : Inv X pins σ H s) (hf : ∀ b ∈ fp, FpOk X pins H b) (ho : ∀ b ∈ fp, ∃ o, s.heap.get? b = some o ∧ ∀ v, o.data ≠ .cell v) : Inv X (pins ++ pinsAt fp s.heap) σ H s :=
  I.pins_of fun p hp => (List.mem_append.mp hp).elim (fun z => I.pin p (List.mem_append_right _ z)) fun z => by
    obtain ⟨hb, e⟩ := of_pinsAt z
    obtain ⟨f0, f1, f2, _⟩ := hf p.1 hb
    obtain ⟨o, e', d⟩ := ho p.1 hb
    rw [e] at e'; cases e'
    exact ⟨e, f0, f1, f2, d⟩
theorem Inv.unpinned {pins pl : List (Addr × Obj)} {σ : St} {H : Hp} {s : Shared} (I : Inv X (pins ++ pl) σ H s) : Inv X pins σ H s := I.pins_of fun p hp => I.pin p (List.mem_append_right _ (List.mem_append_left _ hp))
theorem ps_for {iter : Expr} {body : List Stmt} {wi : TI} {g : TG} {tb : TS} {pos : Pos} (hp : PassesOwn (model X.prog X.w) X.A X.env X.xe) (hc : X.calm = true) (hi : PI X tg iter wi) (hg : PG X tg g) (hb : PSs X body tb)
    (hs : ∀ x, foldedSetIterable iter X.env x = pure x := by intro _; rfl) : PS X (.For tg iter body [] pos) (tFor wi g tb) := by
  intro pins s σ H D I h
  refine wpAny_For (thn (hi pins s σ H _ I h) fun v s1 h1 => thn h1 fun itv s2 h2 => ?_) hs
  obtain ⟨it, fp, tn, J, H2, e, I2, T, st2, f2, W, ⟨m0, w0⟩, turn⟩ := h2
  subst e
  -- what stays true of the iterator's objects through the loop
  have stat : ∀ {H' : Hp}, (∀ b ∈ fp, H' b = none) → ∀ b ∈ fp, FpOk X pins H' b := fun hn b hb => ⟨hn b hb, (f2 b hb).2⟩
  refine codeAny_forLoop_any (fun n s' => ∃ i σ' H', Inv X pins σ' H' s' ∧ tn i s'.heap ∧ (∀ b ∈ fp, H' b = none) ∧ W i n σ' H') ?_ m0 ⟨0, σ, H2, I2, st2, fun b hb => (f2 b hb).1, w0⟩
  rintro n s3 ⟨i, σ3, H3, I3, st3, fr3, w3⟩
  rcases turn i n σ3 H3 w3 with ⟨stop, qn⟩ | ⟨go, N, hN, step⟩
  · refine wpAny_passesOwn hp (thn (T.done X rfl rfl rfl hc i pins s3 σ3 H3 X.xe I3 (stat fr3) st3 stop) fun r s4 ⟨hr, I4⟩ => ?_)
    subst hr
    exact wpAny_execs_nil ⟨σ3, H3, I4, qn⟩
  · refine wpAny_passesOwn hp (thn (T.item X rfl rfl rfl hc i pins s3 σ3 H3 X.xe I3 (stat fr3) st3 go) fun r s4 ⟨u, hr, h4⟩ => ?_)
    subst hr
    refine wpAny_passesOwn hp (thn h4 fun _ s5 ⟨x, H5, I5, r5, y5, st5, fr5⟩ => ?_)
    have I5' := I5.pinned (stat fr5) (T.obj _ _ st5)
    refine wpAny_passesOwn hp (thn (hg _ s5 σ3 H5 x u _ I5' r5 (step x H5 y5)) fun _ s6 ⟨σ6, H6, I6, q6⟩ => ?_)
    refine wpAny_passesOwn hp (thn (hb _ s6 σ6 H6 _ I6 q6) fun f s7 q7 => ?_)
    have again : ∀ {σ7 : St} {H7 : Hp}, Inv X (pins ++ pinsAt fp s5.heap) σ7 H7 s7 → N σ7 H7 → ∃ m, m < n ∧ ∃ i σ' H', Inv X pins σ' H' s7 ∧ tn i s7.heap ∧ (∀ b ∈ fp, H' b = none) ∧ W i m σ' H' := fun {σ7 H7} I7 n7 => by
      obtain ⟨m', hm, w7⟩ := hN σ7 H7 n7
      refine ⟨m', hm, i + 1, σ7, H7, I7.unpinned, T.keep _ _ _ st5 fun b hb o e => (I7.pin (b, o) (List.mem_append_right _ (List.mem_append_right _ (mem_pinsAt hb e)))).1, fun b hb => ?_, w7⟩
      obtain ⟨o, e, d⟩ := T.obj _ _ st5 b hb
      exact (I7.pin (b, o) (List.mem_append_right _ (List.mem_append_right _ (mem_pinsAt hb e)))).2.1
    cases f with
    | next => obtain ⟨σ7, H7, I7, n7⟩ := q7; exact again I7 n7
    | cont => obtain ⟨σ7, H7, I7, n7⟩ := q7; exact again I7 n7
    | brk => obtain ⟨σ7, H7, I7, q7⟩ := q7; exact ⟨σ7, H7, I7.unpinned, q7⟩
    | ret v => obtain ⟨x7, σ7, H7, I7, r7, q7⟩ := q7; exact ⟨x7, σ7, H7, I7.unpinned, r7, q7⟩
end

/-! ### the forms one uses -/
end L2

namespace L2
open PySem PySem.Spec PyProof.Rows

abbrev R2 := V → V → Hp → VK → Prop
/-- a two-place operation on values: f is binaryOp op, inplaceOp op or compareOp op -/
def OpR (X : Cx) (f : Value → Value → Sem Value) (r : R2) : Prop :=
  ∀ (pins : List (Addr × Obj)) (s : Shared) (σ : St) (H : Hp) (x y : V) (v u : Value) (Q : VK), Inv X pins σ H s → RelV x v → RelV y u → r x y H Q →
    wpAny (model X.prog X.w) X.A (f v u) (EP X pins σ Q) X.xe s
/-- a one-place operation -/
def UnR (X : Cx) (f : Value → Sem Value) (r : V → Hp → VK → Prop) : Prop :=
  ∀ (pins : List (Addr × Obj)) (s : Shared) (σ : St) (H : Hp) (x : V) (v : Value) (Q : VK), Inv X pins σ H s → RelV x v → r x H Q →
    wpAny (model X.prog X.w) X.A (f v) (EP X pins σ Q) X.xe s
/-- a call of a value that is known (a builtin, a type) with values -/
def CallR (X : Cx) (f : Value) (r : List V → Hp → VK → Prop) : Prop :=
  ∀ (pins : List (Addr × Obj)) (s : Shared) (σ : St) (H : Hp) (xs : List V) (us : List Value) (Q : VK), Inv X pins σ H s → Vals xs us → r xs H Q →
    wpAny (model X.prog X.w) X.A (call f us) (EP X pins σ Q) X.xe s

def tOp (r : R2) (ta tb : TE) : TE := fun σ H Q => ta σ H fun x H1 => tb σ H1 fun y H2 => r x y H2 Q
def tUn (r : V → Hp → VK → Prop) (ta : TE) : TE := fun σ H Q => ta σ H fun x H1 => r x H1 Q
/-- ints in, under C, and a value out -/
def rI (C : Int → Int → Prop) (g : Int → Int → V) : R2 := fun x y H Q => ∃ i j, x = .int i ∧ y = .int j ∧ C i j ∧ Q (g i j) H
def rI0 (g : Int → Int → V) : R2 := fun x y H Q => ∃ i j, x = .int i ∧ y = .int j ∧ Q (g i j) H
def rU (g : Int → V) : V → Hp → VK → Prop := fun x H Q => ∃ i, x = .int i ∧ Q (g i) H

section
variable {X : Cx} {a b c : Expr} {ta tb tc : TE} {pos : Pos}

theorem binT (ha : PE X a ta) (hb : PE X b tb) {pins : List (Addr × Obj)} {s : Shared} {σ : St} {H : Hp} {R : V → V → Hp → Prop} (I : Inv X pins σ H s)
    (h : ta σ H fun x H1 => tb σ H1 fun y H2 => R x y H2) {Q : Value → Shared → Prop} {f : Value → Value → Sem Value}
    (hf : ∀ v u s2 x y H2, Inv X pins σ H2 s2 → RelV x v → RelV y u → R x y H2 → wpAny (model X.prog X.w) X.A (f v u) Q X.xe s2) :
    wpAny (model X.prog X.w) X.A (eval a X.env) (fun v s₁ => wpAny (model X.prog X.w) X.A (eval b X.env) (fun u s₂ => wpAny (model X.prog X.w) X.A (f v u) Q X.xe s₂) X.xe s₁) X.xe s := by
  refine thn (ha pins s σ H _ I h) fun v s1 ⟨x, H1, I1, r1, q1⟩ => ?_
  refine thn (hb pins s1 σ H1 _ I1 q1) fun u s2 ⟨y, H2, I2, r2, q2⟩ => ?_
  exact hf v u s2 x y H2 I2 r1 r2 q2

theorem pe_op {op : Operator} {r : R2} (ho : OpR X (binaryOp op) r) (ha : PE X a ta) (hb : PE X b tb) : PE X (.BinOp a op b pos) (tOp r ta tb) := by
  intro pins s σ H Q I h
  exact wpAny_BinOp (binT ha hb I h fun v u s2 x y H2 I2 rx ry q => ho pins s2 σ H2 x y v u Q I2 rx ry q)
theorem pe_un {op : UnaryOp} {r : V → Hp → VK → Prop} (ho : UnR X (unaryOp op) r) (ha : PE X a ta) : PE X (.UnaryOp op a pos) (tUn r ta) := by
  intro pins s σ H Q I h
  exact UnaryOp_ (thn (ha pins s σ H _ I h) fun v s1 ⟨x, H1, I1, r1, q1⟩ => ho pins s1 σ H1 x v Q I1 r1 q1)

/-! ### ints -/
theorem opI {f : Value → Value → Sem Value} {C : Int → Int → Prop} {g : Int → Int → Int}
    (rule : ∀ (i j : Int) (t u : Tok) (s : Shared) (Q : Value → Shared → Prop) (E : Value → Shared → Prop), C i j → Q (.int (g i j) s.toks) { s with toks := s.toks + 1 } → wpAny (model X.prog X.w) X.A (f (.int i t) (.int j u)) Q E s) :
    OpR X f (rI C fun i j => .int (g i j)) := by
  intro pins s σ H x y v u Q I rx ry h
  obtain ⟨i, j, rfl, rfl, hc, q⟩ := h
  obtain ⟨t, rfl⟩ := rx
  obtain ⟨t', rfl⟩ := ry
  exact rule i j t t' s _ _ hc ⟨.int (g i j), H, I.tok _, ⟨_, rfl⟩, q⟩
theorem opI0 {f : Value → Value → Sem Value} {g : Int → Int → Int}
    (rule : ∀ (i j : Int) (t u : Tok) (s : Shared) (Q : Value → Shared → Prop) (E : Value → Shared → Prop), Q (.int (g i j) s.toks) { s with toks := s.toks + 1 } → wpAny (model X.prog X.w) X.A (f (.int i t) (.int j u)) Q E s) :
    OpR X f (rI0 fun i j => .int (g i j)) := by
  intro pins s σ H x y v u Q I rx ry h
  obtain ⟨i, j, rfl, rfl, q⟩ := h
  obtain ⟨t, rfl⟩ := rx
  obtain ⟨t', rfl⟩ := ry
  exact rule i j t t' s _ _ ⟨.int (g i j), H, I.tok _, ⟨_, rfl⟩, q⟩
theorem opB0 {f : Value → Value → Sem Value} {g : Int → Int → Bool}
    (rule : ∀ (i j : Int) (t u : Tok) (s : Shared) (Q : Value → Shared → Prop) (E : Value → Shared → Prop), Q (.bool (g i j)) s → wpAny (model X.prog X.w) X.A (f (.int i t) (.int j u)) Q E s) :
    OpR X f (rI0 fun i j => .bl (g i j)) := by
  intro pins s σ H x y v u Q I rx ry h
  obtain ⟨i, j, rfl, rfl, q⟩ := h
  obtain ⟨t, rfl⟩ := rx
  obtain ⟨t', rfl⟩ := ry
  exact rule i j t t' s _ _ ⟨.bl (g i j), H, I, rfl, q⟩

def CDiv (i j : Int) : Prop := 0 < j ∧ j < 1073741824
def CPow (i j : Int) : Prop := 0 ≤ j ∧ j ≤ 1000000 ∧ i.natAbs < 2 ^ 64
def CMul (i j : Int) : Prop := (-(2 ^ 64) < i ∧ i < 2 ^ 64) ∨ (-(2 ^ 64) < j ∧ j < 2 ^ 64)
theorem CMul.ok {i j : Int} (h : CMul i j) : IntMulOk i j := by
  rcases h with ⟨h1, h2⟩ | ⟨h1, h2⟩
  · exact .of_left (intBits_le_64 h1 h2)
  · exact .of_right (intBits_le_64 h1 h2)

theorem op_add : OpR X (binaryOp .Add) (rI0 fun i j => .int (i + j)) := opI0 fun _ _ _ _ _ _ _ q => add_int q
theorem op_sub : OpR X (binaryOp .Sub) (rI0 fun i j => .int (i - j)) := opI0 fun _ _ _ _ _ _ _ q => sub_int q
theorem op_mul : OpR X (binaryOp .Mult) (rI CMul fun i j => .int (i * j)) := opI fun _ _ _ _ _ _ _ hc q => mul_int q hc.ok
/-- // by a positive divisor -/
theorem op_fdiv : OpR X (binaryOp .FloorDiv) (rI CDiv fun i j => .int (i / j)) := opI fun i j _ _ _ _ _ hc q => by
  have h1 : (0 : Int) < j := hc.1
  have h2 : j < 1073741824 := hc.2
  exact floordiv_int (by omega) (by rw [Int.fdiv_eq_ediv_of_nonneg i (by omega)]; exact q) (.inl (PyProof.noPylong_small (by omega)))
/-- % by a positive divisor of any size -/
theorem op_mod : OpR X (binaryOp .Mod) (rI (fun _ j => 0 < j) fun i j => .int (i % j)) := opI fun i j _ _ _ _ _ hc q => by
  have h1 : (0 : Int) < j := hc
  exact mod_int' (by omega) (by rw [Int.fmod_eq_emod_of_nonneg i (by omega)]; exact q)
theorem op_pow : OpR X (binaryOp .Pow) (rI CPow fun i j => .int (i ^ j.toNat)) := opI fun _ _ _ _ _ _ _ hc q => pow_int_small hc.1 hc.2.1 hc.2.2 q


theorem unI {f : Value → Sem Value} {g : Int → Int}
    (rule : ∀ (i : Int) (t : Tok) (s : Shared) (Q : Value → Shared → Prop) (E : Value → Shared → Prop), Q (.int (g i) s.toks) { s with toks := s.toks + 1 } → wpAny (model X.prog X.w) X.A (f (.int i t)) Q E s) :
    UnR X f (rU fun i => .int (g i)) := by
  intro pins s σ H x v Q I rx h
  obtain ⟨i, rfl, q⟩ := h
  obtain ⟨t, rfl⟩ := rx
  exact rule i t s _ _ ⟨.int (g i), H, I.tok _, ⟨_, rfl⟩, q⟩
theorem un_neg : UnR X (unaryOp .USub) (rU fun i => .int (-i)) := unI fun _ _ _ _ _ q => neg_int q

/-! ### bools among ints: n += (a < b) -/
end

/-! ### comparisons -/
/-- the scalars that == tells apart as data does -/
def scal : V → V → Bool
  | .non, .non => true | .non, .int _ => true | .int _, .non => true | .non, .bl _ => true | .bl _, .non => true | .non, .str _ => true | .str _, .non => true
  | .int _, .int _ => true | .bl _, .bl _ => true | .str _, .str _ => true | .byt _, .byt _ => true
  | .int _, .str _ => true | .str _, .int _ => true | .bl _, .str _ => true | .str _, .bl _ => true
  | _, _ => false
def rEq : R2 := fun x y H Q => scal x y = true ∧ Q (.bl (decide (x = y))) H
def rNe : R2 := fun x y H Q => scal x y = true ∧ Q (.bl (!decide (x = y))) H

theorem dec_int {i j : Int} : decide (V.int i = V.int j) = (i == j) := by
  rw [Bool.eq_iff_iff]
  simp
theorem dec_bl {i j : Bool} : decide (V.bl i = V.bl j) = (i == j) := by
  rw [Bool.eq_iff_iff]
  simp
theorem dec_str {i j : Str} : decide (V.str i = V.str j) = (i == j) := by
  rw [Bool.eq_iff_iff]
  simp
theorem dec_byt {i j : Array UInt8} : decide (V.byt i = V.byt j) = (i.toList == j.toList) := by
  rw [Bool.eq_iff_iff]
  cases i
  cases j
  simp

section
variable {X : Cx} {a b c : Expr} {ta tb tc : TE} {pos : Pos}
theorem fin_bl {pins : List (Addr × Obj)} {σ : St} {H : Hp} {s : Shared} {Q : VK} {k k' : Bool} (I : Inv X pins σ H s) (q : Q (.bl k) H) (e : k = k') : EP X pins σ Q (.bool k') s := by
  subst e
  exact ⟨.bl k, H, I, rfl, q⟩
theorem op_eq : OpR X (compareOp .Eq) rEq := by
  intro pins s σ H x y v u Q I rx ry h
  obtain ⟨hs, q⟩ := h
  cases x with
  | non =>
    cases rx
    cases y with
    | non => cases ry; exact PySem.EqNone.eq_none_none (fin_bl I q (by simp))
    | bl j => cases ry; exact PySem.EqNone.eq_none_bool (fin_bl I q (by simp))
    | int j => obtain ⟨t', rfl⟩ := ry; exact PySem.EqNone.eq_none_int (fin_bl I q (by simp))
    | str j => obtain ⟨t', rfl⟩ := ry; exact PySem.EqNone.eq_none_str (fin_bl I q (by simp))
    | _ => exact absurd (show false = true from hs) Bool.false_ne_true
  | bl i =>
    cases rx
    cases y with
    | non => cases ry; exact PySem.EqNone.eq_bool_none (fin_bl I q (by simp))
    | bl j => cases ry; exact eq_bool (fin_bl I q dec_bl)
    | str j => obtain ⟨t', rfl⟩ := ry; exact PySem.EqMixed.eq_bool_str (fin_bl I q (by simp))
    | _ => exact absurd (show false = true from hs) Bool.false_ne_true
  | int i =>
    obtain ⟨t, rfl⟩ := rx
    cases y with
    | non => cases ry; exact PySem.EqNone.eq_int_none (fin_bl I q (by simp))
    | int j => obtain ⟨t', rfl⟩ := ry; exact eq_int (fin_bl I q dec_int)
    | str j => obtain ⟨t', rfl⟩ := ry; exact PySem.EqMixed.eq_int_str (fin_bl I q (by simp))
    | _ => exact absurd (show false = true from hs) Bool.false_ne_true
  | str i =>
    obtain ⟨t, rfl⟩ := rx
    cases y with
    | non => cases ry; exact PySem.EqNone.eq_str_none (fin_bl I q (by simp))
    | bl j => cases ry; exact PySem.EqMixed.eq_str_bool (fin_bl I q (by simp))
    | int j => obtain ⟨t', rfl⟩ := ry; exact PySem.EqMixed.eq_str_int (fin_bl I q (by simp))
    | str j => obtain ⟨t', rfl⟩ := ry; exact eq_str (fin_bl I q dec_str)
    | _ => exact absurd (show false = true from hs) Bool.false_ne_true
  | byt i =>
    obtain ⟨t, rfl⟩ := rx
    cases y with
    | byt j => obtain ⟨t', rfl⟩ := ry; exact PySem.W.eq_bytes (fin_bl I q dec_byt)
    | _ => exact absurd (show false = true from hs) Bool.false_ne_true
  | _ => cases y <;> exact absurd (show false = true from hs) Bool.false_ne_true
theorem op_ne : OpR X (compareOp .NotEq) rNe := by
  intro pins s σ H x y v u Q I rx ry h
  obtain ⟨hs, q⟩ := h
  cases x with
  | non =>
    cases rx
    cases y with
    | non => cases ry; exact PySem.EqNone.ne_none_none (fin_bl I q (by simp))
    | bl j => cases ry; exact PySem.EqNone.ne_none_bool (fin_bl I q (by simp))
    | int j => obtain ⟨t', rfl⟩ := ry; exact PySem.EqNone.ne_none_int (fin_bl I q (by simp))
    | str j => obtain ⟨t', rfl⟩ := ry; exact PySem.EqNone.ne_none_str (fin_bl I q (by simp))
    | _ => exact absurd (show false = true from hs) Bool.false_ne_true
  | bl i =>
    cases rx
    cases y with
    | non => cases ry; exact PySem.EqNone.ne_bool_none (fin_bl I q (by simp))
    | bl j => cases ry; exact ne_bool (fin_bl I q (congrArg not dec_bl))
    | str j => obtain ⟨t', rfl⟩ := ry; exact PySem.EqMixed.ne_bool_str (fin_bl I q (by simp))
    | _ => exact absurd (show false = true from hs) Bool.false_ne_true
  | int i =>
    obtain ⟨t, rfl⟩ := rx
    cases y with
    | non => cases ry; exact PySem.EqNone.ne_int_none (fin_bl I q (by simp))
    | int j => obtain ⟨t', rfl⟩ := ry; exact ne_int (fin_bl I q (congrArg not dec_int))
    | str j => obtain ⟨t', rfl⟩ := ry; exact PySem.EqMixed.ne_int_str (fin_bl I q (by simp))
    | _ => exact absurd (show false = true from hs) Bool.false_ne_true
  | str i =>
    obtain ⟨t, rfl⟩ := rx
    cases y with
    | non => cases ry; exact PySem.EqNone.ne_str_none (fin_bl I q (by simp))
    | bl j => cases ry; exact PySem.EqMixed.ne_str_bool (fin_bl I q (by simp))
    | int j => obtain ⟨t', rfl⟩ := ry; exact PySem.EqMixed.ne_str_int (fin_bl I q (by simp))
    | str j => obtain ⟨t', rfl⟩ := ry; exact ne_str (fin_bl I q (congrArg not dec_str))
    | _ => exact absurd (show false = true from hs) Bool.false_ne_true
  | byt i =>
    obtain ⟨t, rfl⟩ := rx
    cases y with
    | byt j => obtain ⟨t', rfl⟩ := ry; exact PySem.W.ne_bytes (fin_bl I q (congrArg not dec_byt))
    | _ => exact absurd (show false = true from hs) Bool.false_ne_true
  | _ => cases y <;> exact absurd (show false = true from hs) Bool.false_ne_true

theorem op_lt : OpR X (compareOp .Lt) (rI0 fun i j => .bl (decide (i < j))) := opB0 fun _ _ _ _ _ _ _ q => lt_int q
theorem op_le : OpR X (compareOp .LtE) (rI0 fun i j => .bl (decide (i ≤ j))) := opB0 fun _ _ _ _ _ _ _ q => le_int q
theorem op_gt : OpR X (compareOp .Gt) (rI0 fun i j => .bl (decide (j < i))) := opB0 fun _ _ _ _ _ _ _ q => gt_int q
theorem op_ge : OpR X (compareOp .GtE) (rI0 fun i j => .bl (decide (j ≤ i))) := opB0 fun _ _ _ _ _ _ _ q => ge_int q
theorem op_lt_str : OpR X (compareOp .Lt) (fun x y H Q => ∃ i j, x = .str i ∧ y = .str j ∧ Q (.bl (decide (i.cps.toList < j.cps.toList))) H) := by
  intro pins s σ H x y v u Q I rx ry h
  obtain ⟨i, j, rfl, rfl, q⟩ := h
  obtain ⟨t, rfl⟩ := rx
  obtain ⟨t', rfl⟩ := ry
  exact lt_str (fin_bl I q rfl)

/-- is None, is not None: the right side a value none -/
theorem op_isN : OpR X (compareOp .Is) (fun x y H Q => y = .non ∧ Q (.bl (decide (x = .non))) H) := by
  intro pins s σ H x y v u Q I rx ry h
  obtain ⟨rfl, q⟩ := h
  cases ry
  refine is_none_gen (fin_bl I q ?_)
  cases x <;> first
    | (cases rx; rfl)
    | (obtain ⟨t, rfl⟩ := rx; rfl)


/-- two rules for one operation: by cases -/
theorem OpR.or {f : Value → Value → Sem Value} {r r' : R2} (h : OpR X f r) (h' : OpR X f r') : OpR X f (fun x y H Q => r x y H Q ∨ r' x y H Q) := by
  intro pins s σ H x y v u Q I rx ry q
  rcases q with q | q
  · exact h pins s σ H x y v u Q I rx ry q
  · exact h' pins s σ H x y v u Q I rx ry q

/-- a comparison as a value; hm: nomark b, or (for in, not in) by with_unfolding_all rfl -/
theorem pe_cmpR {op : CmpOp} {r : R2} (ho : OpR X (compareOp op) r) (ha : PE X a ta) (hb : PE X b tb) (hm : behindInMarks op b = false) : PE X (.Compare a [op] [b] pos) (tOp r ta tb) := by
  intro pins s σ H Q I h
  exact wpAny_Compare1 (binT ha hb I h fun v u s2 x y H2 I2 rx ry q => ho pins s2 σ H2 x y v u Q I2 rx ry q) hm
/-- a reading of a value as a test -/
def tTest (t : TE) : TT := fun σ H Q => t σ H fun x H' => ∃ k, x = .bl k ∧ Q k H'
theorem pt_cmpR {op : CmpOp} {r : R2} (ho : OpR X (compareOp op) r) (ha : PE X a ta) (hb : PE X b tb) (hm : behindInMarks op b = false) : PT X (.Compare a [op] [b] pos) (tTest (tOp r ta tb)) := by
  intro pins s σ H Q I h
  refine wpAny_isTrue_Compare1 (thn (ha pins s σ H _ I h) fun v s1 ⟨x, H1, I1, r1, q1⟩ => thn (hb pins s1 σ H1 _ I1 q1) fun u s2 ⟨y, H2, I2, r2, q2⟩ =>
    thn (ho pins s2 σ H2 x y v u _ I2 r1 r2 q2) fun c s3 ⟨z, H3, I3, r3, k, e, q3⟩ => ?_) hm
  subst e
  cases r3
  exact wpAny_truthy_bool ⟨H3, I3, q3⟩
/-- a op1 b op2 c -/
def tChain (r r' : R2) (ta tb tc : TE) : TE := fun σ H Q => ta σ H fun x H1 => tb σ H1 fun y H2 => r x y H2 fun z H3 => ∃ k, z = .bl k ∧
  (if k = true then tc σ H3 fun w' H4 => r' y w' H4 Q else Q (.bl false) H3)
theorem pe_chain {op op' : CmpOp} {r r' : R2} (ho : OpR X (compareOp op) r) (ho' : OpR X (compareOp op') r') (ha : PE X a ta) (hb : PE X b tb) (hc : PE X c tc)
    (hm : lastMarks [op, op'] [b, c] = false := by with_unfolding_all rfl) : PE X (.Compare a [op, op'] [b, c] pos) (tChain r r' ta tb tc) := by
  intro pins s σ H Q I h
  refine Compare_chain (thn (ha pins s σ H _ I h) fun v s1 ⟨x, H1, I1, r1, q1⟩ => chain_link (thn (hb pins s1 σ H1 _ I1 q1) fun u s2 ⟨y, H2, I2, r2, q2⟩ =>
    thn (ho pins s2 σ H2 x y v u _ I2 r1 r2 q2) fun d s3 ⟨z, H3, I3, r3, k, e, q3⟩ => ?_)) hm
  subst e
  cases r3
  refine wpAny_truthy_bool ?_
  cases k with
  | false => exact ite_ff ⟨.bl false, H3, I3, rfl, q3⟩
  | true => exact ite_tt (chain_last (thn (hc pins s3 σ H3 _ I3 q3) fun w' s4 ⟨z', H4, I4, r4, q4⟩ => ho' pins s4 σ H4 y z' u w' Q I4 r2 r4 q4))
theorem pt_chain {op op' : CmpOp} {r r' : R2} (ho : OpR X (compareOp op) r) (ho' : OpR X (compareOp op') r') (ha : PE X a ta) (hb : PE X b tb) (hc : PE X c tc)
    (hm : lastMarks [op, op'] [b, c] = false := by with_unfolding_all rfl) : PT X (.Compare a [op, op'] [b, c] pos) (tTest (tChain r r' ta tb tc)) := by
  intro pins s σ H Q I h
  refine isTrue_chain (thn (ha pins s σ H _ I h) fun v s1 ⟨x, H1, I1, r1, q1⟩ => test_link (thn (hb pins s1 σ H1 _ I1 q1) fun u s2 ⟨y, H2, I2, r2, q2⟩ =>
    thn (ho pins s2 σ H2 x y v u _ I2 r1 r2 q2) fun d s3 ⟨z, H3, I3, r3, k, e, q3⟩ => ?_)) hm
  subst e
  cases r3
  refine wpAny_truthy_bool ?_
  cases k with
  | false =>
    obtain ⟨k', e', q'⟩ := q3
    cases e'
    exact ite_ff ⟨H3, I3, q'⟩
  | true =>
    refine ite_tt (test_last (thn (hc pins s3 σ H3 _ I3 q3) fun w' s4 ⟨z', H4, I4, r4, q4⟩ => thn (ho' pins s4 σ H4 y z' u w' _ I4 r2 r4 q4) fun d' s5 ⟨z2, H5, I5, r5, k2, e2, q5⟩ => ?_))
    subst e2
    cases r5
    exact wpAny_truthy_bool ⟨H5, I5, q5⟩

/-! ### truth -/
theorem line63 : (sizeLine : Nat) < 2 ^ 63 := by rw [sizeLine_eq]; decide

/-! ### strs and bytes -/
theorem op_add_str : OpR X (binaryOp .Add) (fun x y H Q => ∃ i j, x = .str i ∧ y = .str j ∧ i.length + j.length ≤ sizeLine ∧ Q (.str (i ++ j)) H) := by
  intro pins s σ H x y v u Q I rx ry h
  obtain ⟨i, j, rfl, rfl, hz, q⟩ := h
  obtain ⟨t, rfl⟩ := rx
  obtain ⟨t', rfl⟩ := ry
  exact add_str (fun t' tk => ⟨.str (i ++ j), H, I.tok _, ⟨_, rfl⟩, q⟩) hz


/-! ### scalar builtins, by CallR -/
theorem vals1 {x : V} {us : List Value} (r : Vals [x] us) : ∃ u, us = [u] ∧ RelV x u := by
  cases r with
  | cons r1 r2 => cases r2; exact ⟨_, rfl, r1⟩
theorem vals2 {x y : V} {us : List Value} (r : Vals [x, y] us) : ∃ u w', us = [u, w'] ∧ RelV x u ∧ RelV y w' := by
  cases r with
  | cons r1 r2 =>
    cases r2 with
    | cons r3 r4 => cases r4; exact ⟨_, _, rfl, r1, r3⟩
theorem call_max2 (hc : X.calm = true) : CallR X (.builtin "max") (fun xs H Q => ∃ i j, xs = [.int i, .int j] ∧ Q (.int (if j > i then j else i)) H) := by
  intro pins s σ H xs us Q I r h
  obtain ⟨i, j, rfl, q⟩ := h
  obtain ⟨u, w', rfl, ⟨t, rfl⟩, ⟨t', rfl⟩⟩ := vals2 r
  refine max_two_ints (I.ok.hd hc) fun h' tk k => ⟨_, H, I.kept k, ?_, q⟩
  by_cases hj : j > i
  · rw [if_pos hj, if_pos hj]; exact ⟨_, rfl⟩
  · rw [if_neg hj, if_neg hj]; exact ⟨_, rfl⟩
theorem call_min2 (hc : X.calm = true) : CallR X (.builtin "min") (fun xs H Q => ∃ i j, xs = [.int i, .int j] ∧ Q (.int (if j < i then j else i)) H) := by
  intro pins s σ H xs us Q I r h
  obtain ⟨i, j, rfl, q⟩ := h
  obtain ⟨u, w', rfl, ⟨t, rfl⟩, ⟨t', rfl⟩⟩ := vals2 r
  refine min_two_ints (I.ok.hd hc) fun h' tk k => ⟨_, H, I.kept k, ?_, q⟩
  by_cases hj : j < i
  · rw [if_pos hj, if_pos hj]; exact ⟨_, rfl⟩
  · rw [if_neg hj, if_neg hj]; exact ⟨_, rfl⟩
theorem call_int1 : CallR X (.type "int") (fun xs H Q => (∃ i, xs = [.int i] ∧ Q (.int i) H) ∨ ∃ k, xs = [.bl k] ∧ Q (.int (if k then 1 else 0)) H) := by
  intro pins s σ H xs us Q I r h
  rcases h with ⟨i, rfl, q⟩ | ⟨k, rfl, q⟩
  · obtain ⟨u, rfl, t, rfl⟩ := vals1 r
    exact call_int_int ⟨.int i, H, I, ⟨_, rfl⟩, q⟩
  · obtain ⟨u, rfl, r1⟩ := vals1 r
    cases r1
    exact call_int_bool ⟨.int (if k then 1 else 0), H, I.tok _, ⟨_, rfl⟩, q⟩
end
end L2

namespace L2
open PySem PySem.Spec PyProof.Rows

/-! ### an instance, its attributes a map -/
structure ObjM (h : Heap) (x dx C : Addr) (mA : Str → Option Value) : Prop where
  obj : h.get? x = some (PySem.W.instObj C dx)
  ns : h.Ns1 dx mA
  ne : dx ≠ x

theorem lookIn_ns {h : Heap} {dx : Addr} {mA : Str → Option Value} (n : h.Ns1 dx mA) : ∃ od, h.get? dx = some od ∧ ∀ name, PySem.W.lookIn name od = some (mA name) := by
  obtain ⟨o, es, ep, ho, hd, hk, _, hm⟩ := n
  refine ⟨o, ho, fun name => ?_⟩
  have e := hm name
  unfold nsFind findBy at e
  rw [← Array.find?_toList] at e
  unfold PySem.W.lookIn
  rw [hd]
  dsimp only
  split
  · rename_i y q
    rw [q] at e
    exact congrArg some e
  · rename_i q
    rw [q] at e
    have a : es.toList.any (·.refKey) = false := by
      rw [List.any_eq_false]
      intro y hy
      obtain ⟨z, t, hkey⟩ := hk y (Array.mem_toList_iff.mp hy)
      simp [DictEntry.refKey, hkey]
    have a' : ¬ es.toList.any (·.refKey) = true := by rw [a]; exact Bool.false_ne_true
    rw [if_neg a']
    exact congrArg some e

theorem ObjM.look {h : Heap} {x dx C : Addr} {mA : Str → Option Value} (I : ObjM h x dx C mA) : ∃ od, PySem.W.InstAt h x (PySem.W.instObj C dx) C (some od) ∧ ∀ name, PySem.W.lookIn name od = some (mA name) :=
  let ⟨od, ho, hl⟩ := lookIn_ns I.ns
  ⟨od, ⟨I.obj, rfl, rfl, ho⟩, hl⟩

section
variable {prog : Program} {w : World} {A : Around} {E : Value → Shared → Prop} {s : Shared} {K : PySem.W.Frag} {x dx C f : Addr} {mA : Str → Option Value} {name : Str} {v : Value}





end

/-! ### the attributes as a list of pairs -/


section
variable {P : Program} {w : World} {H H' : Hp} {h h' : Heap} {a C dx : Addr} {fs fs' : List (Str × V)}
theorem ins_get (hok : HOk P w H h) (e : H a = some (.ins C dx fs)) : ∃ mA, ObjM h a dx C mA ∧ (∀ f, RelO (fs.lookup f) (mA f)) ∧ PySem.Within mA (fs.map (·.1)) ∧ fs.length ≤ 1000 ∧ H dx = some (.own a) := by
  obtain ⟨d, z, ne, ob, mA, n, r, q⟩ := (show ObjOk P w H h a (.ins C dx fs) from hok a _ e)
  exact ⟨mA, ⟨ob, n, ne⟩, r, q, z, d⟩
end

/-! ### what of the text a class must have -/
structure Cls (K : PySem.W.Frag) (C : Addr) : Prop where
  pg : PySem.W.plainGet K C Str.empty = true
  hd : PySem.W.hasDictIn K C = true
  po : PySem.W.plainOver K C = true
  sa : PySem.W.findIn K (.ref C) "__setattr__" = some (some (.builtin "object.__setattr__"))
theorem Cls.get {K : PySem.W.Frag} {C : Addr} (c : Cls K C) (f : Str) : PySem.W.plainGet K C f = true := c.pg
/-- a constant of the class -/
structure Con (K : PySem.W.Frag) (C : Addr) (f : Str) (v : V) (u : Value) : Prop where
  at_ : PySem.W.findIn K (.ref C) f = some (some u)
  rel : RelV v u
  get : PySem.W.specialIn K u "__get__" = some none
  cp : PySem.W.copiedNames.contains f = false
/-- a method: a plain def of the class or of one above it -/
structure Meth (K : PySem.W.Frag) (C : Addr) (m : Str) (f : Addr) : Prop where
  at_ : PySem.W.findIn K (.ref C) m = some (some (.ref f))
  fn : PySem.W.isFn K (.ref f) = true
  kp : PySem.W.keepIn K (.ref f) = true

section
variable {X : Cx} {pins : List (Addr × Obj)} {σ : St} {H : Hp} {s : Shared} {a C dx : Addr} {fs : List (Str × V)} {f : Str} {v : V} {A : Around} {E : Value → Shared → Prop}






end

/-! ### readings and rules -/

section
variable {X : Cx} {o e value : Expr} {f : Str} {pos pos' tpos : Pos} {ta tv : TE}

end

/-! ### isinstance -/
section
variable {X : Cx} {pins : List (Addr × Obj)} {σ : St} {H : Hp} {s : Shared} {A : Around} {E : Value → Shared → Prop} {Q : Value → Shared → Prop} {c : Value} {b : Bool}
/-- the type of a value, as the fragment's deciders take it; for an instance its class -/
inductive TyOf (K : PySem.W.Frag) (H : Hp) : V → Value → Prop where
  | non : TyOf K H .non (.type "NoneType")
  | bl (x : Bool) : TyOf K H (.bl x) (.type "bool")
  | int (i : Int) : TyOf K H (.int i) (.type "int")
  | str (x : Str) : TyOf K H (.str x) (.type "str")
  | flt (x : UInt64) : TyOf K H (.flt x) (.type "float")
  | lst {a : Addr} {xs : List V} (e : H a = some (.lst xs)) : TyOf K H (.ref a) (.type "list")
  | frz {a : Addr} {o : Obj} {xs : List V} (e : H a = some (.frz o (.lst xs))) : TyOf K H (.ref a) (.type "list")
  | tup {a : Addr} {xs : List V} (e : H a = some (.tup xs)) : TyOf K H (.ref a) (.type "tuple")
  | dK {a : Addr} {kvs : List (Key × V)} (e : H a = some (.dK kvs)) : TyOf K H (.ref a) (.type "dict")
  | dT {a : Addr} {kvs : List (List Key × V)} (e : H a = some (.dT kvs)) : TyOf K H (.ref a) (.type "dict")
  | ins {a C dx : Addr} {fs : List (Str × V)} (e : H a = some (.ins C dx fs)) (cl : Cls K C) (ha : PySem.W.findIn K (.ref C) "__class__" = some (some (.builtin "object.__class__")))
      (hn : PySem.W.specialIn K (.builtin "object.__class__") "__get__" = some (some (.builtin "getset_descriptor.__get__"))) (htk : PySem.W.takesIn K (.builtin "object.__class__") = some true)
      (hm : PySem.W.mroIn K C (.type "object") = some true) : TyOf K H (.ref a) (.ref C)
/-- isinstance(x, c) for one class c, a built-in or an own one: kitOne's answer -/
theorem isinst_ok {x : V} {u t : Value} (I : Inv X pins σ H s) (rx : RelV x u) (ty : TyOf X.K H x t) (e : PySem.W.kitOne X.K t c = some b) (h : ∀ tk, Q (.bool b) { s with toks := tk }) :
    wpAny (model X.prog X.w) A (call (.builtin "isinstance") [u, c]) Q E s := by
  cases ty with
  | non => cases (show u = Value.none from rx); exact PySem.W.kia_one PySem.W.kitx_none I.kIn True.intro e (fun z => nomatch z) h
  | bl y => cases (show u = Value.bool y from rx); exact PySem.W.kia_one PySem.W.kitx_bool I.kIn True.intro e (fun z => nomatch z) h
  | int i => obtain ⟨t, q⟩ := (show ∃ t, u = Value.int i t from rx); cases q; exact PySem.W.kia_one PySem.W.kitx_int I.kIn True.intro e (fun z => nomatch z) h
  | str y => obtain ⟨t, q⟩ := (show ∃ t, u = Value.str y t from rx); cases q; exact PySem.W.kia_one PySem.W.kitx_str I.kIn True.intro e (fun z => nomatch z) h
  | flt y => obtain ⟨t, q⟩ := (show ∃ t, u = Value.float y t from rx); cases q; exact PySem.W.kia_one PySem.W.kitx_float I.kIn True.intro e (fun z => nomatch z) h
  | @lst a xs ea =>
    cases (show u = Value.ref a from rx)
    obtain ⟨_, _, n, _, h1⟩ := (show ObjOk X.prog X.w H s.heap a (.lst xs) from I.hok a _ ea)
    exact PySem.W.kia_one PySem.W.kitx_list I.kIn ⟨_, h1, rfl⟩ e (fun z => nomatch z) h
  | @frz a ob xs ea =>
    cases (show u = Value.ref a from rx)
    obtain ⟨_, _, _, n, _, h1⟩ := (show ObjOk X.prog X.w H s.heap a (.frz ob (.lst xs)) from I.hok a _ ea)
    exact PySem.W.kia_one PySem.W.kitx_list I.kIn ⟨_, h1, rfl⟩ e (fun z => nomatch z) h
  | @tup a xs ea =>
    cases (show u = Value.ref a from rx)
    obtain ⟨_, _, _, p⟩ := (show ObjOk X.prog X.w H s.heap a (.tup xs) from I.hok a _ ea)
    obtain ⟨o, h1, h2, _⟩ := p
    exact PySem.W.kia_one PySem.W.kitx_tuple I.kIn ⟨o, h1, h2⟩ e (fun z => nomatch z) h
  | @dK a kvs ea =>
    cases (show u = Value.ref a from rx)
    obtain ⟨_, _, vs, _, p⟩ := (show ObjOk X.prog X.w H s.heap a (.dK kvs) from I.hok a _ ea)
    obtain ⟨o, es, ep, h1, h2, _⟩ := p
    exact PySem.W.kia_one PySem.W.kitx_dict I.kIn ⟨o, h1, h2.1⟩ e (fun z => nomatch z) h
  | @dT a kvs ea =>
    cases (show u = Value.ref a from rx)
    obtain ⟨_, _, xs, _, o, es, ep, h1, h2, _⟩ := (show ObjOk X.prog X.w H s.heap a (.dT kvs) from I.hok a _ ea)
    exact PySem.W.kia_one PySem.W.kitx_dict I.kIn ⟨o, h1, h2.1⟩ e (fun z => nomatch z) h
  | @ins a C dx fs ea cl ha hn htk hm =>
    cases (show u = Value.ref a from rx)
    obtain ⟨mA, O, _⟩ := ins_get I.hok ea
    obtain ⟨od, J, _⟩ := O.look
    exact PySem.W.kia_one (PySem.W.kitx_own (cl.get _) cl.hd ha hn htk hm) I.kIn J e (fun z => nomatch z) h
end
end L2

namespace L2
open PySem PySem.Spec PyProof.Rows

/-! ### room -/
structure Room (k : Nat) (A : Around) : Prop where
  hd : A.handled = none
  dp : A.depth + 3 * k + 5 < recursionLimit
  un : A.units + 16 * k + 200 < cLine
theorem Room.mono {j k : Nat} {A : Around} (r : Room k A) (h : j ≤ k) : Room j A := ⟨r.hd, by have := r.dp; omega, by have := r.un; omega⟩
theorem Room.deeper {k : Nat} {A : Around} (r : Room (k + 1) A) (env : Env) : Room k (A.deeper env) :=
  ⟨r.hd, by have := r.dp; show A.depth + 1 + 3 * k + 5 < _; omega, by have := r.un; show A.units + 3 + 16 * k + 200 < _; omega⟩
theorem Room.depth {k : Nat} {A : Around} (r : Room k A) : A.depth < recursionLimit := by have := r.dp; omega
theorem Room.units {k : Nat} {A : Around} (r : Room k A) : A.units + 64 < cLine := by have := r.un; omega
theorem Room.units0 {k : Nat} {A : Around} (r : Room k A) : A.units < cLine := by have := r.un; omega

/-! ### argument lists and displays -/
def tNil : TA := fun _ H Q => Q [] H
def tCons (ta : TE) (tr : TA) : TA := fun σ H Q => ta σ H fun x H1 => tr σ H1 fun xs H2 => Q (x :: xs) H2
section
variable {X : Cx} {e : Expr} {es : List Expr} {te : TE} {t : TA} {pos : Pos}
theorem pa_nil : PA X [] tNil := fun _ _ _ _ H Q I h => Calls.spliced_nil ⟨[], H, I, .nil, h⟩
theorem pa_cons (ha : PE X e te) (hr : PA X es t) (hs : starEach (e :: es) X.env = (false, eval e X.env) :: starEach es X.env := by rfl) : PA X (e :: es) (tCons te t) := by
  intro pos pins s σ H Q I h
  rw [hs]
  show wpAny _ _ (spliced ((false, eval e X.env) :: backTo pos (starEach es X.env))) _ _ s
  refine Calls.spliced_cons (thn (ha pins s σ H _ I h) fun u s1 ⟨x, H1, I1, r1, q1⟩ => ?_)
  exact thn (hr pos pins s1 σ H1 _ I1 q1) fun us s2 ⟨xs, H2, I2, r2, q2⟩ => ⟨x :: xs, H2, I2, .cons r1 r2, q2⟩

/-- a tuple, a list of written items -/
def tTup (t : TA) : TE := fun σ H Q => t σ H fun xs H1 => xs.length ≤ sizeLine ∧ ∀ p, H1 p = none → Q (.ref p) (upd H1 p (.tup xs))
def tLst (t : TA) : TE := fun σ H Q => t σ H fun xs H1 => xs.length ≤ sizeLine ∧ ∀ p, H1 p = none → Q (.ref p) (upd H1 p (.lst xs))
theorem pe_tup {x1} (h : PA X es t) : PE X (.Tuple es x1 pos) (tTup t) := by
  intro pins s σ H Q I hq
  refine wpAny_Tuple_spliced (thn (h pos pins s σ H _ I hq) fun us s1 ⟨xs, H1, I1, r, z, q⟩ => ⟨by rw [← r.length]; exact z, ?_⟩)
  have hf : H1 s1.heap.objs.size = none := I1.hok.fresh (Nat.le_refl _)
  refine ⟨.ref s1.heap.objs.size, upd H1 s1.heap.objs.size (.tup xs), I1.laid (t' := s1.toks) (fun b u e => Heap.get?_push_of_some _ e) (Nat.le_refl _) ?_, rfl, q _ hf⟩
  exact ⟨z, us, r, ⟨_, Heap.get?_push_size _ rfl, rfl, _, rfl⟩⟩
theorem pe_lst (h : PA X es t) : PE X (.List es pos) (tLst t) := by
  intro pins s σ H Q I hq
  refine wpAny_List_spliced (thn (h pos pins s σ H _ I hq) fun us s1 ⟨xs, H1, I1, r, z, q⟩ => ⟨by rw [← r.length]; exact z, ?_⟩)
  have hf : H1 s1.heap.objs.size = none := I1.hok.fresh (Nat.le_refl _)
  refine ⟨.ref s1.heap.objs.size, upd H1 s1.heap.objs.size (.lst xs), I1.laid (t' := s1.toks) (fun b u e => Heap.get?_push_of_some _ e) (Nat.le_refl _) ?_, rfl, q _ hf⟩
  exact ⟨z, us, 0, r, Heap.get?_push_size _ rfl⟩
end

/-! ### what a def promises -/
/-- a def's promise: the bound arguments in the parameters' order, the heap, the wanted end, the wanted exception -/
abbrev Sp := List V → Hp → VK → XK → Prop
/-- how an exception lies behind a call (file 08 gives it): the callers' frames, abstract heap and state ahead of the call, the wish, the exception, the state -/
abbrev CXT := List Env → Hp → Shared → XK → Value → Shared → Prop

/-- the state at a call -/
structure Env0 (P : Program) (w : World) (K : PySem.W.Frag) (mg : Str → Option Value) (base : Heap) (A : Around) (outer : List Env) (s : Shared) (H : Hp) : Prop where
  frames : A.frames = some outer
  mod : Mod K mg base
  bs : ∀ b o, base.get? b = some o → s.heap.get? b = some o ∧ H b = none
  bsz : base.objs.size ≤ s.heap.objs.size
  funs : s.heap.FunFrames base outer
  frf : ∀ b ∈ frs outer, H b = none
  hok : HOk P w H s.heap
  bare : AllBare s.gens
/-- a call's end -/
def CE (outer : List Env) (P : Program) (w : World) (H : Hp) (s : Shared) (Q : VK) (u : Value) (s' : Shared) : Prop :=
  ∃ v H', s'.os = s.os ∧ AllBare s'.gens ∧ Un (frs outer) [] H H' s.heap s'.heap ∧ HOk P w H' s'.heap ∧ RelV v u ∧ Q v H'
def CR (CX : CXT) (outer : List Env) (P : Program) (w : World) (H : Hp) (s : Shared) (Q : VK) (E : XK) (r : Result) (s' : Shared) : Prop :=
  match r with
  | .ok (.ret u) => CE outer P w H s Q u s'
  | .ok _ => False
  | .error e => CX outer H s E e s'
structure FnOk (P : Program) (w : World) (K : PySem.W.Frag) (mg : Str → Option Value) (base : Heap) (CX : CXT) (k : Nat) (f : Addr) (fd : FuncData) (ps : List Str) (sp : Sp) : Prop where
  len : ∀ vs H Q E, sp vs H Q E → vs.length = ps.length
  run : ∀ (A : Around) (outer : List Env) (s : Shared) (H : Hp) (args : Args) (us : List Value) (vs : List V) (Q : VK) (E : XK), Room k A → Env0 P w K mg base A outer s H → BindsTo s fd args (ps.zip us) → Vals vs us → sp vs H Q E →
    codeAny (model P w) A (.call (.ref f) args) (CR CX outer P w H s Q E) s


section
variable {X : Cx} {pins : List (Addr × Obj)} {σ : St} {H : Hp} {s s' : Shared}
/-- from a body: what a callee wants -/
theorem Inv.env0 (I : Inv X pins σ H s) : Env0 X.prog X.w X.K X.mg X.base X.A X.stack s H :=
  ⟨I.ok.frames, I.ok.mod, I.bs, Nat.le_trans I.ok.bsz I.sz, I.stack, I.stkFree, I.hok, I.bare⟩
/-- behind a call -/
theorem Inv.after {Q : VK} {u : Value} (I : Inv X pins σ H s) (h : CE X.stack X.prog X.w H s Q u s') : EP X pins σ Q u s' := by
  obtain ⟨v, H', os, bare, un, hok, r, q⟩ := h
  obtain ⟨hh, g, d, t, os'⟩ := s'
  obtain rfl : os' = s.os := os
  exact ⟨v, H', I.call (h' := hh) (g' := g) (d' := d) (t' := t) (ch := []) un hok bare (fun b z => absurd z (by simp)), r, q⟩
end

/-! ### calls -/
/-- f(..): the written arguments, then the defaults dvs; E: what is wanted of an exception -/
def tCall (sp : Sp) (dvs : List V) (E : XK) (t : TA) : TE := fun σ H Q => t σ H fun vs H1 => sp (vs ++ dvs) H1 Q E

/-- how the parameters are bound: us the positional arguments, kw the keywords' values by name, ds the defaults that fill up -/
def Binds (K : PySem.W.Frag) (fd : FuncData) (ps : List Str) (ds : List Value) : Prop :=
  ∀ (s : Shared) (us : List Value), K.In s.heap → (us ++ ds).length = ps.length → BindsTo s fd ⟨us, []⟩ (ps.zip (us ++ ds))
/-- every parameter is given -/
theorem Binds.all {K : PySem.W.Frag} {fd : FuncData} {ps : List Str} (h : ∀ us : List Value, us.length = ps.length → bindArgs fd ⟨us, []⟩ = pure (ps.zip us)) : Binds K fd ps [] := fun s us _ hl => by
  rw [List.append_nil] at hl ⊢
  exact .of_eq (h us hl)

/-- an exception of a callee reaches what this body wants of exceptions -/
def Passes (CX : CXT) (X : Cx) (E : XK) : Prop := ∀ (pins : List (Addr × Obj)) (σ : St) (H : Hp) (s : Shared) (e : Value) (s' : Shared), Inv X pins σ H s → CX X.stack H s E e s' → X.xe e s'

section
variable {X : Cx} {CX : CXT} {k : Nat} {f C : Addr} {fd : FuncData} {ps : List Str} {sp : Sp} {dvs : List V} {ds : List Value} {E : XK} {x m : Str} {p pos apos : Pos} {e o : Expr} {es : List Expr} {ta : TE} {t : TA}

/-- the callee runs -/
theorem run_fn {pins : List (Addr × Obj)} {σ : St} {H : Hp} {s : Shared} {Q : VK} {us : List Value} {vs : List V} (F : FnOk X.prog X.w X.K X.mg X.base CX k f fd ps sp) (hr : Room k X.A) (hb : Binds X.K fd ps ds) (hd : Vals dvs ds) (hx : Passes CX X E)
    (I : Inv X pins σ H s) (r : Vals vs us) (h : sp (vs ++ dvs) H Q E) : wpAny (model X.prog X.w) X.A (call (.ref f) us) (EP X pins σ Q) X.xe s := by
  have r2 : Vals (vs ++ dvs) (us ++ ds) := r.append hd
  have hl : (us ++ ds).length = ps.length := by rw [← r2.length]; exact F.len _ _ _ _ h
  refine wpAny_call (codeAny_mono (F.run X.A X.stack s H ⟨us, []⟩ (us ++ ds) (vs ++ dvs) Q E hr I.env0 (hb s us I.kIn hl) r2 h) fun r s' hq => ?_)
  cases r with
  | error e => exact hx pins σ H s e s' I hq
  | ok fl =>
    cases fl with
    | ret u => exact I.after hq
    | next => exact False.elim hq
    | brk => exact False.elim hq
    | cont => exact False.elim hq

theorem pe_call (F : FnOk X.prog X.w X.K X.mg X.base CX k f fd ps sp) (hr : Room k X.A) (hg : Gl X x) (hm : X.mg x = some (.ref f)) (hk : PySem.W.keepIn X.K (.ref f) = true) (hb : Binds X.K fd ps ds) (hd : Vals dvs ds) (hx : Passes CX X E)
    (ha : PA X (e :: es) t) (hdb : (x == ("__debug__" : Str)) = false := by decide) (he : starEach (e :: es) X.env = (false, eval e X.env) :: starEach es X.env := by rfl) (hpl : (backTo pos (starEach es X.env)).any (·.1) = false := by rfl) :
    PE X (.Call (.Name x p) (e :: es) [] pos) (tCall sp dvs E t) := by
  intro pins s σ H Q I h
  refine wpAny_Call_Name_kw (ld_glob I hg hm ?_ hdb)
  refine PySem.W.callWith_K (h₀ := X.base) I.ok.mod.kin hk (thn (ha pos pins s σ H _ I h) fun us s1 ⟨vs, H1, I1, r, q⟩ => ⟨I1.kIn, ?_⟩) he hpl
  exact run_fn F hr hb hd hx I1 r q


/-- what a class must have to be made -/
structure Mk (K : PySem.W.Frag) (C f : Addr) : Prop where
  makes : PySem.W.makesIn K C = true
  init : PySem.W.findIn K (.ref C) "__init__" = some (some (.ref f))
  fn : PySem.W.isFn K (.ref f) = true
  kp : PySem.W.keepIn K (.ref C) = true

end

/-! ### keywords -/
section
variable {X : Cx} {CX : CXT} {k : Nat} {f C : Addr} {fd : FuncData} {ps ks : List Str} {sp : Sp} {E : XK} {x m : Str} {p pos apos kpos : Pos} {e o : Expr} {es : List Expr} {kws : List Keyword} {te ta : TE} {t tk : TA} {nm : Option Str}

/-- how a call with keywords binds: g puts the positional values us and the keywords' values ws (names ks) in the parameters' order, defaults among them -/
structure KBinds (K : PySem.W.Frag) (fd : FuncData) (ps ks : List Str) (g : List Value → List Value → List Value) (gV : List V → List V → List V) : Prop where
  to : ∀ (s : Shared) (us ws : List Value), K.In s.heap → (g us ws).length = ps.length → BindsTo s fd ⟨us, ks.zip ws⟩ (ps.zip (g us ws))
  rel : ∀ {vs : List V} {us : List Value} {zs : List V} {ws : List Value}, Vals vs us → Vals zs ws → Vals (gV vs zs) (g us ws)
variable {g : List Value → List Value → List Value} {gV : List V → List V → List V}
end

/-! ### a def's body keeps its promise -/
/-- names: the parameters first -/
structure FnScope (N P : List Str) (sc : Scope) : Prop where
  kind : sc.kind = .function
  co : sc.isCoroutine = false
  gen : sc.isGenerator = false
  nd : N.Nodup
  pre : N.take P.length = P
  par : ∀ x ∈ P, sc.names.lookup x = some .local ∨ sc.names.lookup x = some .cell
  nofree : ∀ y ∈ sc.names, y.2 ≠ .free

theorem bindL_out {kindOf : Str → Option NameKind} {x : Str} : ∀ {binds : List (Str × Value)} {m : Str → Option Value}, (∀ v, (x, v) ∉ binds) → bindL kindOf binds m x = m x
  | [], _, _ => rfl
  | (n, v) :: r, m, h => by
    unfold bindL
    rw [bindL_out fun w hw => h w (List.mem_cons_of_mem _ hw)]
    split
    · have : x ≠ n := by rintro rfl; exact h v List.mem_cons_self
      simp [this]
    · rfl
theorem bindC_out {kindOf : Str → Option NameKind} {x : Str} : ∀ {binds : List (Str × Value)} {m : Str → Option Value}, (∀ v, (x, v) ∉ binds) → bindC kindOf binds m x = m x
  | [], _, _ => rfl
  | (n, v) :: r, m, h => by
    unfold bindC
    rw [bindC_out fun w hw => h w (List.mem_cons_of_mem _ hw)]
    split
    · rfl
    · have : x ≠ n := by rintro rfl; exact h v List.mem_cons_self
      simp [this]
theorem bindL_get {kindOf : Str → Option NameKind} {x : Str} {v : Value} : ∀ {P : List Str} {vs : List Value} {i : Nat} {m : Str → Option Value}, P.Nodup → P[i]? = some x → vs[i]? = some v → kindOf x = some .local →
    bindL kindOf (P.zip vs) m x = some v
  | [], _, _, _, _, h, _, _ => by simp at h
  | _ :: _, [], _, _, _, _, h, _ => by simp at h
  | p :: P, w :: vs, 0, m, nd, h1, h2, hk => by
    simp at h1 h2; subst h1; subst h2
    show bindL kindOf ((p, w) :: P.zip vs) m p = _
    unfold bindL
    rw [bindL_out fun v hv => (List.nodup_cons.mp nd).1 (List.of_mem_zip hv).1, if_pos hk]
    simp
  | p :: P, w :: vs, i + 1, m, nd, h1, h2, hk => by
    show bindL kindOf ((p, w) :: P.zip vs) m x = _
    unfold bindL
    exact bindL_get (i := i) (List.nodup_cons.mp nd).2 (by simpa using h1) (by simpa using h2) hk
theorem bindC_get {kindOf : Str → Option NameKind} {x : Str} {v : Value} : ∀ {P : List Str} {vs : List Value} {i : Nat} {m : Str → Option Value}, P.Nodup → P[i]? = some x → vs[i]? = some v → kindOf x ≠ some .local →
    bindC kindOf (P.zip vs) m x = some v
  | [], _, _, _, _, h, _, _ => by simp at h
  | _ :: _, [], _, _, _, _, h, _ => by simp at h
  | p :: P, w :: vs, 0, m, nd, h1, h2, hk => by
    simp at h1 h2; subst h1; subst h2
    show bindC kindOf ((p, w) :: P.zip vs) m p = _
    unfold bindC
    rw [bindC_out fun v hv => (List.nodup_cons.mp nd).1 (List.of_mem_zip hv).1, if_neg hk]
    simp
  | p :: P, w :: vs, i + 1, m, nd, h1, h2, hk => by
    show bindC kindOf ((p, w) :: P.zip vs) m x = _
    unfold bindC
    exact bindC_get (i := i) (List.nodup_cons.mp nd).2 (by simpa using h1) (by simpa using h2) hk

/-- the names' values at the entry -/
def start (N : List Str) (vs : List V) : St := vs.map some ++ List.replicate (N.length - vs.length) none

/-- the context of a def's body, at its entry; an exception leaves the frame, then lies as CX says -/
def cxOf (CX : CXT) (P : Program) (w : World) (K : PySem.W.Frag) (mg : Str → Option Value) (base : Heap) (N : List Str) (qual : Str) (scope : Scope) (f : Addr) (cd : Value) (A : Around) (outer : List Env) (s : Shared) (H : Hp) (E : XK) : Cx where
  prog := P
  w := w
  K := K
  mg := mg
  base := base
  A := A.deeper (envOfC qual scope s.heap.objs.size f cd)
  N := N
  s₀ := s
  H₀ := H
  env := envOfC qual scope s.heap.objs.size f cd
  outer := outer
  stack := envOfC qual scope s.heap.objs.size f cd :: outer
  ex := []
  calm := true
  fn := fun _ => true
  pn := []
  xe := fun e s' => wpAny (model P w) (A.deeper (envOfC qual scope s.heap.objs.size f cd)) (leaving (envOfC qual scope s.heap.objs.size f cd) e) (fun _ s'' => CX outer H s E e s'') (fun e' s'' => CX outer H s E e' s'') s'

theorem cell_has {sc : Scope} {n : Nat} {x : Str} (h : sc.names.lookup x = some .cell) : ∃ c, (cellsFrom n sc.names []).lookup x = some c := by
  have q := PySem.W.cellsFrom_some sc.names n [] (.inl h)
  exact Option.isSome_iff_exists.mp q

theorem inv_start {CX : CXT} {P : Program} {w : World} {K : PySem.W.Frag} {mg : Str → Option Value} {base : Heap} {N ps : List Str} {qual : Str} {scope : Scope} {f : Addr} {cd : Value} {A : Around} {outer : List Env} {s s1 : Shared} {H : Hp} {E : XK} {us : List Value} {vs : List V}
    (S : FnScope N ps scope) (hd : A.handled = none) (e0 : Env0 P w K mg base A outer s H) (hl : vs.length = ps.length) (r : Vals vs us)
    (x : InCallC s s.heap.objs.size (bindL (envOfC qual scope s.heap.objs.size f cd).kindOf (ps.zip us) fun _ => none) (cellsFrom (s.heap.objs.size + 1) scope.names []) (bindC (envOfC qual scope s.heap.objs.size f cd).kindOf (ps.zip us) fun _ => none) s1) :
    Inv (cxOf CX P w K mg base N qual scope f cd A outer s H E) [] (start N vs) H s1 := by
  have hpl : ps.length ≤ N.length := by have := congrArg List.length S.pre; rw [List.length_take] at this; omega
  obtain ⟨h1, tk, rfl, hk⟩ := x.done
  have noA : ∀ b : Addr, b ∉ (cxOf CX P w K mg base N qual scope f cd A outer s H E).ex := fun b z => absurd (show b ∈ ([] : List Addr) from z) (by simp)
  refine ⟨⟨e0.mod, S.kind, rfl, rfl, Nat.le_refl _, fun y z c h1 h2 => ?_, fun y hy => ?_, fun y c _ h => ?_, fun _ => hd, Around.frames_deeper e0.frames, .inr ⟨rfl, rfl⟩, fun b z => absurd z (noA b), e0.bs, e0.bsz, fun b _ _ => noA b, fun b z => absurd z (noA b), e0.funs, e0.frf⟩,
    rfl, e0.bare, Un.kept hk, ⟨_, x.toInCall.ns, fun i y v h1 h2 h3 => ?_⟩, fun y c h => ⟨_, x.cell y c h⟩, e0.hok.fresh (Nat.le_refl _), fun y c h => ?_, fun p hp => absurd (show p ∈ ([] : List (Addr × Obj)) from hp) (by simp), e0.hok.kept hk, ?_⟩
  · exact name_of_addr x.apart (PySem.mem_of_lookup h1) (PySem.mem_of_lookup h2)
  · have hy : scope.names.lookup y = some .cell ∨ scope.names.lookup y = some .free := hy
    rcases hy with hy | hy
    · exact cell_has hy
    · exact absurd rfl (S.nofree _ (PySem.mem_of_lookup hy))
  · exact Nat.le_of_lt (x.above y c (PySem.mem_of_lookup h))
  · have hi : i < vs.length := by
      unfold start at h2
      by_cases hi : i < vs.length
      · exact hi
      · rw [List.getElem?_append_right (by simpa using hi)] at h2
        rw [List.getElem?_replicate] at h2
        split at h2 <;> cases h2
    have ha : vs[i]? = some v := by
      unfold start at h2
      rw [List.getElem?_append_left (by simpa using hi), List.getElem?_map] at h2
      cases e : vs[i]? with
      | none => rw [e] at h2; cases h2
      | some a => rw [e] at h2; cases h2; rfl
    obtain ⟨u, hu, rv⟩ := r.get ha
    have hp : ps[i]? = some y := by
      rw [← S.pre, List.getElem?_take_of_lt (by omega)]; exact h1
    have ndP : ps.Nodup := by rw [← S.pre]; exact S.nd.sublist (List.take_sublist _ _)
    refine ⟨u, rv, ?_⟩
    rcases S.par y (List.mem_of_getElem? hp) with k | k
    · exact .inl ⟨k, bindL_get ndP hp hu k⟩
    · obtain ⟨c, e⟩ := cell_has (n := s.heap.objs.size + 1) k
      refine .inr ⟨.inl k, c, e, ?_⟩
      have q := x.cell y c e
      rw [bindC_get ndP hp hu (by show scope.names.lookup y ≠ _; rw [k]; decide)] at q
      exact q
  · exact e0.hok.fresh (Nat.le_of_lt (x.above y c (PySem.mem_of_lookup h)))
  · unfold start
    show _ = N.length
    rw [List.length_append, List.length_map, List.length_replicate]
    omega

/-- THE RULE: a def (or a method) of the text, by its body. The body's reading t is chosen for each entry; it is run at the parameters' values -/
theorem fn_of {CX : CXT} {P : Program} {w : World} {K : PySem.W.Frag} {mg : Str → Option Value} {base : Heap} {k : Nat} {f : Addr} {name qual : Str} {params : Arguments} {body : List Stmt} {scope : Scope} {dV kV doc pm cdv ct oc : Value} {an od : Option Addr}
    {osl : Array (Option Value)} {N ps : List Str} {sp : Sp} (lk : K.lookup f = some ⟨oc, od, .func (PySem.W.fnOf name qual params body scope dV kV doc pm an cdv ct), osl⟩) (hcd : PySem.W.codeIn K cdv qual = true) (S : FnScope N ps scope)
    (len : ∀ vs H Q E, sp vs H Q E → vs.length = ps.length)
    (hbody : ∀ (A : Around) (outer : List Env) (s : Shared) (H : Hp) (vs : List V) (Q : VK) (E : XK), Room k (A.deeper (envOfC qual scope s.heap.objs.size f cdv)) → sp vs H Q E →
      ∃ t, PSs (cxOf CX P w K mg base N qual scope f cdv A outer s H E) body t ∧ t { nx := fun _ H' => Q .non H', rt := Q } (start N vs) H) :
    FnOk P w K mg base CX (k + 1) f (PySem.W.fnOf name qual params body scope dV kV doc pm an cdv ct) ps sp := by
  refine ⟨len, fun A outer s H args us vs Q E hr e0 hb r hsp => ?_⟩
  have hl := len _ _ _ _ hsp
  have KX : K.In s.heap := e0.mod.kin.keeps fun b o e => (e0.bs b o e).1
  have lim : s.heap.NoLimit := e0.mod.nolimit.keeps fun b o e => (e0.bs b o e).1
  have hkind : ∀ y ∈ ps.zip us, scope.names.lookup y.1 = some .local ∨ (scope.names.lookup y.1 = some .cell ∧ ((cellsFrom (s.heap.objs.size + 1) scope.names []).lookup y.1).isSome = true) := fun ⟨n, v⟩ hy => by
    rcases S.par n (List.of_mem_zip hy).1 with q | q
    · exact .inl q
    · exact .inr ⟨q, PySem.W.cellsFrom_some _ _ _ (.inl q)⟩
  refine codeAny_call_function hr.depth (KX _ _ lk) rfl S.co S.gen rfl (PySem.W.codeRec_of KX hcd) (hb _ _ _ _ ?_)
  refine wpAny_newFunctionEnv_cells S.kind hkind fun env he s1 x => ?_
  subst he
  refine ⟨lim.keeps x.toInCall.keep, codeAny_func ?_⟩
  obtain ⟨t, ht, hq⟩ := hbody A outer s H vs Q E (hr.deeper _) hsp
  have I : Inv (cxOf CX P w K mg base N qual scope f cdv A outer s H E) [] (start N vs) H s1 := inv_start S hr.hd e0 hl r x
  refine wpAny_mono (ht [] s1 (start N vs) H _ I hq) (fun fl s' hs => ?_) fun e s' hs => hs
  have fin : ∀ {σ' : St} {H' : Hp} {v : V} {u : Value}, Inv (cxOf CX P w K mg base N qual scope f cdv A outer s H E) [] σ' H' s' → RelV v u → Q v H' → CE outer P w H s Q u s' :=
    fun {σ' H' v u} J rv q => ⟨v, H', J.os, J.bare, J.base, J.hok, rv, q⟩
  cases fl with
  | ret u =>
    obtain ⟨v, σ', H', J, rv, q⟩ := hs
    exact fin J rv q
  | next =>
    obtain ⟨σ', H', J, q⟩ := hs
    exact fin (v := V.non) (u := Value.none) J rfl q
  | brk =>
    obtain ⟨_, _, _, q⟩ := hs
    exact False.elim q
  | cont =>
    obtain ⟨_, _, _, q⟩ := hs
    exact False.elim q
end L2

namespace L2
open PySem PySem.Spec PyProof.Rows
section
variable {X : Cx} {x : Str} {p pos : Pos} {e : Expr} {es : List Expr} {t : TA} {id T : String} {r : List V → Hp → VK → Prop}

def tCB (r : List V → Hp → VK → Prop) (t : TA) : TE := fun σ H Q => t σ H fun vs H1 => r vs H1 Q
/-- f(e, ..), f a built-in function -/
theorem pe_callB (hc : CallR X (.builtin id) r) (hg : Gl X x) (hm : X.mg x = none) (hv : bootBuiltins x = some (.builtin id)) (ha : PA X (e :: es) t) (hn : x ≠ "__name__" := by decide) (hdb : (x == ("__debug__" : Str)) = false := by decide)
    (he : starEach (e :: es) X.env = (false, eval e X.env) :: starEach es X.env := by rfl) (hpl : (backTo pos (starEach es X.env)).any (·.1) = false := by rfl) : PE X (.Call (.Name x p) (e :: es) [] pos) (tCB r t) := by
  intro pins s σ H Q I h
  refine wpAny_Call_Name_kw (ld_blt I hg hm hv ?_ hn hdb)
  exact PyProof.Rows.callWith_builtin1 (thn (ha pos pins s σ H _ I h) fun us s1 ⟨vs, H1, I1, r1, q1⟩ => hc pins s1 σ H1 vs us Q I1 r1 q1) he hpl
/-- T(e, ..), T a built-in type -/
theorem pe_callTy (hc : CallR X (.type T) r) (hg : Gl X x) (hm : X.mg x = none) (hv : bootBuiltins x = some (.type T)) (ha : PA X (e :: es) t) (hn : x ≠ "__name__" := by decide) (hdb : (x == ("__debug__" : Str)) = false := by decide)
    (he : starEach (e :: es) X.env = (false, eval e X.env) :: starEach es X.env := by rfl) (hpl : (backTo pos (starEach es X.env)).any (·.1) = false := by rfl) : PE X (.Call (.Name x p) (e :: es) [] pos) (tCB r t) := by
  intro pins s σ H Q I h
  refine wpAny_Call_Name_kw (ld_blt I hg hm hv ?_ hn hdb)
  exact PyProof.Rows.callWith_type1 (thn (ha pos pins s σ H _ I h) fun us s1 ⟨vs, H1, I1, r1, q1⟩ => hc pins s1 σ H1 vs us Q I1 r1 q1) he hpl
end
end L2

namespace HT
open PySem PyProof.Rows



section
open PySem.SeqAt
open PySem.AutoSeq1 (wpAny_loadPart')
open PySem.MeetsSeq PySem.MeetsSeq2 PySem.MeetsSeq3

end

section
variable {prog : Program} {w : World} {A : Around} {E : Value → Shared → Prop} {s : Shared}


/-- t + u, t not empty -/
theorem cat_tup {t b : Addr} {vs ws : List Value} {Q : Value → Shared → Prop} (ht : IsTup s.heap t vs.toArray) (hb : IsTup s.heap b ws.toArray) (hv : vs ≠ [])
    (h1 : ws = [] → Q (.ref t) s) (h2 : ws ≠ [] → Q (.ref s.heap.objs.size) { s with heap := s.heap.push { cls := .type "tuple", data := .seq (vs ++ ws).toArray } })
    (hsz : vs.length + ws.length ≤ sizeLine) : wpAny (model prog w) A (binaryOp .Add (.ref t) (.ref b)) Q E s := by
  obtain ⟨⟨cls, dd, data, sl⟩, ho, hc, n, hd⟩ := id ht
  obtain ⟨⟨cls2, dd2, data2, sl2⟩, ho2, hc2, n2, hd2⟩ := id hb
  simp only at hc hd hc2 hd2
  subst hc hd hc2 hd2
  have e : vs.toArray ++ ws.toArray = (vs ++ ws).toArray := by simp
  by_cases hw : ws = []
  · exact concat_meets ⟨_, ho, rfl⟩ ⟨_, ho2, rfl⟩ noFill_tuple_add seq_tuple_add PySem.F.slot_tuple_add PySem.F.entry_tuple_add (PySem.F.args_tuple_add_2 _ _)
      (tuple_addW1 t b vs.toArray ws.toArray n n2 dd dd2 sl sl2 (by simpa using hv) (by simp [hw])) ⟨ho, ho2, h1 hw⟩
  · refine concat_meets ⟨_, ho, rfl⟩ ⟨_, ho2, rfl⟩ noFill_tuple_add seq_tuple_add PySem.F.slot_tuple_add PySem.F.entry_tuple_add (PySem.F.args_tuple_add_2 _ _)
      (tuple_addW2 t b vs.toArray ws.toArray n n2 dd dd2 sl sl2 (by simpa using hv) (by simpa using hw) (by rw [List.size_toArray, List.size_toArray]; exact hsz)) ⟨ho, ho2, ?_⟩
    rw [e]
    exact h2 hw

/-! ### t[a:b], not the whole -/
/-- a slice's bound as a place among n (d where it is left out) -/
def sIx (n d : Nat) : Option Int → Nat
  | none => d
  | some v => if v < 0 then (v + (n : Int)).toNat else min v.toNat n
theorem sIx_le (n d : Nat) (hd : d ≤ n) (o : Option Int) : sIx n d o ≤ n := by
  cases o with
  | none => exact hd
  | some v =>
    show (if v < 0 then (v + (n : Int)).toNat else min v.toNat n) ≤ n
    by_cases hv : v < 0
    · rw [if_pos hv]; omega
    · rw [if_neg hv]; exact Nat.min_le_right _ _
theorem clip_eq (v : Int) (n d : Nat) : (if v < 0 then max (v + (n : Int)) 0 else min v (n : Int)) = ((sIx n d (some v) : Nat) : Int) := by
  show (if v < 0 then max (v + (n : Int)) 0 else min v (n : Int)) = (((if v < 0 then (v + (n : Int)).toNat else min v.toNat n) : Nat) : Int)
  by_cases hv : v < 0
  · simp only [if_pos hv]; omega
  · simp only [if_neg hv]; omega
theorem adjust_gen (lo hi : Option Int) (n : Nat) : Builtin.Slice.sliceAdjust lo hi 1 (n : Int) = (((sIx n 0 lo : Nat) : Int), ((sIx n n hi : Nat) : Int)) := by
  have h1 : ¬ ((1 : Int) < 0) := by omega
  unfold Builtin.Slice.sliceAdjust
  simp only [h1, if_false]
  refine Prod.ext ?_ ?_
  · cases lo with
    | none => rfl
    | some v => exact clip_eq v n 0
  · cases hi with
    | none => rfl
    | some v => exact clip_eq v n n
theorem places_gen (i j : Nat) : Builtin.Slice.slicePlaces (i : Int) (j : Int) 1 = j - i := by
  unfold Builtin.Slice.slicePlaces
  have h1 : (1 : Int) > 0 := by omega
  simp only [h1, if_true, Int.ediv_one]
  split <;> omega
theorem slicePart_ {v : Value} {o : Option Int} {Q : Option Int → Shared → Prop} (p : IsPart v o) (h : Q o s) : wpAny (model prog w) A (Builtin.Slice.slicePartIndex v) Q E s := by
  cases p with
  | none => exact slicePart_none h
  | int i t => exact slicePart_int h
theorem sliceApplied_gen {sl : Addr} {vl vu : Value} {lo hi : Option Int} {n : Nat} {Q : Int × Int × Nat → Shared → Prop} (hs : s.heap.IsSliceOf sl vl vu .none) (pl : IsPart vl lo) (pu : IsPart vu hi)
    (h : Q (((sIx n 0 lo : Nat) : Int), 1, sIx n n hi - sIx n 0 lo) s) : wpAny (model prog w) A (Builtin.Slice.sliceApplied (.ref sl) (pure (n : Int))) Q E s := by
  obtain ⟨os, hos, hcs, hds⟩ := id hs
  unfold Builtin.Slice.sliceApplied Builtin.Slice.sliceFields
  refine wpAny_bind (wpAny_bind (wpAny_field hos hds (x := vl) rfl (wpAny_bind (wpAny_field hos hds (x := vu) rfl (wpAny_bind (wpAny_field hos hds (x := .none) rfl (wpAny_pure ?_)))))))
  refine wpAny_bind (slicePart_none ?_)
  show wpAny _ _ (if ((1 : Int) == 0) = true then _ else _) _ _ s
  rw [if_neg (by decide)]
  refine wpAny_bind (slicePart_ pl (wpAny_bind (slicePart_ pu (wpAny_bind (wpAny_pure ?_)))))
  show wpAny _ _ (match Builtin.Slice.sliceAdjust lo hi 1 (n : Int) with | (lo, hi) => pure (lo, (1 : Int), Builtin.Slice.slicePlaces lo hi 1)) _ _ s
  rw [adjust_gen lo hi n]
  show wpAny _ _ (pure (((sIx n 0 lo : Nat) : Int), (1 : Int), Builtin.Slice.slicePlaces ((sIx n 0 lo : Nat) : Int) ((sIx n n hi : Nat) : Int) 1)) _ _ s
  rw [places_gen]
  exact wpAny_pure h
theorem pick_gen (xs : Array Value) (i k : Nat) : ((List.range k).filterMap fun (m : Nat) => xs[((i : Int) + (m : Int) * 1).toNat]?).toArray = ((xs.toList.drop i).take k).toArray := by
  have e : (fun (m : Nat) => xs[((i : Int) + (m : Int) * 1).toNat]?) = fun m => xs[i + m]? := by
    funext m
    have : ((i : Int) + (m : Int) * 1).toNat = i + m := by omega
    rw [this]
  rw [e]
  have := pick_run xs i k
  rw [List.filterMap_map] at this
  have e2 : ((fun x => xs[x]?) ∘ fun x => i + x) = fun m => xs[i + m]? := rfl
  rw [e2] at this
  rw [this]

theorem getItem_tuple_cut {t sl : Addr} {items : Array Value} {vl vu : Value} {lo hi : Option Int} {Q : Value → Shared → Prop} (ht : IsTup s.heap t items) (hs : s.heap.IsSliceOf sl vl vu .none) (pl : IsPart vl lo) (pu : IsPart vu hi)
    (hw : ¬ (sIx items.size 0 lo = 0 ∧ sIx items.size items.size hi = items.size))
    (h : Q (.ref s.heap.objs.size) { s with heap := s.heap.push { cls := .type "tuple", data := .seq ((items.toList.drop (sIx items.size 0 lo)).take (sIx items.size items.size hi - sIx items.size 0 lo)).toArray } })
    (hsz : items.size ≤ sizeLine) : wpAny (model prog w) A (getItem (.ref t) (.ref sl)) Q E s := by
  have htake : sizeOk (.seq ((items.toList.drop (sIx items.size 0 lo)).take (sIx items.size items.size hi - sIx items.size 0 lo)).toArray) := by
    show ((items.toList.drop (sIx items.size 0 lo)).take (sIx items.size items.size hi - sIx items.size 0 lo)).toArray.size ≤ sizeLine
    rw [List.size_toArray, List.length_take, List.length_drop, Array.length_toList]
    omega
  have hj : sIx items.size items.size hi ≤ items.size := sIx_le _ _ (Nat.le_refl _) hi
  obtain ⟨os, hos, hcs, hds⟩ := id hs
  have hTs : s.TypeIs (.ref sl) "slice" := ⟨os, hos, hcs⟩
  unfold getItem
  try with_reducible refine wpAny_holding ?_
  first | refine wpAny_bind (wpAny_pure ?_) | skip
  refine wpAny_bind (wpAny_sequenceKey ht.typeIs (by decide) ?_)
  refine wpAny_bind (wpAny_callSpecial?_slot (name := Str.ofString "__getitem__") ht.typeIs PyProof.Rows.slot_tuple_getitem
    (wpAny_call_entry PyProof.Rows.slot_tuple_getitem ht.typeIs entry_tuple_getitem ?_ (args_tuple_getitem _ _)))
  show wpAny _ _ (Builtin.Tuple.tupleItemsOf (.ref t) >>= _) _ _ s
  refine wpAny_bind (tupleItemsOf_ ht ?_)
  refine wpAny_bind (wpAny_typeOf hTs ?_)
  rw [if_pos (by decide)]
  refine wpAny_bind (sliceApplied_gen hs pl pu ?_)
  have hno : ¬ ((((sIx items.size 0 lo : Nat) : Int) == 0 && (1 : Int) == 1 && (sIx items.size items.size hi - sIx items.size 0 lo) == items.size) = true) := by
    intro q
    rw [Bool.and_eq_true, Bool.and_eq_true] at q
    have q1 : ((sIx items.size 0 lo : Nat) : Int) = 0 := eq_of_beq q.1.1
    have q2 : sIx items.size items.size hi - sIx items.size 0 lo = items.size := eq_of_beq q.2
    exact hw ⟨by omega, by omega⟩
  show wpAny _ _ (if (((sIx items.size 0 lo : Nat) : Int) == 0 && (1 : Int) == 1 && (sIx items.size items.size hi - sIx items.size 0 lo) == items.size) = true then _ else _) _ _ s
  rw [if_neg hno, pick_gen]
  first
    | exact wpAny_bind (m := Builtin.Tuple.tupleExact _) (wpAny_newObj_type (wpAny_pure ⟨_, rfl, wpAny_pure h⟩) htake)
    | exact wpAny_bind (m := Builtin.Tuple.tupleExact _) (wpAny_newObj_type (wpAny_bind (wpAny_pure (wpAny_pure ⟨_, rfl, wpAny_pure h⟩))) htake)
    | exact wpAny_bind (wpAny_bind (m := Builtin.Tuple.tupleExact _) (wpAny_newObj_type (wpAny_pure (wpAny_pure ⟨_, rfl, wpAny_pure h⟩)) htake))
    | exact wpAny_bind (wpAny_bind (m := Builtin.Tuple.tupleExact _) (wpAny_newObj_type (wpAny_pure ⟨_, rfl, wpAny_pure h⟩) htake))
end
end HT

namespace L2
open PySem PySem.Spec PyProof.Rows

/-! ### the parts of a slice -/
abbrev TO := St → Hp → (Option Int → Hp → Prop) → Prop
/-- a slice's part (left out, or an int) -/
def PO (X : Cx) (e : Option Expr) (t : TO) : Prop :=
  ∀ (pins : List (Addr × Obj)) (s : Shared) (σ : St) (H : Hp) (Q : Option Int → Hp → Prop), Inv X pins σ H s → t σ H Q →
    wpAny (model X.prog X.w) X.A (evalPart e X.env) (fun u s' => ∃ o H', Inv X pins σ H' s' ∧ IsPart u o ∧ Q o H') X.xe s
def tNoPart : TO := fun _ H Q => Q none H
def tPart (t : TE) : TO := fun σ H Q => t σ H fun x H1 => ∃ i, x = .int i ∧ Q (some i) H1


section
variable {X : Cx} {e : Expr} {te : TE} {lo hi : Option Expr} {tl th : TO} {pos p2 : Pos}

theorem po_none : PO X none tNoPart := by
  intro pins s σ H Q I h
  rw [evalPart_none]
  exact wpAny_pure ⟨none, H, I, .none, h⟩
theorem po_some (h : PE X e te) : PO X (some e) (tPart te) := by
  intro pins s σ H Q I hw
  rw [evalPart_some]
  refine thn (h pins s σ H _ I hw) fun u s1 ⟨x, H1, I1, r1, q1⟩ => ?_
  obtain ⟨i, rfl, q⟩ := q1
  obtain ⟨t, rfl⟩ := r1
  exact ⟨some i, H1, I1, .int i t, q⟩

/-- what a slice of a value is, by values: the slice object stands at sl -/
def SlR (X : Cx) (r : V → Option Int → Option Int → Hp → VK → Prop) : Prop :=
  ∀ (pins : List (Addr × Obj)) (s : Shared) (σ : St) (H : Hp) (x : V) (v vl vu : Value) (lo hi : Option Int) (sl : Addr) (Q : VK), Inv X pins σ H s → RelV x v → s.heap.IsSliceOf sl vl vu .none → IsPart vl lo → IsPart vu hi → r x lo hi H Q →
    ∃ T id, typeLookup (.type T) "__getitem__" = pure (some (.builtin id)) ∧ s.TypeIs v T ∧ wpAny (model X.prog X.w) X.A (getItem v (.ref sl)) (EP X pins σ Q) X.xe s
def tSl (r : V → Option Int → Option Int → Hp → VK → Prop) (te : TE) (tl th : TO) : TE := fun σ H Q => te σ H fun x H1 => tl σ H1 fun l H2 => th σ H2 fun u H3 => r x l u H3 Q
/-- a[lo:hi], any a -/
theorem pe_slice {r : V → Option Int → Option Int → Hp → VK → Prop} (hr : SlR X r) (he : PE X e te) (hl : PO X lo tl) (hu : PO X hi th) : PE X (.Subscript e (.Slice lo hi none p2) pos) (tSl r te tl th) := by
  intro pins s σ H Q I h
  refine Subscript_ (thn (he pins s σ H _ I h) fun v s1 ⟨x, H1, I1, r1, q1⟩ => ?_)
  refine wpAny_Slice (thn (hl pins s1 σ H1 _ I1 q1) fun vl s2 ⟨l, H2, I2, pl, q2⟩ => thn (hu pins s2 σ H2 _ I2 q2) fun vu s3 ⟨u, H3, I3, pu, q3⟩ => ?_)
  rw [evalPart_none]
  refine wpAny_pure ?_
  have I4 : Inv X pins σ H3 { s3 with heap := s3.heap.push { cls := .type "slice", data := .fields #[vl, vu, .none] } } := I3.kept (t' := s3.toks) fun b ob q => Heap.get?_push_of_some _ q
  obtain ⟨T, id, hT, ht, hg⟩ := hr pins { s3 with heap := s3.heap.push { cls := .type "slice", data := .fields #[vl, vu, .none] } } σ H3 x v vl vu l u s3.heap.objs.size Q I4 r1 (Heap.IsSliceOf.new ..) pl pu q3
  show wpAny (model X.prog X.w) X.A (subscriptTail e (.Slice lo hi none p2) v (.ref s3.heap.objs.size)) (EP X pins σ Q) X.xe { s3 with heap := s3.heap.push { cls := .type "slice", data := .fields #[vl, vu, .none] } }
  exact tail_any (ops := [.ref s3.heap.objs.size, v]) ht hT hg (by with_unfolding_all rfl)

/-- the items of xs[lo:hi] -/
def cutV (xs : List V) (lo hi : Option Int) : List V := (xs.drop (HT.sIx xs.length 0 lo)).take (HT.sIx xs.length xs.length hi - HT.sIx xs.length 0 lo)
theorem cutV_length (xs : List V) (lo hi : Option Int) : (cutV xs lo hi).length ≤ xs.length := by
  unfold cutV
  rw [List.length_take, List.length_drop]
  omega
/-- t[lo:hi], not the whole of it (the whole would be t itself) -/
def rSlT (K : PySem.W.Frag) : V → Option Int → Option Int → Hp → VK → Prop := fun x lo hi H Q => ∃ a xs, x = .ref a ∧ SqT K H a xs ∧
  ¬ (HT.sIx xs.length 0 lo = 0 ∧ HT.sIx xs.length xs.length hi = xs.length) ∧ ∀ p, H p = none → Q (.ref p) (upd H p (.tup (cutV xs lo hi)))
theorem sl_tup : SlR X (rSlT X.K) := by
  intro pins s σ H x v vl vu lo hi sl Q I rx hs pl pu h
  obtain ⟨a, xs, rfl, hx, hw, q⟩ := h
  cases rx
  obtain ⟨its, r, ht, hz⟩ := I.tuple hx
  have hlen : its.toArray.size = xs.length := by rw [List.size_toArray]; exact r.length.symm
  refine ⟨"tuple", _, PyProof.Rows.slot_tuple_getitem.lookup, ht.typeIs, ?_⟩
  refine HT.getItem_tuple_cut ht hs pl pu (by rw [hlen]; exact hw) ?_ (by rw [hlen]; exact hz)
  rw [hlen]
  refine ⟨.ref s.heap.objs.size, _, I.laid (t' := s.toks) (o := .tup (cutV xs lo hi)) (fun b ob q => Heap.get?_push_of_some _ q) (Nat.le_refl _) ?_, rfl, q _ (I.hok.fresh (Nat.le_refl _))⟩
  exact ⟨Nat.le_trans (cutV_length xs lo hi) hz, _, (r.drop (HT.sIx xs.length 0 lo)).take (HT.sIx xs.length xs.length hi - HT.sIx xs.length 0 lo), IsTup.new _ _⟩

/-! ### t < u, t + u -/
/-- t + u, t not empty: u empty gives t itself -/
def rCatT (K : PySem.W.Frag) : R2 := fun x y H Q => ∃ a b xs ys, x = .ref a ∧ y = .ref b ∧ SqT K H a xs ∧ SqT K H b ys ∧ xs ≠ [] ∧ xs.length + ys.length ≤ sizeLine ∧
  (ys = [] → Q (.ref a) H) ∧ (ys ≠ [] → ∀ p, H p = none → Q (.ref p) (upd H p (.tup (xs ++ ys))))
theorem Vals.nil_iff {xs : List V} {us : List Value} (r : Vals xs us) : us = [] ↔ xs = [] := by
  cases r with
  | nil => simp
  | cons _ _ => simp
theorem op_catT : OpR X (binaryOp .Add) (rCatT X.K) := by
  intro pins s σ H x y v u Q I rx ry h
  obtain ⟨a, b, xs, ys, rfl, rfl, ha, hb, hx, hz, q1, q2⟩ := h
  cases rx
  cases ry
  obtain ⟨its, r1, p1, _⟩ := I.tuple ha
  obtain ⟨its2, r2, p2, _⟩ := I.tuple hb
  refine HT.cat_tup p1 p2 (fun z => hx (r1.nil_iff.mp z)) (fun z => ⟨.ref a, H, I, rfl, q1 (r2.nil_iff.mp z)⟩) (fun z => ?_) (by rw [← r1.length, ← r2.length]; exact hz)
  refine ⟨.ref s.heap.objs.size, _, I.laid (t' := s.toks) (o := .tup (xs ++ ys)) (fun b ob q => Heap.get?_push_of_some _ q) (Nat.le_refl _) ?_, rfl, q2 (fun w => z (r2.nil_iff.mpr w)) _ (I.hok.fresh (Nat.le_refl _))⟩
  exact ⟨by rw [List.length_append]; exact hz, _, r1.append r2, IsTup.new _ _⟩
end
end L2

namespace L2
open PySem PySem.Spec PyProof.Rows

/-! ### places -/
/-- the place that an index of any sign means -/
def ixN (n : Nat) (i : Int) : Option Nat := if 0 ≤ i then (if i < n then some i.toNat else none) else if -(n : Int) ≤ i then some (i + n).toNat else none
def atI {α : Type} (xs : List α) (i : Int) : Option α := (ixN xs.length i).bind fun j => xs[j]?
theorem ixN_seq {n : Nat} {i : Int} {j : Nat} (h : ixN n i = some j) : seqIndex? i n = some j ∧ j < n ∧ -(n : Int) ≤ i ∧ i < n := by
  unfold ixN at h
  by_cases h0 : 0 ≤ i
  · rw [if_pos h0] at h
    by_cases h1 : i < n
    · rw [if_pos h1] at h
      have e : i.toNat = j := Option.some.inj h
      exact ⟨by rw [seqIndex_of h0 h1, e], by omega, by omega, h1⟩
    · rw [if_neg h1] at h; cases h
  · rw [if_neg h0] at h
    by_cases h1 : -(n : Int) ≤ i
    · rw [if_pos h1] at h
      have e : (i + n).toNat = j := Option.some.inj h
      exact ⟨by rw [seqIndex_neg (by omega) h1, e], by omega, h1, by omega⟩
    · rw [if_neg h1] at h; cases h
theorem atI_get {α : Type} {xs : List α} {i : Int} {v : α} (h : atI xs i = some v) : ∃ j, seqIndex? i xs.length = some j ∧ xs[j]? = some v ∧ j < xs.length ∧ -(xs.length : Int) ≤ i ∧ i < xs.length := by
  unfold atI at h
  cases e : ixN xs.length i with
  | none => rw [e] at h; cases h
  | some j =>
    rw [e] at h
    obtain ⟨h1, h2, h3, h4⟩ := ixN_seq e
    exact ⟨j, h1, h, h2, h3, h4⟩
theorem atI_nat {α : Type} {xs : List α} {j : Nat} {v : α} (h : xs[j]? = some v) : atI xs (j : Int) = some v := by
  have hj : j < xs.length := (List.getElem?_eq_some_iff.mp h).1
  have e : ixN xs.length (j : Int) = some j := by
    unfold ixN
    rw [if_pos (by omega), if_pos (by omega)]; simp
  unfold atI; rw [e]; exact h

/-! ### what may be subscripted -/
/-- what stands as an index of a plain subscript -/
def PlainIx (b : Expr) : Prop := ∀ o i, subscripted b false o i = operate [o, i] (getItem o i)
/-- a subscript by values -/
def IxR (X : Cx) (r : R2) : Prop :=
  ∀ (value slice : Expr) (pins : List (Addr × Obj)) (s : Shared) (σ : St) (H : Hp) (x y : V) (v u : Value) (Q : VK), Inv X pins σ H s → RelV x v → RelV y u → r x y H Q →
    subscripted slice false v u = operate [v, u] (getItem v u) → wpAny (model X.prog X.w) X.A (subscriptTail value slice v u) (EP X pins σ Q) X.xe s
/-- a call of a builtin's method by values: the receiver, the arguments -/
def MtR (X : Cx) (id : String) (r : V → List V → Hp → VK → Prop) : Prop :=
  ∀ (pins : List (Addr × Obj)) (s : Shared) (σ : St) (H : Hp) (x : V) (xs : List V) (v : Value) (us : List Value) (Q : VK), Inv X pins σ H s → RelV x v → Vals xs us → r x xs H Q →
    wpAny (model X.prog X.w) X.A (call (.builtin id) (v :: us)) (EP X pins σ Q) X.xe s
section
variable {X : Cx} {a b : Expr} {ta tb : TE} {pos : Pos}
theorem IxR.or {r r' : R2} (h : IxR X r) (h' : IxR X r') : IxR X (fun x y H Q => r x y H Q ∨ r' x y H Q) := by
  intro value slice pins s σ H x y v u Q I rx ry q hs
  rcases q with q | q
  · exact h value slice pins s σ H x y v u Q I rx ry q hs
  · exact h' value slice pins s σ H x y v u Q I rx ry q hs
/-- a[b] -/
theorem pe_ix {r : R2} (hr : IxR X r) (ha : PE X a ta) (hb : PE X b tb) (hs : PlainIx b) : PE X (.Subscript a b pos) (tOp r ta tb) := by
  intro pins s σ H Q I h
  exact Subscript_ (binT ha hb I h fun v u s2 x y H2 I2 rx ry q => hr a b pins s2 σ H2 x y v u Q I2 rx ry q (hs _ _))

def rIxL (K : PySem.W.Frag) : R2 := fun x y H Q => ∃ p xs i v, x = .ref p ∧ y = .int i ∧ SqL K H p xs ∧ atI xs i = some v ∧ Q v H
def rIxT (K : PySem.W.Frag) : R2 := fun x y H Q => ∃ p xs i v, x = .ref p ∧ y = .int i ∧ SqT K H p xs ∧ atI xs i = some v ∧ Q v H
def rIxS : R2 := fun x y H Q => ∃ z i c, x = .str z ∧ y = .int i ∧ z.length ≤ sizeLine ∧ atI z.cps.toList i = some c ∧ Q (.str ⟨#[c]⟩) H
theorem ix_list : IxR X (rIxL X.K) := by
  intro value slice pins s σ H x y v u Q I rx ry h hs
  obtain ⟨p, xs, i, z, rfl, rfl, hq, he, q⟩ := h
  cases rx
  obtain ⟨t, rfl⟩ := ry
  obtain ⟨its, r, pl, hz⟩ := I.list hq
  obtain ⟨j, h1, h2, h3, h4, h5⟩ := atI_get he
  obtain ⟨w, ew, rw'⟩ := r.get h2
  have hl := r.length
  have hn := line63
  have fin : EP X pins σ Q w s := ⟨z, H, I, rw', q⟩
  by_cases h0 : 0 ≤ i
  · have hj : i.toNat = j := by
      rw [seqIndex_of h0 h5] at h1
      exact Option.some.inj h1
    exact item_listR pl.isList h0 (by omega) (by rw [hj]; simpa using ew) fin hs
  · have hj : (i + (its.toArray.size : Int)).toNat = j := by
      rw [seqIndex_neg (by omega) h4] at h1
      rw [List.size_toArray, ← hl]
      exact Option.some.inj h1
    exact subscriptTail_builtinR (x := w) pl.isList.typeIs slot_list_getitem.lookup
      (wpAny_getItem_list_neg (Q := fun r s' => r = w ∧ EP X pins σ Q r s') pl.isList (by omega) (by rw [List.size_toArray] <;> omega) (by omega) (by rw [hj]; simpa using ew) ⟨rfl, fin⟩) hs
theorem ix_tup : IxR X (rIxT X.K) := by
  intro value slice pins s σ H x y v u Q I rx ry h hs
  obtain ⟨p, xs, i, z, rfl, rfl, hq, he, q⟩ := h
  cases rx
  obtain ⟨t, rfl⟩ := ry
  obtain ⟨its, r, pl, hz⟩ := I.tuple hq
  obtain ⟨j, h1, h2, h3, h4, h5⟩ := atI_get he
  obtain ⟨w, ew, rw'⟩ := r.get h2
  have hl := r.length
  have hn := line63
  have fin : EP X pins σ Q w s := ⟨z, H, I, rw', q⟩
  exact subscriptTail_builtinR (x := w) pl.typeIs slot_tuple_getitem.lookup
    (getItem_tuple (j := j) (Q := fun r s' => r = w ∧ EP X pins σ Q r s') pl (by omega) (by omega) (by rw [List.size_toArray, ← hl]; exact h1) (by simpa using ew) ⟨rfl, fin⟩) hs
theorem ix_str : IxR X rIxS := by
  intro value slice pins s σ H x y v u Q I rx ry h hs
  obtain ⟨z, i, c, rfl, rfl, hz, he, q⟩ := h
  obtain ⟨t, rfl⟩ := rx
  obtain ⟨t', rfl⟩ := ry
  obtain ⟨j, h1, h2, h3, h4, h5⟩ := atI_get he
  have hl : z.cps.toList.length = z.length := by simp [Str.length]
  rw [hl] at h1 h4 h5
  have hn := line63
  exact tail_any (typeIs_str s z t) slot_str_getitem.lookup (getItem_str (c := c) (by
    have e1 : decide (i < -(2 ^ 63 : Int)) = false := decide_eq_false (by omega)
    have e2 : decide (i ≥ 2 ^ 63) = false := decide_eq_false (by omega)
    rw [e1, e2, Bool.or_false]) (by rw [h1]; simpa using h2) ⟨.str ⟨#[c]⟩, H, I.tok _, ⟨_, rfl⟩, q⟩) hs
/-- list, tuple or str -/
def rIx (K : PySem.W.Frag) : R2 := fun x y H Q => rIxL K x y H Q ∨ rIxT K x y H Q ∨ rIxS x y H Q
theorem ix_seq : IxR X (rIx X.K) := ix_list.or (ix_tup.or ix_str)

/-! ### xs[i] = v, any sign -/
/-- the list's object behind a store -/
theorem mapSeq_set (its : List Value) (n j : Nat) (u : Value) : Obj.mapSeq (·.setIfInBounds j u) { cls := .type "list", data := .seq its.toArray n } = { cls := .type "list", data := .seq (its.set j u).toArray n } := by
  simp [Obj.mapSeq]
theorem Inv.lst {pins : List (Addr × Obj)} {σ : St} {H : Hp} {s : Shared} {p : Addr} {xs : List V} (I : Inv X pins σ H s) (h : H p = some (.lst xs)) :
    ∃ (its : List Value) (n : Nat), Vals xs its ∧ s.heap.get? p = some { cls := .type "list", data := .seq its.toArray n } ∧ xs.length ≤ sizeLine := by
  obtain ⟨z, its, n, r, e⟩ := I.hok p _ h
  exact ⟨its, n, r, e, z⟩
/-- the list at p is written by an update of its object -/
theorem Inv.lstUpd {pins : List (Addr × Obj)} {σ : St} {H : Hp} {s : Shared} {p : Addr} {xs ys : List V} {its its' : List Value} {n n' : Nat} {f : Obj → Obj} (I : Inv X pins σ H s) (h : H p = some (.lst xs))
    (ho : s.heap.get? p = some { cls := .type "list", data := .seq its.toArray n }) (hf : f { cls := .type "list", data := .seq its.toArray n } = { cls := .type "list", data := .seq its'.toArray n' }) (r : Vals ys its') (hz : ys.length ≤ sizeLine) (t : Nat) :
    Inv X pins σ (upd H p (.lst ys)) { s with heap := s.heap.update p f, toks := t } := by
  have e : (s.heap.update p f).get? p = some { cls := .type "list", data := .seq its'.toArray n' } := by
    rw [Heap.get?_update_self f ho (by rw [hf] <;> rfl), hf]
  refine I.write (x := p) (e := p) (by rw [h]; trivial) (.inl rfl) (fun b u hb q => (Heap.get?_update_other _ _ (Ne.symm hb)).trans q) ⟨_, e⟩ ?_
  exact ⟨hz, its', n', r, e⟩
def rSetL : V → V → V → Hp → (Hp → Prop) → Prop := fun o i v H Q => ∃ p xs k j, o = .ref p ∧ i = .int k ∧ H p = some (.lst xs) ∧ ixN xs.length k = some j ∧ Q (upd H p (.lst (xs.set j v)))
theorem set_list : PSet X rSetL := by
  intro pins s σ H o i v ov iv u Q I ro ri rv h
  obtain ⟨p, xs, k, j, rfl, rfl, hp, hj, q⟩ := h
  cases ro
  obtain ⟨t, rfl⟩ := ri
  obtain ⟨its, n, r, ho, hz⟩ := I.lst hp
  obtain ⟨h1, h2, h3, h4⟩ := ixN_seq hj
  have hl := r.length
  have hn := line63
  have I' : Inv X pins σ (upd H p (.lst (xs.set j v))) { s with heap := s.heap.update p (Obj.mapSeq (·.setIfInBounds j u)) } :=
    I.lstUpd hp ho (mapSeq_set its n j u) (r.set rv j) (by rw [List.length_set]; exact hz) s.toks
  by_cases h0 : 0 ≤ k
  · have hk : k.toNat = j := by
      rw [seqIndex_of h0 h4] at h1
      exact Option.some.inj h1
    exact PySem.W.ki_setAt ho h0 (by omega) (by rw [List.size_toArray, ← hl]; exact h4) (by rw [hk]; exact ⟨_, I', q⟩)
  · have hk : (k + (its.toArray.size : Int)).toNat = j := by
      rw [seqIndex_neg (by omega) h3] at h1
      rw [List.size_toArray, ← hl]
      exact Option.some.inj h1
    exact PySem.W.ki_setBack ho (by omega) (by rw [List.size_toArray, ← hl]; exact h3) (by omega) (by rw [hk]; exact ⟨_, I', q⟩)

/-! ### slices -/
theorem slice_bounds (lo hi : Option Int) (n : Nat) : (sliceBounds lo hi none n).1 = ((HT.sIx n 0 lo : Nat) : Int) ∧ (sliceBounds lo hi none n).2.1 = ((HT.sIx n n hi : Nat) : Int) ∧ (sliceBounds lo hi none n).2.2 = 1 := by
  refine ⟨?_, ?_, rfl⟩
  · cases lo with
    | none => simp [sliceBounds, HT.sIx]
    | some i =>
      simp only [sliceBounds, HT.sIx, Option.getD_none, show (1 : Int) > 0 by decide, if_true]
      by_cases h : i < 0
      · simp only [h, if_true] <;> omega
      · simp only [h, if_false] <;> omega
  · cases hi with
    | none => simp [sliceBounds, HT.sIx]
    | some i =>
      simp only [sliceBounds, HT.sIx, Option.getD_none, show (1 : Int) > 0 by decide, if_true]
      by_cases h : i < 0
      · simp only [h, if_true] <;> omega
      · simp only [h, if_false] <;> omega
theorem slicePick_cut (its : List Value) (lo hi : Option Int) : slicePick its.toArray lo hi none = ((its.drop (HT.sIx its.length 0 lo)).take (HT.sIx its.length its.length hi - HT.sIx its.length 0 lo)).toArray := by
  obtain ⟨h1, h2, h3⟩ := slice_bounds lo hi its.toArray.size
  unfold slicePick
  rw [h1, h2, h3]
  simp only [sliceRange_one, pick_run, List.size_toArray] <;> rfl
/-- xs[lo:hi] of a list: a new list -/
def rSlL (K : PySem.W.Frag) : V → Option Int → Option Int → Hp → VK → Prop := fun x lo hi H Q => ∃ a xs, x = .ref a ∧ SqL K H a xs ∧ ∀ p, H p = none → Q (.ref p) (upd H p (.lst (cutV xs lo hi)))
theorem sl_list : SlR X (rSlL X.K) := by
  intro pins s σ H x v vl vu lo hi sl Q I rx hs pl pu h
  obtain ⟨a, xs, rfl, hx, q⟩ := h
  cases rx
  obtain ⟨its, r, ht, hz⟩ := I.list hx
  have hlen := r.length
  refine ⟨"list", _, slot_list_getitem.lookup, ht.isList.typeIs, ?_⟩
  refine wpAny_getItem_list_slice ht.isList hs pl pu .none (by simp) ?_ (by rw [List.size_toArray] <;> omega)
  rw [slicePick_cut, ← hlen]
  refine ⟨.ref s.heap.objs.size, _, I.laid (t' := s.toks) (o := .lst (cutV xs lo hi)) (fun b ob q => Heap.get?_push_of_some _ q) (Nat.le_refl _) ?_, rfl, q _ (I.hok.fresh (Nat.le_refl _))⟩
  exact ⟨Nat.le_trans (cutV_length xs lo hi) hz, _, 0, (r.drop (HT.sIx xs.length 0 lo)).take (HT.sIx xs.length xs.length hi - HT.sIx xs.length 0 lo), Heap.get?_push_size _ rfl⟩

/-! ### in, not in: flat items -/
def flatV : V → Bool
  | .non => true
  | .bl _ => true
  | .int _ => true
  | .str _ => true
  | _ => false
/-- == of flat values -/
def eqV : V → V → Bool
  | .non, .non => true
  | .bl a, .bl b => a == b
  | .bl a, .int b => (if a then 1 else 0) == b
  | .int a, .bl b => a == (if b then 1 else 0)
  | .int a, .int b => a == b
  | .str a, .str b => a == b
  | _, _ => false
theorem eqAt_V {A : Around} {s : Shared} {y x : V} {u v : Value} (ry : RelV y u) (rx : RelV x v) (fy : flatV y = true) (fx : flatV x = true) : SeqAt.EqAt A s u v (eqV y x) := by
  cases y with
  | non =>
    cases ry
    cases x with
    | non => cases rx; exact SeqAt.EqAt.same _
    | bl b => cases rx; exact SeqAt.EqAt.none_bool b
    | int b => obtain ⟨t, rfl⟩ := rx; exact SeqAt.EqAt.none_int b t
    | str b => obtain ⟨t, rfl⟩ := rx; exact SeqAt.EqAt.none_str b t
    | _ => exact absurd (show false = true from fx) Bool.false_ne_true
  | bl a =>
    cases ry
    cases x with
    | non => cases rx; exact SeqAt.EqAt.bool_none a
    | bl b => cases rx; exact SeqAt.EqAt.bool_bool a b
    | int b => obtain ⟨t, rfl⟩ := rx; exact SeqAt.EqAt.bool_int a b t
    | str b => obtain ⟨t, rfl⟩ := rx; exact SeqAt.EqAt.bool_str a b t
    | _ => exact absurd (show false = true from fx) Bool.false_ne_true
  | int a =>
    obtain ⟨t', rfl⟩ := ry
    cases x with
    | non => cases rx; exact SeqAt.EqAt.int_none a t'
    | bl b => cases rx; exact SeqAt.EqAt.int_bool a t' b
    | int b => obtain ⟨t, rfl⟩ := rx; exact SeqAt.EqAt.int_int a t' b t
    | str b => obtain ⟨t, rfl⟩ := rx; exact SeqAt.EqAt.int_str a t' b t
    | _ => exact absurd (show false = true from fx) Bool.false_ne_true
  | str a =>
    obtain ⟨t', rfl⟩ := ry
    cases x with
    | non => cases rx; exact SeqAt.EqAt.str_none a t'
    | bl b => cases rx; exact SeqAt.EqAt.str_bool a t' b
    | int b => obtain ⟨t, rfl⟩ := rx; exact SeqAt.EqAt.str_int a t' b t
    | str b => obtain ⟨t, rfl⟩ := rx; exact SeqAt.EqAt.str_str a t' b t
    | _ => exact absurd (show false = true from fx) Bool.false_ne_true
  | _ => exact absurd (show false = true from fy) Bool.false_ne_true
/-- the items' answers, read off the values (a value's own answer does not lean on its token) -/
def eqU (x : V) (u : Value) : Bool := match u with
  | .none => eqV .non x
  | .bool b => eqV (.bl b) x
  | .int i _ => eqV (.int i) x
  | .str z _ => eqV (.str z) x
  | _ => false
theorem eqU_of {x y : V} {u : Value} (r : RelV y u) (f : flatV y = true) : eqU x u = eqV y x := by
  cases y with
  | non => cases r; rfl
  | bl b => cases r; rfl
  | int i => obtain ⟨t, rfl⟩ := r; rfl
  | str z => obtain ⟨t, rfl⟩ := r; rfl
  | _ => exact absurd (show false = true from f) Bool.false_ne_true
theorem any_eqU {x : V} : ∀ {xs : List V} {us : List Value}, Vals xs us → xs.all flatV = true → us.any (eqU x) = xs.any fun y => eqV y x
  | _, _, .nil, _ => rfl
  | y :: xs, u :: us, .cons r t, f => by
    rw [List.all_cons, Bool.and_eq_true] at f
    rw [List.any_cons, List.any_cons, eqU_of r f.1, any_eqU t f.2]
theorem mem_eqAt {A : Around} {s : Shared} {x : V} {v : Value} (rx : RelV x v) (fx : flatV x = true) : ∀ {xs : List V} {us : List Value}, Vals xs us → xs.all flatV = true → ∀ u ∈ us, SeqAt.EqAt A s u v (eqU x u)
  | _, _, .nil, _ => fun u hu => by cases hu
  | y :: xs, u :: us, .cons r t, f => fun u' hu => by
    rw [List.all_cons, Bool.and_eq_true] at f
    rcases List.mem_cons.mp hu with rfl | hu
    · rw [eqU_of r f.1]; exact eqAt_V r rx f.1 fx
    · exact mem_eqAt rx fx t f.2 u' hu
def inV (x : V) (xs : List V) : Bool := xs.any fun y => eqV y x
/-- x in a list or tuple of flat items -/
def rIn (K : PySem.W.Frag) (neg : Bool) : R2 := fun x y H Q => ∃ p xs, y = .ref p ∧ (SqL K H p xs ∨ SqT K H p xs) ∧ flatV x = true ∧ xs.all flatV = true ∧ Q (.bl (if neg then !inV x xs else inV x xs)) H
theorem op_in_seq : OpR X (compareOp .In) (rIn X.K false) := by
  intro pins s σ H x y v u Q I rx ry h
  obtain ⟨p, xs, rfl, hq, fx, fs, q⟩ := h
  cases ry
  rcases hq with hq | hq
  · obtain ⟨its, r, pl, hz⟩ := I.list hq
    refine SeqAt.in_listAt (eqU x) pl.isList (fun w hw => mem_eqAt rx fx r fs w (by simpa using hw)) ⟨.bl _, H, I, rfl, ?_⟩
    rw [show its.toArray.any (eqU x) = its.any (eqU x) by simp, any_eqU r fs]
    exact q
  · obtain ⟨its, r, pl, hz⟩ := I.tuple hq
    refine SeqAt.in_tupleAt (eqU x) pl (fun w hw => mem_eqAt rx fx r fs w (by simpa using hw)) ⟨.bl _, H, I, rfl, ?_⟩
    rw [show its.toArray.any (eqU x) = its.any (eqU x) by simp, any_eqU r fs]
    exact q
theorem op_notIn_seq : OpR X (compareOp .NotIn) (rIn X.K true) := by
  intro pins s σ H x y v u Q I rx ry h
  obtain ⟨p, xs, rfl, hq, fx, fs, q⟩ := h
  cases ry
  rcases hq with hq | hq
  · obtain ⟨its, r, pl, hz⟩ := I.list hq
    refine SeqAt.notIn_listAt (eqU x) pl.isList (fun w hw => mem_eqAt rx fx r fs w (by simpa using hw)) ⟨.bl _, H, I, rfl, ?_⟩
    rw [show its.toArray.any (eqU x) = its.any (eqU x) by simp, any_eqU r fs]
    exact q
  · obtain ⟨its, r, pl, hz⟩ := I.tuple hq
    refine SeqAt.notIn_tupleAt (eqU x) pl (fun w hw => mem_eqAt rx fx r fs w (by simpa using hw)) ⟨.bl _, H, I, rfl, ?_⟩
    rw [show its.toArray.any (eqU x) = its.any (eqU x) by simp, any_eqU r fs]
    exact q

/-! ### len, list(x), tuple(x) of any list or tuple that is read -/
theorem call_len_seq : CallR X (.builtin "len") (fun xs H Q => ∃ p ys, xs = [.ref p] ∧ (SqL X.K H p ys ∨ SqT X.K H p ys) ∧ Q (.int ys.length) H) := by
  intro pins s σ H xs us Q I r h
  obtain ⟨p, ys, rfl, hq, q⟩ := h
  obtain ⟨u, rfl, rx⟩ := vals1 r
  cases rx
  have hn := line63
  rcases hq with hq | hq
  · obtain ⟨its, r', pl, hz⟩ := I.list hq
    have hlen := r'.length
    exact Calls.call_len_list pl.isList (by simp only [List.size_toArray] <;> omega) ⟨.int ys.length, H, I.tok _, ⟨s.toks + 1, by rw [List.size_toArray, hlen]⟩, q⟩
  · obtain ⟨its, r', pl, hz⟩ := I.tuple hq
    have hlen := r'.length
    exact len_tuple pl (by simp only [List.size_toArray] <;> omega) ⟨.int ys.length, H, I.tok _, ⟨s.toks + 1, by rw [List.size_toArray, hlen]⟩, q⟩
theorem call_len_str : CallR X (.builtin "len") (fun xs H Q => ∃ z, xs = [.str z] ∧ z.length ≤ sizeLine ∧ Q (.int z.length) H) := by
  intro pins s σ H xs us Q I r h
  obtain ⟨z, rfl, hz, q⟩ := h
  obtain ⟨u, rfl, t, rfl⟩ := vals1 r
  have hn := line63
  exact len_str (by omega) ⟨.int z.length, H, I.tok _, ⟨_, rfl⟩, q⟩
theorem CallR.or {f : Value} {r r' : List V → Hp → VK → Prop} (h : CallR X f r) (h' : CallR X f r') : CallR X f (fun xs H Q => r xs H Q ∨ r' xs H Q) := by
  intro pins s σ H xs us Q I rs q
  rcases q with q | q
  · exact h pins s σ H xs us Q I rs q
  · exact h' pins s σ H xs us Q I rs q
theorem call_list_of : CallR X (.type "list") (fun xs H Q => ∃ p ys, xs = [.ref p] ∧ (SqL X.K H p ys ∨ SqT X.K H p ys) ∧ ∀ l, H l = none → Q (.ref l) (upd H l (.lst ys))) := by
  intro pins s σ H xs us Q I r h
  obtain ⟨p, ys, rfl, hq, q⟩ := h
  obtain ⟨u, rfl, rx⟩ := vals1 r
  cases rx
  have fin : ∀ (its : List Value), Vals ys its → ys.length ≤ sizeLine → ∀ (h' : Heap) (c' : Nat), (∀ b o', s.heap.get? b = some o' → h'.get? b = some o') →
      h'.get? s.heap.objs.size = some { cls := .type "list", dict := none, data := .seq its.toArray c', slots := #[] } → EP X pins σ Q (.ref s.heap.objs.size) { s with heap := h' } := fun its r' hz h' c' kp e =>
    ⟨.ref s.heap.objs.size, _, I.laid (t' := s.toks) kp (Nat.le_refl _) (show ObjOk X.prog X.w _ h' _ (.lst ys) from ⟨hz, its, c', r', e⟩), rfl, q _ (I.hok.fresh (Nat.le_refl _))⟩
  rcases hq with hq | hq
  · obtain ⟨its, r', pl, hz⟩ := I.list hq
    have hlen := r'.length
    obtain ⟨o, ho, hc, n, hd⟩ := pl.isList
    exact call_list_seq p (.inl rfl) ho hc hd (fun h' c' kp e => fin its r' hz h' c' kp e) (by simp only [List.size_toArray] <;> omega)
  · obtain ⟨its, r', pl, hz⟩ := I.tuple hq
    have hlen := r'.length
    obtain ⟨o, ho, hc, n, hd⟩ := pl
    exact call_list_seq p (.inr rfl) ho hc hd (fun h' c' kp e => fin its r' hz h' c' kp e) (by simp only [List.size_toArray] <;> omega)
theorem call_tuple_of : CallR X (.type "tuple") (fun xs H Q => ∃ p ys, xs = [.ref p] ∧ ((SqL X.K H p ys ∧ ∀ l, H l = none → Q (.ref l) (upd H l (.tup ys))) ∨ (SqT X.K H p ys ∧ Q (.ref p) H))) := by
  intro pins s σ H xs us Q I r h
  obtain ⟨p, ys, rfl, h⟩ := h
  obtain ⟨u, rfl, rx⟩ := vals1 r
  cases rx
  rcases h with ⟨hq, q⟩ | ⟨hq, q⟩
  · obtain ⟨its, r', pl, hz⟩ := I.list hq
    have hlen := r'.length
    refine call_tuple_list pl.isList (fun h' kp => ?_) (by simp only [List.size_toArray] <;> omega)
    have I1 : Inv X pins σ H { s with heap := h' } := I.kept (t' := s.toks) kp
    have I2 : Inv X pins σ (upd H h'.objs.size (.tup ys)) { s with heap := h'.push { cls := .type "tuple", data := .seq its.toArray } } :=
      I1.laid (t' := s.toks) (fun b o e => Heap.get?_push_of_some _ e) (Nat.le_refl _) (show ObjOk X.prog X.w _ _ _ (.tup ys) from ⟨hz, its, r', IsTup.new _ _⟩)
    exact ⟨.ref h'.objs.size, _, I2, rfl, q _ (I1.hok.fresh (Nat.le_refl _))⟩
  · obtain ⟨its, r', pl, hz⟩ := I.tuple hq
    exact call_tuple_same pl ⟨.ref p, H, I, rfl, q⟩

/-! ### the call of a builtin's method: o.m(..) -/
/-- the value is of that builtin type -/
def tyV (K : PySem.W.Frag) (T : String) (x : V) (H : Hp) : Prop := match x with
  | .str _ => T = "str"
  | .int _ => T = "int"
  | .ref p => (T = "list" ∧ ∃ xs, SqL K H p xs) ∨ (T = "tuple" ∧ ∃ o, K.lookup p = some o ∧ o.cls = .type "tuple" ∧ o.dict = none) ∨
      (T = "dict" ∧ ((∃ kvs, H p = some (.dK kvs)) ∨ ∃ kvs, H p = some (.dT kvs))) ∨ (T = "set" ∧ ∃ S n, H p = some (.set S n))
  | _ => False
theorem tyV_is {pins : List (Addr × Obj)} {σ : St} {H : Hp} {s : Shared} {T : String} {x : V} {v : Value} (I : Inv X pins σ H s) (r : RelV x v) (ty : tyV X.K T x H) :
    s.TypeIs v T ∧ ∀ a, v = .ref a → ∃ ob, s.heap.get? a = some ob ∧ ob.dict = none := by
  cases x with
  | str z =>
    obtain ⟨t, rfl⟩ := r
    cases (show T = "str" from ty)
    exact ⟨typeIs_str s z t, fun _ e => nomatch e⟩
  | int i =>
    obtain ⟨t, rfl⟩ := r
    cases (show T = "int" from ty)
    exact ⟨typeIs_int s i t, fun _ e => nomatch e⟩
  | ref p =>
    cases r
    rcases ty with ⟨rfl, xs, hq⟩ | ⟨rfl, o, hk, hc, hd⟩ | ⟨rfl, hk⟩ | ⟨rfl, S, n, hk⟩
    · obtain ⟨its, _, pl, _⟩ := I.list hq
      refine ⟨pl.isList.typeIs, fun a e => ?_⟩
      cases e
      obtain ⟨o, n, e, c, hd, _⟩ := pl
      exact ⟨o, e, hd⟩
    · refine ⟨⟨o, I.kIn p o hk, hc⟩, fun a e => ?_⟩
      cases e
      exact ⟨o, I.kIn _ o hk, hd⟩
    · have z : ∃ o, s.heap.get? p = some o ∧ o.ExactDict := by
        rcases hk with ⟨kvs, hk⟩ | ⟨kvs, hk⟩
        · obtain ⟨_, _, _, _, o, _, _, e, ex, _⟩ := I.hok p _ hk
          exact ⟨o, e, ex⟩
        · obtain ⟨_, _, _, _, o, _, _, e, ex, _⟩ := I.hok p _ hk
          exact ⟨o, e, ex⟩
      obtain ⟨o, e, ex⟩ := z
      refine ⟨⟨o, e, ex.1⟩, fun a e2 => ?_⟩
      cases e2
      exact ⟨o, e, ex.2.1⟩
    · obtain ⟨o, _, _, _, e, ex, _⟩ := I.hok p _ hk
      refine ⟨⟨o, e, ex.1⟩, fun a e2 => ?_⟩
      cases e2
      exact ⟨o, e, ex.2.1⟩
  | _ => exact False.elim ty
def tBM (K : PySem.W.Frag) (T : String) (r : V → List V → Hp → VK → Prop) (to : TE) (t : TA) : TE := fun σ H Q => to σ H fun x H1 => tyV K T x H1 ∧ t σ H1 fun xs H2 => r x xs H2 Q
variable {o e : Expr} {es : List Expr} {to : TE} {t : TA} {name : Str} {apos cpos : Pos} {T id : String} {r : V → List V → Hp → VK → Prop}
theorem pe_bm (pa : PlainAttrs T) (slot : Slot T name id) (hty : typeOf (.builtin id) = pure (.type "method_descriptor")) (hm : MtR X id r) (ho : PE X o to) (ha : PA X (e :: es) t)
    (hbase : attributeBase o name X.env (eval o X.env) = eval o X.env := by rfl)
    (hfew : ((backTo cpos (starEach (e :: es) X.env)).all (fun x => !x.1) && (backToKw cpos (keywordEach [] X.env)).all (fun x => x.1.isSome)
      && decide ((e :: es).length + ([] : List Keyword).length + (if ([] : List Keyword).isEmpty then 0 else 1) < 30)) = true := by rfl)
    (hline : (apos.endLine == cpos.line) = true := by rfl) (hs : starEach (e :: es) X.env = (false, eval e X.env) :: starEach es X.env := by rfl) (hplain : (backTo cpos (starEach es X.env)).any (·.1) = false := by rfl) :
    PE X (.Call (.Attribute o name apos) (e :: es) [] cpos) (tBM X.K T r to t) := by
  intro pins s σ H Q I h
  refine wpAny_Call_method_late hbase hfew hline rfl (thn (ho pins s σ H _ I h) fun v s1 ⟨x, H1, I1, r1, ty, q1⟩ => ?_)
  obtain ⟨h1, h2⟩ := tyV_is I1 r1 ty
  refine ⟨T, id, pa, slot, hty, h1, h2, ?_⟩
  have hA := ha cpos pins s1 σ H1 _ I1 q1
  rw [hs] at hA ⊢
  refine Calls.callWith_builtin (by show (false || (backTo cpos (starEach es X.env)).any (·.1)) = false; rw [hplain] <;> rfl) (Calls.evalArgs_plain ?_)
  exact thn hA fun us s2 ⟨vs, H2, I2, r2, q2⟩ => hm pins s2 σ H2 x vs v us Q I2 r1 r2 q2
/- xs.append(e), list.index on a module's tuple .. are MtR facts of 06m -/
end
end L2

namespace L2
open PySem PySem.Spec PyProof.Rows

def MtM (X : Cx) (id : String) (r : V → List V → Hp → VK → Prop) : Prop :=
  ∀ (pins : List (Addr × Obj)) (s : Shared) (σ : St) (H : Hp) (x : V) (xs : List V) (v : Value) (us : List Value) (Q : VK), Inv X pins σ H s → RelV x v → Vals xs us → r x xs H Q →
    wpAny (model X.prog X.w) X.A (call (.builtin id) (v :: us)) (EP X pins σ Q) X.xe s

/-! ### lists of values -/
theorem Vals.one : ∀ {x : V} {us : List Value}, Vals [x] us → ∃ u, us = [u] ∧ RelV x u
  | _, _, .cons r .nil => ⟨_, rfl, r⟩
theorem Vals.rep {xs : List V} {us : List Value} (h : Vals xs us) : ∀ k : Nat, Vals (List.replicate k xs).flatten (List.replicate k us).flatten
  | 0 => .nil
  | k + 1 => by
    rw [List.replicate_succ, List.replicate_succ, List.flatten_cons, List.flatten_cons]
    exact Vals.append h (Vals.rep h k)
theorem foldl_rep (its : List Value) : ∀ (k : Nat) (acc : List Value),
    List.foldl (fun x1 x2 => x1 ++ x2) acc.toArray (List.replicate k its.toArray) = (acc ++ (List.replicate k its).flatten).toArray
  | 0, acc => by simp
  | k + 1, acc => by
    have e : acc.toArray ++ its.toArray = (acc ++ its).toArray := by simp
    have e2 : (acc ++ its) ++ (List.replicate k its).flatten = acc ++ (List.replicate (k + 1) its).flatten := by
      rw [List.replicate_succ, List.flatten_cons, List.append_assoc]
    rw [← e2, ← foldl_rep its k (acc ++ its), ← e, List.replicate_succ, List.foldl_cons]

section
variable {X : Cx} {pins : List (Addr × Obj)} {σ : St} {H : Hp} {s : Shared} {l b : Addr} {xs ys zs : List V}

/-! ### the two steps: a tracked list is rewritten, a new list is laid -/
theorem Inv.lset {its its' : List Value} {n : Nat} {f : Array Value → Array Value} {t' : Nat} (I : Inv X pins σ H s) (hH : H l = some (.lst xs))
    (e : s.heap.get? l = some { cls := .type "list", data := .seq its.toArray n }) (hf : f its.toArray = its'.toArray) (hv : Vals ys its') (hz : ys.length ≤ sizeLine) :
    Inv X pins σ (upd H l (.lst ys)) { s with heap := s.heap.update l (Obj.mapSeq f), toks := t' } := by
  have q := PySem.IsL.update e f
  rw [hf] at q
  refine I.write (x := l) (e := l) (by rw [hH]; exact trivial) (.inl rfl) (fun b' u hb hu => (Heap.get?_update_other s.heap (Obj.mapSeq f) (Ne.symm hb)).trans hu) ⟨_, q⟩ ?_
  exact ⟨hz, its', _, hv, q⟩
theorem Inv.lnew {its : List Value} {t' : Nat} (I : Inv X pins σ H s) (hv : Vals ys its) (hz : ys.length ≤ sizeLine) :
    Inv X pins σ (upd H s.heap.objs.size (.lst ys)) { s with heap := s.heap.push { cls := .type "list", data := .seq its.toArray }, toks := t' } :=
  I.laid (fun _ _ q => Heap.get?_push_of_some _ q) (Nat.le_refl _) ⟨hz, its, 0, hv, Heap.get?_push_size _ rfl⟩
theorem Inv.fresh (I : Inv X pins σ H s) : H s.heap.objs.size = none := I.hok.fresh (Nat.le_refl _)
theorem Inv.lstM (I : Inv X pins σ H s) (hH : H l = some (.lst xs)) : xs.length ≤ sizeLine ∧ ∃ (its : List Value) (n : Nat), Vals xs its ∧ xs.length = its.length ∧ s.heap.get? l = some { cls := .type "list", data := .seq its.toArray n } := by
  obtain ⟨z, its, n, r, e⟩ := I.hok l _ hH
  exact ⟨z, its, n, r, r.length, e⟩

theorem notLongL {n : Nat} (h : n ≤ sizeLine) : Builtin.List.listTooLong n = false := by
  unfold Builtin.List.listTooLong
  exact decide_eq_false (by omega)
end

section
variable {X : Cx}

/-! ### methods -/
def rAppend : V → List V → Hp → VK → Prop := fun x vs H Q => ∃ l xs y, x = .ref l ∧ vs = [y] ∧ H l = some (.lst xs) ∧ xs.length < sizeLine ∧ Q .non (upd H l (.lst (xs ++ [y])))
theorem mt_append : MtM X "list.append" rAppend := by
  intro pins s σ H x vs v us Q I rx rv h
  obtain ⟨l, xs, y, rfl, rfl, hH, hz, q⟩ := h
  cases rx
  obtain ⟨u, rfl, ru⟩ := rv.one
  obtain ⟨z, its, n, r, hl, e⟩ := I.lstM hH
  refine call_meets F.slot_list_append ⟨_, e, rfl⟩ F.entry_list_append (F.args_list_append_2 _ _) (PySem.list_append l its.toArray n u (by rw [List.size_toArray]; omega)) ⟨e, ?_⟩
  refine ⟨.non, _, I.lset (its' := its ++ [u]) hH e (by simp) (r.append (.cons ru .nil)) ?_, rfl, q⟩
  rw [List.length_append, List.length_singleton]
  omega

def rExtend : V → List V → Hp → VK → Prop := fun x vs H Q => ∃ l b xs zs, x = .ref l ∧ vs = [.ref b] ∧ H l = some (.lst xs) ∧ H b = some (.lst zs) ∧ xs.length + zs.length ≤ sizeLine ∧ Q .non (upd H l (.lst (xs ++ zs)))
theorem mt_extend : MtM X "list.extend" rExtend := by
  intro pins s σ H x vs v us Q I rx rv h
  obtain ⟨l, b, xs, zs, rfl, rfl, hH, hB, hz, q⟩ := h
  cases rx
  obtain ⟨u, rfl, ru⟩ := rv.one
  cases ru
  obtain ⟨z, its, n, r, hl, e⟩ := I.lstM hH
  obtain ⟨z2, its2, n2, r2, hl2, e2⟩ := I.lstM hB
  have hsz : its.toArray.size + its2.toArray.size ≤ sizeLine := by rw [List.size_toArray, List.size_toArray]; omega
  have hlong : ¬ (!its.toArray.isEmpty && Builtin.List.listTooLong (its.toArray.size + its2.toArray.size)) = true := by
    rw [notLongL hsz, Bool.and_false]
    exact Bool.false_ne_true
  refine call_meets F.slot_list_extend ⟨_, e, rfl⟩ F.entry_list_extend (F.args_list_extend_2 _ _)
    (AutoSeq1.list_extend_list_list_0 l its.toArray n b its2.toArray n2 hlong (by rw [List.size_toArray]; omega) (by omega)) ⟨e, e2, ?_⟩
  refine ⟨.non, _, I.lset (its' := its ++ its2) hH e (by simp) (r.append r2) ?_, rfl, q⟩
  rw [List.length_append]
  omega





/-! ### list + list, list += list, list * int -/
def rCat : R2 := fun x y H Q => ∃ l b xs zs, x = .ref l ∧ y = .ref b ∧ H l = some (.lst xs) ∧ H b = some (.lst zs) ∧ xs.length + zs.length ≤ sizeLine ∧ ∀ p, H p = none → Q (.ref p) (upd H p (.lst (xs ++ zs)))
theorem op_cat : OpR X (binaryOp .Add) rCat := by
  intro pins s σ H x y v u Q I rx ry h
  obtain ⟨l, b, xs, zs, rfl, rfl, hH, hB, hz, q⟩ := h
  cases rx
  cases ry
  obtain ⟨z, its, n, r, hl, e⟩ := I.lstM hH
  obtain ⟨z2, its2, n2, r2, hl2, e2⟩ := I.lstM hB
  refine PySem.P.add_list e e2 ?_ (by rw [List.size_toArray, List.size_toArray]; omega)
  have ea : its.toArray ++ its2.toArray = (its ++ its2).toArray := by simp
  rw [ea]
  exact ⟨.ref _, _, I.lnew (t' := s.toks) (r.append r2) (by rw [List.length_append]; omega), rfl, q _ I.fresh⟩
theorem len_rep {α : Type} (xs : List α) (k : Nat) : (List.replicate k xs).flatten.length = k * xs.length := by
  induction k with
  | zero => simp
  | succ k ih => rw [List.replicate_succ, List.flatten_cons, List.length_append, ih, Nat.succ_mul, Nat.add_comm]

/-! ### del xs[i] -/
end

/-! ### xs[a:b] = ys -/
section
variable {prog : Program} {w : World} {A : Around} {E : Value → Shared → Prop} {s : Shared}
set_option maxRecDepth 100000 in
end

section
variable {X : Cx}
end
end L2

namespace Att
open PySem PySem.W PySem.Calls PyProof.Rows

/-! ### the script -/
theorem ints_of_wellAll {P : Params} {h : Heap} : ∀ (ns : List Int) (vs : List Value), WellAll P h vs (ns.map WData.int) → IntsAre vs ns := by
  intro ns
  induction ns with
  | nil =>
    intro vs w
    rw [List.map_nil] at w
    cases w
    exact .nil
  | cons n ns ih =>
    intro vs w
    rw [List.map_cons] at w
    cases w with
    | cons a b =>
      cases a
      exact .cons _ _ (ih _ b)

theorem script_of {l : OpenLaw} {n : Nat} (hn : l.most = some n) {P : Params} {h : Heap} {args : List WData} {vals : List Value}
    (hpre : l.row.toRowW.claim.pre args = true) (hwl : WellAll P h vals args) :
    ∃ a vs ns, vals = [Value.ref a] ∧ args = [WData.list (ns.map WData.int)] ∧ h.get? a = some { cls := .type "list", data := .seq vs.toArray } ∧ IntsAre vs ns ∧ ns.length ≤ n := by
  have hsh : WShape.hasAll [] args [.list .int] = true := (pre_splitW hpre).1
  have hc : l.pre.holds [] { args := args } = true := (pre_splitW hpre).2
  obtain ⟨d, r, rfl, h1, h2⟩ := hasAllW_cons hsh
  obtain rfl := hasAllW_nil h2
  obtain ⟨xs, rfl, h3⟩ := hasW_list h1
  obtain ⟨ns, rfl⟩ := items_int h3
  have hlen : ns.length ≤ n := by
    unfold OpenLaw.pre at hc
    have h4 : (WTm.not (.lt (.lit (.int (n : Int))) (.len (.arg 0)))).holds [] { args := [.list (ns.map .int)] } = true := by
      have h4 := (holds_andW hc).1
      rw [hn] at h4
      exact h4
    have h5 := condW_of h4 (w_not (w_lt w_lit (w_len_list (w_arg rfl))))
    rw [List.length_map] at h5
    refine Nat.le_of_not_lt fun q => ?_
    have q' : (n : Int) < ((ns.length : Nat) : Int) := by omega
    first
      | (rw [decide_eq_true q'] at h5; exact absurd h5 (by decide))
      | (simp at h5; omega)
  cases hwl with
  | cons w1 w2 =>
    cases w2
    cases w1 with
    | list ho hall => exact ⟨_, _, ns, rfl, rfl, ho, ints_of_wellAll ns _ hall, hlen⟩

theorem post_true (l : OpenLaw) (args : List WData) : l.row.toRowW.claim.post args (.bool true) args = true :=
  postW_of (r := l.row.toRowW) (X := (true == true))
    (show WShape.has [] (.bool true) .bool = true by first | rfl | decide | simp [WShape.has, WShape.arms, WShape.armsAll])
    (show (WTm.eq .res (.lit (.bool true))).value [] { args := args, res := some (.bool true), after := args } = some (.bool (true == true)) from w_eq_bool (w_res rfl) w_lit) rfl

/-! ### the attachment: holds_open's last premise (the goal 'hc' behind k_head) from a wpAny of the law's body -/

/-- the same from a codeAny of the CALL (for a layer whose function contracts speak of calls) -/
theorem attach_call {l : OpenLaw} {n : Nat} {q : Program} {loose : List Str} {XP : (Str → Option Value) → Heap → Prop} {YP : World → Heap → Prop} {d : DefRec}
    (hn : l.most = some n) (hdf : d.params.defaults = [])
    (call : ∀ (w : World) (s₀ s₁ : Shared) (mg mb : Str → Option Value) (fa : Addr) (o : Obj) (pm cd doc : Value) (a : Addr) (vs : List Value) (ns : List Int),
      Ground q loose [] XP w s₀ mg mb s₁.heap → YP w s₁.heap →
      s₁.heap.get? fa = some o → o.data = .func (docDef d.name d.params d.body d.scope pm cd doc) → s₁.heap.CodeRec cd d.name → mg d.name = some (.ref fa) →
      s₁.heap.get? a = some { cls := .type "list", data := .seq vs.toArray } → IntsAre vs ns → ns.length ≤ n → s₁.gens = #[] →
      codeAny (model l.prog w) callerA (.call (.ref fa) ⟨[.ref a], []⟩) (fun r s' => r = .ok (.ret (.bool true)) ∧ OldK s₁.heap s'.heap ∧ s'.os = s₁.os ∧ AllBare s'.gens) s₁) :
    WalkO q loose XP YP l.row.toRowW d [] (fun f vs => PySem.call f vs) := by
  intro w s₀ s₁ mg mb G Y fa o pm cd doc dV kV ho hd hcd hD hmg hg args vals as hpre hlay hrd hwl hlo
  obtain rfl : dV = .none := Dflts.none hD hdf
  obtain rfl : kV = .none := Dflts.noKw hD
  obtain ⟨a, vs, ns, rfl, rfl, hobj, hints, hlen⟩ := script_of hn hpre hwl
  refine enter_call (codeAny_mono (call w s₀ s₁ mg mb fa o pm cd doc a vs ns G Y ho (fd_plain hd) hcd hmg hobj hints hlen hg) fun r s' hq => ?_)
  obtain ⟨rfl, h2, h3, h4⟩ := hq
  exact ⟨.inl ⟨.bool true, .bool true, [], rfl, fun _ => rfl, .bool true, post_true l _, fun _ => ⟨List.Pairwise.nil, fun _ hm => (nomatch hm)⟩⟩, h2, h3, h4⟩


/-! ### rules over ANY heap (no ledger) from facts about the written part K: the library's own take a ledger (News) for what they write -/
section
variable {prog : Program} {w : World} {A : Around} {E : Value → Shared → Prop} {s : Shared} {K : Frag}





/-! the whole heap as the ledger: makes every rule that writes through a ledger a rule over any heap -/

end
end Att

namespace L2
open PySem PySem.Spec PyProof.Rows

theorem vals_ints : ∀ {vs : List Value} {ns : List Int}, IntsAre vs ns → Vals (ns.map V.int) vs
  | _, _, .nil => .nil
  | _, _, .cons n t h => .cons ⟨t, rfl⟩ (vals_ints h)

/-- nothing is tracked but the script, known to the object (or it is an object of the module) -/
def Only (H : Hp) : Prop := ∀ b, H b = none ∨ ∃ o xs, H b = some (.frz o (.lst xs))

/-- THE HEAD: the law's promise, at the heap behind the top. F, the promise of the law's def, may use that base is part of the heap (so K.In base, base.Ns mainGlobals mg stand in Mod) -/
theorem law_call {P : Program} {w : World} {K : PySem.W.Frag} {mg mb : Str → Option Value} {CX : CXT} {k : Nat} {fa a : Addr} {fd : FuncData} {x : Str} {sp : Sp} {s₁ : Shared} {vs : List Value} {ns : List Int}
    (KX : K.In s₁.heap) (hns : s₁.heap.Ns mainGlobals mg) (hb : s₁.heap.Ns builtinsNs mb) (hbb : ∀ x : Str, x ≠ "__name__" → mb x = bootBuiltins x) (hlim : s₁.heap.NoLimit) (hg : s₁.gens = #[])
    (ha : s₁.heap.get? a = some { cls := .type "list", data := .seq vs.toArray }) (hi : IntsAre vs ns) (hl : ns.length ≤ sizeLine) (hr : Room k callerA)
    (F : ∀ base : Heap, K.In base → base.Ns mainGlobals mg → FnOk P w K mg base CX k fa fd [x] sp) (hbind : ∀ (s : Shared) (u : Value), BindsTo s fd ⟨[u], []⟩ [(x, u)])
    (hsp : ∀ H : Hp, Only H → SqL K H a (ns.map V.int) → sp [.ref a] H (fun v _ => v = .bl true) fun _ _ _ => False)
    (hCX : ∀ H e s', CX [] H s₁ (fun _ _ _ => False) e s' → False) :
    codeAny (model P w) callerA (.call (.ref fa) ⟨[.ref a], []⟩) (fun r s' => r = .ok (.ret (.bool true)) ∧ OldK s₁.heap s'.heap ∧ s'.os = s₁.os ∧ AllBare s'.gens) s₁ := by
  have rv := vals_ints hi
  have lenV := hi.length
  -- from an abstract heap in which nothing but the script may be tracked
  have core : ∀ H : Hp, Only H → SqL K H a (ns.map V.int) → HOk P w H s₁.heap → (∀ b, H b ≠ none → b = a) → (H a ≠ none → K.lookup a = none) →
      codeAny (model P w) callerA (.call (.ref fa) ⟨[.ref a], []⟩) (fun r s' => r = .ok (.ret (.bool true)) ∧ OldK s₁.heap s'.heap ∧ s'.os = s₁.os ∧ AllBare s'.gens) s₁ := by
    intro H hO hS hok hA hK
    have base_of : ∀ {b : Addr} {o : Obj}, s₁.heap.get? b = some o → H b = none → (hidT s₁.heap H).get? b = some o := fun e n => hidT_get e n
    have noA : ∀ {b : Addr} {o : Obj} {es : Array DictEntry} {ep : Nat}, s₁.heap.get? b = some o → o.data = .dict es ep → H b = none := fun {b o es ep} e d => by
      cases q : H b with
      | none => rfl
      | some u =>
        have e' : b = a := hA b (by rw [q]; simp)
        subst e'
        rw [ha] at e; cases e
        have d' : Data.seq vs.toArray _ = Data.dict es ep := d
        cases d'
    have nsK : ∀ {b : Addr} {m : Str → Option Value}, s₁.heap.Ns b m → (hidT s₁.heap H).Ns b m := fun {b m} ⟨o, es, ep, e, d, r⟩ => ⟨o, es, ep, base_of e (noA e d), d, r⟩
    have hKb : K.In (hidT s₁.heap H) := fun b o e => base_of (KX b o e) (by
      cases q : H b with
      | none => rfl
      | some u =>
        have e' : b = a := hA b (by rw [q]; simp)
        subst e'
        rw [hK (by rw [q]; simp)] at e; cases e)
    have hM : Mod K mg (hidT s₁.heap H) := ⟨hKb, nsK hns, ⟨mb, nsK hb, hbb⟩, let ⟨mc, h1, h2⟩ := hlim; ⟨mc, nsK h1, h2⟩⟩
    have e0 : Env0 P w K mg (hidT s₁.heap H) callerA [] s₁ H := ⟨rfl, hM, fun b o e => of_hidT e, Nat.le_of_eq (hidT_size _ _), trivial, fun b hb => absurd (show b ∈ ([] : List Addr) from hb) (by simp), hok, .of_eq hg⟩
    refine codeAny_mono ((F _ hKb (nsK hns)).run callerA [] s₁ H ⟨[.ref a], []⟩ [.ref a] [.ref a] _ _ hr e0 (hbind s₁ (.ref a)) (.cons rfl .nil) (hsp H hO hS)) fun r s' h => ?_
    cases r with
    | error e => exact (hCX H e s' h).elim
    | ok fl =>
      cases fl with
      | next => exact False.elim h
      | brk => exact False.elim h
      | cont => exact False.elim h
      | ret u =>
        obtain ⟨v, H', os, bare, un, hok', r', q⟩ := h
        have q' : v = .bl true := q
        subst q'
        obtain rfl : u = Value.bool true := r'
        refine ⟨rfl, OldK.of_keep fun b o e => ?_, os, bare⟩
        cases q : H b with
        | none => exact un.keep b o e q (by intro z; exact absurd (show b ∈ ([] : List Addr) from z) (by simp)) (by simp)
        | some u =>
          rcases hO b with z | ⟨ob, xs, z⟩
          · rw [q] at z; cases z
          · have z2 := un.frzs b ob _ z
            obtain ⟨e1, _⟩ := hok b _ z
            obtain ⟨e2, _⟩ := hok' b _ z2
            rw [e] at e1; cases e1
            exact e2
  cases hk : K.lookup a with
  | some o =>
    -- the script is one of the module's own objects
    have e := KX a o hk
    rw [ha] at e
    cases e
    refine core (fun _ => none) (fun _ => .inl rfl) (.inr ⟨_, vs.toArray, _, hk, rfl, rfl, rfl, by rw [List.size_toArray, lenV]; exact hl, by simpa using rv⟩) (fun b u z => by have z' : (none : Option HO) = some u := z; cases z') (fun b z => absurd rfl z) fun z => absurd rfl z
  | none =>
    refine core (fun b => if b = a then some (.frz { cls := .type "list", data := .seq vs.toArray } (.lst (ns.map V.int))) else none) (fun b => ?_) (.inl (.inr ⟨{ cls := .type "list", data := .seq vs.toArray }, if_pos rfl⟩)) (fun b u z => ?_) (fun b z => ?_) fun _ => hk
    · by_cases hb : b = a
      · exact .inr ⟨_, _, if_pos hb⟩
      · exact .inl (if_neg hb)
    · by_cases hb : b = a
      · have z' := (if_pos hb).symm.trans z
        cases z'
        subst hb
        exact ⟨ha, by rw [List.length_map]; exact hl, vs, _, rv, ha⟩
      · have z' := (if_neg hb).symm.trans z
        cases z'
    · by_cases hb : b = a
      · exact hb
      · exact absurd (if_neg hb) z
end L2

namespace L2
open PySem PySem.Spec PyProof.Rows


/-- the goal that k_head leaves (case hc), from the law's promise. F gives the function object fd (K's own) once, then the promise over every base -/
theorem walk_of {l : PySem.W.OpenLaw} {n k : Nat} {q : Program} {loose : List Str} {XP : (Str → Option Value) → Heap → Prop} {YP : World → Heap → Prop} {d : DefRec} {K : Params → PySem.W.Frag} {CX : World → CXT} {sp : World → Sp} {x : Str}
    (hn : l.most = some n) (hn2 : n ≤ sizeLine) (hdf : d.params.defaults = []) (hr : Room k callerA)
    (hY : ∀ (w : World) (h : Heap), YP w h → (K w.params).In h)
    (F : ∀ (w : World) (mg : Str → Option Value) (fa : Addr) (h : Heap), (K w.params).In h → h.Ns mainGlobals mg → mg d.name = some (.ref fa) →
      ∃ fd : FuncData, (∀ (s : Shared) (u : Value), BindsTo s fd ⟨[u], []⟩ [(x, u)]) ∧
        ∀ base : Heap, (K w.params).In base → base.Ns mainGlobals mg → FnOk l.prog w (K w.params) mg base (CX w) k fa fd [x] (sp w))
    (hsp : ∀ (w : World) (H : Hp) (a : Addr) (ns : List Int), ns.length ≤ n → Only H → SqL (K w.params) H a (ns.map V.int) → sp w [.ref a] H (fun v _ => v = .bl true) fun _ _ _ => False)
    (hCX : ∀ (w : World) (H : Hp) (s : Shared) (e : Value) (s' : Shared), CX w [] H s (fun _ _ _ => False) e s' → False) :
    PySem.W.WalkO q loose XP YP l.row.toRowW d [] (fun f vs => PySem.call f vs) := by
  refine Att.attach_call hn hdf fun w s₀ s₁ mg mb fa o pm cd doc a vs ns G Y ho hd hcd hmg hobj hints hlen hg => ?_
  have KX := hY w _ Y
  obtain ⟨fd, hb, hF⟩ := F w mg fa _ KX G.T.g hmg
  exact law_call KX G.T.g G.T.b G.T.builtins G.T.nolimit hg hobj hints (Nat.le_trans hlen hn2) hr hF hb (fun H hO hS => hsp w H a ns hlen hO hS) fun H e s' => hCX w H s₁ e s'
end L2

/- THE LAST THEOREM (shape; LID, My.* are yours):
   My.Adr: a structure of the addresses that your layer names (classes, functions); My.Txt K t: a structure (Prop) of the equations over K;
   My.txt_mk : {K} {implicit addresses ..} (e1 : nsIn K mainGlobals "law" = some (some (.ref f))) (e2 : K.lookup f = some ⟨oc, od, .func (fnOf "law" "law" params body scope dV kV doc pm an cdv ct), sl⟩) (e3 : codeIn K cdv "law" = true) .. : ∃ t, My.Txt K t

set_option maxRecDepth 100000 in
set_option maxHeartbeats 0 in
theorem PySem.Challenge.cw_LID_holds : PySem.Challenge.rw_LID.Holds := by
  w_on; o_law; k_head; (case hw => w_witness2)
  k_fill
  refine L2.walk_of (l := PySem.Challenge.rw_LID) (n := 63) (k := 40) (x := "script") (CX := fun w => ..) (sp := fun _ => My.sp_law) rfl (by decide) rfl ⟨rfl, by decide, by decide⟩ (fun w h Y => PySem.W.kIn_of Y) ?F ?S ?C
  case F =>
    intro w mg fa h KX G hmg
    have T : ∃ t, My.Txt (L2.KOf KX) t := by
      dsimp only [L2.KOf]                          -- K must stand as «<heap const> w.params» for k_is
      refine' My.txt_mk ?e1 ?e2 ?e3 ..
      (case e1 => PySem.W.k_is)                    -- in the order: a name -> its address -> its object -> its parts
      (case e2 => PySem.W.k_is)
      ..
    obtain ⟨t, T⟩ := T
    have e0 := hmg.symm.trans (PySem.W.mg_of KX G T.law)
    cases e0                                       -- fa is the law's own address
    exact ⟨_, fun s u => .of_eq rfl, fun base kb nb => My.law_fn T kb nb⟩     -- if «.of_eq rfl» comes too early: refine' ⟨_, ?b, fun base kb nb => My.law_fn T kb nb⟩; exact fun s u => .of_eq rfl
  case S => exact fun w H a ns hl hO hS => ..
  case C => exact ..
(the tactic k_is has no namespace: write k_is) -/

/-! SHORT WORDS over the layer: a def of the text, its body, what a loop and a test want. -/
namespace L2
open PySem PySem.Spec PyProof.Rows

/-! ### the text by places -/
def defArgs (s : Stmt) : Arguments := match s with
  | .FunctionDef _ a _ _ _ _ _ _ _ _ => a
  | _ => { posonlyargs := [], args := [], vararg := none, kwonlyargs := [], kw_defaults := [], kwarg := none, defaults := [] }
def defBody (s : Stmt) : List Stmt := match s with
  | .FunctionDef _ _ b _ _ _ _ _ _ _ => b
  | _ => []
def defScope (s : Stmt) : Scope := match s with
  | .FunctionDef _ _ _ _ _ _ sc _ _ _ => sc
  | _ => { kind := .function, names := [], isGenerator := false, isCoroutine := false }

/-! ### no exception leaves a def -/
abbrev CX0 : CXT := fun _ _ _ _ _ _ => False
abbrev E0 : XK := fun _ _ _ => False
theorem pass0 {X : Cx} : Passes CX0 X E0 := fun _ _ _ _ _ _ _ h => h.elim

/-! ### a def (or method) of the text as it stands behind the top -/
structure Fun (K : PySem.W.Frag) (x qual : Str) (st : Stmt) (f : Addr) (fd : FuncData) : Prop where
  ex : ∃ (oc : Value) (od : Option Addr) (kV doc pm : Value) (an : Option Addr) (cdv ct : Value) (osl : Array (Option Value)),
    fd = PySem.W.fnOf x qual (defArgs st) (defBody st) (defScope st) .none kV doc pm an cdv ct ∧ K.lookup f = some ⟨oc, od, .func fd, osl⟩ ∧ PySem.W.codeIn K cdv qual = true
  kp : PySem.W.keepIn K (.ref f) = true
section
variable {P : Program} {w : World} {K : PySem.W.Frag} {mg : Str → Option Value} {base : Heap}
/-- THE RULE for a def: its body as a term of rules, and the reading of that term -/
theorem Fun.ok {x qual : Str} {st : Stmt} {f : Addr} {fd : FuncData} {N ps : List Str} {k : Nat} {sp : Sp} (F : Fun K x qual st f fd) (S : FnScope N ps (defScope st)) (len : ∀ vs H Q E, sp vs H Q E → vs.length = ps.length)
    (hbody : ∀ (cdv : Value) (A : Around) (outer : List Env) (s : Shared) (H : Hp) (vs : List V) (Q : VK) (E : XK), Room k (A.deeper (envOfC qual (defScope st) s.heap.objs.size f cdv)) → sp vs H Q E →
      ∃ t, PSs (cxOf CX0 P w K mg base N qual (defScope st) f cdv A outer s H E).nox (defBody st) t ∧ t { nx := fun _ H' => Q .non H', rt := Q } (start N vs) H) : FnOk P w K mg base CX0 (k + 1) f fd ps sp := by
  obtain ⟨oc, od, kV, doc, pm, an, cdv, ct, osl, rfl, lk, hcd⟩ := F.ex
  refine fn_of lk hcd S len fun A outer s H vs Q E hr hsp => ?_
  obtain ⟨t, h, q⟩ := hbody cdv A outer s H vs Q E hr hsp
  exact ⟨t, h.nox, q⟩
/-- how its arguments bind (no defaults): h is «fun _ _ _ _ _ _ us hl => match us, hl with | [_, _], _ => rfl», one _ a parameter -/
theorem Fun.binds {x qual : Str} {st : Stmt} {f : Addr} {fd : FuncData} {ps : List Str} (F : Fun K x qual st f fd)
    (h : ∀ (kV doc pm : Value) (an : Option Addr) (cdv ct : Value) (us : List Value), us.length = ps.length → bindArgs (PySem.W.fnOf x qual (defArgs st) (defBody st) (defScope st) .none kV doc pm an cdv ct) ⟨us, []⟩ = pure (ps.zip us)) : Binds K fd ps [] := by
  obtain ⟨oc, od, kV, doc, pm, an, cdv, ct, osl, rfl, lk, hcd⟩ := F.ex
  exact .all (h kV doc pm an cdv ct)
theorem fun_mk {x qual : Str} {st : Stmt} {f : Addr} {oc : Value} {od an : Option Addr} {osl : Array (Option Value)} {kV doc pm cdv ct : Value} (l : K.lookup f = some ⟨oc, od, .func (PySem.W.fnOf x qual (defArgs st) (defBody st) (defScope st) .none kV doc pm an cdv ct), osl⟩)
    (c : PySem.W.codeIn K cdv qual = true) (k : PySem.W.keepIn K (.ref f) = true) : Fun K x qual st f (PySem.W.fnOf x qual (defArgs st) (defBody st) (defScope st) .none kV doc pm an cdv ct) := ⟨⟨oc, od, kV, doc, pm, an, cdv, ct, osl, rfl, l, c⟩, k⟩
end
theorem small1000 {n : Nat} (h : n ≤ 1000) : n < sizeLine := Nat.lt_of_le_of_lt h (by decide)

/-! ### expressions in short: the name that stands in the i-th slot -/
section
variable {X : Cx}
end

/-! ### tests -/
theorem ite2 {c A B : Prop} [Decidable c] (h1 : c → A) (h2 : ¬ c → B) : if c then A else B := by
  by_cases h : c
  · rw [if_pos h]
    exact h1 h
  · rw [if_neg h]
    exact h2 h

/-! ### heaps -/
/-- all that was tracked is as it was -/
def Same (H H' : Hp) : Prop := ∀ b o, H b = some o → H' b = some o
theorem Same.refl (H : Hp) : Same H H := fun _ _ h => h
theorem Same.trans {H H1 H2 : Hp} (a : Same H H1) (b : Same H1 H2) : Same H H2 := fun c o h => b c o (a c o h)
theorem Same.seq {K : PySem.W.Frag} {H H' : Hp} {a : Addr} {xs : List V} (e : Same H H') (h : SqL K H a xs) : SqL K H' a xs := by
  rcases h with (h | ⟨o, h⟩) | h
  · exact .inl (.inl (e _ _ h))
  · exact .inl (.inr ⟨o, e _ _ h⟩)
  · exact .inr h

end L2


set_option Elab.async false
set_option linter.all false
set_option maxRecDepth 100000
set_option maxHeartbeats 4000000

namespace L2
open PySem PySem.Spec PyProof.Rows

/-! ### lists of pairs as tables -/
section
variable {κ : Type} [DecidableEq κ]
def valV (kvs : List (κ × V)) (k : κ) : Option V := (kvs.find? fun kv => decide (kv.1 = k)).map (·.2)
/-- in its place, or at the end -/
def putK (kvs : List (κ × V)) (k : κ) (v : V) : List (κ × V) :=
  if (kvs.any fun kv => decide (kv.1 = k)) = true then kvs.map (fun kv => if kv.1 = k then (kv.1, v) else kv) else kvs ++ [(k, v)]

theorem valV_pos {p : κ × V} {r : List (κ × V)} {k : κ} (e : p.1 = k) : valV (p :: r) k = some p.2 := by simp [valV, List.find?_cons, e]
theorem valV_neg {p : κ × V} {r : List (κ × V)} {k : κ} (e : ¬ p.1 = k) : valV (p :: r) k = valV r k := by simp [valV, List.find?_cons, e]
theorem valV_any (k : κ) : ∀ kvs : List (κ × V), (kvs.any fun kv => decide (kv.1 = k)) = (valV kvs k).isSome
  | [] => rfl
  | p :: r => by
    rw [List.any_cons]
    by_cases e : p.1 = k
    · simp only [valV_pos e, decide_eq_true e, Bool.true_or, Option.isSome_some]
    · rw [valV_neg e, decide_eq_false e, Bool.false_or]; exact valV_any k r
theorem length_putK (kvs : List (κ × V)) (k : κ) (v : V) : (putK kvs k v).length ≤ kvs.length + 1 := by
  unfold putK
  split
  · rw [List.length_map]; omega
  · rw [List.length_append, List.length_cons, List.length_nil]; omega

theorem RelO.isSome_eq {o : Option V} {u : Option Value} (r : RelO o u) : o.isSome = u.isSome := by
  cases o with
  | none => cases u with
    | none => rfl
    | some _ => exact (show False from r).elim
  | some _ => cases u with
    | none => exact (show False from r).elim
    | some _ => rfl

theorem KV.any {kvs : List (κ × V)} {vs : List (κ × Value)} (r : KV kvs vs) (k : κ) : (kvs.any fun kv => decide (kv.1 = k)) = vs.any fun kv => decide (kv.1 = k) := by
  unfold KV at r
  induction r with
  | nil => rfl
  | cons h t ih => rw [List.any_cons, List.any_cons, ih, h.1]
theorem KV.repl {kvs : List (κ × V)} {vs : List (κ × Value)} (r : KV kvs vs) (k : κ) {y : V} {u : Value} (ry : RelV y u) :
    KV (kvs.map fun kv => if kv.1 = k then (kv.1, y) else kv) (vs.map fun kv => if kv.1 = k then (kv.1, u) else kv) := by
  unfold KV at r ⊢
  induction r with
  | nil => exact .nil
  | @cons p q ps qs h t ih =>
    rw [List.map_cons, List.map_cons]
    refine .cons ?_ ih
    obtain ⟨h1, h2⟩ := h
    by_cases e : p.1 = k
    · rw [if_pos e, if_pos (h1.symm.trans e)]; exact ⟨h1, ry⟩
    · rw [if_neg e, if_neg (fun z => e (h1.trans z))]; exact ⟨h1, h2⟩
theorem KV.put {kvs : List (κ × V)} {vs : List (κ × Value)} (r : KV kvs vs) (k : κ) {y : V} {u : Value} (ry : RelV y u) : KV (putK kvs k y) (stored vs k u) := by
  unfold putK stored
  rw [r.any k]
  by_cases e : (vs.any fun kv => decide (kv.1 = k)) = true
  · rw [if_pos e, if_pos e]; exact r.repl k ry
  · rw [if_neg e, if_neg e]; exact Paired.snoc r ⟨rfl, ry⟩
theorem KV.length {kvs : List (κ × V)} {vs : List (κ × Value)} (r : KV kvs vs) : kvs.length = vs.length := Paired.length r
end


/-! ### a tracked dict, its keys ints and texts or tuples of these -/
theorem kV_is {P : Program} {w : World} {k : Key} {u : Value} (r : RelV (kV k) u) : (mixKind P w).is k u = true := by
  cases k with
  | inl i => obtain ⟨t, e⟩ := (show ∃ t, u = Value.int i t from r); subst e; exact mixKind_int P w i t
  | inr x => obtain ⟨t, e⟩ := (show ∃ t, u = Value.str x t from r); subst e; exact mixKind_str P w x t
theorem items_are {P : Program} {w : World} : ∀ {ks : List Key} {us : List Value}, Vals (ks.map kV) us → ItemsAre (mixKind P w) ks us
  | [], _, r => by rw [List.map_nil] at r; cases r; exact .nil
  | k :: ks, _, r => by
    rw [List.map_cons] at r
    cases r with
    | cons h t => exact .cons (kV_is h) (items_are t)

/-- raw entries of a dict with tuple keys -/
abbrev KT (H : Hp) : List (List Key × V) → List (List Key × Addr × Value) → Prop := Paired fun p q => p.1 = q.1 ∧ H q.2.1 = some (.tup (p.1.map kV)) ∧ RelV p.2 q.2.2
theorem KT.val {H : Hp} {kvs : List (List Key × V)} {xs : List (List Key × Addr × Value)} (r : KT H kvs xs) (k : List Key) : RelO (valV kvs k) ((atKey xs k).map (·.2)) := by
  induction r with
  | nil => exact True.intro
  | @cons p q ps qs h t ih =>
    obtain ⟨h1, _, h2⟩ := h
    by_cases e : p.1 = k
    · have e' : q.1 = k := h1.symm.trans e
      have b : atKey (q :: qs) k = some q.2 := by simp [atKey, List.find?_cons, e']
      rw [valV_pos e, b]; exact h2
    · have e' : ¬ q.1 = k := fun z => e (h1.trans z)
      have b : atKey (q :: qs) k = atKey qs k := by simp [atKey, List.find?_cons, e']
      rw [valV_neg e, b]; exact ih
theorem KT.repl {H : Hp} {kvs : List (List Key × V)} {xs : List (List Key × Addr × Value)} (r : KT H kvs xs) (k : List Key) {y : V} {u : Value} (ry : RelV y u) :
    KT H (kvs.map fun kv => if kv.1 = k then (kv.1, y) else kv) (xs.map (putAt k u)) := by
  induction r with
  | nil => exact .nil
  | @cons p q ps qs h t ih =>
    rw [List.map_cons, List.map_cons]
    refine .cons ?_ ih
    obtain ⟨h1, h2, h3⟩ := h
    unfold putAt
    by_cases e : p.1 = k
    · rw [if_pos e, if_pos (h1.symm.trans e)]; exact ⟨h1, h2, ry⟩
    · rw [if_neg e, if_neg (fun z => e (h1.trans z))]; exact ⟨h1, h2, h3⟩
theorem KT.put {H : Hp} {kvs : List (List Key × V)} {xs : List (List Key × Addr × Value)} (r : KT H kvs xs) (k : List Key) {b : Addr} {y : V} {u : Value} (hb : H b = some (.tup (k.map kV))) (ry : RelV y u) :
    KT H (putK kvs k y) (storedH xs k b u) := by
  have e : (kvs.any fun kv => decide (kv.1 = k)) = (atKey xs k).isSome := by
    rw [valV_any, (r.val k).isSome_eq, Option.isSome_map]
  unfold putK storedH
  rw [e]
  by_cases q : (atKey xs k).isSome = true
  · rw [if_pos q, if_pos q]; exact r.repl k ry
  · rw [if_neg q, if_neg q]; exact Paired.snoc r ⟨rfl, hb, ry⟩
theorem KT.keeps {H H' : Hp} {kvs : List (List Key × V)} {xs : List (List Key × Addr × Value)} (r : KT H kvs xs) (ht : ∀ b ys, H b = some (.tup ys) → H' b = some (.tup ys)) : KT H' kvs xs :=
  Paired.mapP r fun _ _ z => ⟨z.1, ht _ _ z.2.1, z.2.2⟩

section
variable {P : Program} {w : World} {H : Hp} {h : Heap} {a : Addr}
theorem rd_of {u : HO} (ok : HOk P w H h) (e : Rd H a u) : ObjOk P w H h a u := e.ok ok
theorem dk_rd {kvs : List (Key × V)} (ok : HOk P w H h) (e : Rd H a (.dK kvs)) : kvs.length ≤ sizeLine ∧ (a == sysModules) = false ∧ ∃ vs, KV kvs vs ∧ h.DictOf (mixKind P w) a vs :=
  show ObjOk P w H h a (.dK kvs) from rd_of ok e
theorem dk_of {kvs : List (Key × V)} (ok : HOk P w H h) (e : H a = some (.dK kvs)) : kvs.length ≤ sizeLine ∧ (a == sysModules) = false ∧ ∃ vs, KV kvs vs ∧ h.DictOf (mixKind P w) a vs := dk_rd ok (.inl e)
/-- a tracked tuple of ints and texts is a key -/
theorem key_of {ks : List Key} (ok : HOk P w H h) (e : H a = some (.tup (ks.map kV))) : (tupleKind (mixKind P w)).is h ks a := by
  obtain ⟨_, its, r, o, h1, h2, n, h3⟩ := (show ObjOk P w H h a (.tup (ks.map kV)) from ok a _ e)
  exact ⟨o, its.toArray, n, h1, h2, h3, by simpa using items_are r⟩
theorem dt_rd {kvs : List (List Key × V)} (ok : HOk P w H h) (e : Rd H a (.dT kvs)) : kvs.length ≤ sizeLine ∧ (a == sysModules) = false ∧
    ∃ xs, KT H kvs xs ∧ h.DictOfH (tupleKind (mixKind P w)) a xs := by
  obtain ⟨z, y, xs, r, o, es, ep, h1, h2, h3, h4, h5⟩ := (show ObjOk P w H h a (.dT kvs) from rd_of ok e)
  refine ⟨z, y, xs, r, o, es, ep, h1, h2, h3, h4, fun x hx => ?_, h5⟩
  have all : ∀ {l : List (List Key × V)} {m : List (List Key × Addr × Value)}, KT H l m → ∀ x ∈ m, (tupleKind (mixKind P w)).is h x.1 x.2.1 := by
    intro l m q
    induction q with
    | nil => intro x hx; exact nomatch hx
    | @cons p q ps qs hq t ih =>
      intro x hx
      rcases List.mem_cons.mp hx with e | hx
      · subst e
        exact key_of ok (by rw [← hq.1]; exact hq.2.1)
      · exact ih x hx
  exact all r x hx
theorem dt_of {kvs : List (List Key × V)} (ok : HOk P w H h) (e : H a = some (.dT kvs)) : kvs.length ≤ sizeLine ∧ (a == sysModules) = false ∧
    ∃ xs, KT H kvs xs ∧ h.DictOfH (tupleKind (mixKind P w)) a xs := dt_rd ok (.inl e)
end

/-- the heap behind a[y] = v -/
def DPut (H : Hp) (a : Addr) (y v : V) (H' : Hp) : Prop :=
  (∃ kvs k, H a = some (.dK kvs) ∧ y = kV k ∧ kvs.length < sizeLine ∧ H' = upd H a (.dK (putK kvs k v))) ∨
  ∃ kvs k b, H a = some (.dT kvs) ∧ y = .ref b ∧ H b = some (.tup (k.map kV)) ∧ kvs.length < sizeLine ∧ H' = upd H a (.dT (putK kvs k v))
theorem DPut.t {H : Hp} {a b : Addr} {kvs : List (List Key × V)} {k : List Key} {v : V} (e : H a = some (.dT kvs)) (eb : H b = some (.tup (k.map kV))) (hl : kvs.length < sizeLine) :
    DPut H a (.ref b) v (upd H a (.dT (putK kvs k v))) := .inr ⟨kvs, k, b, e, rfl, eb, hl, rfl⟩


section
variable {X : Cx} {pins : List (Addr × Obj)} {σ : St} {H : Hp} {s : Shared} {a : Addr} {y v : V} {u r : Value} {o : Option V} {A : Around} {E : Value → Shared → Prop}

theorem Inv.big (I : Inv X pins σ H s) : sysModules < s.heap.objs.size := by
  have h : mainGlobals < s.heap.objs.size := (I.mod.glob.keeps I.bk).lt
  exact Nat.lt_trans (by decide) h

/-- a dict's object is replaced -/
theorem d_write {h' : Heap} {t' : Nat} {ob : HO} (I : Inv X pins σ H s) (mu : Mut (H a)) (hs : Heap.SameBut a s.heap h') (he : ∃ q, h'.get? a = some q) (new : ObjOk X.prog X.w (upd H a ob) h' a ob) :
    Inv X pins σ (upd H a ob) { s with heap := h', toks := t' } :=
  I.write (x := a) (e := a) mu (.inl rfl) (fun b q hb z => (hs.2 b hb).trans z) he new
theorem dk_new {P : Program} {w : World} {H' : Hp} {h' : Heap} {kvs : List (Key × V)} {vs : List (Key × Value)} (z : kvs.length ≤ sizeLine) (hd : (a == sysModules) = false) (rel : KV kvs vs) (dd : h'.DictOf (mixKind P w) a vs) :
    ObjOk P w H' h' a (.dK kvs) := ⟨z, hd, vs, rel, dd⟩
/-- d[y] = v -/
theorem d_setItem {H' : Hp} {Q : Unit → Shared → Prop} (hu : A.units + 1 < cLine) (I : Inv X pins σ H s) (g : DPut H a y v H') (ry : RelV y u) (rv : RelV v r) (h : ∀ s', Inv X pins σ H' s' → Q () s') :
    wpAny (model X.prog X.w) A (setItem (.ref a) u r) Q E s := by
  rcases g with ⟨kvs, k, e, ey, l, eH⟩ | ⟨kvs, k, b, e, ey, eb, l, eH⟩
  · subst ey eH
    obtain ⟨z, hd, vs, rel, dd⟩ := dk_of I.hok e
    have hz : vs.length ≤ sizeLine := by rw [← rel.length]; exact z
    have hl : (putK kvs k v).length ≤ sizeLine := by have := length_putK kvs k v; omega
    refine wpAny_setItem_pairs (hsz := hz) (kV_is ry) dd fun h' dd' hs => h _ ?_
    have he : ∃ q, h'.get? a = some q := let ⟨q, _, _, hq, _⟩ := dd'; ⟨q, hq⟩
    exact d_write I (by rw [e]; exact True.intro) hs he (dk_new hl hd (rel.put k rv) dd')
  · subst ey eH
    cases (show u = Value.ref b from ry)
    obtain ⟨z, hd, xs, rel, dd⟩ := dt_of I.hok e
    have hz : xs.length ≤ sizeLine := by rw [← Paired.length rel]; exact z
    have hl : (putK kvs k v).length ≤ sizeLine := by have := length_putK kvs k v; omega
    refine wpAny_setItem_heap (hsz := hz) (tupleKind_room_in1 hu) (key_of I.hok eb) dd fun h' dd' hs => h _ ?_
    obtain ⟨q, es, ep, hq, h2, h3, h4, _, h5⟩ := dd'
    refine d_write I (by rw [e]; exact True.intro) hs ⟨q, hq⟩ ⟨hl, hd, _, (rel.put k eb rv).keeps fun c ys ec => ?_, q, es, ep, hq, h2, h3, h4, h5⟩
    rw [upd_ne (ne_of ec e (fun z => nomatch z))]
    exact ec
end

section
variable {X : Cx} {pins : List (Addr × Obj)} {σ : St} {H : Hp} {s : Shared} {a : Addr} {kvs : List (Key × V)} {k : Key} {u : Value} {A : Around} {E : Value → Shared → Prop}
end


/-! ### readings and rules -/


/-- d[y] = v -/
def sDPut (td ty tv : TE) : TS := fun D σ H => tv σ H fun v H1 => td σ H1 fun x H2 => ty σ H2 fun y H3 => ∃ a H4, x = .ref a ∧ DPut H3 a y v H4 ∧ D.nx σ H4

section
variable {X : Cx} {o i e value : Expr} {pos pos' tpos : Pos} {td ty tv : TE}
theorem ps_dput (hu : X.A.units + 1 < cLine) (ho : PE X o td) (hi : PE X i ty) (hv : PE X value tv) (hs : swapsWith value (some (.Subscript o i pos')) pos.line X.env = pure false) :
    PS X (.Assign [.Subscript o i pos'] value pos) (sDPut td ty tv) := by
  intro pins s σ H D I h
  refine wpAny_Assign_Subscript (thn (hv pins s σ H _ I h) fun r s1 ⟨v, H1, I1, rv, q1⟩ => thn (ho pins s1 σ H1 _ I1 q1) fun u s2 ⟨x, H2, I2, rx, q2⟩ => thn (hi pins s2 σ H2 _ I2 q2) fun iv s3 ⟨y, H3, I3, ry, a, H4, ex, g, q3⟩ => ?_) hs
  subst ex
  obtain rfl : u = Value.ref a := rx
  exact d_setItem hu I3 g ry rv fun s4 I4 => ⟨σ, H4, I4, q3⟩
end


/-! ### displays -/
theorem dk_empty {P : Program} {w : World} {H : Hp} (h : Heap) (hb : sysModules < h.objs.size) : ObjOk P w H (h.push { cls := .type "dict", data := .dict #[] }) h.objs.size (.dK []) :=
  ⟨Nat.zero_le _, beq_eq_false_iff_ne.mpr (Ne.symm (Nat.ne_of_lt hb)), [], .nil, Heap.DictOf.new h⟩
theorem dt_empty {P : Program} {w : World} {H : Hp} (h : Heap) (hb : sysModules < h.objs.size) : ObjOk P w H (h.push { cls := .type "dict", data := .dict #[] }) h.objs.size (.dT []) :=
  ⟨Nat.zero_le _, beq_eq_false_iff_ne.mpr (Ne.symm (Nat.ne_of_lt hb)), [], .nil, _, #[], 0, Heap.get?_push_size _ rfl, ⟨rfl, rfl, rfl⟩, rfl, rfl, List.nodup_nil⟩
/-- {}, to be a dict of the kind that is wanted -/
def tDNewK : TE := fun _ H Q => ∀ p, H p = none → Q (.ref p) (upd H p (.dK []))
def tDNewT : TE := fun _ H Q => ∀ p, H p = none → Q (.ref p) (upd H p (.dT []))
section
variable {X : Cx} {pos : Pos}
theorem pe_dnewK : PE X (.Dict [] [] pos) tDNewK := fun pins s σ H Q I h =>
  wpAny_Dict_empty ⟨.ref s.heap.objs.size, _, I.laid (a := s.heap.objs.size) (o := .dK []) (t' := s.toks) (fun _ _ q => Heap.get?_push_of_some _ q) (Nat.le_refl _) (dk_empty s.heap I.big), rfl, h _ (I.hok.fresh (Nat.le_refl _))⟩
theorem pe_dnewT : PE X (.Dict [] [] pos) tDNewT := fun pins s σ H Q I h =>
  wpAny_Dict_empty ⟨.ref s.heap.objs.size, _, I.laid (a := s.heap.objs.size) (o := .dT []) (t' := s.toks) (fun _ _ q => Heap.get?_push_of_some _ q) (Nat.le_refl _) (dt_empty s.heap I.big), rfl, h _ (I.hok.fresh (Nat.le_refl _))⟩
end

/-- the pairs of a display, from the left -/
def tPairs : List (TE × TE) → St → Hp → (List (V × V) → Hp → Prop) → Prop
  | [], _, H, Q => Q [] H
  | (tk, tv) :: r, σ, H, Q => tk σ H fun x H1 => tv σ H1 fun y H2 => tPairs r σ H2 fun ps H3 => Q ((x, y) :: ps) H3
abbrev VV : List (V × V) → List (Value × Value) → Prop := Paired fun p q => RelV p.1 q.1 ∧ RelV p.2 q.2
def PPs (X : Cx) (pos : Pos) (keys : List (Option Expr)) (values : List Expr) (trs : List (TE × TE)) : Prop :=
  ∀ (pins : List (Addr × Obj)) (s : Shared) (σ : St) (H : Hp) (Q : List (V × V) → Hp → Prop), Inv X pins σ H s → tPairs trs σ H Q →
    wpAny (model X.prog X.w) X.A (evalPairs (pairTrees keys values X.env pos)) (fun vs s' => ∃ ps H', Inv X pins σ H' s' ∧ VV ps vs ∧ Q ps H') X.xe s



/-! ### methods -/
/-- a method call o.m(e) of a built-in, with one argument: what must be seen of the text -/
structure M1 (X : Cx) (o : Expr) (m : Str) (apos : Pos) (e : Expr) (cpos : Pos) : Prop where
  base : attributeBase o m X.env (eval o X.env) = eval o X.env
  few : ((backTo cpos (starEach [e] X.env)).all (fun x => !x.1) && (backToKw cpos (keywordEach [] X.env)).all (fun x => x.1.isSome)
    && decide (([e] : List Expr).length + ([] : List Keyword).length + (if ([] : List Keyword).isEmpty then 0 else 1) < 30)) = true
  line : (apos.endLine == cpos.line) = true
  trees : backTo cpos (starEach [e] X.env) = [(false, eval e X.env)]
structure M2 (X : Cx) (o : Expr) (m : Str) (apos : Pos) (e f : Expr) (cpos : Pos) : Prop where
  base : attributeBase o m X.env (eval o X.env) = eval o X.env
  few : ((backTo cpos (starEach [e, f] X.env)).all (fun x => !x.1) && (backToKw cpos (keywordEach [] X.env)).all (fun x => x.1.isSome)
    && decide (([e, f] : List Expr).length + ([] : List Keyword).length + (if ([] : List Keyword).isEmpty then 0 else 1) < 30)) = true
  line : (apos.endLine == cpos.line) = true
  trees : backTo cpos (starEach [e, f] X.env) = [(false, eval e X.env), (false, eval f X.env)]


section
variable {X : Cx} {pins : List (Addr × Obj)} {σ : St} {H : Hp} {s : Shared} {a : Addr} {y d : V} {u r : Value} {o : Option V} {A : Around} {E : Value → Shared → Prop}
end

section
variable {X : Cx} {o e f : Expr} {apos cpos : Pos} {td ty tx : TE}
end

/-! ### dict(d): a copy -/
section
variable {X : Cx} {pins : List (Addr × Obj)} {σ : St} {H : Hp} {s : Shared} {a : Addr} {kvs : List (Key × V)} {A : Around} {E : Value → Shared → Prop}
end


section
variable {X : Cx} {pins : List (Addr × Obj)} {σ : St} {H : Hp} {s : Shared} {a : Addr} {y : V} {u : Value} {A : Around} {E : Value → Shared → Prop}
end
end L2


set_option Elab.async false
set_option linter.all false
set_option maxRecDepth 100000
set_option maxHeartbeats 4000000
/-! A comprehension as a rule of the layer: its block is a context of its own, whose captured names read the outer slots. -/
namespace L2
open PySem PySem.Spec PyProof.Rows

/-- the block's context -/
def cxComp (X : Cx) (N' : List Str) (scope : Scope) (cl : List (Str × Addr)) (C : Addr) (s₀ : Shared) (H₀ : Hp) (fp : List Addr) : Cx :=
  { prog := X.prog, w := X.w, K := X.K, mg := X.mg, base := X.base, A := X.A, N := N', s₀ := s₀, H₀ := H₀, env := compEnvC scope cl C X.env, outer := X.stack, stack := X.stack, ex := fp, fn := fun _ => false,
    calm := X.calm, pn := [], xe := fun _ _ => False }

/-- what is seen of the two scopes: N, osc the outer one's names and scope; src: the outer slot of a captured name -/
structure CompOk (N : List Str) (osc : Scope) (N' : List Str) (src : List (Option Nat)) (scope : Scope) : Prop where
  kind : scope.kind = .function
  nocell : ∀ y ∈ scope.names, y.2 ≠ .cell
  loc : ∀ y ∈ scope.names, y.2 = .local → scope.names.lookup y.1 = some .local
  frees : ∀ y ∈ scope.names, y.2 = .free → osc.names.lookup y.1 = some .cell ∨ osc.names.lookup y.1 = some .free
  nd : N'.Nodup
  len : src.length = N'.length
  src : ∀ q ∈ src.zip N', ∀ j ∈ q.1.toList, N[j]? = some q.2 ∧ scope.names.lookup q.2 = some .free

theorem closure_go {env : Env} : ∀ (l : List (Str × NameKind)) (acc : List (Str × Addr)), (∀ x c, acc.lookup x = some c → env.cells.lookup x = some c) → (∀ y ∈ l, y.2 = .free → ∃ c, env.cells.lookup y.1 = some c) →
    ∃ cl, (forIn l acc fun (x : Str × NameKind) (r : List (Str × Addr)) => (if (x.2 == NameKind.free) = true then (cellOf env x.1 >>= fun a => pure (ForInStep.yield ((x.1, a) :: r))) else pure (ForInStep.yield r) : Sem (ForInStep (List (Str × Addr))))) = pure cl ∧
      (∀ x c, cl.lookup x = some c → env.cells.lookup x = some c) ∧ (∀ y ∈ l, y.2 = .free → ∃ c, cl.lookup y.1 = some c) ∧ (∀ x c, acc.lookup x = some c → ∃ d, cl.lookup x = some d)
  | [], acc, h, _ => ⟨acc, rfl, h, fun _ z => (nomatch z), fun x c e => ⟨c, e⟩⟩
  | (n, k) :: l, acc, h, hf => by
    by_cases hk : k = .free
    · subst hk
      obtain ⟨c, hc⟩ := hf (n, .free) List.mem_cons_self rfl
      have hacc : ∀ x d, ((n, c) :: acc).lookup x = some d → env.cells.lookup x = some d := fun x d e => by
        rw [List.lookup_cons] at e
        cases hx : x == n with
        | true =>
          rw [hx] at e
          have e1 : x = n := by simpa using hx
          have e2 : c = d := by simpa using e
          rw [e1, ← e2]; exact hc
        | false =>
          rw [hx] at e
          exact h x d e
      obtain ⟨cl, e1, e2, e3, e4⟩ := closure_go l ((n, c) :: acc) hacc fun y hy => hf y (List.mem_cons_of_mem _ hy)
      refine ⟨cl, ?_, e2, fun y hy hyf => ?_, fun x d e => ?_⟩
      · rw [List.forIn_cons]
        have : cellOf env n = pure c := by unfold cellOf; rw [hc]
        simp only [beq_self_eq_true, if_true, this, pure_bind]
        exact e1
      · rcases List.mem_cons.mp hy with rfl | hy
        · exact e4 n c (by simp)
        · exact e3 y hy hyf
      · by_cases hx : x = n
        · subst hx; exact e4 x c (by simp)
        · have hb : (x == n) = false := by simpa using hx
          exact e4 x d (by rw [List.lookup_cons, hb]; exact e)
    · obtain ⟨cl, e1, e2, e3, e4⟩ := closure_go l acc h fun y hy => hf y (List.mem_cons_of_mem _ hy)
      refine ⟨cl, ?_, e2, fun y hy hyf => ?_, e4⟩
      · rw [List.forIn_cons]
        have hb : (k == NameKind.free) = false := by simpa using hk
        simp only [hb, Bool.false_eq_true, if_false, pure_bind]
        exact e1
      · rcases List.mem_cons.mp hy with rfl | hy
        · exact absurd hyf hk
        · exact e3 y hy hyf

theorem closure_of {scope : Scope} {env : Env} (hf : ∀ y ∈ scope.names, y.2 = .free → ∃ c, env.cells.lookup y.1 = some c) :
    ∃ cl, closureFor scope env = pure cl ∧ (∀ x c, cl.lookup x = some c → env.cells.lookup x = some c) ∧ ∀ y ∈ scope.names, y.2 = .free → ∃ c, cl.lookup y.1 = some c := by
  obtain ⟨cl, e1, e2, e3, _⟩ := closure_go (env := env) scope.names [] (fun _ _ z => by simp at z) hf
  refine ⟨cl, ?_, e2, e3⟩
  unfold closureFor
  refine Eq.trans ?_ (congrArg (fun t => t >>= fun c => (pure c : Sem (List (Str × Addr)))) e1)
  first
    | rfl
    | (congr 1)

/-- the kind of a name in the block -/
theorem relabel_free {scope : Scope} {env : Env} : ∀ {x : Str}, (relabel scope env).names.lookup x = some .cell ∨ (relabel scope env).names.lookup x = some .free → (∀ y ∈ scope.names, y.2 ≠ .cell) → (x, NameKind.free) ∈ scope.names := by
  intro x h hc
  have key : ∀ (l : List (Str × NameKind)), (∀ y ∈ l, y.2 ≠ .cell) → ((l.map fun (n, k) => if (k == NameKind.free && env.scope.kind == .function && env.kindOf n == some .cell) then (n, NameKind.cell) else (n, k)).lookup x = some .cell ∨
      (l.map fun (n, k) => if (k == NameKind.free && env.scope.kind == .function && env.kindOf n == some .cell) then (n, NameKind.cell) else (n, k)).lookup x = some .free) → (x, NameKind.free) ∈ l := by
    intro l
    induction l with
    | nil => intro _ h; simp at h
    | cons y l ih =>
      obtain ⟨n, k⟩ := y
      intro hc h
      have hc' : ∀ y ∈ l, y.2 ≠ .cell := fun y hy => hc y (List.mem_cons_of_mem _ hy)
      have hk : k ≠ .cell := hc (n, k) List.mem_cons_self
      rw [List.map_cons] at h
      by_cases hx : x = n
      · subst hx
        by_cases hf : k = .free
        · subst hf; exact List.mem_cons_self
        · exfalso
          have hb : (k == NameKind.free) = false := by simpa using hf
          simp only [hb, Bool.false_and, Bool.false_eq_true, if_false, List.lookup_cons, beq_self_eq_true] at h
          rcases h with h | h
          · exact hk (Option.some.inj h)
          · exact hf (Option.some.inj h)
      · refine List.mem_cons_of_mem _ (ih hc' ?_)
        have hb : (x == n) = false := by simpa using hx
        by_cases hq : (k == NameKind.free && env.scope.kind == .function && env.kindOf n == some .cell) = true
        · simp only [hq, if_true, List.lookup_cons, hb] at h
          exact h
        · simp only [hq, Bool.false_eq_true, if_false, List.lookup_cons, hb] at h
          exact h
  exact key _ hc h
theorem relabel_look {scope : Scope} {env : Env} {x : Str} (h : scope.names.lookup x = some .free) : (relabel scope env).names.lookup x = some .cell ∨ (relabel scope env).names.lookup x = some .free := by
  have key : ∀ (l : List (Str × NameKind)), l.lookup x = some .free → ((l.map fun (n, k) => if (k == NameKind.free && env.scope.kind == .function && env.kindOf n == some .cell) then (n, NameKind.cell) else (n, k)).lookup x = some .cell ∨
      (l.map fun (n, k) => if (k == NameKind.free && env.scope.kind == .function && env.kindOf n == some .cell) then (n, NameKind.cell) else (n, k)).lookup x = some .free) := by
    intro l
    induction l with
    | nil => intro h; simp at h
    | cons y l ih =>
      obtain ⟨n, k⟩ := y
      intro h
      rw [List.map_cons]
      rw [List.lookup_cons] at h
      cases hx : x == n with
      | true =>
        rw [hx] at h
        have hk : k = .free := Option.some.inj h
        subst hk
        by_cases hq : (NameKind.free == NameKind.free && env.scope.kind == .function && env.kindOf n == some .cell) = true
        · simp only [hq, if_true, List.lookup_cons, hx]; exact .inl trivial
        · simp only [hq, Bool.false_eq_true, if_false, List.lookup_cons, hx]; exact .inr trivial
      | false =>
        rw [hx] at h
        by_cases hq : (k == NameKind.free && env.scope.kind == .function && env.kindOf n == some .cell) = true
        · simp only [hq, if_true, List.lookup_cons, hx]; exact ih h
        · simp only [hq, Bool.false_eq_true, if_false, List.lookup_cons, hx]; exact ih h
  exact key _ h

/-- the slots at the block's entry -/
def capt (src : List (Option Nat)) (σ : St) : St := src.map fun o => o.bind fun j => (σ[j]?).join

section
variable {X : Cx} {pins : List (Addr × Obj)} {σ : St} {H : Hp} {s : Shared} {N' : List Str} {src : List (Option Nat)} {scope osc : Scope} {cl : List (Str × Addr)} {fp : List Addr}

/-- into the block: the state behind newFunctionEnv -/
theorem comp_enter {h₁ : Heap} {tk : Nat} (I : Inv X pins σ H s) (hf : ∀ b ∈ fp, FpOk X pins H b) (hlt : ∀ b ∈ fp, b < s.heap.objs.size) (ok : CompOk X.N osc N' src scope) (hsc : X.env.scope = osc)
    (c1 : ∀ x c, cl.lookup x = some c → X.env.cells.lookup x = some c) (c2 : ∀ y ∈ scope.names, y.2 = .free → ∃ c, cl.lookup y.1 = some c)
    (hn : h₁.Ns s.heap.objs.size fun _ => none) (hk : ∀ b o, s.heap.get? b = some o → h₁.get? b = some o) :
    Inv (cxComp X N' scope cl s.heap.objs.size s H fp) [] (capt src σ) H { s with heap := h₁, toks := tk } := by
  have hkind : (relabel scope X.env).kind = .function := ok.kind
  refine ⟨⟨I.ok.mod, hkind, I.ok.glob, I.ok.blt, Nat.le_refl _, fun x y c h1 h2 => I.ok.inj x y c (c1 x c h1) (c1 y c h2), fun x hx => ?_, fun x c z _ => (by cases z), I.ok.hd, I.ok.frames, .inl rfl, fun b hb => ?_, I.bs, Nat.le_trans I.ok.bsz I.sz, fun b o e hb => ?_, fun b hb z => ?_, I.stack, I.stkFree⟩,
    rfl, I.bare, Un.kept hk, ⟨_, hn, fun i x v h1 h2 h3 => ?_⟩, fun x c e => ?_, I.hok.fresh (Nat.le_refl _), fun x c e => I.freeC x c (c1 x c e), fun p hp => absurd (show p ∈ ([] : List (Addr × Obj)) from hp) (by simp), I.hok.kept hk, ?_⟩
  · exact c2 _ (relabel_free (env := X.env) (scope := scope) (x := x) hx ok.nocell) rfl
  · obtain ⟨f0, f1, f2, f3, f4, f5⟩ := hf b hb
    exact ⟨fun z => absurd (hlt b hb) (by rw [z]; exact Nat.lt_irrefl _), fun x c e => f4 x c (c1 x c e)⟩
  · obtain ⟨f0, f1, f2, f3, f4, f5⟩ := hf b hb
    rcases f3 with z | z
    · exact I.ok.noex b o e z
    · exact absurd (Nat.lt_of_lt_of_le (Heap.lt_size e) (Nat.le_trans I.ok.bsz z)) (Nat.lt_irrefl _)
  · obtain ⟨f0, f1, f2, f3, f4, f5⟩ := hf b hb
    rcases List.mem_cons.mp (I.stkSub b z) with q | q
    · exact f1 q
    · exact f2 q
  · -- a captured name
    have hi : ∃ j, src[i]? = some (some j) ∧ σ[j]? = some (some v) := by
      unfold capt at h2
      rw [List.getElem?_map] at h2
      cases e : src[i]? with
      | none => rw [e] at h2; cases h2
      | some o =>
        rw [e] at h2
        cases o with
        | none => cases h2
        | some j =>
          refine ⟨j, rfl, ?_⟩
          have h2' : (σ[j]?).join = some v := Option.some.inj h2
          cases e2 : σ[j]? with
          | none => rw [e2] at h2'; cases h2'
          | some w => rw [e2] at h2'; exact congrArg some h2'
    obtain ⟨j, e1, e2⟩ := hi
    have hz : (some j, x) ∈ src.zip N' := by
      refine List.mem_iff_getElem?.mpr ⟨i, ?_⟩
      rw [List.getElem?_zip_eq_some]
      exact ⟨e1, h1⟩
    obtain ⟨q1, q2⟩ := ok.src _ hz j (by simp)
    have hfr := PySem.mem_of_lookup q2
    have hk0 := ok.frees _ hfr rfl
    rw [← hsc] at hk0
    obtain ⟨m, hns, hl⟩ := I.loc
    obtain ⟨u, r, l⟩ := hl j x v q1 e2 (hk0.elim (fun z => .inr (.inl z)) fun z => .inr (.inr z))
    refine ⟨u, r, ?_⟩
    rcases l with ⟨l1, _⟩ | ⟨_, c, l2, l3⟩
    · exfalso
      have l1' : X.env.scope.names.lookup x = some .local := l1
      rcases hk0 with z | z
      · rw [l1'] at z; cases z
      · rw [l1'] at z; cases z
    · obtain ⟨d, hd⟩ := c2 _ hfr rfl
      have : d = c := by
        have := (c1 _ _ hd).symm.trans l2
        exact Option.some.inj this
      subst this
      obtain ⟨o, ho, hod⟩ := l3
      exact .inr ⟨relabel_look q2, d, hd, o, hk _ _ ho, hod⟩
  · obtain ⟨v, o, ho, hod⟩ := I.cell x c (c1 x c e)
    exact ⟨v, o, hk _ _ ho, hod⟩
  · show (capt src σ).length = N'.length
    unfold capt
    rw [List.length_map]
    exact ok.len

/-- out of the block: its namespace is let go -/
theorem comp_leave {C : Addr} {σ' : St} {H' : Hp} {s' : Shared} {h' : Heap} (I : Inv X pins σ H s) (hf : ∀ b ∈ fp, FpOk X pins H b) (hC : s.heap.objs.size ≤ C) (J : Inv (cxComp X N' scope cl C s H fp) [] σ' H' s') (hs : Heap.SameBut C s'.heap h') :
    Inv X pins σ H' { s' with heap := h' } := by
  have nC : ∀ b o, s.heap.get? b = some o → b ≠ C := fun b o e z => absurd (Nat.lt_of_lt_of_le (Heap.lt_size e) (by rw [z]; exact hC)) (Nat.lt_irrefl _)
  have B : Un (frs X.stack) fp H H' s.heap s'.heap := J.base
  refine I.call' (ch := fp) J.os ⟨fun b o e n hb hx => (hs.2 b (nC b o e)).trans (B.keep b o e n hb hx), fun b o e n hb hx => ?_, B.free, fun b o e hx => ?_, B.tups, B.frzs, B.tbls⟩ (fun b ob e => ?_) J.bare fun b hb => ?_
  · obtain ⟨sl, e1⟩ := B.slot b o e n hb hx
    exact ⟨sl, (hs.2 b (nC b o e)).trans e1⟩
  · obtain ⟨o', e1⟩ := B.there b o e hx
    exact ⟨o', (hs.2 b (nC b o e)).trans e1⟩
  · refine (J.hok b ob e).stay (fun c w' hc q => (hs.2 c ?_).trans q) (fun _ q => q) fun _ _ q => q
    have hfree : H' C = none := J.free
    rintro rfl
    rcases hc with rfl | hc
    · rw [hfree] at e; cases e
    · rw [hfree] at hc; cases hc
  · obtain ⟨f0, f1, f2, f3, f4, f5⟩ := hf b hb
    exact ⟨f3, f1, f4, f5⟩
end

/-! ### the loop of a comprehension with one clause -/
def testsOf (ifs : List Expr) (env : Env) : Sem Bool := forIn ifs true fun c r => if r = true then do let ok ← isTrue c env (eval c env); pure (ForInStep.yield ok) else pure (ForInStep.yield r)
def PIf (X : Cx) (ifs : List Expr) (t : TT) : Prop :=
  ∀ (pins : List (Addr × Obj)) (s : Shared) (σ : St) (H : Hp) (Q : Bool → Hp → Prop), Inv X pins σ H s → t σ H Q → wpAny (model X.prog X.w) X.A (testsOf ifs X.env) (TP X pins σ Q) X.xe s
def tYes : TT := fun _ H Q => Q true H
theorem pif_nil {X : Cx} : PIf X [] tYes := fun pins s σ H Q I h => wpAny_tests_nil ⟨H, I, h⟩

theorem compLoop_own {prog : Program} {w : World} {A : Around} {R : Result → Shared → Prop} {s : Shared} {elt target iter : Expr} {ifs : List Expr} {scope : Scope} {pos : Pos} {it acc : Value} {env : Env} (I : Nat → Shared → Prop)
    (turn : ∀ n s, I n s → wpAny (model prog w) A (pyNext it) (fun r s1 => match r with
      | none => R (.ok .next) s1
      | some v => wpAny (model prog w) A (letOwnedTupleGo target it v) (fun _ s1' => wpAny (model prog w) A (assign target env v) (fun _ s2 => wpAny (model prog w) A (testsOf ifs env) (fun ok s3 =>
            if ok = true then wpAny (model prog w) A (eval elt env) (fun x s4 => wpAny (model prog w) A (call (.builtin "list.append") [acc, x]) (fun _ s5 => ∃ m, m < n ∧ I m s5) (fun _ _ => False) s4) (fun _ _ => False) s3
            else ∃ m, m < n ∧ I m s3) (fun _ _ => False) s2) (fun _ _ => False) s1') (fun _ _ => False) s1) (fun _ _ => False) s)
    (n : Nat) (h : I n s) : codeAny (model prog w) A (.compLoop (.ListComp elt [⟨target, iter, ifs, 0⟩] scope pos) 0 it acc env) R s := by
  have no : ∀ {E : Value → Shared → Prop} (e : Value) (s : Shared), (fun (_ : Value) (_ : Shared) => False) e s → E e s := fun _ _ z => False.elim z
  refine codeAny_loop rfl I (fun n s hI => ?_) n h
  show wpAny _ A ((compTurn (.ListComp elt [⟨target, iter, ifs, 0⟩] scope pos) 0 it acc env).onRaise (fun x => do noteFrame x env; theTreesLotGoes x)) _ _ s
  refine wpAny_noted ?_
  rw [compTurn_list]
  refine wpAny_bind (wpAny_standAt (wpAny_bind (wpAny_mono (turn n s hI) (fun r s₁ h₁ => ?_) no)))
  cases r with
  | none => exact wpAny_pure h₁
  | some v =>
    refine wpAny_bind (wpAny_mono h₁ (fun _ s1' h1' => ?_) no)
    refine wpAny_bind (wpAny_mono h1' (fun _ s₂ h₂ => wpAny_bind (wpAny_mono h₂ (fun ok s₃ h₃ => ?_) no)) no)
    cases ok with
    | false => exact wpAny_pure ⟨rfl, h₃⟩
    | true =>
      exact wpAny_bind (wpAny_bind (wpAny_mono h₃ (fun x s₄ h₄ => wpAny_bind (wpAny_mono h₄ (fun _ s₅ h₅ => wpAny_pure (wpAny_pure ⟨rfl, h₅⟩)) no)) no))

def CompGo (g : TG) (tc : TT) (te : TE) (src : List (Option Nat)) (σ : St) (Q : VK) (J : It) (H1 : Hp) : Prop := ∀ l, H1 l = none →
  ∃ W : Nat → Nat → List V → St → Hp → Prop, (∃ m, W 0 m [] (capt src σ) (upd H1 l (.lst []))) ∧ ∀ i m ys σ' H', W i m ys σ' H' → H' l = some (.lst ys) →
    (J.stop i H' ∧ Q (.ref l) H') ∨ (J.go i H' ∧ ∃ N : List V → St → Hp → Prop, (∀ zs σ2 H2, N zs σ2 H2 → ∃ m', m' < m ∧ W (i + 1) m' zs σ2 H2) ∧ ∀ x H2, J.yld i H' x H2 → g x σ' H2 fun σ2 H3 => tc σ2 H3 fun b H4 =>
      if b = true then te σ2 H4 fun y H5 => H5 l = some (.lst ys) ∧ ys.length < sizeLine ∧ N (ys ++ [y]) σ2 (upd H5 l (.lst (ys ++ [y])))
      else H4 l = some (.lst ys) ∧ N ys σ2 H4)
def tComp (wi : TI) (g : TG) (tc : TT) (te : TE) (src : List (Option Nat)) : TE := fun σ H Q => wi σ H (CompGo g tc te src σ Q)
def ForGo (g : TG) (tb : TS) (D : Ends) (σ : St) (J : It) (H1 : Hp) : Prop := ∃ W : Nat → Nat → St → Hp → Prop, (∃ m, W 0 m σ H1) ∧ ∀ i m σ H, W i m σ H →
  (J.stop i H ∧ D.nx σ H) ∨ (J.go i H ∧ ∃ N : St → Hp → Prop, (∀ σ' H', N σ' H' → ∃ m', m' < m ∧ W (i + 1) m' σ' H') ∧ ∀ x H', J.yld i H x H' → g x σ H' fun σ2 H2 => tb { D with nx := N, ct := N, bk := D.nx } σ2 H2)
def tForG (wi : TI) (g : TG) (tb : TS) : TS := fun D σ H => wi σ H (ForGo g tb D σ)
theorem ps_forG {X : Cx} {tg iter : Expr} {body : List Stmt} {wi : TI} {g : TG} {tb : TS} {pos : Pos} (hp : PassesOwn (model X.prog X.w) X.A X.env X.xe) (hc : X.calm = true) (hi : PI X tg iter wi) (hg : PG X tg g) (hb : PSs X body tb)
    (hs : ∀ x, foldedSetIterable iter X.env x = pure x := by intro _; rfl) : PS X (.For tg iter body [] pos) (tForG wi g tb) := ps_for hp hc hi hg hb hs

section
variable {X : Cx} {elt tg iter : Expr} {ifs : List Expr} {scope osc : Scope} {pos : Pos} {N' : List Str} {src : List (Option Nat)} {wi : TI} {g : TG} {tc : TT} {te : TE}
theorem pe_comp (ok : CompOk X.N osc N' src scope) (hsc : X.env.scope = osc) (hc : X.calm = true) (hi : PI X tg iter wi)
    (hg : ∀ cl C s₀ H₀ fp, PG (cxComp X N' scope cl C s₀ H₀ fp) tg g) (ht : ∀ cl C s₀ H₀ fp, PIf (cxComp X N' scope cl C s₀ H₀ fp) ifs tc) (he : ∀ cl C s₀ H₀ fp, PE (cxComp X N' scope cl C s₀ H₀ fp) elt te)
    (hs : ∀ x, foldedSetIterable iter X.env x = pure x := by intro _; rfl) : PE X (.ListComp elt [⟨tg, iter, ifs, 0⟩] scope pos) (tComp wi g tc te src) := by
  intro pins s σ H Q I h
  obtain ⟨cl, hcl, c1, c2⟩ := closure_of (scope := scope) (env := X.env) fun y hy hyf => I.ok.has y.1 (by
    have z := ok.frees y hy hyf
    rw [← hsc] at z
    exact z)
  rw [eval_ListComp]
  refine wpAny_comprehension_free (use := none) rfl hs hcl ok.kind ok.loc (thn (hi pins s σ H _ I h) fun v s1 h1 => thn h1 fun itv s2 h2 => ?_)
  obtain ⟨it, fp, tn, J, H2, e, I2, T, st2, f2, q2⟩ := h2
  subst e
  have hlt2 : ∀ b ∈ fp, b < s2.heap.objs.size := fun b hb => by
    obtain ⟨o, e, _⟩ := T.obj _ _ st2 b hb
    exact Heap.lt_size e
  refine wpAny_newObj_type ?_
  have hl : H2 s2.heap.objs.size = none := I2.hok.fresh (Nat.le_refl _)
  have I3 : Inv X pins σ (upd H2 s2.heap.objs.size (.lst [])) { s2 with heap := s2.heap.push { cls := .type "list", dict := none, data := .seq ([] : List Value).toArray } } :=
    I2.laid (t' := s2.toks) (fun b u e => Heap.get?_push_of_some _ e) (Nat.le_refl _) ⟨Nat.zero_le _, [], 0, .nil, Heap.get?_push_size _ rfl⟩
  obtain ⟨W, ⟨m0, w0⟩, turn⟩ := q2 _ hl
  generalize hl2 : s2.heap.objs.size = l at *
  generalize hs3 : ({ s2 with heap := s2.heap.push { cls := .type "list", dict := none, data := .seq ([] : List Value).toArray } } : Shared) = s3 at *
  have f3 : ∀ b ∈ fp, FpOk X pins (upd H2 l (.lst [])) b := fun b hb => ⟨by rw [upd_ne (Nat.ne_of_lt (hlt2 b hb))]; exact (f2 b hb).1, (f2 b hb).2⟩
  have k3 : ∀ b o, s2.heap.get? b = some o → s3.heap.get? b = some o := fun b o e => by rw [← hs3]; exact Heap.get?_push_of_some _ e
  have hlt3 : ∀ b ∈ fp, b < s3.heap.objs.size := fun b hb => by
    obtain ⟨o, e, _⟩ := T.obj _ _ st2 b hb
    exact Heap.lt_size (k3 b o e)
  refine wpAny_newFunctionEnv ok.nocell (by intro y hy; simp at hy) (fun h₁ hns₁ hsb₁ => ?_) ok.kind
  have k4 : ∀ b o, s3.heap.get? b = some o → h₁.get? b = some o := fun b o e => (hsb₁.2 b (Nat.ne_of_lt (Heap.lt_size e))).trans (Heap.get?_push_of_some _ e)
  have J0 := comp_enter (tk := s3.toks + ([] : List (Str × Value)).length) I3 f3 hlt3 ok hsc c1 c2 hns₁ k4
  have st4 : tn 0 h₁ := T.keep _ _ _ st2 fun b hb o e => k4 b o (k3 b o e)
  generalize hC : s3.heap.objs.size = C at *
  have stat : ∀ {H' : Hp}, (∀ b ∈ fp, H' b = none) → ∀ b ∈ fp, FpOk (cxComp X N' scope cl C s3 (upd H2 l (.lst [])) fp) [] H' b := fun {H'} hn b hb =>
    ⟨hn b hb, (J0.ok.exf b hb).1, J0.ok.exfs b hb, .inl hb, (J0.ok.exf b hb).2, fun p hp => absurd (show p ∈ ([] : List (Addr × Obj)) from hp) (by simp)⟩
  have loop : codeAny (model X.prog X.w) X.A (.compLoop (.ListComp elt [⟨tg, iter, ifs, 0⟩] scope pos) 0 (.ref it) (.ref l) (compEnvC scope cl C X.env))
      (compPost (model X.prog X.w) X.A X.xe none (EP X pins σ Q) (.ref l) C) { s3 with heap := h₁, toks := s3.toks + ([] : List (Str × Value)).length } := by
    refine compLoop_own (fun n s' => ∃ i ys σ' H', Inv (cxComp X N' scope cl C s3 (upd H2 l (.lst [])) fp) [] σ' H' s' ∧ tn i s'.heap ∧ (∀ b ∈ fp, H' b = none) ∧ H' l = some (.lst ys) ∧ W i n ys σ' H') ?_ m0
      ⟨0, [], _, _, J0, st4, fun b hb => (f3 b hb).1, upd_same, w0⟩
    rintro n s5 ⟨i, ys, σ5, H5, I5, st5, fr5, hl5, w5⟩
    rcases turn i n ys σ5 H5 w5 hl5 with ⟨stop, qn⟩ | ⟨go, N, hN, step⟩
    · refine thn (T.done (cxComp X N' scope cl C s3 (upd H2 l (.lst [])) fp) rfl rfl rfl hc i [] s5 σ5 H5 (fun _ _ => False) I5 (stat fr5) st5 stop) fun r s6 ⟨hr, I6⟩ => ?_
      subst hr
      obtain ⟨m, hn, _⟩ := I6.loc
      exact ⟨m, hn, fun h' hsb => ⟨.ref l, H5, comp_leave I3 f3 (by rw [← hC]; exact Nat.le_refl _) I6 hsb, rfl, qn⟩⟩
    · refine thn (T.item (cxComp X N' scope cl C s3 (upd H2 l (.lst [])) fp) rfl rfl rfl hc i [] s5 σ5 H5 (fun _ _ => False) I5 (stat fr5) st5 go) fun r s6 ⟨u, hr, h6⟩ => ?_
      subst hr
      refine thn h6 fun _ s7 ⟨x, H7, I7, r7, y7, st7, fr7⟩ => ?_
      have I7' := I7.pinned (stat fr7) (T.obj _ _ st7)
      refine thn (hg cl C s3 _ fp _ s7 σ5 H7 x u _ I7' r7 (step x H7 y7)) fun _ s8 ⟨σ8, H8, I8, q8⟩ => ?_
      refine thn (ht cl C s3 _ fp _ s8 σ8 H8 _ I8 q8) fun b s9 ⟨H9, I9, q9⟩ => ?_
      have back : ∀ {s' : Shared} {H' : Hp}, Inv (cxComp X N' scope cl C s3 (upd H2 l (.lst [])) fp) ([] ++ pinsAt fp s7.heap) σ8 H' s' → tn (i + 1) s'.heap ∧ ∀ b ∈ fp, H' b = none := fun {s' H'} I' => by
        refine ⟨T.keep _ _ _ st7 fun b hb o e => (I'.pin (b, o) (List.mem_append_right _ (List.mem_append_right _ (mem_pinsAt hb e)))).1, fun b hb => ?_⟩
        obtain ⟨o, e, d⟩ := T.obj _ _ st7 b hb
        exact (I'.pin (b, o) (List.mem_append_right _ (List.mem_append_right _ (mem_pinsAt hb e)))).2.1
      cases b with
      | false =>
        obtain ⟨hl9, n9⟩ := q9
        obtain ⟨m', hm, w9⟩ := hN _ _ _ n9
        obtain ⟨t9, fr9⟩ := back I9
        exact ⟨m', hm, i + 1, ys, σ8, H9, I9.unpinned, t9, fr9, hl9, w9⟩
      | true =>
        refine thn (he cl C s3 _ fp _ s9 σ8 H9 _ I9 q9) fun xv s10 ⟨y, H10, I10, r10, hl10, hz, n10⟩ => ?_
        obtain ⟨m', hm, w10⟩ := hN _ _ _ n10
        refine thn (mt_append (X := cxComp X N' scope cl C s3 (upd H2 l (.lst [])) fp) _ s10 σ8 H10 (.ref l) [y] (.ref l) [xv] (fun v H' => H' = upd H10 l (.lst (ys ++ [y]))) I10 rfl (.cons r10 .nil) ⟨l, ys, y, rfl, rfl, hl10, hz, rfl⟩) fun _ s11 ⟨_, H11, I11, _, e11⟩ => ?_
        subst e11
        obtain ⟨t11, fr11⟩ := back I11
        exact ⟨m', hm, i + 1, ys ++ [y], σ8, _, I11.unpinned, t11, fr11, upd_same, w10⟩
  exact codeAny_compStart_list loop (T.self _ 0 _ _ _ st4 loop)
end
end L2

set_option Elab.async false
set_option linter.all false
set_option maxRecDepth 100000
set_option maxHeartbeats 4000000
namespace L2
open PySem PySem.Spec PyProof.Rows
section
variable {X : Cx}
/-! ### comparisons of texts and truths -/
theorem op_le_str : OpR X (compareOp .LtE) (fun x y H Q => ∃ i j, x = .str i ∧ y = .str j ∧ Q (.bl (!decide (j.cps.toList < i.cps.toList))) H) := by
  intro pins s σ H x y v u Q I rx ry h
  obtain ⟨i, j, rfl, rfl, q⟩ := h
  obtain ⟨t, rfl⟩ := rx
  obtain ⟨t', rfl⟩ := ry
  exact PySem.P.le_str (fin_bl I q rfl)
theorem op_isB : OpR X (compareOp .Is) (fun x y H Q => ∃ i j, x = .bl i ∧ y = .bl j ∧ Q (.bl (i == j)) H) := by
  intro pins s σ H x y v u Q I rx ry h
  obtain ⟨i, j, rfl, rfl, q⟩ := h
  cases rx
  cases ry
  exact is_bool (fin_bl I q rfl)
theorem op_isnotB : OpR X (compareOp .IsNot) (fun x y H Q => ∃ i j, x = .bl i ∧ y = .bl j ∧ Q (.bl (i != j)) H) := by
  intro pins s σ H x y v u Q I rx ry h
  obtain ⟨i, j, rfl, rfl, q⟩ := h
  cases rx
  cases ry
  exact isnot_bool (fin_bl I q rfl)
/-! ### all, any of a list of truths -/
theorem vals_bl : ∀ {bs : List Bool} {us : List Value} {i : Nat} {v : Value}, Vals (bs.map V.bl) us → us[i]? = some v → ∃ b, bs[i]? = some b ∧ v = .bool b
  | [], _, _, _, .nil, e => by simp at e
  | b :: bs, _, 0, v, .cons r _, e => by
    simp at e
    subst e
    exact ⟨b, rfl, r⟩
  | b :: bs, _, i + 1, v, .cons _ t, e => by
    obtain ⟨c, h1, h2⟩ := vals_bl (i := i) t (by simpa using e)
    exact ⟨c, by simpa using h1, h2⟩
def atB (bs : List Bool) (j : Nat) : Bool := match bs[j]? with | some b => b | none => true
theorem all_range_bl (bs : List Bool) : (List.range bs.length).all (atB bs) = bs.all id := by
  refine Eq.trans ?_ (PyProof.Rows.all_rangeD bs (id : Bool → Bool))
  congr 1
  funext j
  unfold atB
  cases bs[j]? <;> rfl
theorem call_allB {X : Cx} (hc : X.calm = true) : CallR X (.builtin "all") (fun xs H Q => ∃ (p : Addr) (bs : List Bool), xs = [.ref p] ∧ SqL X.K H p (bs.map V.bl) ∧ Q (.bl (bs.all id)) H) := by
  intro pins s σ H xs us Q I r h
  obtain ⟨p, bs, rfl, hq, q⟩ := h
  obtain ⟨u, rfl, ru⟩ := vals1 r
  cases ru
  obtain ⟨its, rv, pl, hz⟩ := I.list hq
  have hp : p ≠ s.heap.objs.size := Nat.ne_of_lt pl.lt
  refine call_all_walk (wpAny_pyIter_list pl.isList ?_)
  refine ⟨s.heap.objs.size, _, _, _, _, _, atB bs, rfl, Walks.list (A := X.A.in1) (show X.A.in1.handled = none from I.ok.hd hc) _ p hp its.toArray, ⟨⟨_, Heap.get?_push_size _ rfl, rfl, rfl⟩, ?_⟩, ?_, fun h' tk hk => ?_⟩
  · obtain ⟨o, n, e, c, _, d⟩ := pl
    exact ⟨o, Heap.get?_push_of_some _ e, c, n, d⟩
  · intro i v s' Q' E' hP hQ
    obtain ⟨b, h1, rfl⟩ := vals_bl (i := i) (v := v) rv (by simpa using hP)
    refine wpAny_truthy_bool ?_
    have e : atB bs i = b := by unfold atB; rw [h1]
    rw [e] at hQ
    exact hQ
  · have hl : its.toArray.size = bs.length := by
      have := rv.length
      simp at this
      simp [this]
    rw [hl, all_range_bl]
    refine ⟨.bl (bs.all id), H, I.kept fun b o e => hk b o ?_ (Heap.get?_push_of_some _ e), rfl, q⟩
    intro z
    have : b = s.heap.objs.size := by simpa using z
    exact absurd (Heap.lt_size e) (by rw [this]; exact Nat.lt_irrefl _)
/-! ### sep.join(list of texts) -/
theorem strsAre_of : ∀ {ys : List Str} {us : List Value}, Vals (ys.map V.str) us → StrsAre us ys
  | [], _, .nil => by first | exact .nil | trivial
  | y :: ys, _, .cons r t => by
    obtain ⟨k, rfl⟩ := r
    first
      | exact .cons _ _ (strsAre_of t)
      | exact .cons (strsAre_of t)
      | exact ⟨⟨k, rfl⟩, strsAre_of t⟩
/-! ### a slice of a text -/
/-! ### a text times a number -/
def repS (z : Str) (n : Nat) : Str := ⟨(List.replicate n z.cps).foldl (· ++ ·) #[]⟩
theorem op_mul_str : OpR X (binaryOp .Mult) (fun x y H Q => ∃ z n, x = .str z ∧ y = .int n ∧ 1 < n ∧ n ≤ 1000 ∧ 0 < z.length ∧ z.length ≤ 1000 ∧ Q (.str (repS z n.toNat)) H) := by
  intro pins s σ H x y v u Q I rx ry h
  obtain ⟨z, n, rfl, rfl, h1, h2, h3, h4, q⟩ := h
  obtain ⟨t, rfl⟩ := rx
  obtain ⟨t', rfl⟩ := ry
  have e1 : ¬ n < 1 := by omega
  have e2 : (n == 1 || z.length == 0) = false := by
    have a : (n == 1) = false := beq_eq_false_iff_ne.mpr (by omega)
    have b : (z.length == 0) = false := beq_eq_false_iff_ne.mpr (by omega)
    rw [a, b]; rfl
  have hz : z.length * n.toNat ≤ 1000 * 1000 := Nat.mul_le_mul h4 (by omega)
  refine PySem.P.mul_str ?_ (fun _ _ => ?_) (fun _ _ => ?_) ?_
  · have a : decide (n < -(2 ^ 63 : Int)) = false := decide_eq_false (by omega)
    have b : decide (n ≥ 2 ^ 63) = false := decide_eq_false (by omega)
    rw [a, b]; rfl
  · have hd : (1000 : Int) ≤ (2 ^ 63 - 1) / n := by
      apply Int.le_ediv_of_mul_le (by omega)
      omega
    omega
  · have hb : z.length * n.toNat ≤ sizeLine := Nat.le_trans hz (by decide)
    unfold Builtin.Str.tooLong
    exact decide_eq_false (by omega)
  · rw [if_neg e1, e2]
    simp only [Bool.false_eq_true, if_false]
    refine ⟨?_, ⟨.str _, H, I.tok _, ⟨_, rfl⟩, q⟩⟩
    have key : ∀ (k : Nat) (acc : Array Nat), ((List.replicate k z.cps).foldl (· ++ ·) acc).size = acc.size + k * z.cps.size := by
      intro k
      induction k with
      | zero => intro acc; simp
      | succ k ih => intro acc; rw [List.replicate_succ, List.foldl_cons, ih, Array.size_append, Nat.succ_mul]; omega
    have hk := key n.toNat #[]
    have hz' : n.toNat * z.cps.size ≤ 1000 * 1000 := Nat.mul_le_mul (by omega) h4
    have hsl : 1000 * 1000 ≤ sizeLine := by decide
    show ((List.replicate n.toNat z.cps).foldl (· ++ ·) #[]).size ≤ sizeLine
    rw [hk]
    simp only [Array.size_empty]
    omega
/-! ### isinstance -/
theorem call_isi : CallR X (.builtin "isinstance") (fun xs H Q => ∃ x T t b, xs = [x, .ty T] ∧ TyOf X.K H x t ∧ PySem.W.kitOne X.K t (.type T) = some b ∧ Q (.bl b) H) := by
  intro pins s σ H xs us Q I r h
  obtain ⟨x, T, t, b, rfl, ht, hk, q⟩ := h
  obtain ⟨u, w', rfl, ru, rw'⟩ := vals2 r
  cases rw'
  exact isinst_ok I ru ht hk fun tk => ⟨.bl b, H, I.tok _, rfl, q⟩
/-! ### a text that is walked -/
def Its (x : Str) : It := ⟨fun i _ => i < x.length, fun i H y H' => H' = H ∧ ∃ c, x.cps[i]? = some c ∧ y = .str ⟨#[c]⟩, fun i _ => x.length ≤ i⟩
theorem turn_strA {P : Program} {w : World} {K : PySem.W.Frag} {tg : Expr} (x : Str) (t : Tok) (it : Addr) : Turn P w K tg (Its x) [it] it (fun i h => h.IsStrIter it "str_ascii_iterator" x t i) where
  mem := by simp
  obj := fun i h st b hb => by
    have e : b = it := by simpa using hb
    subst e
    obtain ⟨o, e, c, d⟩ := st
    exact ⟨o, e, fun v z => by rw [d] at z; cases z⟩
  keep := fun i h h' st k => by
    obtain ⟨o, e, r⟩ := st
    exact ⟨o, k it (by simp) o e, r⟩
  item := by
    intro X hP hw hK hc i pins s σ H E I hf st hg
    subst hP hw hK
    have hi : i < x.cps.size := hg
    obtain ⟨f0, f1, f2, f3, f4, f5⟩ := hf it (by simp)
    refine wpAny_pyNext_ascii_item st (c := x.cps[i]) (by simp [hi]) fun h' st' sb => ?_
    have I1 : Inv X pins σ H { s with heap := h', toks := s.toks + 1 } := I.turned (t' := s.toks + 1) (fun b o hb e => (sb.2 b hb).trans e) f0 f1 f3 f4 f5
    obtain ⟨o, e, c, d⟩ := id st'
    exact ⟨_, rfl, go_of (s := { s with heap := h', toks := s.toks + 1 }) e c d (by decide) ⟨.str ⟨#[x.cps[i]]⟩, H, I1, ⟨_, rfl⟩, ⟨rfl, x.cps[i], by simp [hi], rfl⟩, st', fun b hb => (hf b hb).1⟩⟩
  done := by
    intro X hP hw hK hc i pins s σ H E I hf st hg
    subst hP hw hK
    have hi : x.cps.size ≤ i := hg
    obtain ⟨f0, f1, f2, f3, f4, f5⟩ := hf it (by simp)
    exact wpAny_pyNext_ascii_end (I.ok.hd hc) st (by simp [hi]) fun h' eb => ⟨rfl, I.turned (t' := s.toks) (fun b o hb e => eb b o hb e) f0 f1 f3 f4 f5⟩
  self := fun _ _ _ _ _ st h => wpAny_pyIter_striter_ascii st h
theorem turn_strW {P : Program} {w : World} {K : PySem.W.Frag} {tg : Expr} (x : Str) (t : Tok) (it : Addr) : Turn P w K tg (Its x) [it] it (fun i h => h.IsStrIter it "str_iterator" x t i) where
  mem := by simp
  obj := fun i h st b hb => by
    have e : b = it := by simpa using hb
    subst e
    obtain ⟨o, e, c, d⟩ := st
    exact ⟨o, e, fun v z => by rw [d] at z; cases z⟩
  keep := fun i h h' st k => by
    obtain ⟨o, e, r⟩ := st
    exact ⟨o, k it (by simp) o e, r⟩
  item := by
    intro X hP hw hK hc i pins s σ H E I hf st hg
    subst hP hw hK
    have hi : i < x.cps.size := hg
    obtain ⟨f0, f1, f2, f3, f4, f5⟩ := hf it (by simp)
    refine wpAny_pyNext_wide_item st (c := x.cps[i]) (by simp [hi]) fun h' st' sb => ?_
    have I1 : Inv X pins σ H { s with heap := h', toks := s.toks + 1 } := I.turned (t' := s.toks + 1) (fun b o hb e => (sb.2 b hb).trans e) f0 f1 f3 f4 f5
    obtain ⟨o, e, c, d⟩ := id st'
    exact ⟨_, rfl, go_of (s := { s with heap := h', toks := s.toks + 1 }) e c d (by decide) ⟨.str ⟨#[x.cps[i]]⟩, H, I1, ⟨_, rfl⟩, ⟨rfl, x.cps[i], by simp [hi], rfl⟩, st', fun b hb => (hf b hb).1⟩⟩
  done := by
    intro X hP hw hK hc i pins s σ H E I hf st hg
    subst hP hw hK
    have hi : x.cps.size ≤ i := hg
    obtain ⟨f0, f1, f2, f3, f4, f5⟩ := hf it (by simp)
    exact wpAny_pyNext_wide_end (I.ok.hd hc) st (by simp [hi]) fun h' eb => ⟨rfl, I.turned (t' := s.toks) (fun b o hb e => eb b o hb e) f0 f1 f3 f4 f5⟩
  self := fun _ _ _ _ _ st h => wpAny_pyIter_striter_wide st h
def iStr (tl : TE) : TI := fun σ H R => tl σ H fun y H1 => ∃ x, y = .str x ∧ R (Its x) H1
theorem pi_str {tg l : Expr} {tl : TE} (hl : PE X l tl) : PI X tg l (iStr tl) := by
  intro pins s σ H R I h
  refine thn (hl pins s σ H _ I h) fun v s1 ⟨y, H1, I1, r1, q1⟩ => ?_
  obtain ⟨x, rfl, q⟩ := q1
  obtain ⟨t, rfl⟩ := r1
  cases ha : x.cps.all (· < 128)
  · refine wpAny_pyIter_wide ha ⟨s1.heap.objs.size, [s1.heap.objs.size], _, _, H1, rfl, I1.kept (t' := s1.toks) fun b o e => Heap.get?_push_of_some _ e, turn_strW x t _, ⟨_, Heap.get?_push_size _ rfl, rfl, rfl⟩, fun b hb => ?_, q⟩
    have e : b = s1.heap.objs.size := by simpa using hb
    subst e
    exact I1.fpOk (Nat.le_refl _) (I1.hok.fresh (Nat.le_refl _))
  · refine wpAny_pyIter_ascii ha ⟨s1.heap.objs.size, [s1.heap.objs.size], _, _, H1, rfl, I1.kept (t' := s1.toks) fun b o e => Heap.get?_push_of_some _ e, turn_strA x t _, ⟨_, Heap.get?_push_size _ rfl, rfl, rfl⟩, fun b hb => ?_, q⟩
    have e : b = s1.heap.objs.size := by simpa using hb
    subst e
    exact I1.fpOk (Nat.le_refl _) (I1.hok.fresh (Nat.le_refl _))
theorem bt_len : bootBuiltins "len" = some (.builtin "len") := by decide +kernel
theorem bt_all : bootBuiltins "all" = some (.builtin "all") := by decide +kernel
theorem bt_any : bootBuiltins "any" = some (.builtin "any") := by decide +kernel
theorem bt_isinstance : bootBuiltins "isinstance" = some (.builtin "isinstance") := by decide +kernel
theorem bt_max : bootBuiltins "max" = some (.builtin "max") := by decide +kernel
theorem bt_min : bootBuiltins "min" = some (.builtin "min") := by decide +kernel
theorem bt_sorted : bootBuiltins "sorted" = some (.builtin "sorted") := by decide +kernel
theorem bt_int : bootBuiltins "int" = some (.type "int") := by decide +kernel
theorem bt_str : bootBuiltins "str" = some (.type "str") := by decide +kernel
theorem bt_tuple : bootBuiltins "tuple" = some (.type "tuple") := by decide +kernel
theorem bt_list : bootBuiltins "list" = some (.type "list") := by decide +kernel
theorem bt_bool : bootBuiltins "bool" = some (.type "bool") := by decide +kernel
theorem few {α : Type} {xs : List α} (h : Nat.ble xs.length 1000 = true) : xs.length ≤ sizeLine := Nat.le_of_lt (small1000 (Nat.le_of_ble_eq_true h))
/-! ### a row of written values -/
def constV : Expr → Option V
  | .Constant (.str x) _ _ => some (.str x)
  | .Constant (.int i) _ _ => some (.int i)
  | .Constant (.bool b) _ _ => some (.bl b)
  | .Constant .none _ _ => some .non
  | _ => none
theorem pe_const {e : Expr} {v : V} (h : constV e = some v) : PE X e (tC v) ∧ ∀ es, starEach (e :: es) X.env = (false, eval e X.env) :: starEach es X.env := by
  cases e with
  | Constant c j pos =>
    cases c with
    | str x => cases h; exact ⟨pe_str, fun _ => rfl⟩
    | int x => cases h; exact ⟨pe_int, fun _ => rfl⟩
    | bool x => cases h; exact ⟨pe_bl, fun _ => rfl⟩
    | none => cases h; exact ⟨pe_non, fun _ => rfl⟩
    | _ => cases h
  | _ => cases h
def tAll (vs : List V) : TA := fun _ H Q => Q vs H
theorem pa_consts_of : ∀ {es : List Expr} {vs : List V}, es.mapM constV = some vs → PA X es (tAll vs)
  | [], vs, h => by
    have e : vs = [] := by simpa using h.symm
    subst e
    exact pa_nil
  | e :: es, vs, h => by
    rw [List.mapM_cons] at h
    cases h1 : constV e with
    | none => rw [h1] at h; cases h
    | some v =>
      rw [h1] at h
      cases h2 : es.mapM constV with
      | none => rw [h2] at h; cases h
      | some us =>
        rw [h2] at h
        have e1 : v :: us = vs := Option.some.inj h
        subst e1
        obtain ⟨p, st⟩ := pe_const (X := X) h1
        have q := pa_cons p (pa_consts_of (es := es) h2) (st es)
        exact q
/-- [..], (..) of written values -/
def tLstC (vs : List V) : TE := fun _ H Q => vs.length ≤ sizeLine ∧ ∀ p, H p = none → Q (.ref p) (upd H p (.lst vs))
theorem pe_lstC (vs : List V) {es : List Expr} {pos : Pos} (h : es.mapM constV = some vs) : PE X (.List es pos) (tLstC vs) := pe_lst (pa_consts_of h)
end
end L2

set_option Elab.async false
set_option linter.all false
set_option maxRecDepth 100000
set_option maxHeartbeats 4000000
/-! Loops and comprehensions by an invariant, whatever they walk. -/
namespace L2
open PySem PySem.Spec PyProof.Rows
/-- J walks n items, the i-th of them P i, wherever ok holds -/
structure Wk (J : It) (n : Nat) (P : Nat → V → Prop) (ok : Hp → Prop) : Prop where
  stop : ∀ i H, ok H → n ≤ i → J.stop i H
  go : ∀ i H, ok H → i < n → J.go i H
  yld : ∀ i H x H', ok H → i < n → J.yld i H x H' → H' = H ∧ P i x
theorem wk_list {K : PySem.W.Frag} {a : Addr} {xs : List V} : Wk (Itl K a) xs.length (fun i x => xs[i]? = some x) (fun H => SqL K H a xs) where
  stop := fun i H h l => ⟨xs, h, l⟩
  go := fun i H h l => ⟨xs, xs[i], h, by simp [l]⟩
  yld := fun i H x H' h l y => ⟨y.1, y.2 xs h⟩
theorem wk_tup {K : PySem.W.Frag} {a : Addr} {xs : List V} : Wk (Itt K a) xs.length (fun i x => xs[i]? = some x) (fun H => SqT K H a xs) where
  stop := fun i H h l => ⟨xs, h, l⟩
  go := fun i H h l => ⟨xs, xs[i], h, by simp [l]⟩
  yld := fun i H x H' h l y => ⟨y.1, y.2 xs h⟩
theorem wk_rng {lo : Int} {n : Nat} : Wk (Itr lo n) n (fun i x => x = .int (lo + i)) (fun _ => True) where
  stop := fun i H h l => l
  go := fun i H h l => l
  yld := fun i H x H' h l y => y
theorem wk_str {x : Str} : Wk (Its x) x.length (fun i y => ∃ c, x.cps[i]? = some c ∧ y = .str ⟨#[c]⟩) (fun _ => True) where
  stop := fun i H h l => l
  go := fun i H h l => l
  yld := fun i H x H' h l y => y
theorem comp_by {J : It} {n : Nat} {P : Nat → V → Prop} {ok : Hp → Prop} {g : TG} {tc : TT} {te : TE} {src : List (Option Nat)} {σ : St} {H1 : Hp} {Q : VK} (wk : Wk J n P ok) (Pv : Addr → Nat → List V → St → Hp → Prop)
    (h0 : ∀ l, H1 l = none → Pv l 0 [] (capt src σ) (upd H1 l (.lst []))) (hok : ∀ l i ys σ H, H1 l = none → Pv l i ys σ H → ok H)
    (hs : ∀ l i x ys σ H, H1 l = none → i < n → P i x → Pv l i ys σ H → H l = some (.lst ys) → g x σ H fun σ2 H3 => tc σ2 H3 fun b H4 =>
      if b = true then te σ2 H4 fun y H5 => H5 l = some (.lst ys) ∧ ys.length < sizeLine ∧ Pv l (i + 1) (ys ++ [y]) σ2 (upd H5 l (.lst (ys ++ [y]))) else H4 l = some (.lst ys) ∧ Pv l (i + 1) ys σ2 H4)
    (hd : ∀ l ys σ H, H1 l = none → Pv l n ys σ H → H l = some (.lst ys) → Q (.ref l) H) :
    CompGo g tc te src σ Q J H1 := by
  intro l hl
  refine ⟨fun i m ys σ H => m = n - i ∧ i ≤ n ∧ Pv l i ys σ H, ⟨n, by simp, Nat.zero_le _, h0 l hl⟩, ?_⟩
  rintro i m ys σ' H' ⟨rfl, hi, p⟩ hl'
  by_cases hlt : i < n
  · refine .inr ⟨wk.go i H' (hok l i ys σ' H' hl p) hlt, Pv l (i + 1), fun zs σ2 H2 q => ⟨n - (i + 1), by omega, rfl, hlt, q⟩, fun x H2 y => ?_⟩
    obtain ⟨rfl, px⟩ := wk.yld i H' x H2 (hok l i ys σ' H' hl p) hlt y
    exact hs l i x ys σ' _ hl hlt px p hl'
  · have e : i = n := by omega
    subst e
    exact .inl ⟨wk.stop _ _ (hok l _ ys σ' H' hl p) (Nat.le_refl _), hd l ys σ' H' hl p hl'⟩
/-- a for loop likewise -/
theorem for_by {J : It} {n : Nat} {P : Nat → V → Prop} {ok : Hp → Prop} {g : TG} {tb : TS} {D : Ends} {σ : St} {H : Hp} (wk : Wk J n P ok) (Pv : Nat → St → Hp → Prop) (h0 : Pv 0 σ H) (hok : ∀ i σ H, Pv i σ H → ok H)
    (hs : ∀ i x σ H, i < n → P i x → Pv i σ H → g x σ H fun σ2 H2 => tb { D with nx := Pv (i + 1), ct := Pv (i + 1), bk := D.nx } σ2 H2) (hd : ∀ σ H, Pv n σ H → D.nx σ H) :
    ForGo g tb D σ J H := by
  refine ⟨fun i m σ H => m = n - i ∧ i ≤ n ∧ Pv i σ H, ⟨n, by simp, Nat.zero_le _, h0⟩, ?_⟩
  rintro i m σ H ⟨rfl, hi, p⟩
  by_cases hlt : i < n
  · refine .inr ⟨wk.go i H (hok i σ H p) hlt, Pv (i + 1), fun σ' H' q => ⟨n - (i + 1), by omega, rfl, hlt, q⟩, fun x H' y => ?_⟩
    obtain ⟨rfl, px⟩ := wk.yld i H x H' (hok i σ H p) hlt y
    exact hs i x σ _ hlt px p
  · have e : i = n := by omega
    subst e
    exact .inl ⟨wk.stop _ _ (hok _ σ H p) (Nat.le_refl _), hd σ H p⟩
end L2

set_option Elab.async false
set_option linter.all false
set_option maxRecDepth 100000
set_option maxHeartbeats 4000000
/-! The rules once more, each judgement kept in a box: a term of rules is then elaborated without running the program. -/
namespace L2
open PySem PySem.Spec PyProof.Rows
structure QE (X : Cx) (e : Expr) (t : TE) : Prop where o : PE X e t
structure QT (X : Cx) (e : Expr) (t : TT) : Prop where o : PT X e t
structure QW (X : Cx) (e : Expr) (t : TT) : Prop where o : PW X e t
structure QA (X : Cx) (es : List Expr) (t : TA) : Prop where o : PA X es t
structure QS (X : Cx) (s : Stmt) (t : TS) : Prop where o : PS X s t
structure QB (X : Cx) (s : List Stmt) (t : TS) : Prop where o : PSs X s t
structure QI (X : Cx) (tg iter : Expr) (t : TI) : Prop where o : PI X tg iter t
structure QG (X : Cx) (tg : Expr) (t : TG) : Prop where o : PG X tg t
structure QGs (X : Cx) (tg : List Expr) (t : TGs) : Prop where o : PGs X tg t
structure QF (X : Cx) (ifs : List Expr) (t : TT) : Prop where o : PIf X ifs t
structure QO (X : Cx) (e : Option Expr) (t : TO) : Prop where o : PO X e t
structure QPs (X : Cx) (pos : Pos) (keys : List (Option Expr)) (values : List Expr) (trs : List (TE × TE)) : Prop where o : PPs X pos keys values trs
section
variable {X : Cx} {a b c e o i : Expr} {es : List Expr} {ta tb tc te to ti : TE} {t u : TA} {pos p apos cpos : Pos} {j : Nat} {x : Str} {sa sb : TS} {q q' : TT} {rest : List Expr}
theorem qv (i : Nat) {x : Str} {pos : Pos} (hN : X.N[i]? = some x := by rfl) (hv : Vis X.env.scope x := by exact Or.inl rfl) (hd : (x == ("__debug__" : Str)) = false := by decide)
    (hcd : (x == ("__classdict__" : Str)) = false := by decide) : QE X (.Name x pos) (tVar i) := ⟨pe_var hN hv hd hcd⟩
/-- a name that a comprehension captures -/
theorem qc (i : Nat) {x : Str} {pos : Pos} (hN : X.N[i]? = some x := by rfl) (hv : X.env.scope.names.lookup x = some .cell := by rfl) (hd : (x == ("__debug__" : Str)) = false := by decide)
    (hcd : (x == ("__classdict__" : Str)) = false := by decide) : QE X (.Name x pos) (tVar i) := ⟨pe_var hN (.inr (.inl hv)) hd hcd⟩
theorem q_int {k : Int} : QE X (.Constant (.int k) j pos) (tC (.int k)) := ⟨pe_int⟩
theorem q_str {k : Str} : QE X (.Constant (.str k) j pos) (tC (.str k)) := ⟨pe_str⟩
theorem q_bl {k : Bool} : QE X (.Constant (.bool k) j pos) (tC (.bl k)) := ⟨pe_bl⟩
theorem q_non : QE X (.Constant .none j pos) (tC .non) := ⟨pe_non⟩
theorem q_glob {v : V} {u : Value} (hm : X.mg x = some u) (r : RelV v u) (hg : Gl X x := by rfl) (hd : (x == ("__debug__" : Str)) = false := by decide) : QE X (.Name x pos) (tC v) := ⟨pe_glob hg hm r hd⟩
theorem q_ty {T : String} (hm : X.mg x = none) (hv : bootBuiltins x = some (.type T)) (hg : Gl X x := by rfl) (hn : x ≠ "__name__" := by decide) (hd : (x == ("__debug__" : Str)) = false := by decide) : QE X (.Name x pos) (tC (.ty T)) := ⟨pe_bltn hg hm hv rfl hn hd⟩
theorem q_op {op : Operator} {r : R2} (ho : OpR X (binaryOp op) r) (ha : QE X a ta) (hb : QE X b tb) : QE X (.BinOp a op b pos) (tOp r ta tb) := ⟨pe_op ho ha.o hb.o⟩
theorem q_un {op : UnaryOp} {r : V → Hp → VK → Prop} (ho : UnR X (unaryOp op) r) (ha : QE X a ta) : QE X (.UnaryOp op a pos) (tUn r ta) := ⟨pe_un ho ha.o⟩
theorem q_cmp {op : CmpOp} {r : R2} (ho : OpR X (compareOp op) r) (ha : QE X a ta) (hb : QE X b tb) (hm : behindInMarks op b = false := by rfl) : QE X (.Compare a [op] [b] pos) (tOp r ta tb) := ⟨pe_cmpR ho ha.o hb.o hm⟩
theorem t_cmp {op : CmpOp} {r : R2} (ho : OpR X (compareOp op) r) (ha : QE X a ta) (hb : QE X b tb) (hm : behindInMarks op b = false := by rfl) : QT X (.Compare a [op] [b] pos) (tTest (tOp r ta tb)) := ⟨pt_cmpR ho ha.o hb.o hm⟩
theorem q_chain {op op' : CmpOp} {r r' : R2} (ho : OpR X (compareOp op) r) (ho' : OpR X (compareOp op') r') (ha : QE X a ta) (hb : QE X b tb) (hc : QE X c tc)
    (hm : lastMarks [op, op'] [b, c] = false := by with_unfolding_all rfl) : QE X (.Compare a [op, op'] [b, c] pos) (tChain r r' ta tb tc) := ⟨pe_chain ho ho' ha.o hb.o hc.o hm⟩
theorem t_chain {op op' : CmpOp} {r r' : R2} (ho : OpR X (compareOp op) r) (ho' : OpR X (compareOp op') r') (ha : QE X a ta) (hb : QE X b tb) (hc : QE X c tc)
    (hm : lastMarks [op, op'] [b, c] = false := by with_unfolding_all rfl) : QT X (.Compare a [op, op'] [b, c] pos) (tTest (tChain r r' ta tb tc)) := ⟨pt_chain ho ho' ha.o hb.o hc.o hm⟩
theorem q_one {op : BoolOp} (h : QE X a ta) : QE X (.BoolOp op [a] pos) ta := ⟨pe_one h.o⟩
theorem q_and (ha : QE X a ta) (hb : QE X (.BoolOp .And (b :: rest) pos) tb) : QE X (.BoolOp .And (a :: b :: rest) pos) (tAndV ta tb) := ⟨pe_and ha.o hb.o⟩
theorem q_or (ha : QE X a ta) (hb : QE X (.BoolOp .Or (b :: rest) pos) tb) : QE X (.BoolOp .Or (a :: b :: rest) pos) (tOrV ta tb) := ⟨pe_or ha.o hb.o⟩
theorem q_not (ha : QE X a ta) : QE X (.UnaryOp .Not a pos) (tNotV ta) := ⟨pe_not ha.o⟩
theorem w_and1 (ha : QT X a q) : QW X (.BoolOp .And [a] pos) q := ⟨pw_and1 ha.o⟩
theorem w_or1 (ha : QT X a q) : QW X (.BoolOp .Or [a] pos) q := ⟨pw_or1 ha.o⟩
theorem w_and (ha : QT X a q) (hb : QW X (.BoolOp .And (b :: rest) pos) q') : QW X (.BoolOp .And (a :: b :: rest) pos) (tAnd q q') := ⟨pw_and ha.o hb.o⟩
theorem w_or (ha : QT X a q) (hb : QW X (.BoolOp .Or (b :: rest) pos) q') : QW X (.BoolOp .Or (a :: b :: rest) pos) (tOr q q') := ⟨pw_or ha.o hb.o⟩
theorem t_w (h : QW X a q) : QT X a q := ⟨h.o.pt⟩
theorem t_not (ha : QT X a q) : QT X (.UnaryOp .Not a pos) (tNot q) := ⟨pt_not ha.o⟩
theorem t_val (h : QE X e te) (he : ∀ whole, isTrue e X.env whole = (do let v ← whole; standAt e.pos; holding [v] (truthy v)) := by intro _; rfl) : QT X e (tB te) := ⟨pt_val h.o he⟩
theorem a_nil : QA X [] tNil := ⟨pa_nil⟩
theorem a_cons (ha : QE X e te) (hr : QA X es t) (hs : starEach (e :: es) X.env = (false, eval e X.env) :: starEach es X.env := by rfl) : QA X (e :: es) (tCons te t) := ⟨pa_cons ha.o hr.o hs⟩
theorem q_tup {k : Nat} (h : QA X es t) : QE X (.Tuple es k pos) (tTup t) := ⟨pe_tup h.o⟩
theorem q_lst (h : QA X es t) : QE X (.List es pos) (tLst t) := ⟨pe_lst h.o⟩
theorem q_lstC (vs : List V) (h : es.mapM constV = some vs) : QE X (.List es pos) (tLstC vs) := ⟨pe_lstC vs h⟩
theorem q_call {CX : CXT} {k : Nat} {f : Addr} {fd : FuncData} {ps : List Str} {sp : Sp} {dvs : List V} {ds : List Value} {E : XK} (F : FnOk X.prog X.w X.K X.mg X.base CX k f fd ps sp) (hr : Room k X.A) (hm : X.mg x = some (.ref f)) (hk : PySem.W.keepIn X.K (.ref f) = true) (hb : Binds X.K fd ps ds) (hd : Vals dvs ds) (hx : Passes CX X E)
    (ha : QA X (e :: es) t) (hg : Gl X x := by rfl) (hdb : (x == ("__debug__" : Str)) = false := by decide) (he : starEach (e :: es) X.env = (false, eval e X.env) :: starEach es X.env := by rfl) (hpl : (backTo pos (starEach es X.env)).any (·.1) = false := by rfl) :
    QE X (.Call (.Name x p) (e :: es) [] pos) (tCall sp dvs E t) := ⟨pe_call F hr hg hm hk hb hd hx ha.o hdb he hpl⟩
theorem q_callB {id : String} {r : List V → Hp → VK → Prop} (hc : CallR X (.builtin id) r) (hm : X.mg x = none) (hv : bootBuiltins x = some (.builtin id)) (ha : QA X (e :: es) t) (hg : Gl X x := by rfl) (hn : x ≠ "__name__" := by decide) (hdb : (x == ("__debug__" : Str)) = false := by decide)
    (he : starEach (e :: es) X.env = (false, eval e X.env) :: starEach es X.env := by rfl) (hpl : (backTo pos (starEach es X.env)).any (·.1) = false := by rfl) : QE X (.Call (.Name x p) (e :: es) [] pos) (tCB r t) := ⟨pe_callB hc hg hm hv ha.o hn hdb he hpl⟩
theorem q_callTy {T : String} {r : List V → Hp → VK → Prop} (hc : CallR X (.type T) r) (hm : X.mg x = none) (hv : bootBuiltins x = some (.type T)) (ha : QA X (e :: es) t) (hg : Gl X x := by rfl) (hn : x ≠ "__name__" := by decide) (hdb : (x == ("__debug__" : Str)) = false := by decide)
    (he : starEach (e :: es) X.env = (false, eval e X.env) :: starEach es X.env := by rfl) (hpl : (backTo pos (starEach es X.env)).any (·.1) = false := by rfl) : QE X (.Call (.Name x p) (e :: es) [] pos) (tCB r t) := ⟨pe_callTy hc hg hm hv ha.o hn hdb he hpl⟩
theorem q_ix {r : R2} (hr : IxR X r) (ha : QE X a ta) (hb : QE X b tb) (hs : PlainIx b := by exact fun _ _ => rfl) : QE X (.Subscript a b pos) (tOp r ta tb) := ⟨pe_ix hr ha.o hb.o hs⟩
theorem o_none : QO X none tNoPart := ⟨po_none⟩
theorem o_some (h : QE X e te) : QO X (some e) (tPart te) := ⟨po_some h.o⟩
theorem q_sl {r : V → Option Int → Option Int → Hp → VK → Prop} {lo hi : Option Expr} {tl th : TO} (hr : SlR X r) (he : QE X e te) (hl : QO X lo tl) (hu : QO X hi th) : QE X (.Subscript e (.Slice lo hi none p) pos) (tSl r te tl th) := ⟨pe_slice hr he.o hl.o hu.o⟩
theorem q_bm {T id : String} {name : Str} {r : V → List V → Hp → VK → Prop} (pa : PlainAttrs T) (slot : Slot T name id) (hty : typeOf (.builtin id) = pure (.type "method_descriptor")) (hm : MtR X id r) (ho : QE X o to) (ha : QA X (e :: es) t)
    (hbase : attributeBase o name X.env (eval o X.env) = eval o X.env := by rfl)
    (hfew : ((backTo cpos (starEach (e :: es) X.env)).all (fun x => !x.1) && (backToKw cpos (keywordEach [] X.env)).all (fun x => x.1.isSome)
      && decide ((e :: es).length + ([] : List Keyword).length + (if ([] : List Keyword).isEmpty then 0 else 1) < 30)) = true := by rfl)
    (hline : (apos.endLine == cpos.line) = true := by rfl) (hs : starEach (e :: es) X.env = (false, eval e X.env) :: starEach es X.env := by rfl) (hplain : (backTo cpos (starEach es X.env)).any (·.1) = false := by rfl) :
    QE X (.Call (.Attribute o name apos) (e :: es) [] cpos) (tBM X.K T r to t) := ⟨pe_bm pa slot hty hm ho.o ha.o hbase hfew hline hs hplain⟩
/-! iterators, targets, tests of a comprehension -/
theorem i_list {tg : Expr} (h : QE X e te) : QI X tg e (iList X.K te) := ⟨pi_list h.o⟩
theorem i_tup {tg : Expr} (h : QE X e te) : QI X tg e (iTup X.K te) := ⟨pi_tup h.o⟩
theorem i_str {tg : Expr} (h : QE X e te) : QI X tg e (iStr te) := ⟨pi_str h.o⟩
theorem i_rng1 {tg : Expr} (hm : X.mg "range" = none) (ha : QA X [a] t) (hg : Gl X "range" := by rfl) (hs : starEach [a] X.env = [(false, eval a X.env)] := by rfl) : QI X tg (.Call (.Name "range" p) [a] [] pos) (iRng1 t) := ⟨pi_range1 hg hm ha.o hs⟩
theorem i_rng2 {tg : Expr} (hm : X.mg "range" = none) (ha : QA X [a, b] t) (hg : Gl X "range" := by rfl) (hs : starEach [a, b] X.env = [(false, eval a X.env), (false, eval b X.env)] := by rfl) (hs2 : starEach [b] X.env = [(false, eval b X.env)] := by rfl) : QI X tg (.Call (.Name "range" p) [a, b] [] pos) (iRng2 t) := ⟨pi_range2 hg hm ha.o hs hs2⟩
theorem g_name (k : Nat) (hN : X.N.Nodup) (hi : X.N[k]? = some x := by rfl) (hx : X.env.scope.names.lookup x = some .local := by rfl) : QG X (.Name x pos) (gName k) := ⟨pg_name hN hi (.inl hx) (.inr hx)⟩
theorem gs_nil : QGs X [] gNil := ⟨pgs_nil⟩
theorem gs_cons {tg : TG} {tgs : TGs} (h1 : QG X e tg) (h2 : QGs X es tgs) (hs : (assignEach (e :: es) X.env).map (·.2) = assign e X.env :: (assignEach es X.env).map (·.2) := by rfl) : QGs X (e :: es) (gCons tg tgs) := ⟨pgs_cons h1.o h2.o hs⟩
theorem g_tup (n : Nat) {k : Nat} {tgs : TGs} (hc : X.calm = true) (h : QGs X es tgs) (hn : (assignEach es X.env).length = n := by rfl) (hst : (assignEach es X.env).findIdx? (·.1) = none := by rfl) : QG X (.Tuple es k pos) (gTup X.K n tgs) := ⟨pg_tup hc h.o hn hst⟩
theorem f_nil : QF X [] tYes := ⟨pif_nil⟩
/-! statements -/
theorem b_nil : QB X [] tNext := ⟨pss_nil⟩
theorem b_cons {st : Stmt} {sts : List Stmt} (h1 : QS X st sa) (h2 : QB X sts sb) : QB X (st :: sts) (tSeq sa sb) := ⟨pss_cons h1.o h2.o⟩
theorem b_one {st : Stmt} (h1 : QS X st sa) : QB X [st] sa := ⟨pss_one h1.o⟩
theorem s_if {A B : List Stmt} (hc : QT X c q) (ha : QB X A sa) (hb : QB X B sb) : QS X (.If c A B pos) (tIfS q sa sb) := ⟨ps_if hc.o ha.o hb.o⟩
theorem s_ret (h : QE X e te) : QS X (.Return (some e) pos) (tRet te) := ⟨ps_ret h.o⟩
theorem s_expr (he : QE X e te) (hs : swapsWith e none pos.line X.env = pure false := by rfl) : QS X (.Expr e pos) (tDrop te) := ⟨ps_expr he.o hs⟩
theorem s_set (k : Nat) {pos' : Pos} (hN : X.N.Nodup) (he : QE X e te) (hi : X.N[k]? = some x := by rfl) (hx : X.env.scope.names.lookup x = some .local := by rfl) (hs : swapsWith e (some (.Name x pos')) pos.line X.env = pure false := by rfl) :
    QS X (.Assign [.Name x pos'] e pos) (tAsg te (gName k)) := ⟨ps_set hN hi (.inl hx) he.o hs (.inr hx)⟩
/-- a name that a comprehension captures -/
theorem s_setC (k : Nat) {pos' : Pos} (hN : X.N.Nodup) (he : QE X e te) (hi : X.N[k]? = some x := by rfl) (hx : X.env.scope.names.lookup x = some .cell := by rfl) (hf : X.fn x = true := by rfl) (hs : swapsWith e (some (.Name x pos')) pos.line X.env = pure false := by rfl) :
    QS X (.Assign [.Name x pos'] e pos) (tAsg te (gName k)) := ⟨ps_set hN hi (.inr hx) he.o hs (.inl hf)⟩
theorem s_for {tg iter : Expr} {body : List Stmt} {wi : TI} {g : TG} (hp : PassesOwn (model X.prog X.w) X.A X.env X.xe) (hc : X.calm = true) (hi : QI X tg iter wi) (hg : QG X tg g) (hb : QB X body sa)
    (hs : ∀ x, foldedSetIterable iter X.env x = pure x := by intro _; rfl) : QS X (.For tg iter body [] pos) (tForG wi g sa) := ⟨ps_forG hp hc hi.o hg.o hb.o hs⟩
end
section
variable {X : Cx} {elt tg iter : Expr} {ifs : List Expr} {scope osc : Scope} {pos : Pos} {N' : List Str} {src : List (Option Nat)} {wi : TI} {g : TG} {tc : TT} {te : TE}
theorem q_comp (ok : CompOk X.N osc N' src scope) (hsc : X.env.scope = osc) (hc : X.calm = true) (hi : QI X tg iter wi)
    (hg : ∀ cl C s₀ H₀ fp, QG (cxComp X N' scope cl C s₀ H₀ fp) tg g) (ht : ∀ cl C s₀ H₀ fp, QF (cxComp X N' scope cl C s₀ H₀ fp) ifs tc) (he : ∀ cl C s₀ H₀ fp, QE (cxComp X N' scope cl C s₀ H₀ fp) elt te)
    (hs : ∀ x, foldedSetIterable iter X.env x = pure x := by intro _; rfl) : QE X (.ListComp elt [⟨tg, iter, ifs, 0⟩] scope pos) (tComp wi g tc te src) :=
  ⟨pe_comp ok hsc hc hi.o (fun cl C s₀ H₀ fp => (hg cl C s₀ H₀ fp).o) (fun cl C s₀ H₀ fp => (ht cl C s₀ H₀ fp).o) (fun cl C s₀ H₀ fp => (he cl C s₀ H₀ fp).o) hs⟩
end
theorem Fun.okQ {P : Program} {w : World} {K : PySem.W.Frag} {mg : Str → Option Value} {base : Heap} {x qual : Str} {st : Stmt} {f : Addr} {fd : FuncData} {N ps : List Str} {k : Nat} {sp : Sp} (F : Fun K x qual st f fd) (S : FnScope N ps (defScope st)) (len : ∀ vs H Q E, sp vs H Q E → vs.length = ps.length)
    (hbody : ∀ (cdv : Value) (A : Around) (outer : List Env) (s : Shared) (H : Hp) (vs : List V) (Q : VK) (E : XK), Room k (A.deeper (envOfC qual (defScope st) s.heap.objs.size f cdv)) → sp vs H Q E →
      ∃ t, QB (cxOf CX0 P w K mg base N qual (defScope st) f cdv A outer s H E).nox (defBody st) t ∧ t { nx := fun _ H' => Q .non H', rt := Q } (start N vs) H) : FnOk P w K mg base CX0 (k + 1) f fd ps sp :=
  F.ok S len fun cdv A outer s H vs Q E hr h => let ⟨t, a, b⟩ := hbody cdv A outer s H vs Q E hr h; ⟨t, a.o, b⟩
end L2

set_option Elab.async false
set_option linter.all false
set_option maxRecDepth 100000
set_option maxHeartbeats 4000000
/-! A comprehension whose value a name of the def takes on the same row: the store comes ahead of the letting go. -/
namespace L2
open PySem PySem.Spec PyProof.Rows
theorem ns_obj {h : Heap} {a : Addr} {m : Str → Option Value} (hn : h.Ns a m) : ∃ o, h.get? a = some o ∧ ∀ v, o.data ≠ .cell v :=
  let ⟨o, es, ep, e, d, _⟩ := hn; ⟨o, e, fun v z => by rw [d] at z; cases z⟩
theorem ns_move {h h' : Heap} {a : Addr} {m : Str → Option Value} {o : Obj} (hn : h.Ns a m) (e : h.get? a = some o) (e' : h'.get? a = some o) : h'.Ns a m := by
  obtain ⟨o', es, ep, e1, r⟩ := hn
  rw [e] at e1
  cases e1
  exact ⟨o, es, ep, e', r⟩
section
variable {X : Cx} {elt tg iter : Expr} {ifs : List Expr} {scope osc : Scope} {pos : Pos} {N' : List Str} {src : List (Option Nat)} {wi : TI} {g : TG} {tc : TT} {te : TE} {y : Str} {py spos : Pos} {k : Nat}
theorem ps_setcomp (ok : CompOk X.N osc N' src scope) (hsc : X.env.scope = osc) (hc : X.calm = true) (hi : PI X tg iter wi)
    (hg : ∀ cl C s₀ H₀ fp, PG (cxComp X N' scope cl C s₀ H₀ fp) tg g) (ht : ∀ cl C s₀ H₀ fp, PIf (cxComp X N' scope cl C s₀ H₀ fp) ifs tc) (he : ∀ cl C s₀ H₀ fp, PE (cxComp X N' scope cl C s₀ H₀ fp) elt te)
    (hN : X.N.Nodup) (hk : X.N[k]? = some y) (hx : X.env.scope.names.lookup y = some .local) (hsw : swapsWith (.ListComp elt [⟨tg, iter, ifs, 0⟩] scope pos) (some (.Name y py)) spos.line X.env = pure true)
    (hs : ∀ x, foldedSetIterable iter X.env x = pure x := by intro _; rfl) : PS X (.Assign [.Name y py] (.ListComp elt [⟨tg, iter, ifs, 0⟩] scope pos) spos) (tAsg (tComp wi g tc te src) (gName k)) := by
  intro pins s σ H D I h
  obtain ⟨cl, hcl, c1, c2⟩ := closure_of (scope := scope) (env := X.env) fun y hy hyf => I.ok.has y.1 (by
    have z := ok.frees y hy hyf
    rw [← hsc] at z
    exact z)
  rw [exec_Assign_Name_used _ _ _ _ hsw]
  refine wpAny_bind (wpAny_standAt (wpAny_bind ?_))
  show wpAny _ X.A (do let _ ← comprehension (.ListComp elt [⟨tg, iter, ifs, 0⟩] scope pos) scope X.env _ (newList []) false (eval iter X.env) (some (assign (.Name y py) X.env))) _ _ s
  refine wpAny_bind (wpAny_mono (wpAny_comprehension_free (use := some (assign (.Name y py) X.env)) (Q := fun _ s' => ∃ σ' H', Inv X pins σ' H' s' ∧ D.nx σ' H') rfl hs hcl ok.kind ok.loc
    (thn (hi pins s σ H _ I h) fun v s1 h1 => thn h1 fun itv s2 h2 => ?_)) (fun _ s' hq => wpAny_pure (wpAny_pure hq)) fun _ _ e => e)
  obtain ⟨it, fp, tn, J, H2, e, I2, T, st2, f2, q2⟩ := h2
  subst e
  have hlt2 : ∀ b ∈ fp, b < s2.heap.objs.size := fun b hb => by
    obtain ⟨o, e, _⟩ := T.obj _ _ st2 b hb
    exact Heap.lt_size e
  refine wpAny_newObj_type ?_
  have hl : H2 s2.heap.objs.size = none := I2.hok.fresh (Nat.le_refl _)
  have I3 : Inv X pins σ (upd H2 s2.heap.objs.size (.lst [])) { s2 with heap := s2.heap.push { cls := .type "list", dict := none, data := .seq ([] : List Value).toArray } } :=
    I2.laid (t' := s2.toks) (fun b u e => Heap.get?_push_of_some _ e) (Nat.le_refl _) ⟨Nat.zero_le _, [], 0, .nil, Heap.get?_push_size _ rfl⟩
  obtain ⟨W, ⟨m0, w0⟩, turn⟩ := q2 _ hl
  generalize hl2 : s2.heap.objs.size = l at *
  generalize hs3 : ({ s2 with heap := s2.heap.push { cls := .type "list", dict := none, data := .seq ([] : List Value).toArray } } : Shared) = s3 at *
  have f3 : ∀ b ∈ fp, FpOk X pins (upd H2 l (.lst [])) b := fun b hb => ⟨by rw [upd_ne (Nat.ne_of_lt (hlt2 b hb))]; exact (f2 b hb).1, (f2 b hb).2⟩
  have k3 : ∀ b o, s2.heap.get? b = some o → s3.heap.get? b = some o := fun b o e => by rw [← hs3]; exact Heap.get?_push_of_some _ e
  have hlt3 : ∀ b ∈ fp, b < s3.heap.objs.size := fun b hb => by
    obtain ⟨o, e, _⟩ := T.obj _ _ st2 b hb
    exact Heap.lt_size (k3 b o e)
  refine wpAny_newFunctionEnv ok.nocell (by intro y hy; simp at hy) (fun h₁ hns₁ hsb₁ => ?_) ok.kind
  have k4 : ∀ b o, s3.heap.get? b = some o → h₁.get? b = some o := fun b o e => (hsb₁.2 b (Nat.ne_of_lt (Heap.lt_size e))).trans (Heap.get?_push_of_some _ e)
  have J0 := comp_enter (tk := s3.toks + ([] : List (Str × Value)).length) I3 f3 hlt3 ok hsc c1 c2 hns₁ k4
  have st4 : tn 0 h₁ := T.keep _ _ _ st2 fun b hb o e => k4 b o (k3 b o e)
  generalize hC : s3.heap.objs.size = C at *
  have stat : ∀ {H' : Hp}, (∀ b ∈ fp, H' b = none) → ∀ b ∈ fp, FpOk (cxComp X N' scope cl C s3 (upd H2 l (.lst [])) fp) [] H' b := fun {H'} hn b hb =>
    ⟨hn b hb, (J0.ok.exf b hb).1, J0.ok.exfs b hb, .inl hb, (J0.ok.exf b hb).2, fun p hp => absurd (show p ∈ ([] : List (Addr × Obj)) from hp) (by simp)⟩
  have loop : codeAny (model X.prog X.w) X.A (.compLoop (.ListComp elt [⟨tg, iter, ifs, 0⟩] scope pos) 0 (.ref it) (.ref l) (compEnvC scope cl C X.env))
      (compPost (model X.prog X.w) X.A X.xe (some (assign (.Name y py) X.env)) (fun _ s' => ∃ σ' H', Inv X pins σ' H' s' ∧ D.nx σ' H') (.ref l) C) { s3 with heap := h₁, toks := s3.toks + ([] : List (Str × Value)).length } := by
    refine compLoop_own (fun n s' => ∃ i ys σ' H', Inv (cxComp X N' scope cl C s3 (upd H2 l (.lst [])) fp) [] σ' H' s' ∧ tn i s'.heap ∧ (∀ b ∈ fp, H' b = none) ∧ H' l = some (.lst ys) ∧ W i n ys σ' H') ?_ m0
      ⟨0, [], _, _, J0, st4, fun b hb => (f3 b hb).1, upd_same, w0⟩
    rintro n s5 ⟨i, ys, σ5, H5, I5, st5, fr5, hl5, w5⟩
    rcases turn i n ys σ5 H5 w5 hl5 with ⟨stop, qn⟩ | ⟨go, N, hN, step⟩
    · refine thn (T.done (cxComp X N' scope cl C s3 (upd H2 l (.lst [])) fp) rfl rfl rfl hc i [] s5 σ5 H5 (fun _ _ => False) I5 (stat fr5) st5 stop) fun r s6 ⟨hr, I6⟩ => ?_
      subst hr
      obtain ⟨m, hn, _⟩ := I6.loc
      have hCs : s3.heap.objs.size ≤ C := by rw [← hC]; exact Nat.le_refl _
      have I7 : Inv X pins σ H5 s6 := comp_leave (h' := s6.heap) I3 f3 hCs I6 ⟨rfl, fun _ _ => rfl⟩
      have fC : FpOk X pins H5 C := I3.fpOk hCs I6.free
      obtain ⟨oC, eC, dC⟩ : ∃ o, s6.heap.get? C = some o ∧ ∀ v, o.data ≠ .cell v := by
        obtain ⟨o, e, d⟩ := ns_obj hn
        exact ⟨o, e, d⟩
      have I8 := I7.pinned (fp := [C]) (fun b hb => by rw [List.mem_singleton.mp hb]; exact fC) (fun b hb => by rw [List.mem_singleton.mp hb]; exact ⟨oC, eC, dC⟩)
      refine wpAny_assign_Name (store_ok (v := .ref l) I8 hN hk (.inl hx) rfl (fun s9 I9 => ?_) (.inr hx))
      have p9 := (I9.pin (C, oC) (List.mem_append_right _ (List.mem_append_right _ (mem_pinsAt (List.mem_singleton.mpr rfl) eC)))).1
      refine ⟨m, ns_move hn eC p9, fun h' hsb => ⟨_, H5, ?_, qn⟩⟩
      obtain ⟨f0, f1, f2, f3', f4, f5⟩ := fC
      exact I9.unpinned.turned (t' := s9.toks) (fun b o hb e => (hsb.2 b hb).trans e) f0 f1 f3' f4 f5
    · refine thn (T.item (cxComp X N' scope cl C s3 (upd H2 l (.lst [])) fp) rfl rfl rfl hc i [] s5 σ5 H5 (fun _ _ => False) I5 (stat fr5) st5 go) fun r s6 ⟨u, hr, h6⟩ => ?_
      subst hr
      refine thn h6 fun _ s7 ⟨x, H7, I7, r7, y7, st7, fr7⟩ => ?_
      have I7' := I7.pinned (stat fr7) (T.obj _ _ st7)
      refine thn (hg cl C s3 _ fp _ s7 σ5 H7 x u _ I7' r7 (step x H7 y7)) fun _ s8 ⟨σ8, H8, I8, q8⟩ => ?_
      refine thn (ht cl C s3 _ fp _ s8 σ8 H8 _ I8 q8) fun b s9 ⟨H9, I9, q9⟩ => ?_
      have back : ∀ {s' : Shared} {H' : Hp}, Inv (cxComp X N' scope cl C s3 (upd H2 l (.lst [])) fp) ([] ++ pinsAt fp s7.heap) σ8 H' s' → tn (i + 1) s'.heap ∧ ∀ b ∈ fp, H' b = none := fun {s' H'} I' => by
        refine ⟨T.keep _ _ _ st7 fun b hb o e => (I'.pin (b, o) (List.mem_append_right _ (List.mem_append_right _ (mem_pinsAt hb e)))).1, fun b hb => ?_⟩
        obtain ⟨o, e, d⟩ := T.obj _ _ st7 b hb
        exact (I'.pin (b, o) (List.mem_append_right _ (List.mem_append_right _ (mem_pinsAt hb e)))).2.1
      cases b with
      | false =>
        obtain ⟨hl9, n9⟩ := q9
        obtain ⟨m', hm, w9⟩ := hN _ _ _ n9
        obtain ⟨t9, fr9⟩ := back I9
        exact ⟨m', hm, i + 1, ys, σ8, H9, I9.unpinned, t9, fr9, hl9, w9⟩
      | true =>
        refine thn (he cl C s3 _ fp _ s9 σ8 H9 _ I9 q9) fun xv s10 ⟨y, H10, I10, r10, hl10, hz, n10⟩ => ?_
        obtain ⟨m', hm, w10⟩ := hN _ _ _ n10
        refine thn (mt_append (X := cxComp X N' scope cl C s3 (upd H2 l (.lst [])) fp) _ s10 σ8 H10 (.ref l) [y] (.ref l) [xv] (fun v H' => H' = upd H10 l (.lst (ys ++ [y]))) I10 rfl (.cons r10 .nil) ⟨l, ys, y, rfl, rfl, hl10, hz, rfl⟩) fun _ s11 ⟨_, H11, I11, _, e11⟩ => ?_
        subst e11
        obtain ⟨t11, fr11⟩ := back I11
        exact ⟨m', hm, i + 1, ys ++ [y], σ8, _, I11.unpinned, t11, fr11, upd_same, w10⟩
  exact codeAny_compStart_list loop (T.self _ 0 _ _ _ st4 loop)

/-- x = [..] of a comprehension -/
theorem s_setcomp (k : Nat) (ok : CompOk X.N osc N' src scope) (hsc : X.env.scope = osc) (hc : X.calm = true) (hN : X.N.Nodup) (hi : QI X tg iter wi)
    (hg : ∀ cl C s₀ H₀ fp, QG (cxComp X N' scope cl C s₀ H₀ fp) tg g) (ht : ∀ cl C s₀ H₀ fp, QF (cxComp X N' scope cl C s₀ H₀ fp) ifs tc) (he : ∀ cl C s₀ H₀ fp, QE (cxComp X N' scope cl C s₀ H₀ fp) elt te)
    (hk : X.N[k]? = some y := by rfl) (hx : X.env.scope.names.lookup y = some .local := by rfl) (hsw : swapsWith (.ListComp elt [⟨tg, iter, ifs, 0⟩] scope pos) (some (.Name y py)) spos.line X.env = pure true := by rfl)
    (hs : ∀ x, foldedSetIterable iter X.env x = pure x := by intro _; rfl) : QS X (.Assign [.Name y py] (.ListComp elt [⟨tg, iter, ifs, 0⟩] scope pos) spos) (tAsg (tComp wi g tc te src) (gName k)) :=
  ⟨ps_setcomp ok hsc hc hi.o (fun cl C s₀ H₀ fp => (hg cl C s₀ H₀ fp).o) (fun cl C s₀ H₀ fp => (ht cl C s₀ H₀ fp).o) (fun cl C s₀ H₀ fp => (he cl C s₀ H₀ fp).o) hN hk hx hsw hs⟩
end

section
variable {X : Cx} {e o i tg : Expr} {te to ti : TE} {g : TG} {pos : Pos} {x : Str} {t : TSet}
theorem s_asg (he : QE X e te) (hg : QG X tg g) (hs : swapsWithSole [tg] e pos.line X.env = pure false := by rfl) (hw : swappedStores [tg] e X.env = pure none := by rfl)
    (h1 : (assignEach [tg] X.env).map (·.2) = [assign tg X.env] := by rfl) : QS X (.Assign [tg] e pos) (tAsg te g) := ⟨ps_asg he.o hg.o hs hw h1⟩
theorem g_sub (ho : QE X o to) (hi : QE X i ti) (hs : PSet X t) (ha : ∀ v, assign (.Subscript o i pos) X.env v = (do
      let ov ← holding [v] (eval o X.env)
      let iv ← holding [v, ov] (eval i X.env)
      standAt pos
      holding [v, ov, iv] (setItem ov iv v)
      release [v, ov, iv] []) := by intro _; rfl) : QG X (.Subscript o i pos) (gSub to ti t) := ⟨pg_sub ho.o hi.o hs ha⟩
theorem g_nameC (k : Nat) (hN : X.N.Nodup) (hi : X.N[k]? = some x := by rfl) (hx : X.env.scope.names.lookup x = some .cell := by rfl) (hf : X.fn x = true := by rfl) : QG X (.Name x pos) (gName k) := ⟨pg_name hN hi (.inr hx) (.inl hf)⟩
end
theorem any_range_bl (bs : List Bool) : (List.range bs.length).any (fun j => match bs[j]? with | some b => b | none => false) = bs.any id := by
  rw [Bool.eq_iff_iff, List.any_eq_true, List.any_eq_true]
  constructor
  · rintro ⟨j, hj, h⟩
    have hj' : j < bs.length := List.mem_range.mp hj
    refine ⟨bs[j], List.getElem_mem hj', ?_⟩
    simpa [hj'] using h
  · rintro ⟨b, hb, h⟩
    obtain ⟨j, hj, e⟩ := List.getElem_of_mem hb
    exact ⟨j, List.mem_range.mpr hj, by simp [hj, e]; simpa using h⟩
def atA (bs : List Bool) (j : Nat) : Bool := match bs[j]? with | some b => b | none => false
theorem call_anyB {X : Cx} (hc : X.calm = true) : CallR X (.builtin "any") (fun xs H Q => ∃ (p : Addr) (bs : List Bool), xs = [.ref p] ∧ SqL X.K H p (bs.map V.bl) ∧ Q (.bl (bs.any id)) H) := by
  intro pins s σ H xs us Q I r h
  obtain ⟨p, bs, rfl, hq, q⟩ := h
  obtain ⟨u, rfl, ru⟩ := vals1 r
  cases ru
  obtain ⟨its, rv, pl, hz⟩ := I.list hq
  have hp : p ≠ s.heap.objs.size := Nat.ne_of_lt pl.lt
  refine call_any_walk (wpAny_pyIter_list pl.isList ?_)
  refine ⟨s.heap.objs.size, _, _, _, _, _, atA bs, rfl, Walks.list (A := X.A.in1) (show X.A.in1.handled = none from I.ok.hd hc) _ p hp its.toArray, ⟨⟨_, Heap.get?_push_size _ rfl, rfl, rfl⟩, ?_⟩, ?_, fun h' tk hk => ?_⟩
  · obtain ⟨o, n, e, c, _, d⟩ := pl
    exact ⟨o, Heap.get?_push_of_some _ e, c, n, d⟩
  · intro i v s' Q' E' hP hQ
    obtain ⟨b, h1, rfl⟩ := vals_bl (i := i) (v := v) rv (by simpa using hP)
    refine wpAny_truthy_bool ?_
    have e : atA bs i = b := by unfold atA; rw [h1]
    rw [e] at hQ
    exact hQ
  · have hl : its.toArray.size = bs.length := by
      have := rv.length
      simp at this
      simp [this]
    have hq' : (List.range its.toArray.size).any (atA bs) = bs.any id := by rw [hl]; exact any_range_bl bs
    rw [hq']
    refine ⟨.bl (bs.any id), H, I.kept fun b o e => hk b o ?_ (Heap.get?_push_of_some _ e), rfl, q⟩
    intro z
    have : b = s.heap.objs.size := by simpa using z
    exact absurd (Heap.lt_size e) (by rw [this]; exact Nat.lt_irrefl _)

/-! a cut between two rows of a block -/
def tCut (t u : TS) : TS := fun D σ H => ∃ R : St → Hp → Prop, t { D with nx := R } σ H ∧ ∀ σ' H', R σ' H' → u D σ' H'
theorem b_cut {X : Cx} {st : Stmt} {sts : List Stmt} {sa sb : TS} (h1 : QS X st sa) (h2 : QB X sts sb) : QB X (st :: sts) (tCut sa sb) := by
  refine ⟨fun pins s σ H D I h => ?_⟩
  obtain ⟨R, ha, hb⟩ := h
  have h3 : PSs X sts (fun D' σ' H' => D' = D ∧ R σ' H') := fun pins s σ' H' D' I h => by
    obtain ⟨rfl, hR⟩ := h
    exact h2.o pins s σ' H' D' I (hb σ' H' hR)
  have e : (fun σ' H' => D = D ∧ R σ' H') = R := by
    funext σ' H'
    simp
  refine pss_cons h1.o h3 pins s σ H D I ?_
  show sa { D with nx := fun σ' H' => D = D ∧ R σ' H' } σ H
  rw [e]
  exact ha
section
variable {X : Cx}
/-- a text times a number from 1 on -/
theorem repS_one (z : Str) : repS z 1 = z := by
  unfold repS
  simp
theorem op_mul_strN : OpR X (binaryOp .Mult) (fun x y H Q => ∃ z n, x = .str z ∧ y = .int n ∧ 1 ≤ n ∧ n ≤ 1000 ∧ 0 < z.length ∧ z.length ≤ 1000 ∧ Q (.str (repS z n.toNat)) H) := by
  intro pins s σ H x y v u Q I rx ry h
  obtain ⟨z, n, rfl, rfl, h1, h2, h3, h4, q⟩ := h
  by_cases h : 1 < n
  · exact op_mul_str pins s σ H _ _ v u Q I rx ry ⟨z, n, rfl, rfl, h, h2, h3, h4, q⟩
  · have e : n = 1 := by omega
    subst e
    obtain ⟨t, rfl⟩ := rx
    obtain ⟨t', rfl⟩ := ry
    refine PySem.P.mul_str (by decide) (fun _ z => by simp at z) (fun _ z => by simp at z) ?_
    simp only [show ¬ (1 : Int) < 1 by decide, if_false, beq_self_eq_true, Bool.true_or, if_true]
    refine ⟨.str _, H, I, ⟨_, rfl⟩, ?_⟩
    have e : repS z (1 : Int).toNat = z := repS_one z
    rw [e] at q
    exact q
end

/-! the rules that speak of what the program was at first, with that named (for blocks) -/
section
variable {X : Cx} {K : PySem.W.Frag}
theorem ix_tupK (h : X.K = K) : IxR X (rIxT K) := by subst h; exact ix_tup
theorem call_len2 : CallR X (.builtin "len") (fun xs H Q => (∃ p ys, xs = [.ref p] ∧ (SqL X.K H p ys ∨ SqT X.K H p ys) ∧ Q (.int ys.length) H) ∨ ∃ z, xs = [.str z] ∧ z.length ≤ sizeLine ∧ Q (.int z.length) H) := call_len_seq.or call_len_str
end
end L2

set_option Elab.async false
set_option linter.all false
set_option maxRecDepth 100000
set_option maxHeartbeats 4000000
/-! a tuple times a number from 2 on -/
namespace L2
open PySem PySem.Spec PyProof.Rows
open Sem (wp)
open MeetsSeq MeetsSeq2 MeetsSeq3 Builtin
theorem noFill_tuple_mul : fillsNumberSlot (.type "tuple") "mul" = pure false :=
  PySem.fillsNumberSlot_seq (id := "tuple.__mul__") (r := some (.builtin "tuple.__rmul__")) PySem.F.slot_tuple_mul.lookup (by decide +kernel) PySem.F.slot_tuple_rmul.lookup (by decide +kernel)
theorem repeat_tuple : seqRepeat? (.type "tuple") = pure (some (.builtin "tuple.__mul__")) := by
  unfold seqRepeat?
  rw [PySem.seqSlot_of (T := "tuple") (name := "__mul__") (id := "tuple.__mul__") PySem.F.slot_tuple_mul.lookup (by decide +kernel), PySem.seqSlot_of (T := "tuple") (name := "__rmul__") (id := "tuple.__rmul__") PySem.F.slot_tuple_rmul.lookup (by decide +kernel)]
  rfl
theorem int___rmul___int_tuple (a : Int) (t : Tok) (l : Addr) (items : Array Value) (n : Nat) (dd : Option Addr) (sl : Array (Option Value)) :
    Meets (Builtin.«int.__rmul__» ⟨[.int a t, .ref l], []⟩) (fun _ R s => s.heap.get? l = some { cls := .type "tuple", dict := dd, data := .seq items n, slots := sl } ∧ R (.ok (.ret Value.notImplemented)) s) :=
  .of_wp fun prog w A R s h => by obtain ⟨hp, g, d, tk, os⟩ := s; obtain ⟨hl, h⟩ := h; wp_walk; exact ⟨_, rfl, h⟩
theorem tuple___mul__W (l : Addr) (items : Array Value) (n : Nat) (x : Int) (u : Tok) (dd : Option Addr) (sl : Array (Option Value)) (hc0 : ¬ (decide (x < -2 ^ 63) || decide (x ≥ 2 ^ 63)) = true) (h1 : ¬ (items.isEmpty || x == 1) = true) (h2 : ¬ (decide (x ≤ 0) || items.isEmpty) = true)
    (hc1 : ¬ (items.size : Int) * x > (2 ^ 63 - 1) / 8) (hc2 : ¬ Tuple.tupleTooMany ((items.size : Int) * x) = true) (hc3 : ((List.replicate x.toNat items).foldl (· ++ ·) #[]).size ≤ sizeLine) :
    Meets (Builtin.«tuple.__mul__» ⟨[.ref l, .int x u], []⟩) (fun _ R s => s.heap.get? l = some { cls := .type "tuple", dict := dd, data := .seq items n, slots := sl } ∧ R (.ok (.ret (Value.ref s.heap.objs.size))) { s with heap := s.heap.push { cls := Value.type "tuple", data := .seq ((List.replicate x.toNat items).foldl (· ++ ·) #[]) } }) :=
  .of_wp fun prog w A R s h => by
    obtain ⟨hp, g, d, tk, os⟩ := s; obtain ⟨hl, h⟩ := h; have f1 := AutoSeq1.idx_int; have f2 := AutoSeq1.sub_tuple_tuple
    wp_walk using wpAny_loadPart' hl
    rw [if_neg hc0]
    wp_walk using wpAny_loadPart' hl
    rw [if_neg hc1]
    wp_walk using wpAny_loadPart' hl
    exact ⟨_, rfl, h⟩
/-- a tuple times a number from 2 on -/
def rRepT (K : PySem.W.Frag) : R2 := fun x y H Q => ∃ a k xs, x = .ref a ∧ y = .int k ∧ SqT K H a xs ∧ xs ≠ [] ∧ 2 ≤ k ∧ k ≤ 1000 ∧ xs.length ≤ 1000 ∧ ∀ p, H p = none → Q (.ref p) (upd H p (.tup (List.replicate k.toNat xs).flatten))
theorem op_repT {X : Cx} : OpR X (binaryOp .Mult) (rRepT X.K) := by
  intro pins s σ H x y v u Q I rx ry h
  obtain ⟨a, k, xs, rfl, rfl, ha, hx, k2, k1000, hz, q⟩ := h
  cases rx
  obtain ⟨t, rfl⟩ := ry
  obtain ⟨its, r, p1, _⟩ := I.tuple ha
  have hl := r.length
  have hne : its ≠ [] := fun z => hx (r.nil_iff.mp z)
  obtain ⟨⟨cls, dd, data, sl⟩, ho, hc, n, hd⟩ := id p1
  simp only at hc hd
  subst hc hd
  have he : its.toArray.isEmpty = false := by simpa using hne
  have f0 : ∀ m : Nat, List.foldl (fun x1 x2 => x1 ++ x2) #[] (List.replicate m its.toArray) = (List.replicate m its).flatten.toArray := fun m => by
    have := foldl_rep its m []
    rw [List.nil_append] at this
    exact this
  have hs : (List.replicate k.toNat its).flatten.length = k.toNat * its.length := len_rep its k.toNat
  have hk : k.toNat * its.length ≤ 1000 * 1000 := Nat.mul_le_mul (by omega) (by omega)
  have hS : 1000 * 1000 ≤ sizeLine := by decide
  have hki : (its.toArray.size : Int) * k ≤ 1000 * 1000 := by
    rw [List.size_toArray]
    exact Int.mul_le_mul (by omega) k1000 (by omega) (by omega)
  refine wpAny_binaryOp_repeat_ref (T := "tuple") (U := "int") (by decide) ⟨_, ho, rfl⟩ (fun s' => typeIs_int s' k t) noFill_tuple_mul PySem.F.fills_int_mul PySem.F.slot_int_rmul repeat_tuple PySem.F.slot_int_index.lookup
    (call_meets PySem.F.slot_int_rmul (typeIs_int s k t) PySem.F.entry_int_rmul (PySem.F.args_int_rmul_2 _ _) (int___rmul___int_tuple k t a its.toArray n dd sl)
      ⟨ho, rfl, ⟨_, ho, rfl⟩, call_meets PySem.F.slot_tuple_mul ⟨_, ho, rfl⟩ PySem.F.entry_tuple_mul (PySem.F.args_tuple_mul_2 _ _) (tuple___mul__W a its.toArray n k t dd sl ?_ ?_ ?_ ?_ ?_ ?_) ⟨ho, ?_⟩⟩)
  · rw [decide_eq_false (by omega), decide_eq_false (by omega)]; decide
  · rw [he, beq_eq_false_iff_ne.mpr (by omega : k ≠ 1)]; decide
  · rw [he, decide_eq_false (by omega)]; decide
  · have : (1000 * 1000 : Int) ≤ (2 ^ 63 - 1) / 8 := by decide
    omega
  · unfold Tuple.tupleTooMany
    have : (1000 * 1000 : Int) ≤ (sizeLine : Int) := by exact_mod_cast hS
    rw [decide_eq_false (by omega)]; decide
  · rw [f0, List.size_toArray, hs]; omega
  · rw [f0]
    refine ⟨.ref s.heap.objs.size, _, I.laid (t' := s.toks) (o := .tup (List.replicate k.toNat xs).flatten) (fun b ob q => Heap.get?_push_of_some _ q) (Nat.le_refl _) ?_, rfl, q _ (I.hok.fresh (Nat.le_refl _))⟩
    exact ⟨by rw [len_rep, hl]; omega, _, r.rep k.toNat, IsTup.new _ _⟩
end L2

set_option Elab.async false
set_option linter.all false
set_option maxRecDepth 100000
set_option maxHeartbeats 4000000
/-! names: the mathematics -/
namespace RW
open PySem PySem.Spec PyProof.Rows L2
def letterC (c : Nat) : Bool := decide (97 ≤ c) && decide (c ≤ 122)
def takenL : List Str := ["if", "and", "not", "never"]
def isNameB (x : Str) : Bool := decide (1 ≤ x.length) && decide (x.length ≤ 8) && x.cps.toList.all letterC && !(takenL.any fun y => decide (y = x))
/-- a hand stands at a, with at most n turns -/
def Hand (H : Hp) (a : Addr) (n : Int) : Prop := ∃ x m t : Int, H a = some (.lst [.int x, .int m, .int t]) ∧ 0 ≤ m ∧ m < 2 ^ 63 ∧ 0 ≤ t ∧ t ≤ n
/-- all but what stands at a is kept -/
def Keep (a : Addr) (H H' : Hp) : Prop := ∀ b o, b ≠ a → H b = some o → H' b = some o
theorem Keep.refl (a : Addr) (H : Hp) : Keep a H H := fun _ _ _ h => h
theorem Keep.trans {a : Addr} {H H1 H2 : Hp} (x : Keep a H H1) (y : Keep a H1 H2) : Keep a H H2 := fun b o n h => y b o n (x b o n h)
theorem Keep.upd (a : Addr) (H : Hp) (o : HO) : Keep a H (upd H a o) := fun b u n h => by rw [upd_ne n]; exact h
theorem Keep.new {a p : Addr} {H : Hp} {o : HO} (h : H p = none) : Keep a H (L2.upd H p o) := fun b u n e => by rw [upd_ne (ne_of_none e h)]; exact e
theorem Keep.of {a : Addr} {H H' : Hp} (h : Same H H') : Keep a H H' := fun b o _ e => h b o e
theorem Hand.ne {H : Hp} {a p : Addr} {n : Int} (h : Hand H a n) (e : H p = none) : p ≠ a := by
  obtain ⟨x, m, t, h, _⟩ := h
  exact fun z => by rw [z, h] at e; cases e
theorem Hand.new {H : Hp} {a p : Addr} {n : Int} {o : HO} (h : Hand H a n) (e : H p = none) : Hand (upd H p o) a n := by
  have ne := h.ne e
  obtain ⟨x, m, t, h, r⟩ := h
  exact ⟨x, m, t, by rw [upd_ne (Ne.symm ne)]; exact h, r⟩
theorem Hand.same {H H' : Hp} {a : Addr} {n : Int} (h : Hand H a n) (s : Same H H') : Hand H' a n := by
  obtain ⟨x, m, t, h, r⟩ := h
  exact ⟨x, m, t, s _ _ h, r⟩
theorem Hand.mono {H : Hp} {a : Addr} {n n' : Int} (h : Hand H a n) (l : n ≤ n') : Hand H a n' := by
  obtain ⟨x, m, t, h, h1, h2, h3, h4⟩ := h
  exact ⟨x, m, t, h, h1, h2, h3, by omega⟩
theorem Keep.sqL {K : PySem.W.Frag} {a b : Addr} {H H' : Hp} {xs : List V} (k : Keep a H H') (n : b ≠ a) (h : SqL K H b xs) : SqL K H' b xs := by
  rcases h with (h | ⟨o, h⟩) | h
  · exact .inl (.inl (k _ _ n h))
  · exact .inl (.inr ⟨o, k _ _ n h⟩)
  · exact .inr h
theorem Hand.updNe {H : Hp} {a p : Addr} {n : Int} {o : HO} (h : Hand H a n) (e : p ≠ a) : Hand (upd H p o) a n := by
  obtain ⟨x, m, t, h, r⟩ := h
  exact ⟨x, m, t, by rw [upd_ne (Ne.symm e)]; exact h, r⟩
theorem Keep.updNew {a p : Addr} {H H' : Hp} {o : HO} (k : Keep a H H') (e : H p = none) : Keep a H (L2.upd H' p o) := fun b u n h => by
  rw [upd_ne (ne_of_none h e)]
  exact k b u n h
def lettersS : Str := "abcdefghijklmnopqrstuvwxyz"
def one (c : Nat) : Str := ⟨#[c]⟩

theorem Same.new {H : Hp} {p : Addr} {o : HO} (h : H p = none) : Same H (L2.upd H p o) := fun b u e => by rw [upd_ne (ne_of_none e h)]; exact e
/-- a def of the text: its address, its object, its name -/
structure At (K : PySem.W.Frag) (mg : Str → Option Value) (x : Str) (st : Stmt) (ps : List Str) (f : Addr) (fd : FuncData) : Prop where
  fn : Fun K x x st f fd
  b : Binds K fd ps []
  mg : mg x = some (.ref f)
  kp : PySem.W.keepIn K (.ref f) = true
theorem atI_mem {α : Type} {xs : List α} {d : Int} (h0 : 0 ≤ d) (h1 : d < xs.length) : ∃ v, atI xs d = some v ∧ v ∈ xs := by
  obtain ⟨k, rfl⟩ : ∃ k : Nat, d = (k : Int) := ⟨d.toNat, by omega⟩
  have hk : k < xs.length := by omega
  exact ⟨xs[k], atI_nat (by simp [hk]), List.getElem_mem hk⟩
theorem at0 {α : Type} {x : α} {xs : List α} : atI (x :: xs) 0 = some x := atI_nat (j := 0) rfl
theorem at1 {α : Type} {x y : α} {xs : List α} : atI (x :: y :: xs) 1 = some y := atI_nat (j := 1) rfl
theorem tru {b : Bool} (h : ¬ b = true) : b = false := by simpa using h
/-! things of any kind -/
inductive D where
  | non | bl (b : Bool) | int (i : Int) | str (x : Str) | tup (ds : List D) | oth
inductive Rep (H : Hp) : V → D → Prop where
  | non : Rep H .non .non
  | bl (b : Bool) : Rep H (.bl b) (.bl b)
  | int (i : Int) : Rep H (.int i) (.int i)
  | str (x : Str) (h : x.length ≤ 1000) : Rep H (.str x) (.str x)
  | tup {p : Addr} {vs : List V} {ds : List D} (h : H p = some (.tup vs)) (l : vs.length = ds.length) (b : ds.length ≤ 1000) (r : ∀ (i : Nat) (v : V) (d : D), vs[i]? = some v → ds[i]? = some d → Rep H v d) : Rep H (.ref p) (.tup ds)
  | lst {p : Addr} {vs : List V} (h : H p = some (.lst vs)) : Rep H (.ref p) .oth
  | dK {p : Addr} {kvs : List (Key × V)} (h : H p = some (.dK kvs)) : Rep H (.ref p) .oth
structure Mono (H H' : Hp) : Prop where
  tup : ∀ p xs, H p = some (.tup xs) → H' p = some (.tup xs)
  lst : ∀ p xs, H p = some (.lst xs) → ∃ ys, H' p = some (.lst ys)
  dK : ∀ p xs, H p = some (.dK xs) → ∃ ys, H' p = some (.dK ys)
theorem Mono.refl (H : Hp) : Mono H H := ⟨fun _ _ h => h, fun _ xs h => ⟨xs, h⟩, fun _ xs h => ⟨xs, h⟩⟩
theorem Mono.trans {H H1 H2 : Hp} (a : Mono H H1) (b : Mono H1 H2) : Mono H H2 := ⟨fun p xs h => b.tup p xs (a.tup p xs h), fun p xs h => let ⟨ys, e⟩ := a.lst p xs h; b.lst p ys e, fun p xs h => let ⟨ys, e⟩ := a.dK p xs h; b.dK p ys e⟩
theorem Mono.of {H H' : Hp} (s : Same H H') : Mono H H' := ⟨fun p xs h => s _ _ h, fun p xs h => ⟨xs, s _ _ h⟩, fun p xs h => ⟨xs, s _ _ h⟩⟩
theorem Mono.new {H : Hp} {p : Addr} {o : HO} (h : H p = none) : Mono H (upd H p o) := .of (Same.new h)
theorem Mono.lset {H : Hp} {p : Addr} {xs ys : List V} (h : H p = some (.lst xs)) : Mono H (upd H p (.lst ys)) := by
  refine ⟨fun q zs e => ?_, fun q zs e => ?_, fun q zs e => ?_⟩
  · by_cases hq : q = p
    · subst hq; rw [h] at e; cases e
    · rw [upd_ne hq]; exact e
  · by_cases hq : q = p
    · subst hq; exact ⟨ys, upd_same⟩
    · rw [upd_ne hq]; exact ⟨zs, e⟩
  · by_cases hq : q = p
    · subst hq; rw [h] at e; cases e
    · rw [upd_ne hq]; exact ⟨zs, e⟩
theorem Mono.keep {H H' : Hp} {a : Addr} {n m : Int} (k : Keep a H H') (h : Hand H a n) (h' : Hand H' a m) : Mono H H' := by
  obtain ⟨x, y, z, h, _⟩ := h
  obtain ⟨x', y', z', h', _⟩ := h'
  refine ⟨fun q zs e => ?_, fun q zs e => ?_, fun q zs e => ?_⟩
  · exact k q _ (fun hq => by subst hq; rw [h] at e; cases e) e
  · by_cases hq : q = a
    · subst hq; exact ⟨_, h'⟩
    · exact ⟨zs, k q _ hq e⟩
  · exact ⟨zs, k q _ (fun hq => by subst hq; rw [h] at e; cases e) e⟩
theorem Rep.mono {H H' : Hp} {v : V} {d : D} (h : Rep H v d) (m : Mono H H') : Rep H' v d := by
  induction h with
  | non => exact .non
  | bl b => exact .bl b
  | int i => exact .int i
  | str x h => exact .str x h
  | tup h l b _ ih => exact .tup (m.tup _ _ h) l b ih
  | lst h => obtain ⟨ys, e⟩ := m.lst _ _ h; exact .lst e
  | dK h => obtain ⟨ys, e⟩ := m.dK _ _ h; exact .dK e
theorem Rep.same {H H' : Hp} {v : V} {d : D} (h : Rep H v d) (s : Same H H') : Rep H' v d := h.mono (.of s)
def RepL (H : Hp) (vs : List V) (ds : List D) : Prop := vs.length = ds.length ∧ ∀ (i : Nat) (v : V) (d : D), vs[i]? = some v → ds[i]? = some d → Rep H v d
theorem RepL.nil {H : Hp} : RepL H [] [] := ⟨rfl, fun i v d e => by simp at e⟩
theorem RepL.cons {H : Hp} {v : V} {d : D} {vs : List V} {ds : List D} (h : Rep H v d) (r : RepL H vs ds) : RepL H (v :: vs) (d :: ds) := by
  refine ⟨by simp [r.1], fun i w e h1 h2 => ?_⟩
  cases i with
  | zero => simp at h1 h2; subst h1; subst h2; exact h
  | succ i => exact r.2 i w e (by simpa using h1) (by simpa using h2)
theorem RepL.head {H : Hp} {v : V} {d : D} {vs : List V} {ds : List D} (r : RepL H (v :: vs) (d :: ds)) : Rep H v d ∧ RepL H vs ds :=
  ⟨r.2 0 v d rfl rfl, by have := r.1; simp at this; exact this, fun i w e h1 h2 => r.2 (i + 1) w e (by simpa using h1) (by simpa using h2)⟩
theorem RepL.mono {H H' : Hp} {vs : List V} {ds : List D} (r : RepL H vs ds) (m : Mono H H') : RepL H' vs ds := ⟨r.1, fun i v d h1 h2 => (r.2 i v d h1 h2).mono m⟩
theorem RepL.append {H : Hp} {vs us : List V} {ds es : List D} (r : RepL H vs ds) (q : RepL H us es) : RepL H (vs ++ us) (ds ++ es) := by
  refine ⟨by rw [List.length_append, List.length_append, r.1, q.1], fun i v d h1 h2 => ?_⟩
  by_cases hi : i < vs.length
  · rw [List.getElem?_append_left hi] at h1
    rw [List.getElem?_append_left (by rw [← r.1]; exact hi)] at h2
    exact r.2 i v d h1 h2
  · rw [List.getElem?_append_right (by omega)] at h1
    rw [List.getElem?_append_right (by rw [← r.1]; omega), ← r.1] at h2
    exact q.2 _ v d h1 h2
theorem RepL.take {H : Hp} {vs : List V} {ds : List D} (r : RepL H vs ds) (n : Nat) : RepL H (vs.take n) (ds.take n) := by
  refine ⟨by rw [List.length_take, List.length_take, r.1], fun i v d h1 h2 => ?_⟩
  rw [List.getElem?_take] at h1 h2
  split at h1
  · rename_i h; rw [if_pos h] at h2; exact r.2 i v d h1 h2
  · cases h1
theorem RepL.drop {H : Hp} {vs : List V} {ds : List D} (r : RepL H vs ds) (n : Nat) : RepL H (vs.drop n) (ds.drop n) := by
  refine ⟨by rw [List.length_drop, List.length_drop, r.1], fun i v d h1 h2 => ?_⟩
  rw [List.getElem?_drop] at h1 h2
  exact r.2 _ v d h1 h2
theorem RepL.get {H : Hp} {vs : List V} {ds : List D} {i : Nat} {v : V} (r : RepL H vs ds) (h : vs[i]? = some v) : ∃ d, ds[i]? = some d ∧ Rep H v d := by
  have hi : i < vs.length := by
    rcases Nat.lt_or_ge i vs.length with q | q
    · exact q
    · rw [List.getElem?_eq_none q] at h; cases h
  have hd : i < ds.length := by rw [← r.1]; exact hi
  exact ⟨ds[i], by simp [hd], r.2 i v _ h (by simp [hd])⟩
theorem Rep.mkL {H : Hp} {p : Addr} {vs : List V} {ds : List D} (h : H p = some (.tup vs)) (b : ds.length ≤ 1000) (r : RepL H vs ds) : Rep H (.ref p) (.tup ds) := .tup h r.1 b r.2
theorem Rep.ofT {H : Hp} {v : V} {ds : List D} (h : Rep H v (.tup ds)) : ∃ p vs, v = .ref p ∧ H p = some (.tup vs) ∧ RepL H vs ds ∧ ds.length ≤ 1000 := by
  cases h with
  | tup h l b r => exact ⟨_, _, rfl, h, ⟨l, r⟩, b⟩
theorem Rep.of1 {H : Hp} {v : V} {d : D} (h : Rep H v (.tup [d])) : ∃ p x, v = .ref p ∧ H p = some (.tup [x]) ∧ Rep H x d := by
  obtain ⟨p, vs, rfl, hp, r, _⟩ := h.ofT
  match vs, r with
  | [x], r => exact ⟨p, x, rfl, hp, r.head.1⟩
  | [], r => exact absurd r.1 (by simp)
  | _ :: _ :: _, r => exact absurd r.1 (by simp)
theorem Rep.of2 {H : Hp} {v : V} {d e : D} (h : Rep H v (.tup [d, e])) : ∃ p x y, v = .ref p ∧ H p = some (.tup [x, y]) ∧ Rep H x d ∧ Rep H y e := by
  obtain ⟨p, vs, rfl, hp, r, _⟩ := h.ofT
  match vs, r with
  | [x, y], r => exact ⟨p, x, y, rfl, hp, r.head.1, r.head.2.head.1⟩
  | [], r => exact absurd r.1 (by simp)
  | [_], r => exact absurd r.1 (by simp)
  | _ :: _ :: _ :: _, r => exact absurd r.1 (by simp)
theorem Rep.mk1 {H : Hp} {p : Addr} {x : V} {d : D} (h : H p = some (.tup [x])) (a : Rep H x d) : Rep H (.ref p) (.tup [d]) := .mkL h (by simp) (.cons a .nil)
theorem Rep.mk2 {H : Hp} {p : Addr} {x y : V} {d e : D} (h : H p = some (.tup [x, y])) (a : Rep H x d) (b : Rep H y e) : Rep H (.ref p) (.tup [d, e]) := .mkL h (by simp) (.cons a (.cons b .nil))
def isTupB : D → Bool | .tup _ => true | _ => false
def isIntB : D → Bool | .int _ => true | .bl _ => true | _ => false
def isBlB : D → Bool | .bl _ => true | _ => false
def isStrB : D → Bool | .str _ => true | _ => false
theorem Rep.isi {K : PySem.W.Frag} {H : Hp} {v : V} {d : D} (h : Rep H v d) : ∃ t, TyOf K H v t ∧ PySem.W.kitOne K t (.type "tuple") = some (isTupB d) ∧ PySem.W.kitOne K t (.type "int") = some (isIntB d) ∧ PySem.W.kitOne K t (.type "bool") = some (isBlB d) ∧ PySem.W.kitOne K t (.type "str") = some (isStrB d) := by
  cases h with
  | non => exact ⟨_, .non, rfl, rfl, rfl, rfl⟩
  | bl b => exact ⟨_, .bl b, rfl, rfl, rfl, rfl⟩
  | int i => exact ⟨_, .int i, rfl, rfl, rfl, rfl⟩
  | str x _ => exact ⟨_, .str x, rfl, rfl, rfl, rfl⟩
  | tup h _ _ _ => exact ⟨_, .tup h, rfl, rfl, rfl, rfl⟩
  | lst h => exact ⟨_, .lst h, rfl, rfl, rfl, rfl⟩
  | dK h => exact ⟨_, .dK h, rfl, rfl, rfl, rfl⟩
/-! what the program asks of things -/
def isNumB : D → Bool | .int _ => true | _ => false
def isWholeB (d : D) (lo hi : Int) : Bool := match d with | .int i => decide (lo ≤ i) && decide (i ≤ hi) | _ => false
def isRowB (d : D) (lo hi : Int) : Bool := match d with | .tup ds => decide (lo ≤ (ds.length : Int)) && decide ((ds.length : Int) ≤ hi) | _ => false
def headStrB : D → Bool | .tup (.str _ :: _) => true | _ => false
def isWordedB (d : D) (n : Int) : Bool := isRowB d n n && headStrB d
def isNameD : D → Bool | .str x => isNameB x | _ => false
def namingL : List Str := ["by", "from", "to", "mark"]
def isPlainB : D → Bool
  | .tup [.str w, x] => if w = "long" then isWholeB x 0 99 else (namingL.any fun y => decide (y = w)) && isNameD x
  | _ => false
def isCondB (d : D) : Bool := match d with
  | .tup [.str w, x] => if w = "not" then isPlainB x else isPlainB d
  | _ => false
def areCondsB : D → Bool | .tup ds => decide (ds.length ≤ 4) && ds.all isCondB | _ => false
def asks0 : D → Bool | .tup [.str w, _] => decide (w = "to") | _ => false
def asksB : D → Bool | .tup [.str w, x] => if w = "not" then asks0 x else decide (w = "to") | _ => false
def isWorthB : D → Bool | .non => true | d => isWholeB d (-999) 999
def anyAsks : D → Bool | .tup ds => ds.any asksB | _ => false
def isLikingB : D → Bool | .tup [c, x] => areCondsB c && isWorthB x && !anyAsks c | _ => false
def isActB : D → Bool
  | .tup [.str w] => decide (w = "keep")
  | .tup [.str w, x] => (decide (w = "put") || decide (w = "strike")) && isNameD x
  | _ => false
def isHandB : D → Bool | .tup [c, x] => areCondsB c && isActB x | _ => false
theorem lt_a (c : Nat) : decide (({ cps := #[c] } : Str).cps.toList < (Str.ofString "a").cps.toList) = decide (c < 97) := by
  have e : (Str.ofString "a").cps.toList = [97] := by decide +kernel
  rw [e]
  show decide ([c] < [97]) = _
  by_cases h : c < 97
  · rw [decide_eq_true h]
    exact decide_eq_true (List.cons_lt_cons_iff.mpr (.inl h))
  · rw [decide_eq_false h]
    refine decide_eq_false fun z => ?_
    rcases List.cons_lt_cons_iff.mp z with q | ⟨_, q⟩
    · exact h q
    · exact absurd q (by simp)
theorem lt_z (c : Nat) : decide ((Str.ofString "z").cps.toList < ({ cps := #[c] } : Str).cps.toList) = decide (122 < c) := by
  have e : (Str.ofString "z").cps.toList = [122] := by decide +kernel
  rw [e]
  show decide ([122] < [c]) = _
  by_cases h : 122 < c
  · rw [decide_eq_true h]
    exact decide_eq_true (List.cons_lt_cons_iff.mpr (.inl h))
  · rw [decide_eq_false h]
    refine decide_eq_false fun z => ?_
    rcases List.cons_lt_cons_iff.mp z with q | ⟨_, q⟩
    · exact h q
    · exact absurd q (by simp)
theorem plain_eq {w : Str} {x : D} : isPlainB (.tup [.str w, x]) = if w = "long" then isWholeB x 0 99 else (namingL.any fun y => decide (y = w)) && isNameD x := rfl
theorem cond_eq {w : Str} {x : D} : isCondB (.tup [.str w, x]) = if w = "not" then isPlainB x else isPlainB (.tup [.str w, x]) := rfl
theorem conds_eq {ds : List D} : areCondsB (.tup ds) = (decide (ds.length ≤ 4) && ds.all isCondB) := rfl
theorem liking_eq {c x : D} : isLikingB (.tup [c, x]) = (areCondsB c && isWorthB x && !anyAsks c) := rfl
theorem hand_eq {c x : D} : isHandB (.tup [c, x]) = (areCondsB c && isActB x) := rfl
theorem act_eq {w : Str} {x : D} : isActB (.tup [.str w, x]) = ((decide (w = "put") || decide (w = "strike")) && isNameD x) := rfl
theorem nameD_eq {x : Str} : isNameD (.str x) = isNameB x := rfl
theorem dec_str' {x y : Str} : decide (V.str x = V.str y) = decide (x = y) := by
  by_cases h : x = y
  · subst h; rw [decide_eq_true rfl, decide_eq_true rfl]
  · rw [decide_eq_false h, decide_eq_false fun z => h (V.str.inj z)]
theorem row2 {d : D} (h : isRowB d 2 2 = true) : ∃ a b, d = .tup [a, b] := by
  cases d with
  | tup ds =>
    have hl : ds.length = 2 := by
      simp [isRowB] at h
      omega
    match ds, hl with
    | [a, b], _ => exact ⟨a, b, rfl⟩
  | _ => cases h
theorem worded2 {d : D} (h : isWordedB d 2 = true) : ∃ x e, d = .tup [.str x, e] := by
  unfold isWordedB at h
  rw [Bool.and_eq_true] at h
  obtain ⟨a, b, rfl⟩ := row2 h.1
  cases a with
  | str x => exact ⟨x, b, rfl⟩
  | _ => exact absurd h.2 (by simp [headStrB])
theorem worded1 {d : D} (h : isWordedB d 1 = true) : ∃ x, d = .tup [.str x] := by
  unfold isWordedB at h
  rw [Bool.and_eq_true] at h
  cases d with
  | tup ds =>
    have hl : ds.length = 1 := by
      have := h.1
      simp [isRowB] at this
      omega
    match ds, hl with
    | [.str x], _ => exact ⟨x, rfl⟩
    | [.non], _ => exact absurd h.2 (by simp [headStrB])
    | [.bl _], _ => exact absurd h.2 (by simp [headStrB])
    | [.int _], _ => exact absurd h.2 (by simp [headStrB])
    | [.tup _], _ => exact absurd h.2 (by simp [headStrB])
    | [.oth], _ => exact absurd h.2 (by simp [headStrB])
  | _ => cases h.1
theorem plain_form (d : D) (h : isPlainB d = true) : ∃ x e, d = .tup [.str x, e] := by
  unfold isPlainB at h
  split at h
  · exact ⟨_, _, rfl⟩
  · cases h
theorem cond_form (d : D) (h : isCondB d = true) : ∃ x e, d = .tup [.str x, e] := by
  unfold isCondB at h
  split at h
  · exact ⟨_, _, rfl⟩
  · cases h
theorem worded_mk {x : Str} {e : D} : isWordedB (.tup [.str x, e]) 2 = true := rfl
theorem plain_no {d : D} (h : isWordedB d 2 = false) : isPlainB d = false := by
  cases hp : isPlainB d with
  | false => rfl
  | true =>
    obtain ⟨x, e, rfl⟩ := plain_form d hp
    rw [worded_mk] at h; cases h
theorem cond_no {d : D} (h : isWordedB d 2 = false) : isCondB d = false := by
  cases hp : isCondB d with
  | false => rfl
  | true =>
    obtain ⟨x, e, rfl⟩ := cond_form d hp
    rw [worded_mk] at h; cases h
theorem naming_in {x : Str} : (namingL.any fun y => decide (y = x)) = (if false = true then !inV (.str x) [.str "by", .str "from", .str "to", .str "mark"] else inV (.str x) [.str "by", .str "from", .str "to", .str "mark"]) := by
  show _ = inV (.str x) (namingL.map V.str)
  unfold inV
  rw [List.any_map]
  rfl
theorem act_in {x : Str} : inV (V.str x) [V.str "put", V.str "strike"] = (decide (x = "put") || decide (x = "strike")) := by
  have : inV (V.str x) [V.str "put", V.str "strike"] = (decide (("put" : Str) = x) || (decide (("strike" : Str) = x) || false)) := rfl
  rw [this, Bool.or_false]
  congr 1 <;> (rw [Bool.eq_iff_iff, decide_eq_true_iff, decide_eq_true_iff]; exact eq_comm)
theorem plain_not {e : D} : isPlainB (.tup [.str "not", e]) = false := by
  have h1 : ¬ ("not" : Str) = "long" := by decide +kernel
  have h2 : (namingL.any fun y => decide (y = ("not" : Str))) = false := by decide +kernel
  rw [plain_eq, if_neg h1, h2]; rfl
theorem liking_no {d : D} (h : isRowB d 2 2 = false) : isLikingB d = false := by
  unfold isLikingB
  split
  · simp [isRowB] at h
  · rfl
theorem hand_no {d : D} (h : isRowB d 2 2 = false) : isHandB d = false := by
  unfold isHandB
  split
  · simp [isRowB] at h
  · rfl
theorem act_no {d : D} (h1 : isWordedB d 1 = false) (h2 : isWordedB d 2 = false) : isActB d = false := by
  unfold isActB
  split
  · cases h1
  · cases h2
  · rfl
theorem all_map_id {α : Type} {ds : List α} {g : α → Bool} : (ds.map g).all id = ds.all g := by rw [List.all_map]; rfl
def spAny (g : D → Bool) : Sp := fun vs H Q _ => ∃ v d, vs = [v] ∧ Rep H v d ∧ ∀ H', Same H H' → Q (.bl (g d)) H'

theorem cut_take {xs : List V} {n : Nat} : cutV xs none (some (n : Int)) = xs.take n := by
  unfold cutV
  have e1 : HT.sIx xs.length 0 none = 0 := rfl
  have e2 : HT.sIx xs.length xs.length (some (n : Int)) = min n xs.length := by
    unfold HT.sIx
    have h : ¬ (n : Int) < 0 := by omega
    simp only [if_neg h, Int.toNat_natCast]
  rw [e1, e2, List.drop_zero, Nat.sub_zero, List.take_eq_take_iff]
  omega
/-- a comprehension that draws -/
theorem comp_draws {N : Nat} {a : Addr} {m c : Int} {Pd : Nat → D → Prop} {H : Hp} {te : TE} {src : List (Option Nat)} {σ σr : L2.St} {Q : VK} (hs : capt src σ = none :: σr) (hH : Hand H a m) (hN : N ≤ 900) (hc : 0 ≤ c)
    (he : ∀ (i : Nat) (H1 : Hp) (Q1 : VK), i < N → Hand H1 a (m + c * i) → Keep a H H1 → (∀ v d H2, Rep H2 v d → Pd i d → Hand H2 a (m + c * i + c) → Keep a H1 H2 → Q1 v H2) → te (some (.int (i : Int)) :: σr) H1 Q1)
    (q : ∀ l vs ds H', H l = none → H' l = some (.lst vs) → RepL H' vs ds → ds.length = N → (∀ i d, ds[i]? = some d → Pd i d) → Hand H' a (m + c * N) → Keep a H H' → Q (.ref l) H') : CompGo (gName 0) tYes te src σ Q (Itr 0 N) H := by
  refine comp_by wk_rng (fun l i ys σ' H' => (∃ o, σ' = o :: σr) ∧ (∃ ds : List D, RepL H' ys ds ∧ ds.length = i ∧ ∀ j d, ds[j]? = some d → Pd j d) ∧ Hand H' a (m + c * i) ∧ Keep a H H') ?_ (fun _ _ _ _ _ _ _ => trivial) ?_ ?_
  · exact fun l hl => ⟨⟨_, hs⟩, ⟨[], RepL.nil, rfl, fun j d z => by simp at z⟩, (hH.new hl).mono (by simp), Keep.new hl⟩
  · rintro l i y ys σ' H1 hl hi rfl ⟨⟨o, rfl⟩, ⟨ds, hr, hl2, hp⟩, hH1, k1⟩ hl'
    have nl := hH.ne hl
    rw [Int.zero_add]
    refine he i H1 _ hi hH1 k1 fun v d H2 rv pd hH2 k2 => ?_
    have hl2' : H2 l = some (.lst ys) := k2 _ _ nl hl'
    have m2 : Mono H1 H2 := Mono.keep k2 hH1 hH2
    have m3 : Mono H2 (upd H2 l (.lst (ys ++ [v]))) := Mono.lset hl2'
    refine ⟨hl2', ?_, ⟨_, rfl⟩, ⟨ds ++ [d], ((hr.mono m2).append (.cons rv .nil)).mono m3, ?_, ?_⟩, (hH2.updNe nl).mono ?_, (k1.trans k2).updNew hl⟩
    · have := hr.1
      exact small1000 (by omega)
    · rw [List.length_append, hl2]; rfl
    · intro j e he
      by_cases hj : j < ds.length
      · rw [List.getElem?_append_left hj] at he
        exact hp j e he
      · rw [List.getElem?_append_right (by omega)] at he
        have hj2 : j = ds.length := by
          rcases Nat.lt_or_ge ds.length j with z | z
          · rw [List.getElem?_eq_none (by simp; omega)] at he; cases he
          · omega
        subst hj2
        simp at he
        subst he
        rw [hl2]; exact pd
    · rw [show ((i + 1 : Nat) : Int) = (i : Int) + 1 by omega, Int.mul_add, Int.mul_one]
      omega
  · rintro l ys σ' H1 hl ⟨⟨o, rfl⟩, ⟨ds, hr, hl2, hp⟩, hH1, k1⟩ hl'
    exact q l ys ds H1 hl hl' hr hl2 hp hH1 k1

/-- a comprehension that asks a truth of each thing of a row -/
theorem comp_truths {J : It} {vs : List V} {ds : List D} {g : D → Bool} {ok : Hp → Prop} {H : Hp} {te : TE} {src : List (Option Nat)} {σ : L2.St} {Q : VK} (wk : Wk J vs.length (fun i x => vs[i]? = some x) ok) (hok : ∀ H', Same H H' → ok H') (r : RepL H vs ds) (hl : ds.length ≤ 1000) (e : capt src σ = [none])
    (he : ∀ (x : V) (d : D) (H1 : Hp) (Q1 : VK), Same H H1 → Rep H1 x d → d ∈ ds → (∀ H2, Same H1 H2 → Q1 (.bl (g d)) H2) → te [some x] H1 Q1)
    (q : ∀ l H', Same H H' → H l = none → H' l = some (.lst ((ds.map g).map V.bl)) → Q (.ref l) H') : CompGo (gName 0) tYes te src σ Q J H := by
  refine comp_by wk (fun l i ys σ' H' => (∃ o, σ' = [o]) ∧ ys = ((ds.take i).map g).map V.bl ∧ Same H H') ?_ ?_ ?_ ?_
  · exact fun l h' => ⟨⟨none, e⟩, rfl, Same.new h'⟩
  · exact fun l i ys σ' H' _ p => hok H' p.2.2
  · rintro l i y ys σ' H1 h' hi hy ⟨⟨o, rfl⟩, rfl, s1⟩ hl'
    obtain ⟨d, hd, rd⟩ := r.get hy
    refine he y d H1 _ s1 (rd.same s1) (List.mem_of_getElem? hd) fun H2 s2 => ?_
    refine ⟨s2 _ _ hl', ?_, ⟨_, rfl⟩, ?_, ?_⟩
    · rw [List.length_map, List.length_map, List.length_take]
      exact small1000 (by omega)
    · rw [List.take_add_one, hd]
      simp
    · exact fun c o e => by
        rw [upd_ne (ne_of_none e h')]
        exact s2 _ _ (s1 _ _ e)
  · rintro l ys σ' H1 h' ⟨⟨o, rfl⟩, rfl, s1⟩ hl'
    rw [r.1, List.take_length] at hl'
    exact q l H1 s1 h' hl'
end RW

set_option Elab.async false
set_option linter.all false
set_option maxRecDepth 100000
set_option maxHeartbeats 4000000
/-! displays: what is written out of things, nothing but new things laid -/
namespace L2
open PySem PySem.Spec PyProof.Rows
theorem q_dnew {X : Cx} {pos : Pos} : QE X (.Dict [] [] pos) tDNewK := ⟨pe_dnewK⟩
end L2
namespace RW
open PySem PySem.Spec PyProof.Rows L2
def Dsp (te : TE) (σ : L2.St) (H : Hp) (d : D) : Prop := ∀ (H1 : Hp) (Q : VK), Same H H1 → (∀ v H2, Same H1 H2 → Rep H2 v d → Q v H2) → te σ H1 Q
def DspA (ta : TA) (σ : L2.St) (H : Hp) (ds : List D) : Prop := ∀ (H1 : Hp) (Q : List V → Hp → Prop), Same H H1 → (∀ vs H2, Same H1 H2 → RepL H2 vs ds → Q vs H2) → ta σ H1 Q
def DspL (te : TE) (σ : L2.St) (H : Hp) (ds : List D) : Prop := ∀ (H1 : Hp) (Q : VK), Same H H1 → (∀ l vs H2, Same H1 H2 → H2 l = some (.lst vs) → RepL H2 vs ds → Q (.ref l) H2) → te σ H1 Q
section
variable {te tf : TE} {ta : TA} {σ : L2.St} {H : Hp} {d : D} {ds es : List D} {K : PySem.W.Frag}
theorem dsp_str {x : Str} (h : x.length ≤ 1000) : Dsp (tC (.str x)) σ H (.str x) := fun H1 Q s q => q _ H1 (Same.refl _) (.str x h)
theorem dsp_int {i : Int} : Dsp (tC (.int i)) σ H (.int i) := fun H1 Q s q => q _ H1 (Same.refl _) (.int i)
theorem dsp_bl {b : Bool} : Dsp (tC (.bl b)) σ H (.bl b) := fun H1 Q s q => q _ H1 (Same.refl _) (.bl b)
theorem dsp_non : Dsp (tC .non) σ H .non := fun H1 Q s q => q _ H1 (Same.refl _) .non
theorem dsp_neg {i : Int} : Dsp (tUn (rU fun i => .int (-i)) (tC (.int i))) σ H (.int (-i)) := fun H1 Q s q => ⟨i, rfl, q _ H1 (Same.refl _) (.int (-i))⟩
theorem dsp_var {i : Nat} {v : V} (h : σ[i]? = some (some v)) (r : Rep H v d) : Dsp (tVar i) σ H d := fun H1 Q s q => ⟨v, h, q v H1 (Same.refl _) (r.same s)⟩
theorem dspA_nil : DspA tNil σ H [] := fun H1 Q s q => q [] H1 (Same.refl _) RepL.nil
theorem dspA_cons (h : Dsp te σ H d) (r : DspA ta σ H ds) : DspA (tCons te ta) σ H (d :: ds) := fun H1 Q s q =>
  h H1 _ s fun v H2 s2 rv => r H2 _ (s.trans s2) fun vs H3 s3 rs => q (v :: vs) H3 (s2.trans s3) (.cons (rv.same s3) rs)
theorem dsp_tup (h : DspA ta σ H ds) (hl : ds.length ≤ 1000) : Dsp (tTup ta) σ H (.tup ds) := fun H1 Q s q =>
  h H1 _ s fun vs H2 s2 rs => ⟨Nat.le_of_lt (small1000 (by rw [rs.1]; exact hl)), fun p hp => q _ _ (s2.trans (Same.new hp)) (.mkL upd_same hl (rs.mono (.new hp)))⟩
theorem dspl_lst (h : DspA ta σ H ds) (hl : ds.length ≤ 1000) : DspL (tLst ta) σ H ds := fun H1 Q s q =>
  h H1 _ s fun vs H2 s2 rs => ⟨Nat.le_of_lt (small1000 (by rw [rs.1]; exact hl)), fun p hp => q p vs _ (s2.trans (Same.new hp)) upd_same (rs.mono (.new hp))⟩
theorem dspl_var {i : Nat} {l : Addr} {vs : List V} (h : σ[i]? = some (some (.ref l))) (e : H l = some (.lst vs)) (r : RepL H vs ds) : DspL (tVar i) σ H ds := fun H1 Q s q => ⟨_, h, q l vs H1 (Same.refl _) (s _ _ e) (r.mono (.of s))⟩
theorem dspl_cat (h : DspL te σ H ds) (g : DspL tf σ H es) (hl : ds.length + es.length ≤ 1000) : DspL (tOp rCat te tf) σ H (ds ++ es) := fun H1 Q s q =>
  h H1 _ s fun l vs H2 s2 e2 r2 => g H2 _ (s.trans s2) fun m us H3 s3 e3 r3 => ⟨l, m, vs, us, rfl, rfl, s3 _ _ e2, e3, Nat.le_of_lt (small1000 (by rw [r2.1, r3.1]; exact hl)),
    fun p hp => q p _ _ ((s2.trans s3).trans (Same.new hp)) upd_same (((r2.mono (.of s3)).append r3).mono (.new hp))⟩
theorem RepL.rep {vs : List V} (r : RepL H vs ds) (n : Nat) : RepL H (List.replicate n vs).flatten (List.replicate n ds).flatten := by
  induction n with
  | zero => exact RepL.nil
  | succ n ih => rw [List.replicate_succ, List.replicate_succ, List.flatten_cons, List.flatten_cons]; exact r.append ih
theorem dsp_rep {k : Int} (h : Dsp te σ H (.tup ds)) (hn : ds ≠ []) (k2 : 2 ≤ k) (kb : k ≤ 1000) (hl : (List.replicate k.toNat ds).flatten.length ≤ 1000) (hd : ds.length ≤ 1000) : Dsp (tOp (rRepT K) te (tC (.int k))) σ H (.tup (List.replicate k.toNat ds).flatten) := fun H1 Q s q =>
  h H1 _ s fun v H2 s2 rv => by
    obtain ⟨p, vs, rfl, hp, r, _⟩ := rv.ofT
    refine ⟨p, k, vs, rfl, rfl, .inl (.inl hp), fun z => hn ?_, k2, kb, by rw [r.1]; exact hd, fun p2 hp2 => q _ _ (s2.trans (Same.new hp2)) (.mkL upd_same hl ((r.rep _).mono (.new hp2)))⟩
    have := r.1
    rw [z] at this
    exact List.eq_nil_of_length_eq_zero this.symm
def DspV (te : TE) (σ : L2.St) (H : Hp) : Prop := ∀ (H1 : Hp) (Q : VK), Same H H1 → (∀ v H2, Same H1 H2 → Q v H2) → te σ H1 Q
def DspN (ta : TA) (σ : L2.St) (H : Hp) (m : Nat) : Prop := ∀ (H1 : Hp) (Q : List V → Hp → Prop), Same H H1 → (∀ vs H2, Same H1 H2 → vs.length ≤ m → Q vs H2) → ta σ H1 Q
theorem v_var {i : Nat} {v : V} (h : σ[i]? = some (some v)) : DspV (tVar i) σ H := fun H1 Q s q => ⟨v, h, q v H1 (Same.refl _)⟩
theorem n_nil {m : Nat} : DspN tNil σ H m := fun H1 Q s q => q [] H1 (Same.refl _) (Nat.zero_le _)
theorem n_cons {m : Nat} (h : DspV te σ H) (r : DspN ta σ H m) : DspN (tCons te ta) σ H (m + 1) := fun H1 Q s q =>
  h H1 _ s fun v H2 s2 => r H2 _ (s.trans s2) fun vs H3 s3 hl => q (v :: vs) H3 (s2.trans s3) (Nat.succ_le_succ hl)
theorem dsp_lst' (h : DspN ta σ H 1000) : Dsp (tLst ta) σ H .oth := fun H1 Q s q =>
  h H1 _ s fun vs H2 s2 hl => ⟨Nat.le_of_lt (small1000 hl), fun p hp => q _ _ (s2.trans (Same.new hp)) (.lst upd_same)⟩
theorem dsp_dnew : Dsp tDNewK σ H .oth := fun H1 Q s q => fun p hp => q _ _ (Same.new hp) (.dK upd_same)
/-- a comprehension that makes a thing of each thing of a list -/
theorem comp_map {J : It} {vs : List V} {f : D → D} {ok : Hp → Prop} {src : List (Option Nat)} {σr : L2.St} {Q : VK} (wk : Wk J vs.length (fun i x => vs[i]? = some x) ok) (hok : ∀ H', Same H H' → ok H') (r : RepL H vs ds) (hl : ds.length ≤ 900) (e : capt src σ = none :: σr)
    (he : ∀ (x : V) (d : D) (H1 : Hp), Same H H1 → Rep H1 x d → d ∈ ds → Dsp te (some x :: σr) H1 (f d))
    (q : ∀ l us H', Same H H' → H l = none → H' l = some (.lst us) → RepL H' us (ds.map f) → Q (.ref l) H') : CompGo (gName 0) tYes te src σ Q J H := by
  refine comp_by wk (fun l i ys σ' H' => (∃ o, σ' = o :: σr) ∧ RepL H' ys ((ds.take i).map f) ∧ Same H H') ?_ ?_ ?_ ?_
  · exact fun l h' => ⟨⟨none, e⟩, RepL.nil, Same.new h'⟩
  · exact fun l i ys σ' H' _ p => hok H' p.2.2
  · rintro l i y ys σ' H1 h' hi hy ⟨⟨o, rfl⟩, ry, s1⟩ hl'
    obtain ⟨d, hd, rd⟩ := r.get hy
    refine he y d H1 s1 (rd.same s1) (List.mem_of_getElem? hd) H1 _ (Same.refl _) fun v H2 s2 rv => ?_
    refine ⟨s2 _ _ hl', ?_, ⟨_, rfl⟩, ?_, ?_⟩
    · have := ry.1
      rw [List.length_map, List.length_take] at this
      exact small1000 (by omega)
    · have tk : (ds.take (i + 1)).map f = (ds.take i).map f ++ [f d] := by rw [List.take_add_one, hd]; simp
      rw [tk]
      exact ((ry.mono (.of s2)).append (.cons rv .nil)).mono (.lset (s2 _ _ hl'))
    · exact fun c o e => by
        rw [upd_ne (ne_of_none e h')]
        exact s2 _ _ (s1 _ _ e)
  · rintro l ys σ' H1 h' ⟨⟨o, rfl⟩, ry, s1⟩ hl'
    rw [r.1, List.take_length] at ry
    exact q l ys H1 s1 h' hl' ry
end
theorem dspl_go {te : TE} {σ : L2.St} {H : Hp} {ds : List D} {Q : VK} (h : DspL te σ H ds) (q : ∀ l vs H2, Same H H2 → H2 l = some (.lst vs) → RepL H2 vs ds → Q (.ref l) H2) : te σ H Q := h H Q (Same.refl H) q
section
variable {te : TE} {tr : TA} {tb : TS} {De : Ends} {σ : L2.St} {H : Hp} {ds : List D} {d : D} {k : Nat}
theorem seq_L (h : DspL te σ H ds) (q : ∀ l vs H2, Same H H2 → H2 l = some (.lst vs) → RepL H2 vs ds → tb De (σ.set k (some (.ref l))) H2) : tSeq (tAsg te (gName k)) tb De σ H := h H _ (Same.refl H) q
theorem seq_D (h : Dsp te σ H d) (q : ∀ v H2, Same H H2 → Rep H2 v d → tb De (σ.set k (some v)) H2) : tSeq (tAsg te (gName k)) tb De σ H := h H _ (Same.refl H) q
theorem cons_L {Q : List V → Hp → Prop} (h : DspL te σ H ds) (q : ∀ l vs H2, Same H H2 → H2 l = some (.lst vs) → RepL H2 vs ds → tr σ H2 fun xs H3 => Q (.ref l :: xs) H3) : tCons te tr σ H Q := h H _ (Same.refl H) q
theorem seq_more {tf : TE} {i m : Nat} {l0 : Addr} {vs0 : List V} {ds0 : List D} {g : D → Bool} (hσ : σ[i]? = some (some (.ref l0))) (e0 : H l0 = some (.lst vs0)) (r0 : RepL H vs0 ds0) (g0 : ∀ d ∈ ds0, g d = false) (n0 : ds0.length ≤ m) (es : List D) (h : DspL tf σ H es) (ge : ∀ d ∈ es, g d = false)
    (q : ∀ l vs ds H2, Same H H2 → H2 l = some (.lst vs) → RepL H2 vs ds → (∀ d ∈ ds, g d = false) → ds.length ≤ m + es.length → tb De (σ.set k (some (.ref l))) H2) (hm : m + es.length ≤ 1000 := by exact Nat.le_of_ble_eq_true rfl) : tSeq (tAsg (tOp rCat (tVar i) tf) (gName k)) tb De σ H :=
  dspl_cat (dspl_var hσ e0 r0) h (by omega) H _ (Same.refl H) fun l vs H2 s2 e2 r2 => q l vs _ H2 s2 e2 r2 (List.forall_mem_append.mpr ⟨g0, ge⟩) (by rw [List.length_append]; omega)
theorem ret_L (h : DspL te σ H ds) (q : ∀ l vs H2, Same H H2 → H2 l = some (.lst vs) → RepL H2 vs ds → De.rt (.ref l) H2) : tRet te De σ H := h H _ (Same.refl H) q
end
theorem forall_nil {α : Type} {p : α → Prop} : ∀ d ∈ ([] : List α), p d := fun _ z => nomatch z
/-- x of a hand's list is chosen -/
theorem hand_three {H : Hp} {a l : Addr} {n : Int} {vs : List V} {ds : List D} (h : Hand H a n) (e : H l = some (.lst vs)) (r : RepL H vs ds) (h3 : ds.length ≠ 3) : l ≠ a := fun z => by
  obtain ⟨x, m, t, hh, _⟩ := h
  rw [z, hh] at e
  cases e
  exact h3 r.1.symm
theorem hand_bad1 {c x : D} (h : isActB x = false) : isHandB (.tup [c, x]) = false := by rw [hand_eq, h, Bool.and_false]
theorem liking_bad1 {c x : D} (h : isWorthB x = false) : isLikingB (.tup [c, x]) = false := by rw [liking_eq, h, Bool.and_false, Bool.false_and]
theorem liking_bad3 {c x : D} (h : anyAsks c = true) : isLikingB (.tup [c, x]) = false := by rw [liking_eq, h, Bool.not_true, Bool.and_false]
end RW

set_option Elab.async false
set_option linter.all false
set_option maxRecDepth 100000
set_option maxHeartbeats 4000000
/-! the sort, asked of unlike things in a strict order: it puts them so -/
namespace RW
open PySem PySem.W PyProof.Rows L2
section
variable {α β : Type} {N : Nat} {lt : Nat → Nat → Bool}
def OkT (N : Nat) (lt : Nat → Nat → Bool) {α : Type} : KasT α → (α → Prop) → Prop
  | .ret a, P => P a
  | .ask i j k, P => i < N ∧ j < N ∧ OkT N lt (k (lt i j)) P
theorem OkT.mono {P Q : α → Prop} (h : ∀ a, P a → Q a) : ∀ {t : KasT α}, OkT N lt t P → OkT N lt t Q
  | .ret a, q => h a q
  | .ask i j k, ⟨h1, h2, q⟩ => ⟨h1, h2, OkT.mono h q⟩
theorem OkT.bind {f : α → KasT β} {P : β → Prop} : ∀ {t : KasT α}, OkT N lt t (fun a => OkT N lt (f a) P) → OkT N lt (t.bind f) P
  | .ret a, q => q
  | .ask i j k, ⟨h1, h2, q⟩ => ⟨h1, h2, OkT.bind q⟩
theorem OkT.wp {cmp : Nat → Nat → (Bool → Shared → Prop) → Shared → Prop} {I : Shared → Prop} (hc : ∀ i j (C : Bool → Shared → Prop) s, i < N → j < N → I s → (∀ s', I s' → C (lt i j) s') → cmp i j C s) {P : α → Prop} {Q : α → Shared → Prop} (hq : ∀ a s, P a → I s → Q a s) :
    ∀ {t : KasT α} {s : Shared}, I s → OkT N lt t P → t.kasWp cmp Q s
  | .ret a, s, hs, q => hq a s q hs
  | .ask i j k, s, hs, ⟨h1, h2, q⟩ => hc i j _ s h1 h2 hs fun s' hs' => OkT.wp hc hq hs' q
abbrev gd (p : Array Nat) (i : Nat) : Nat := p.getD i 0
structure Strict (N : Nat) (lt : Nat → Nat → Bool) : Prop where
  tot : ∀ i j, i < N → j < N → i ≠ j → lt i j = false → lt j i = true
  tr : ∀ i j k, i < N → j < N → k < N → lt i j = true → lt j k = true → lt i k = true
  asy : ∀ i j, i < N → j < N → lt i j = true → lt j i = false
def PermN (N : Nat) (p : Array Nat) : Prop := p.toList.Perm (List.range N)
theorem PermN.size {p : Array Nat} (h : PermN N p) : p.size = N := by
  have := h.length_eq
  simpa using this
theorem gd_get {p : Array Nat} {i : Nat} (h : i < p.size) : gd p i = p[i] := by simp [gd, Array.getD, h]
theorem gd_opt {p q : Array Nat} {i j : Nat} (h : p[i]? = q[j]?) : gd p i = gd q j := by
  simp only [gd, Array.getD_eq_getD_getElem?, h]
theorem PermN.bd {p : Array Nat} (h : PermN N p) {i : Nat} (hi : i < N) : gd p i < N := by
  have hs := h.size
  rw [gd_get (by omega)]
  have : p[i] ∈ p.toList := by simp
  exact List.mem_range.mp (h.mem_iff.mp this)
theorem PermN.inj {p : Array Nat} (h : PermN N p) {i j : Nat} (hi : i < N) (hj : j < N) (hij : i ≠ j) : gd p i ≠ gd p j := by
  have hs := h.size
  have nd : p.toList.Nodup := h.nodup_iff.mpr List.nodup_range
  rw [gd_get (by omega), gd_get (by omega)]
  intro z
  exact hij ((List.getElem_inj (i := i) (j := j) (h₀ := by simp; omega) (h₁ := by simp; omega) nd).mp (by simpa using z))
def Sor (lt : Nat → Nat → Bool) (p : Array Nat) (m : Nat) : Prop := ∀ i j, i < j → j < m → lt (gd p i) (gd p j) = true
def Des (lt : Nat → Nat → Bool) (p : Array Nat) (m : Nat) : Prop := ∀ i j, i < j → j < m → lt (gd p j) (gd p i) = true
theorem Sor.snoc {p : Array Nat} {n : Nat} (S : Strict N lt) (hp : PermN N p) (h : Sor lt p n) (h1 : 1 ≤ n) (hn : n < N) (e : lt (gd p (n - 1)) (gd p n) = true) : Sor lt p (n + 1) := by
  intro i j hij hj
  by_cases hjn : j < n
  · exact h i j hij hjn
  · have ej : j = n := by omega
    subst ej
    by_cases hi : i = j - 1
    · subst hi; exact e
    · exact S.tr _ _ _ (hp.bd (by omega)) (hp.bd (by omega)) (hp.bd hn) (h i (j - 1) (by omega) (by omega)) e
theorem Des.snoc {p : Array Nat} {n : Nat} (S : Strict N lt) (hp : PermN N p) (h : Des lt p n) (h1 : 1 ≤ n) (hn : n < N) (e : lt (gd p n) (gd p (n - 1)) = true) : Des lt p (n + 1) := by
  intro i j hij hj
  by_cases hjn : j < n
  · exact h i j hij hjn
  · have ej : j = n := by omega
    subst ej
    by_cases hi : i = j - 1
    · subst hi; exact e
    · exact S.tr _ _ _ (hp.bd hn) (hp.bd (by omega)) (hp.bd (by omega)) e (h i (j - 1) (by omega) (by omega))
theorem asc_ok {p : Array Nat} (S : Strict N lt) (hp : PermN N p) : ∀ f n, 1 ≤ n → n + f ≤ N → Sor lt p n → OkT N lt (kas_asc p f n) (fun m => n ≤ m ∧ m ≤ n + f ∧ Sor lt p m ∧ (m < n + f → lt (gd p m) (gd p (m - 1)) = true))
  | 0, n, _, _, hs => ⟨Nat.le_refl _, Nat.le_refl _, hs, fun h => by omega⟩
  | f + 1, n, h1, hn, hs => by
    refine ⟨hp.bd (by omega), hp.bd (by omega), ?_⟩
    cases hc : lt (gd p n) (gd p (n - 1)) with
    | true =>
      show OkT N lt (if true = true then _ else _) _
      rw [if_pos rfl]
      exact ⟨Nat.le_refl _, by omega, hs, fun _ => hc⟩
    | false =>
      show OkT N lt (if false = true then _ else _) _
      rw [if_neg (by decide)]
      refine OkT.mono (fun m hm => ⟨by omega, by omega, hm.2.2.1, fun h => hm.2.2.2 (by omega)⟩) (asc_ok S hp f (n + 1) (by omega) (by omega) (hs.snoc S hp h1 (by omega) (S.tot _ _ (hp.bd (by omega)) (hp.bd (by omega)) (hp.inj (by omega) (by omega) (by omega)) hc)))
theorem desc_ok {p : Array Nat} (S : Strict N lt) (hp : PermN N p) : ∀ f n, 1 ≤ n → n + f ≤ N → Des lt p n → OkT N lt (kas_desc f p n 0) (fun r => r.1 = p ∧ n ≤ r.2.1 ∧ r.2.1 ≤ n + f ∧ Des lt p r.2.1 ∧ r.2.2 = 0)
  | 0, n, _, _, hs => ⟨rfl, Nat.le_refl _, Nat.le_refl _, hs, rfl⟩
  | f + 1, n, h1, hn, hs => by
    refine ⟨hp.bd (by omega), hp.bd (by omega), ?_⟩
    cases hc : lt (gd p n) (gd p (n - 1)) with
    | true =>
      show OkT N lt (if true = true then (if 0 > 0 then _ else _) else _) _
      rw [if_pos rfl, if_neg (by decide)]
      exact OkT.mono (fun m hm => ⟨hm.1, by omega, by omega, hm.2.2.2⟩) (desc_ok S hp f (n + 1) (by omega) (by omega) (hs.snoc S hp h1 (by omega) hc))
    | false =>
      show OkT N lt (if false = true then _ else _) _
      rw [if_neg (by decide)]
      refine ⟨hp.bd (by omega), hp.bd (by omega), ?_⟩
      have hd : lt (gd p (n - 1)) (gd p n) = true := S.tot _ _ (hp.bd (by omega)) (hp.bd (by omega)) (hp.inj (by omega) (by omega) (by omega)) hc
      show OkT N lt (if lt (gd p (n - 1)) (gd p n) = true then _ else _) _
      rw [if_pos hd]
      exact ⟨rfl, Nat.le_refl _, by show n ≤ n + (f + 1); omega, hs, rfl⟩
theorem rev_perm {p : Array Nat} (hp : PermN N p) (n : Nat) : PermN N (kas_rev p 0 n) := (Array.perm_iff_toList_perm.mp (mirror_perm p 0 n _)).trans hp
theorem rev_sor {p : Array Nat} {n : Nat} (hp : PermN N p) (hn : n ≤ N) (h : Des lt p n) : Sor lt (kas_rev p 0 n) n := by
  have hs := hp.size
  have e : ∀ k, k < n → gd (kas_rev p 0 n) k = gd p (n - 1 - k) := fun k hk => by
    refine gd_opt ?_
    show (mirror p 0 n ((n - 0) / 2))[k]? = _
    rw [getElem?_mirror_all (by omega), if_pos ⟨Nat.zero_le _, hk⟩, Nat.zero_add]
  intro i j hij hj
  rw [e i (by omega), e j hj]
  exact h (n - 1 - j) (n - 1 - i) (by omega) (by omega)
def CountP (N : Nat) (lt : Nat → Nat → Bool) (r : Nat × Array Nat) : Prop := PermN N r.2 ∧ Sor lt r.2 r.1 ∧ 1 ≤ r.1 ∧ r.1 ≤ N
theorem tail3_ok {p : Array Nat} {n : Nat} (S : Strict N lt) (hp : PermN N p) (h1 : 1 ≤ n) (hn : n ≤ N) (h : Des lt p n) : OkT N lt (kas_tail3 n N p) (CountP N lt) := by
  refine OkT.bind (OkT.mono (fun m hm => ?_) (asc_ok S (rev_perm hp n) (N - n) n h1 (by omega) (rev_sor hp hn h)))
  exact ⟨rev_perm hp n, hm.2.2.1, by have := hm.1; omega, by have := hm.2.1; omega⟩
theorem count_ok {p : Array Nat} (S : Strict N lt) (hp : PermN N p) (h1 : 1 ≤ N) : OkT N lt (kas_count N p) (CountP N lt) := by
  refine OkT.bind (OkT.mono (fun n hn => ?_) (asc_ok S hp (N - 1) 1 (Nat.le_refl _) (by omega) (fun i j hij hj => by omega)))
  obtain ⟨n1, n2, hs, hl⟩ := hn
  by_cases hN : (n == N) = true
  · rw [if_pos hN]
    exact ⟨hp, hs, n1, by omega⟩
  · have hne : n ≠ N := by simpa using hN
    rw [if_neg hN]
    by_cases h2 : n > 1
    · rw [if_pos h2]
      refine ⟨hp.bd (by omega), hp.bd (by omega), ?_⟩
      show OkT N lt (if lt (gd p 0) (gd p (n - 1)) = true then _ else _) _
      rw [if_pos (hs 0 (n - 1) (by omega) (by omega))]
      exact ⟨hp, hs, n1, by omega⟩
    · rw [if_neg h2]
      have e1 : n = 1 := by omega
      subst e1
      have hd : Des lt p 2 := fun i j hij hj => by
        have ei : i = 0 := by omega
        have ej : j = 1 := by omega
        subst ei ej
        exact hl (by omega)
      refine OkT.bind (OkT.mono (fun r hr => ?_) (desc_ok S hp (N - (1 + 1)) (1 + 1) (by omega) (by omega) hd))
      obtain ⟨e1, r1, r2, r3, r4⟩ := hr
      rw [if_neg (by omega), e1]
      exact tail3_ok S hp (by omega) (by omega) r3
theorem place_ok {p : Array Nat} {k : Nat} (S : Strict N lt) (hp : PermN N p) (hs : Sor lt p k) (hk : k < N) : ∀ f l r, l ≤ r → r ≤ k → r - l ≤ f → (∀ i, i < l → lt (gd p i) (gd p k) = true) → (∀ i, r ≤ i → i < k → lt (gd p k) (gd p i) = true) →
    OkT N lt (kas_place p k f l r) (fun m => m ≤ k ∧ (∀ i, i < m → lt (gd p i) (gd p k) = true) ∧ ∀ i, m ≤ i → i < k → lt (gd p k) (gd p i) = true)
  | 0, l, r, h1, h2, h3, ha, hb => ⟨by omega, ha, fun i hi => hb i (by omega)⟩
  | f + 1, l, r, h1, h2, h3, ha, hb => by
    by_cases hlr : l ≥ r
    · show OkT N lt (if l ≥ r then _ else _) _
      rw [if_pos hlr]
      exact ⟨by omega, ha, fun i hi => hb i (by omega)⟩
    · show OkT N lt (if l ≥ r then _ else _) _
      rw [if_neg hlr]
      refine ⟨hp.bd hk, hp.bd (by omega), ?_⟩
      cases hc : lt (gd p k) (gd p ((l + r) / 2)) with
      | true =>
        show OkT N lt (if true = true then _ else _) _
        rw [if_pos rfl]
        refine place_ok S hp hs hk f l ((l + r) / 2) (by omega) (by omega) (by omega) ha fun i hi hik => ?_
        by_cases e : i = (l + r) / 2
        · subst e; exact hc
        · exact S.tr _ _ _ (hp.bd hk) (hp.bd (by omega)) (hp.bd (by omega)) hc (hs ((l + r) / 2) i (by omega) hik)
      | false =>
        show OkT N lt (if false = true then _ else _) _
        rw [if_neg (by decide)]
        have hm : lt (gd p ((l + r) / 2)) (gd p k) = true := S.tot _ _ (hp.bd hk) (hp.bd (by omega)) (hp.inj hk (by omega) (by omega)) hc
        refine place_ok S hp hs hk f ((l + r) / 2 + 1) r (by omega) h2 (by omega) (fun i hi => ?_) hb
        by_cases e : i = (l + r) / 2
        · subst e; exact hm
        · exact S.tr _ _ _ (hp.bd (by omega)) (hp.bd (by omega)) (hp.bd hk) (hs i ((l + r) / 2) (by omega) (by omega)) hm
theorem bubble_sor {p : Array Nat} {k l : Nat} (hp : PermN N p) (hk : k < N) (hl : l ≤ k) (hs : Sor lt p k) (ha : ∀ i, i < l → lt (gd p i) (gd p k) = true) (hb : ∀ i, l ≤ i → i < k → lt (gd p k) (gd p i) = true) : Sor lt (bubble p k (k - l)) (k + 1) := by
  have hz := hp.size
  have g : ∀ i, (bubble p k (k - l))[i]? = if i = l then p[k]? else if l < i ∧ i ≤ k then p[i - 1]? else p[i]? := fun i => by
    rw [getElem?_bubble (by omega) (k - l) (by omega), show k - (k - l) = l by omega]
  have g1 : gd (bubble p k (k - l)) l = gd p k := gd_opt (by rw [g, if_pos rfl])
  have g2 : ∀ i, l < i → i ≤ k → gd (bubble p k (k - l)) i = gd p (i - 1) := fun i h1 h2 => gd_opt (by rw [g, if_neg (by omega), if_pos ⟨h1, h2⟩])
  have g3 : ∀ i, i < l → gd (bubble p k (k - l)) i = gd p i := fun i h1 => gd_opt (by rw [g, if_neg (by omega), if_neg (by omega)])
  intro i j hij hj
  rcases Nat.lt_trichotomy i l with hi | hi | hi
  · rw [g3 i hi]
    rcases Nat.lt_trichotomy j l with h | h | h
    · rw [g3 j h]; exact hs i j hij (by omega)
    · subst h; rw [g1]; exact ha i hi
    · rw [g2 j h (by omega)]; exact hs i (j - 1) (by omega) (by omega)
  · subst hi
    rw [g1, g2 j hij (by omega)]
    exact hb (j - 1) (by omega) (by omega)
  · rw [g2 i hi (by omega), g2 j (by omega) (by omega)]
    exact hs (i - 1) (j - 1) (by omega) (by omega)
theorem bin_ok (S : Strict N lt) : ∀ f (p : Array Nat) k, PermN N p → Sor lt p k → k + f = N → OkT N lt (kas_bin f p k) (fun p' => PermN N p' ∧ Sor lt p' N)
  | 0, p, k, hp, hs, hk => ⟨hp, by have : k = N := by omega
                                   rw [← this]; exact hs⟩
  | f + 1, p, k, hp, hs, hk => by
    refine OkT.bind (OkT.mono (fun l hl => ?_) (place_ok S hp hs (by omega) k 0 k (Nat.zero_le _) (Nat.le_refl _) (by omega) (fun i hi => by omega) (fun i hi hik => by omega)))
    exact bin_ok S f _ (k + 1) ((Array.perm_iff_toList_perm.mp (bubble_perm p k _)).trans hp) (bubble_sor hp (by omega) hl.1 hs hl.2.1 hl.2.2) (by omega)
theorem sort_ok (S : Strict N lt) (h1 : 1 ≤ N) : OkT N lt (kas_sort N) (fun p => PermN N p ∧ Sor lt p N) := by
  have h0 : PermN N (List.toArray (List.range N)) := by show (List.range N).Perm _; exact List.Perm.refl _
  refine OkT.bind (OkT.mono (fun r hr => ?_) (count_ok S h0 h1))
  obtain ⟨c1, c2, c3, c4⟩ := hr
  by_cases h : r.1 < N
  · rw [if_pos h]
    have e : max r.1 1 = r.1 := by omega
    rw [e]
    exact bin_ok S _ _ _ c1 c2 (by omega)
  · rw [if_neg h]
    have e : r.1 = N := by omega
    rw [e] at c2
    exact ⟨c1, c2⟩
end
end RW

set_option Elab.async false
set_option linter.all false
set_option maxRecDepth 100000
set_option maxHeartbeats 4000000
/-! the keys of a dict, whatever they are, walked -/
namespace L2
open PySem PySem.W PySem.Spec PyProof.Rows
def RawD (h : Heap) (d : Addr) (ks : List Value) (ep : Nat) : Prop := ∃ o es, h.get? d = some o ∧ o.ExactDict ∧ o.data = .dict es ep ∧ es.toList.map (·.key) = ks
theorem RawD.at {h h' : Heap} {d : Addr} {ks : List Value} {ep : Nat} (x : RawD h d ks ep) (e : ∀ o, h.get? d = some o → h'.get? d = some o) : RawD h' d ks ep := let ⟨o, es, ho, r⟩ := x; ⟨o, es, e _ ho, r⟩
theorem RawD.ty {s : Shared} {d : Addr} {ks : List Value} {ep : Nat} (x : RawD s.heap d ks ep) : s.TypeIs (.ref d) "dict" := let ⟨o, _, ho, hc, _⟩ := x; ⟨o, ho, hc.1⟩
theorem RawD.lt {h : Heap} {d : Addr} {ks : List Value} {ep : Nat} (x : RawD h d ks ep) : d < h.objs.size := let ⟨_, _, ho, _⟩ := x; Heap.lt_size ho
section
variable {prog : Program} {w : World} {A : Around} {E : Value → Shared → Prop} {s : Shared} {it d : Addr} {i ep : Nat} {ks : List Value}
theorem raw_iter {R : Value → Shared → Prop} (nsys : (d == sysModules) = false) (x : RawD s.heap d ks ep) (q : R (.ref s.heap.objs.size) { s with heap := s.heap.push { cls := .type "dict_keyiterator", data := .fields #[.ref d, .int 0 0, .int ks.length 0, .int ep 0] } }) :
    wpAny (model prog w) A (pyIter (.ref d)) R E s := by
  have ty := x.ty
  obtain ⟨o, es, ho, _, hdat, hks⟩ := x
  refine wpAny_pyIter_slot ty PySem.F.slot_dict_iter (wpAny_call_entry PySem.F.slot_dict_iter ty PySem.F.entry_dict_iter ?_ (PySem.F.args_dict_iter_1 _))
  unfold Builtin.«dict.__iter__»
  refine wpAny_bind (by unfold Builtin.Dict.dictSlotNone; refine wpAny_bind (wpAny_notOrdered_dict ty ?_); show wpAny _ _ (pure (Value.ref d)) _ _ s; exact wpAny_pure (by
    show wpAny _ _ (Builtin.Dict.showsAll d >>= _) _ _ s
    unfold Builtin.Dict.showsAll
    rw [if_neg (fun z => by rw [nsys] at z; cases z)]
    refine wpAny_bind (wpAny_pure (wpAny_bind (wpAny_dictEntries ho hdat (wpAny_bind (wpAny_dictEpoch ho hdat ?_)))))
    have sz : es.size = ks.length := by rw [← hks]; simp
    refine wpAny_bind (wpAny_newObj_type (wpAny_pure ⟨_, rfl, "dict_keyiterator", _, ⟨_, Heap.get?_push_size _ rfl, rfl⟩, PySem.F.slot_dict_keyiterator_next.lookup, ?_⟩))
    simpa [rawInt, sz] using q))
theorem raw_next {R : Option Value → Shared → Prop} {key : Value} (y : s.heap.IsKeyIter it d i ks.length ep) (x : RawD s.heap d ks ep) (hx : ks[i]? = some key)
    (q : ∀ h', h'.IsKeyIter it d (i + 1) ks.length ep → Heap.SameBut it s.heap h' → R (some key) { s with heap := h' }) : wpAny (model prog w) A (pyNext (.ref it)) R E s := by
  obtain ⟨o, ho, hc, hd⟩ := id y
  obtain ⟨od, es, hod, _, hdd, hks⟩ := x
  have sz : es.size = ks.length := by rw [← hks]; simp
  have li : i < ks.length := by
    rcases Nat.lt_or_ge i ks.length with h | h
    · exact h
    · rw [List.getElem?_eq_none h] at hx; cases hx
  have li' : i < es.size := by omega
  have ek : es[i].key = key := by
    have e1 : ks[i]? = some es[i].key := by rw [← hks]; simp [li']
    rw [e1] at hx; exact Option.some.inj hx
  unfold pyNext
  refine wpAny_bind (wpAny_attempt (wpAny_callSpecial?_slot (name := Str.ofString "__next__") y.typeIs PySem.F.slot_dict_keyiterator_next (wpAny_call_entry PySem.F.slot_dict_keyiterator_next y.typeIs PySem.F.entry_dict_keyiterator_next ?_ (PySem.F.args_dict_keyiterator_next_1 _))))
  refine wpAny_bind (wpAny_pure (wpAny_bind (wpAny_bind ?_)))
  first | refine wpAny_bind (wpAny_typeNameOfWhole_keyiter y.typeIs (wpAny_pure ?_)) | refine wpAny_bind (wpAny_typeNameOf_keyiter y.typeIs (wpAny_pure ?_))
  refine wpAny_bind (wpAny_fieldsOf ho hd ?_)
  simp only [(by decide : Builtin.Dict_items.ownsTuple "dict_keyiterator" = false), Bool.false_eq_true, if_false]
  show wpAny _ _ (if (Value.ref d == Value.none) = true then _ else _) _ _ s
  rw [if_neg (fun z => nomatch z)]
  refine wpAny_bind (wpAny_pure (wpAny_bind (wpAny_dictEntries hod hdd ?_)))
  rw [if_neg (fun z => by rw [sz] at z; simp at z)]
  refine wpAny_bind (wpAny_pure (wpAny_bind (wpAny_dictEpoch hod hdd ?_)))
  rw [if_neg (fun z => by simp at z)]
  refine wpAny_pure ?_
  simp only [(by omega : ¬ ((i : Int) < 0)), if_false, Int.toNat_natCast, Array.getElem?_eq_getElem li']
  refine wpAny_bind ?_
  first | refine wpAny_bind (wpAny_typeNameOfWhole_keyiter y.typeIs (wpAny_pure ?_)) | refine wpAny_bind (wpAny_typeNameOf_keyiter y.typeIs (wpAny_pure ?_))
  refine wpAny_bind (wpAny_isOneOf_keyiter y.typeIs ?_)
  show wpAny _ _ (setField (.ref it) 1 (rawInt ((i : Int) + 1)) >>= _) _ _ s
  refine wpAny_bind (wpAny_setField ho hd (by simp) ?_)
  have y' : (s.heap.update it (Obj.mapFields (·.setIfInBounds 1 (rawInt ((i : Int) + 1))))).IsKeyIter it d (i + 1) ks.length ep := ⟨_, Heap.get?_update_self _ ho (Obj.isFreed_of_fields (Obj.data_mapFields hd _)), (Obj.cls_mapFields ..).trans hc, by rw [Obj.data_mapFields hd]; simp [rawInt]⟩
  refine wpAny_bind (wpAny_holding (wpAny_bind (wpAny_isOneOf_keyiter (s := { s with heap := s.heap.update it (Obj.mapFields (·.setIfInBounds 1 (rawInt ((i : Int) + 1)))) }) y'.typeIs ?_)))
  show wpAny _ _ (pure es[i].key) _ _ _
  rw [ek]
  exact wpAny_pure (wpAny_pure ⟨_, rfl, wpAny_pure (q _ y' (Heap.SameBut.update ..))⟩)
theorem raw_end {R : Option Value → Shared → Prop} (hh : A.handled = none) (y : s.heap.IsKeyIter it d ks.length ks.length ep) (x : RawD s.heap d ks ep) (q : ∀ h', Heap.ExtBut it s.heap h' → R none { s with heap := h' }) : wpAny (model prog w) A (pyNext (.ref it)) R E s := by
  obtain ⟨o, ho, hc, hd⟩ := id y
  obtain ⟨od, es, hod, _, hdd, hks⟩ := x
  have sz : es.size = ks.length := by rw [← hks]; simp
  unfold pyNext
  refine wpAny_bind (wpAny_attempt (wpAny_callSpecial?_slot (name := Str.ofString "__next__") y.typeIs PySem.F.slot_dict_keyiterator_next (wpAny_call_entry PySem.F.slot_dict_keyiterator_next y.typeIs PySem.F.entry_dict_keyiterator_next ?_ (PySem.F.args_dict_keyiterator_next_1 _))))
  refine wpAny_bind (wpAny_pure (wpAny_bind (wpAny_bind ?_)))
  first | refine wpAny_bind (wpAny_typeNameOfWhole_keyiter y.typeIs (wpAny_pure ?_)) | refine wpAny_bind (wpAny_typeNameOf_keyiter y.typeIs (wpAny_pure ?_))
  refine wpAny_bind (wpAny_fieldsOf ho hd ?_)
  simp only [(by decide : Builtin.Dict_items.ownsTuple "dict_keyiterator" = false), Bool.false_eq_true, if_false]
  show wpAny _ _ (if (Value.ref d == Value.none) = true then _ else _) _ _ s
  rw [if_neg (fun z => nomatch z)]
  refine wpAny_bind (wpAny_pure (wpAny_bind (wpAny_dictEntries hod hdd ?_)))
  rw [if_neg (fun z => by rw [sz] at z; simp at z)]
  refine wpAny_bind (wpAny_pure (wpAny_bind (wpAny_dictEpoch hod hdd ?_)))
  rw [if_neg (fun z => by simp at z)]
  refine wpAny_pure ?_
  simp only [(by omega : ¬ ((ks.length : Int) < 0)), if_false, Int.toNat_natCast, Array.getElem?_eq_none (show es.size ≤ ks.length by omega)]
  refine wpAny_bind ?_
  first | refine wpAny_bind (wpAny_typeNameOfWhole_keyiter y.typeIs (wpAny_pure ?_)) | refine wpAny_bind (wpAny_typeNameOf_keyiter y.typeIs (wpAny_pure ?_))
  show wpAny _ _ (setField (.ref it) 0 .none >>= _) _ _ s
  refine wpAny_bind (wpAny_setField ho hd (by simp) ?_)
  show wpAny _ _ (newExc (.type "StopIteration") [] >>= _) _ _ _
  refine wpAny_bind (by
    simp only [newExc, newTuple]
    refine wpAny_bind (wpAny_newObj_type (wpAny_bind (m := firstArgMember _ _) (wpAny_of_eq (a := Value.none) (by first | rfl | (simp only [firstArgMember]; rfl)) (wpAny_newObj_type ?_ (by size_fits)))) (by size_fits))
    simp only [raiseNew]
    refine wpAny_bind (wpAny_handled ?_)
    rw [show A.in1.handled = none from hh]
    refine wpAny_bind (wpAny_pure (wpAny_throw ?_)); refine wpAny_bind (wpAny_isInstance (T := "StopIteration") (b := true) ⟨_, Heap.get?_push_size _ rfl, rfl⟩ isSubtype_stop ?_)
    exact wpAny_pure (q _ (((Heap.SameBut.update ..).extBut.push _).push _)))
theorem raw_walks (hh : A.handled = none) (hne : d ≠ it) : Walks prog w A it [it, d] [it] ks.length (fun i v => ks[i]? = some v) (fun i h => h.IsKeyIter it d i ks.length ep ∧ RawD h d ks ep) where
  sub := fun b hb => by simp at hb; simp [hb]
  frame := fun _ _ _ st hk => ⟨st.1.at fun o e => hk it (by simp) o e, st.2.at fun o e => hk d (by simp) o e⟩
  item := fun i s Q E hi st hQ => raw_next st.1 st.2 (show ks[i]? = some ks[i] by simp [hi]) fun h' y' hs => hQ _ h' s.toks (by simp [hi]) ⟨y', st.2.at fun o e => hs.extBut d o hne e⟩ fun b o hb e => hs.extBut b o (fun h => hb (by simp [h])) e
  done := fun s Q E st hQ => raw_end hh st.1 st.2 fun h' he => hQ h' s.toks fun b o hb e => he b o (fun h => hb (by simp [h])) e
  self := fun _ _ _ _ st hQ => wpAny_pyIter_keyiter st.1 hQ
theorem raw_src (nsys : (d == sysModules) = false) : KdlSrc prog w "dict" d d ks.length (fun i v => ks[i]? = some v) (fun h => RawD h d ks ep) where
  type := fun _ hm => hm.ty
  there := fun _ hm => ⟨hm.lt, hm.lt⟩
  keep := fun _ _ hm hk => hm.at fun o e => hk d (.inl rfl) o e
  notList := by decide
  notTuple := by decide
  hint := fun _ _ _ _ hm hq => kdl_hint_dict hm.ty hq
  iter := fun _ _ hh hm => ⟨_, _, (fun _ _ hq => raw_iter nsys hm hq), raw_walks hh (Nat.ne_of_lt hm.lt), ⟨⟨_, Heap.get?_push_size _ rfl, rfl, rfl⟩, hm.at fun o e => Heap.get?_push_of_some _ e⟩⟩
end
end L2

set_option Elab.async false
set_option linter.all false
set_option maxRecDepth 100000
set_option maxHeartbeats 4000000
/-! sorted, of things that are asked for their order -/
namespace L2
open PySem PySem.W PySem.Spec PyProof.Rows
section
variable {prog : Program} {w : World} {A : Around} {E : Value → Shared → Prop} {s : Shared}
/-- s1 is s but for the heap, where all but what stands at a is kept -/
def Kp (a : Addr) (s s1 : Shared) : Prop := s1 = { s with heap := s1.heap } ∧ ∀ b o, b ≠ a → s.heap.get? b = some o → s1.heap.get? b = some o
theorem lsort_raw {a : Addr} {vs : List Value} {n : Nat} {R : PySem.Fin → Shared → Prop} {G : Array Nat → Prop} {κ : SortKind} (ho : s.heap.get? a = some (seqObj "list" vs.toArray n)) (h64 : vs.length < 64)
    (hk : 2 ≤ vs.length → ∀ s1 : Shared, Kp a s s1 → (∀ C : SortKind → Shared → Prop, C κ s1 → wpAny (model prog w) A (keyKind' vs.toArray) C E s1) ∧ (kas_sort vs.length).kasWp (kas_ask prog w A κ vs) (fun p s' => s' = s1 ∧ G p) s1)
    (q : ∀ (out : List Value) (h' : Heap) (c : Nat), (vs.length < 2 ∧ out = vs ∨ ∃ p : Array Nat, p.size = vs.length ∧ G p ∧ out = p.toList.map fun i => vs.getD i Value.none) → (∀ b o, b ≠ a → s.heap.get? b = some o → h'.get? b = some o) →
      h'.get? a = some (seqObj "list" out.toArray c) → R (.done (.ret .none)) { s with heap := h' }) : wpAny (model prog w) A (Builtin.«list.sort» ⟨[.ref a], []⟩) R E s := by
  have la : a < s.heap.objs.size := Heap.lt_size ho
  have lz : vs.toArray.size = vs.length := List.size_toArray ..
  have u1 := Heap.SameBut.update s.heap a (Obj.mapSeq fun _ => (#[] : Array Value))
  obtain ⟨e1, g1⟩ : ∃ e1, (s.heap.update a (Obj.mapSeq fun _ => (#[] : Array Value))).get? a = some (seqObj "list" #[] e1) := ⟨_, get?_update_seq ho fun _ => #[]⟩
  rw [list_sort_plain]
  refine wpAny_bind (listItems_at ho rfl (wpAny_bind (listUpdate_at ho rfl (wpAny_bind (seqEpoch_at g1 rfl (wpAny_bind (wpAny_newTuple (wpAny_bind (wpAny_newList (wpAny_holding ?_) (Nat.zero_le _))) (by show vs.length ≤ _; rw [sizeLine_eq]; omega))))) (by rw [lz, sizeLine_eq]; omega) (Nat.zero_le _))))
  generalize hs1 : ({ s with heap := ((s.heap.update a (Obj.mapSeq fun _ => (#[] : Array Value))).push (seqObj "tuple" vs.toArray 0)).push (seqObj "list" #[] 0) } : Shared) = s1
  have kp : ∀ b o, (s.heap.update a (Obj.mapSeq fun _ => (#[] : Array Value))).get? b = some o → s1.heap.get? b = some o := fun b o e => by rw [← hs1]; exact Heap.get?_push_of_some _ (Heap.get?_push_of_some _ e)
  have k1 : Kp a s s1 := ⟨by rw [← hs1], fun b o nb e => kp b o ((u1.2 b nb).trans e)⟩
  have g2 : s1.heap.get? a = some (seqObj "list" #[] e1) := kp a _ g1
  dsimp only
  -- the end
  have fin : ∀ (st : SortSt) (out : List Value), (arrOf st).map (·.2) = out.toArray → failedOf st = none → out.length < 64 → (vs.length < 2 ∧ out = vs ∨ ∃ p : Array Nat, p.size = vs.length ∧ G p ∧ out = p.toList.map fun i => vs.getD i Value.none) →
      wpAny (model prog w) A (do
        let touched := (← seqEpoch a) != e1
        Builtin.List.listUpdate (.ref a) fun _ => (arrOf st).map (·.2)
        if let some e := failedOf st then rule "list.sort.comparison-raised"; throw e
        if touched then rule "list.sort.modified"; raiseError "ValueError" "list modified during sort"
        ret .none) R E s1 := by
    intro st out ho hf hl hc
    rw [ho]
    have u2 := Heap.SameBut.update s1.heap a (Obj.mapSeq fun _ => out.toArray)
    obtain ⟨c2, g3⟩ : ∃ c2, (s1.heap.update a (Obj.mapSeq fun _ => out.toArray)).get? a = some (seqObj "list" out.toArray c2) := ⟨_, get?_update_seq g2 fun _ => out.toArray⟩
    refine wpAny_bind (seqEpoch_at g2 rfl (wpAny_bind (listUpdate_at g2 rfl ?_ (Nat.zero_le _) (by show out.toArray.size ≤ _; rw [List.size_toArray, sizeLine_eq]; omega))))
    rw [hf]
    simp only [bne_self_eq_false, Bool.false_eq_true, if_false]
    have := q out _ c2 hc (fun b o nb e => (u2.2 b nb).trans (k1.2 b o nb e)) g3
    rw [k1.1]
    exact wpAny_pure this
  by_cases h2 : vs.toArray.size < 2
  · rw [if_pos h2, if_pos h2]
    refine wpAny_bind (wpAny_pure ?_)
    rw [StateT.run_pure]
    refine wpAny_bind (wpAny_pure ?_)
    refine fin _ vs ?_ rfl h64 (.inl ⟨by omega, rfl⟩)
    apply Array.toList_inj.mp
    show ((vs.toArray.zip vs.toArray).map (·.2)).toList = _
    rw [Array.toList_map, Array.toList_zip]
    exact List.map_snd_zip (Nat.le_refl _)
  · rw [if_neg h2, if_neg h2]
    obtain ⟨hkk, hw⟩ := hk (by omega) s1 k1
    refine wpAny_bind (hkk _ ?_)
    refine wpAny_bind (wpAny_mono (kat_run (E := E) (Q := fun st' s' => s' = s1 ∧ ∃ p : Array Nat, p.size = vs.length ∧ arrOf st' = p.map (kas_item (vs.toArray.zip vs.toArray)) ∧ failedOf st' = none ∧ G p) rfl (by omega) h64 (fun p st' s' x1 x2 x3 x4 => ⟨x4.1, p, x1, x2, x3, x4.2⟩) hw) ?_ fun _ _ e => e)
    rintro ⟨⟨⟩, st'⟩ s' ⟨rfl, p, hp, har, hf, hG⟩
    refine fin st' (p.toList.map fun i => vs.getD i Value.none) (kat_snds rfl har) hf (by rw [List.length_map, Array.length_toList, hp]; exact h64) (.inr ⟨p, hp, hG, rfl⟩)
/-- what a source holds, gathered; the heap grows -/
theorem gather_src {r d : Addr} {T : String} {n : Nat} {Pn : Nat → Value → Prop} {OK : Heap → Prop} {R : List Value → Shared → Prop} (K : KdlSrc prog w T r d n Pn OK) (hh : A.handled = none) (hok : OK s.heap) (hn : n ≤ sizeLine)
    (q : ∀ (h' : Heap) (tk : Nat) (acc : Array Value), (∀ b o, s.heap.get? b = some o → h'.get? b = some o) → s.heap.objs.size < h'.objs.size → ItemsOf Pn acc n → R acc.toList { s with heap := h', toks := tk }) : wpAny (model prog w) A (collect (.ref r)) R E s := by
  have lt := K.there _ hok
  have g0 : (s.heap.push { cls := .type "list", data := .seq ([] : List Value).toArray }).get? s.heap.objs.size = some { cls := .type "list", data := .seq #[] } := Heap.get?_push_size _ rfl
  have key := kdl_extend (A := A) (s := { s with heap := s.heap.push { cls := .type "list", data := .seq ([] : List Value).toArray } }) (R := fun (f : Result) (s' : Shared) => ∃ (h' : Heap) (tk : Nat) (acc' : Array Value) (c' : Nat), f = .ok (.ret (.ref s.heap.objs.size)) ∧ s' = { s with heap := h', toks := tk } ∧ (∀ b o, s.heap.get? b = some o → h'.get? b = some o) ∧ h'.get? s.heap.objs.size = some { cls := .type "list", dict := none, data := .seq acc' c', slots := #[] } ∧ ItemsOf Pn acc' n)
    K hh (K.keep _ _ hok fun b _ o e => Heap.get?_push_of_some _ e) s.heap.objs.size (Nat.ne_of_gt lt.1) (Nat.ne_of_gt lt.2) (.ref s.heap.objs.size) 0 g0 (fun h' tk acc' c' kp gS ia => ⟨h', tk, acc', c', rfl, rfl, fun b o e => kp b o (Nat.ne_of_lt (Heap.lt_size e)) (Heap.get?_push_of_some _ e), gS, ia⟩) hn
  unfold collect
  refine wpAny_bind (wpAny_runValue (codeAny_builtin entry_proto_collect' (by
    rw [Around.under_plainId PySem.F.plain_proto_collect _]
    show wpAny _ A.in1 (newList [] >>= fun l => again (.builtin "list.__iadd__" ⟨[l, .ref r], []⟩)) _ _ s
    refine wpAny_bind (wpAny_newObj_type (wpAny_pure ⟨plainId_quiet PySem.F.plain_list_iadd _, codeAny_builtin entry_list_iadd' (by
      rw [Around.under_plainId PySem.F.plain_list_iadd _]
      show wpAny _ A.in1 (Builtin.List.listExtendWith (.ref s.heap.objs.size) (.ref r) (.ref s.heap.objs.size)) _ _ _
      refine wpAny_mono key (fun fin s' x => ?_) fun e s' x => ?_
      · cases fin with
        | done f =>
          obtain ⟨h', tk, acc', c', e, rfl, kp, gS, ia⟩ := x; cases e
          show wpAny _ A (load s.heap.objs.size >>= _) _ _ _
          exact wpAny_bind (wpAny_load gS (wpAny_pure (q h' tk acc' kp (Heap.lt_size gS) ia)))
        | again c₁ =>
          refine ⟨x.1, codeAny_mono x.2 fun f s₂ y => ?_⟩
          obtain ⟨h', tk, acc', c', rfl, rfl, kp, gS, ia⟩ := y
          show wpAny _ A (load s.heap.objs.size >>= _) _ _ _
          exact wpAny_bind (wpAny_load gS (wpAny_pure (q h' tk acc' kp (Heap.lt_size gS) ia)))
      · obtain ⟨_, _, _, _, e', _⟩ := x
        cases e')⟩)))))
/-- sorted(r), r a source of keys -/
theorem sorted_raw {r d : Addr} {T : String} {OK : Heap → Prop} {ks : List Value} {R : Value → Shared → Prop} {G : Array Nat → Prop} {κ : SortKind} (K : KdlSrc prog w T r d ks.length (fun i v => ks[i]? = some v) OK) (hh : A.handled = none) (hok : OK s.heap) (h64 : ks.length < 64)
    (hk : 2 ≤ ks.length → ∀ s1 : Shared, (∀ b o, s.heap.get? b = some o → s1.heap.get? b = some o) → (∀ C : SortKind → Shared → Prop, C κ s1 → wpAny (model prog w) A.in1.in1 (keyKind' ks.toArray) C (fun _ _ => False) s1) ∧ (kas_sort ks.length).kasWp (kas_ask prog w A.in1.in1 κ ks) (fun p s' => s' = s1 ∧ G p) s1)
    (q : ∀ (D : Addr) (out : List Value) (h' : Heap) (tk c : Nat), (ks.length < 2 ∧ out = ks ∨ ∃ p : Array Nat, p.size = ks.length ∧ G p ∧ out = p.toList.map fun i => ks.getD i Value.none) → (∀ b o, s.heap.get? b = some o → h'.get? b = some o) →
      s.heap.objs.size ≤ D → h'.get? D = some (seqObj "list" out.toArray c) → R (.ref D) { s with heap := h', toks := tk }) : wpAny (model prog w) A (call (.builtin "sorted") [.ref r]) R E s := by
  refine Calls.call_function_entry kind_sorted plain_sorted entry_sorted (args_sorted1 _) ?_
  unfold Builtin.«sorted»
  refine wpAny_bind (m := checkCount "sorted" 1 1 _) (wpAny_pure (wpAny_bind (gather_src (A := A.in1) K hh hok (by rw [sizeLine_eq]; omega) fun h1 tk acc kp gr0 hacc => ?_)))
  have ea : acc.toList = ks := by
    apply List.ext_getElem?
    intro i
    rcases Nat.lt_or_ge i ks.length with h | h
    · have hi : i < acc.size := by rw [hacc.1]; exact h
      rw [Array.getElem?_toList, Array.getElem?_eq_getElem hi]
      exact (hacc.2 i acc[i] (by rw [Array.getElem?_eq_getElem hi])).symm
    · rw [List.getElem?_eq_none h, List.getElem?_eq_none (by rw [Array.length_toList, hacc.1]; exact h)]
  rw [ea]
  refine wpAny_bind (wpAny_newList ?_ (by rw [sizeLine_eq]; omega))
  have hD : (h1.push (seqObj "list" ks.toArray 0)).get? h1.objs.size = some (seqObj "list" ks.toArray 0) := Heap.get?_push_size _ rfl
  have k2 : ∀ b o, s.heap.get? b = some o → (h1.push (seqObj "list" ks.toArray 0)).get? b = some o := fun b o e => Heap.get?_push_of_some _ (kp b o e)
  have gr : s.heap.objs.size ≤ h1.objs.size := Nat.le_of_lt gr0
  show wpAny _ _ _ _ _ { s with heap := h1.push (seqObj "list" ks.toArray 0), toks := tk }
  refine wpAny_bind (wpAny_holding (wpAny_call_entry slot_list_sort ⟨_, hD, rfl⟩ entry_list_sort (lsort_raw (G := G) (κ := κ) (s := { s with heap := h1.push (seqObj "list" ks.toArray 0), toks := tk }) hD h64 (fun h2 s1 k1 => ?_) fun out h' c hc hkp hg => ?_) (args_list_sort _)))
  · obtain ⟨x1, x2⟩ := hk h2 s1 fun b o e => k1.2 b o (Nat.ne_of_lt (Nat.lt_of_lt_of_le (Heap.lt_size e) gr)) (k2 b o e)
    exact ⟨fun C hC => wpAny_mono (x1 C hC) (fun _ _ z => z) fun _ _ z => z.elim, x2⟩
  · exact ⟨_, rfl, wpAny_pure ⟨_, rfl, q h1.objs.size out h' tk c hc (fun b o e => hkp b o (Nat.ne_of_lt (Nat.lt_of_lt_of_le (Heap.lt_size e) gr)) (k2 b o e)) gr hg⟩⟩
end
end L2

set_option Elab.async false
set_option linter.all false
set_option maxRecDepth 100000
set_option maxHeartbeats 4000000
/-! texts and pairs of texts in order -/
namespace L2
open PySem PySem.W PySem.Spec PyProof.Rows
abbrev ltS (x y : Str) : Bool := decide (x.cps.toList < y.cps.toList)
def ltP (p q : Str × Str) : Bool := if p.1 = q.1 then (if p.2 = q.2 then false else ltS p.2 q.2) else ltS p.1 q.1
theorem lex_tri : ∀ (a b : List Nat), a ≠ b → ¬ a < b → b < a
  | [], [], h, _ => absurd rfl h
  | [], b :: bs, _, h => absurd (List.nil_lt_cons b bs) h
  | a :: as, [], _, _ => List.nil_lt_cons a as
  | a :: as, b :: bs, h, hn => by
    rw [List.cons_lt_cons_iff] at hn ⊢
    rcases Nat.lt_trichotomy a b with q | q | q
    · exact absurd (.inl q) hn
    · subst q
      exact .inr ⟨rfl, lex_tri as bs (fun z => h (by rw [z])) (fun z => hn (.inr ⟨rfl, z⟩))⟩
    · exact .inl q
theorem lex_tr : ∀ {a b c : List Nat}, a < b → b < c → a < c
  | _, [], _, h, _ => absurd h (by simp)
  | _, _ :: _, [], _, h => absurd h (by simp)
  | [], _ :: _, c :: cs, _, _ => List.nil_lt_cons c cs
  | a :: as, b :: bs, c :: cs, h1, h2 => by
    rw [List.cons_lt_cons_iff] at h1 h2 ⊢
    rcases h1 with h1 | ⟨rfl, h1⟩
    · rcases h2 with h2 | ⟨rfl, h2⟩
      · exact .inl (by omega)
      · exact .inl h1
    · rcases h2 with h2 | ⟨rfl, h2⟩
      · exact .inl h2
      · exact .inr ⟨rfl, lex_tr h1 h2⟩
theorem lex_irr : ∀ (a : List Nat), ¬ a < a
  | [], h => absurd h (by simp)
  | a :: as, h => by
    rw [List.cons_lt_cons_iff] at h
    rcases h with h | ⟨_, h⟩
    · omega
    · exact lex_irr as h
theorem cps_inj {x y : Str} (h : x.cps.toList = y.cps.toList) : x = y := by
  cases x; cases y
  simp only [Str.mk.injEq]
  exact Array.toList_inj.mp h
theorem ltS_tri {x y : Str} (h : x ≠ y) (e : ltS x y = false) : ltS y x = true := decide_eq_true (lex_tri _ _ (fun z => h (cps_inj z)) (of_decide_eq_false e))
theorem ltS_tr {x y z : Str} (h1 : ltS x y = true) (h2 : ltS y z = true) : ltS x z = true := decide_eq_true (lex_tr (of_decide_eq_true h1) (of_decide_eq_true h2))
theorem ltS_irr (x : Str) : ltS x x = false := decide_eq_false (lex_irr _)
theorem ltS_asy {x y : Str} (h : ltS x y = true) : ltS y x = false := decide_eq_false fun z => lex_irr _ (lex_tr (of_decide_eq_true h) z)
theorem ltS_ne {x y : Str} (h : ltS x y = true) : x ≠ y := fun z => by rw [z, ltS_irr] at h; cases h
theorem ltP_tri {p q : Str × Str} (h : p ≠ q) (e : ltP p q = false) : ltP q p = true := by
  unfold ltP at e ⊢
  by_cases h1 : p.1 = q.1
  · rw [if_pos h1] at e
    rw [if_pos h1.symm]
    have h2 : p.2 ≠ q.2 := fun z => h (Prod.ext h1 z)
    rw [if_neg h2] at e
    rw [if_neg (Ne.symm h2)]
    exact ltS_tri h2 e
  · rw [if_neg h1] at e
    rw [if_neg (Ne.symm h1)]
    exact ltS_tri h1 e
theorem ltP_tr {p q r : Str × Str} (h1 : ltP p q = true) (h2 : ltP q r = true) : ltP p r = true := by
  unfold ltP at h1 h2 ⊢
  by_cases e1 : p.1 = q.1
  · rw [if_pos e1] at h1
    by_cases e2 : q.1 = r.1
    · rw [if_pos e2] at h2
      rw [if_pos (e1.trans e2)]
      by_cases f1 : p.2 = q.2
      · rw [if_pos f1] at h1; cases h1
      · by_cases f2 : q.2 = r.2
        · rw [if_pos f2] at h2; cases h2
        · rw [if_neg f1] at h1
          rw [if_neg f2] at h2
          have := ltS_tr h1 h2
          rw [if_neg (ltS_ne this)]; exact this
    · rw [if_neg e2] at h2
      rw [if_neg (by rw [e1]; exact e2), e1]; exact h2
  · rw [if_neg e1] at h1
    by_cases e2 : q.1 = r.1
    · rw [if_neg (by rw [← e2]; exact e1), ← e2]; exact h1
    · rw [if_neg e2] at h2
      have := ltS_tr h1 h2
      rw [if_neg (ltS_ne this)]; exact this
theorem ltP_irr (p : Str × Str) : ltP p p = false := by unfold ltP; rw [if_pos rfl, if_pos rfl]
theorem ltP_asy {p q : Str × Str} (h : ltP p q = true) : ltP q p = false := by
  cases e : ltP q p with
  | false => rfl
  | true => have := ltP_tr h e; rw [ltP_irr] at this; cases this
/-- rising -/
theorem rise_of : ∀ (l : List Str), sortedS l = true → l.Nodup → l.Pairwise (fun a b => ltS a b = true)
  | [], _, _ => .nil
  | [x], _, _ => by simp
  | x :: y :: r, h, hn => by
    have h' : (!ltCps y.cps.toList x.cps.toList && risingS y r) = true := h
    rw [Bool.and_eq_true] at h'
    have hr : sortedS (y :: r) = true := h'.2
    have ih := rise_of (y :: r) hr (List.nodup_cons.mp hn).2
    have hxy : ltS x y = true := by
      have h1 : ltS y x = false := by
        have := h'.1
        rw [ltCps_eq] at this
        simpa using this
      exact ltS_tri (fun z => (List.nodup_cons.mp hn).1 (by rw [z]; exact List.mem_cons_self)) h1
    refine List.pairwise_cons.mpr ⟨fun z hz => ?_, ih⟩
    rcases List.mem_cons.mp hz with rfl | hz
    · exact hxy
    · exact ltS_tr hxy ((List.pairwise_cons.mp ih).1 z hz)
section
variable {X : Cx}
theorem call_sortedS : CallR X (.builtin "sorted") (fun xs H Q => ∃ (p : Addr) (ss : List Str), xs = [.ref p] ∧ SqL X.K H p (ss.map V.str) ∧ ss.length < 64 ∧ ss.Nodup ∧ ∀ (ss' : List Str) l, ss'.Perm ss → ss'.Pairwise (fun a b => ltS a b = true) → H l = none → Q (.ref l) (upd H l (.lst (ss'.map V.str)))) := by
  intro pins s σ H xs us Q I r h
  obtain ⟨p, ss, rfl, hq, h64, hnd, q⟩ := h
  obtain ⟨u, rfl, ru⟩ := vals1 r
  cases ru
  obtain ⟨its, rv, pl, hz⟩ := I.list hq
  have hS := strsAre_of rv
  have hl := rv.length
  rw [List.length_map] at hl
  refine sorted_strs pl.isList hS (by omega) fun out ss' a1 a2 a3 => ?_
  have nl : H (s.heap.objs.size + 1) = none := I.hok.fresh (Nat.le_succ _)
  obtain ⟨e, he⟩ := sortedAll_at s.heap its out
  have hn' : ss'.Nodup := a2.nodup_iff.mpr hnd
  refine ⟨.ref _, _, I.laid (a := s.heap.objs.size + 1) (o := .lst (ss'.map V.str)) (t' := s.toks) (fun b o hb => sortedAll_old hb) (Nat.le_succ _) ⟨?_, out.toList, e, ?_, ?_⟩, rfl, q ss' _ a2 (rise_of ss' a3 hn') nl⟩
  · rw [List.length_map, a2.length_eq]; exact Nat.le_of_lt (small1000 (by omega))
  · have mk : ∀ {vs : List Value} {zs : List Str}, StrsAre vs zs → Vals (zs.map V.str) vs := by
      intro vs zs h
      induction h with
      | nil => exact .nil
      | cons x t _ ih => exact .cons ⟨t, rfl⟩ ih
    exact mk a1
  · rw [Array.toArray_toList]; exact he

/-- vs are tuples of two texts -/
def PairsAt (H : Hp) (vs : List V) (ps : List (Str × Str)) : Prop := vs.length = ps.length ∧ ∀ (i : Nat) (v : V) (p : Str × Str), vs[i]? = some v → ps[i]? = some p → ∃ b, v = .ref b ∧ H b = some (.tup [.str p.1, .str p.2])
def keyP (p : Str × Str) : List Key := [.inr p.1, .inr p.2]
/-- a tuple of two texts, as it lies -/
def TupAt (h : Heap) (u : Value) (p : Str × Str) : Prop := ∃ b o n t1 t2, u = .ref b ∧ h.get? b = some o ∧ o.cls = .type "tuple" ∧ o.data = .seq #[.str p.1 t1, .str p.2 t2] n
theorem TupAt.keeps {h h' : Heap} {u : Value} {p : Str × Str} (x : TupAt h u p) (k : ∀ b o, h.get? b = some o → h'.get? b = some o) : TupAt h' u p := let ⟨b, o, n, t1, t2, e, g, r⟩ := x; ⟨b, o, n, t1, t2, e, k _ _ g, r⟩
theorem ask_pair {prog : Program} {w : World} {A : Around} {E : Value → Shared → Prop} {s : Shared} {u v : Value} {p q : Str × Str} {C : Bool → Shared → Prop} (x : TupAt s.heap u p) (y : TupAt s.heap v q) (h : C (ltP p q) s) : wpAny (model prog w) A (keyLt' (tuples' true) u v) C E s := by
  obtain ⟨b, o, n, t1, t2, rfl, g, _, d⟩ := x
  obtain ⟨b', o', n', t3, t4, rfl, g', _, d'⟩ := y
  refine kat_lt g d g' d' ?_
  show KatLex prog w A true (decide (2 < 2)) C [(.str p.1 t1, .str q.1 t3), (.str p.2 t2, .str q.2 t4)] 0 s
  unfold ltP at h
  refine kat_cons (wpAny_eqBool_str ?_)
  by_cases e1 : p.1 = q.1
  · rw [if_pos e1] at h
    rw [decide_eq_true e1]
    refine kat_yes (kat_cons (wpAny_eqBool_str ?_))
    by_cases e2 : p.2 = q.2
    · rw [if_pos e2] at h
      rw [decide_eq_true e2]
      exact kat_yes (kat_nil h)
    · rw [if_neg e2] at h
      rw [decide_eq_false e2]
      refine kat_no ?_
      show wpAny (model prog w) A (oneLt' false (.str p.2 t2) (.str q.2 t4)) C _ s
      exact kat_one _ _ (lt_str h)
  · rw [if_neg e1] at h
    rw [decide_eq_false e1]
    refine kat_no ?_
    show wpAny (model prog w) A (oneLt' true (.str p.1 t1) (.str q.1 t3)) C _ s
    exact oneLt_str h
theorem tups_of {h : Heap} : ∀ {us : List Value} {ps : List (Str × Str)}, us.length = ps.length → (∀ (i : Nat) (u : Value) (p : Str × Str), us[i]? = some u → ps[i]? = some p → TupAt h u p) → ∃ fs, KatTups h us fs ∧ fs.length = us.length ∧ ∀ f ∈ fs, ∃ x t, f = Value.str x t
  | [], [], _, _ => ⟨[], trivial, rfl, fun _ z => nomatch z⟩
  | [], _ :: _, z, _ => by simp at z
  | _ :: _, [], z, _ => by simp at z
  | u :: us, p :: ps, hl, hx => by
    obtain ⟨fs, h1, h2, h3⟩ := tups_of (us := us) (ps := ps) (by simpa using hl) fun i u p e1 e2 => hx (i + 1) u p (by simpa using e1) (by simpa using e2)
    obtain ⟨b, o, n, t1, t2, rfl, g, c, d⟩ := hx 0 u p rfl rfl
    refine ⟨.str p.1 t1 :: fs, KatTups.cons g c d rfl h1, by simp [h2], fun f hf => ?_⟩
    rcases List.mem_cons.mp hf with rfl | hf
    · exact ⟨_, _, rfl⟩
    · exact h3 f hf
def pAt (ps : List (Str × Str)) (i : Nat) : Str × Str := ps.getD i (⟨#[]⟩, ⟨#[]⟩)
theorem strict_pairs {ps : List (Str × Str)} (hn : ps.Nodup) : RW.Strict ps.length (fun i j => ltP (pAt ps i) (pAt ps j)) where
  tot := fun i j hi hj hij e => ltP_tri (fun z => hij ((List.getElem_inj hn (h₀ := hi) (h₁ := hj)).mp (by unfold pAt at z; simpa [hi, hj] using z))) e
  tr := fun i j k _ _ _ h1 h2 => ltP_tr h1 h2
  asy := fun i j _ _ h => ltP_asy h
/-- the order that the sort puts, as a list -/
theorem out_pairs {ps : List (Str × Str)} {p : Array Nat} (hp : RW.PermN ps.length p) (hs : RW.Sor (fun i j => ltP (pAt ps i) (pAt ps j)) p ps.length) : (p.toList.map (pAt ps)).Perm ps ∧ (p.toList.map (pAt ps)).Pairwise (fun a b => ltP a b = true) := by
  constructor
  · have h1 := hp.map (pAt ps)
    have h2 : (List.range ps.length).map (pAt ps) = ps := by
      apply List.ext_getElem?
      intro i
      rw [List.getElem?_map]
      rcases Nat.lt_or_ge i ps.length with h | h
      · rw [List.getElem?_range h]
        show some (pAt ps i) = _
        unfold pAt
        simp [h]
      · rw [List.getElem?_eq_none (by simpa using h), List.getElem?_eq_none h]; rfl
    rwa [h2] at h1
  · have hz := hp.size
    rw [List.pairwise_iff_getElem]
    intro i j hi hj hij
    have hi' : i < p.size := by simpa using hi
    have hj' : j < p.size := by simpa using hj
    have h := hs i j hij (by omega)
    rw [RW.gd_get hi', RW.gd_get hj'] at h
    simpa using h
theorem paired_get {α β : Type} {R : α → β → Prop} : ∀ {as : List α} {bs : List β}, Paired R as bs → as.length = bs.length ∧ ∀ (i : Nat) (a : α) (b : β), as[i]? = some a → bs[i]? = some b → R a b
  | _, _, .nil => ⟨rfl, fun i a b e => by simp at e⟩
  | _, _, .cons h t => by
    obtain ⟨h1, h2⟩ := paired_get t
    refine ⟨by simp [h1], fun i a b e1 e2 => ?_⟩
    cases i with
    | zero => simp at e1 e2; subst e1; subst e2; exact h
    | succ i => exact h2 i a b (by simpa using e1) (by simpa using e2)
theorem call_sortedT (hc : X.calm = true) : CallR X (.builtin "sorted") (fun xs H Q => ∃ (d : Addr) (kvs : List (List Key × V)) (ps : List (Str × Str)), xs = [.ref d] ∧ H d = some (.dT kvs) ∧ kvs.map (·.1) = ps.map keyP ∧ ps.length < 64 ∧
    ∀ (ps' : List (Str × Str)) (vs : List V) l, ps'.Perm ps → ps'.Pairwise (fun a b => ltP a b = true) → PairsAt H vs ps' → H l = none → Q (.ref l) (upd H l (.lst vs))) := by
  intro pins s σ H xs us Q I r h
  obtain ⟨d, kvs, ps, rfl, hd, hk, h64, q⟩ := h
  obtain ⟨u, rfl, ru⟩ := vals1 r
  cases ru
  obtain ⟨_, nsys, zs, hp, o, es, ep, g, ex, dat, hes, hnd⟩ := (show ObjOk X.prog X.w H s.heap d (.dT kvs) from I.hok d _ hd)
  obtain ⟨hl, hget⟩ := paired_get hp
  have hlk : kvs.length = ps.length := by have := congrArg List.length hk; simpa using this
  have hnp : ps.Nodup := by
    have e : zs.map (·.1) = kvs.map (·.1) := by
      apply List.ext_getElem?
      intro i
      rw [List.getElem?_map, List.getElem?_map]
      rcases Nat.lt_or_ge i kvs.length with h | h
      · have h' : i < zs.length := by omega
        have := (hget i kvs[i] zs[i] (by simp [h]) (by simp [h'])).1
        simp [h, h', this]
      · rw [List.getElem?_eq_none h, List.getElem?_eq_none (by omega)]; rfl
    rw [e, hk] at hnd
    exact (List.pairwise_map.mp hnd).imp fun h z => h (by rw [z])
  -- the keys
  have kz : (zs.map fun q => Value.ref q.2.1).length = ps.length := by rw [List.length_map]; omega
  have raw : RawD s.heap d (zs.map fun q => Value.ref q.2.1) ep := ⟨o, es, g, ex, dat, by rw [hes, List.map_map]; rfl⟩
  have keyA : ∀ i (h : i < ps.length), ∃ b, (zs.map fun q => Value.ref q.2.1)[i]? = some (.ref b) ∧ H b = some (.tup [.str ps[i].1, .str ps[i].2]) := fun i h => by
    have h1 : i < kvs.length := by omega
    have h2 : i < zs.length := by omega
    have hr := hget i kvs[i] zs[i] (by simp [h1]) (by simp [h2])
    refine ⟨zs[i].2.1, by simp [h2], ?_⟩
    have ek : kvs[i].1 = keyP ps[i] := by
      have e1 : (kvs.map (·.1))[i]? = some kvs[i].1 := by simp [h1]
      rw [hk] at e1
      have e2 : (ps.map keyP)[i]? = some (keyP ps[i]) := by simp [h]
      rw [e1] at e2
      exact Option.some.inj e2
    rw [hr.2.1, ek]
    rfl
  have keyT : ∀ (i : Nat) (u : Value) (p : Str × Str), (zs.map fun q => Value.ref q.2.1)[i]? = some u → ps[i]? = some p → TupAt s.heap u p := fun i u p e1 e2 => by
    have hi : i < ps.length := by
      rcases Nat.lt_or_ge i ps.length with z | z
      · exact z
      · rw [List.getElem?_eq_none z] at e2; cases e2
    obtain ⟨b, f1, f2⟩ := keyA i hi
    rw [f1] at e1
    cases e1
    have ep' : ps[i] = p := by simpa [hi] using e2
    rw [ep'] at f2
    obtain ⟨_, its, rv, o', g', c', n', d'⟩ := (show ObjOk X.prog X.w H s.heap b (.tup [.str p.1, .str p.2]) from I.hok b _ f2)
    cases rv with
    | cons r1 rv => cases rv with
      | cons r2 rv => cases rv with
        | nil =>
          obtain ⟨t1, rfl⟩ := r1
          obtain ⟨t2, rfl⟩ := r2
          exact ⟨b, o', n', t1, t2, rfl, g', c', d'⟩
  generalize hks : (zs.map fun q => Value.ref q.2.1) = ks at *
  refine sorted_raw (A := X.A) (G := fun p => RW.PermN ps.length p ∧ RW.Sor (fun i j => ltP (pAt ps i) (pAt ps j)) p ps.length) (κ := tuples' true) (raw_src (ks := ks) (ep := ep) nsys) (I.ok.hd hc) raw (by omega) (fun h2 s1 k1 => ?_) (fun D out h' tk c ho kp hD gD => ?_)
  · have keyT1 : ∀ (i : Nat) (u : Value) (p : Str × Str), ks[i]? = some u → ps[i]? = some p → TupAt s1.heap u p := fun i u p e1 e2 => (keyT i u p e1 e2).keeps k1
    obtain ⟨fs, ft, fl, fa⟩ := tups_of kz keyT1
    refine ⟨fun C hC => kat_kind (T := .type "str") ft (by omega) (fun f hf => ?_) rfl hC, ?_⟩
    · obtain ⟨x, t, rfl⟩ := fa f hf
      exact Looks.of_pure rfl
    · rw [kz]
      refine RW.OkT.wp (N := ps.length) (lt := fun i j => ltP (pAt ps i) (pAt ps j)) (I := fun s' => s' = s1) (fun i j C s' hi hj e hC => ?_) (fun p s' hp e => ⟨e, hp⟩) rfl (RW.sort_ok (strict_pairs hnp) (by omega))
      subst e
      have gi : ∀ i, i < ps.length → TupAt s'.heap (ks.getD i Value.none) (pAt ps i) := fun i hi => by
        have hi' : i < ks.length := by omega
        refine keyT1 i _ _ ?_ ?_
        · simp [hi']
        · unfold pAt; simp [hi]
      exact ask_pair (gi i hi) (gi j hj) (hC s' rfl)
  · -- the list that comes
    have nD : H D = none := I.hok.fresh hD
    obtain ⟨ps', hperm, hpw, hout⟩ : ∃ ps' : List (Str × Str), ps'.Perm ps ∧ ps'.Pairwise (fun a b => ltP a b = true) ∧ out.length = ps'.length ∧ ∀ (i : Nat) (u : Value) (p : Str × Str), out[i]? = some u → ps'[i]? = some p → ∃ b, u = .ref b ∧ H b = some (.tup [.str p.1, .str p.2]) := by
      rcases ho with ⟨hlt, rfl⟩ | ⟨p, hp, ⟨hP, hS⟩, rfl⟩
      · refine ⟨ps, .refl _, ?_, kz, fun i u p e1 e2 => ?_⟩
        · match ps, (show ps.length < 2 by omega) with
          | [], _ => exact .nil
          | [x], _ => exact List.pairwise_singleton _ _
        · have hi : i < ps.length := by
            rcases Nat.lt_or_ge i ps.length with z | z
            · exact z
            · rw [List.getElem?_eq_none z] at e2; cases e2
          obtain ⟨b, f1, f2⟩ := keyA i hi
          rw [f1] at e1; cases e1
          have ep' : ps[i] = p := by simpa [hi] using e2
          rw [ep'] at f2
          exact ⟨b, rfl, f2⟩
      · obtain ⟨o1, o2⟩ := out_pairs hP hS
        refine ⟨p.toList.map (pAt ps), o1, o2, by rw [List.length_map, List.length_map], fun i u q e1 e2 => ?_⟩
        rw [List.getElem?_map] at e1 e2
        cases hpi : p.toList[i]? with
        | none => rw [hpi] at e1; cases e1
        | some j =>
          rw [hpi] at e1 e2
          have hj : j < ps.length := List.mem_range.mp (hP.mem_iff.mp (List.mem_of_getElem? hpi))
          obtain ⟨b, f1, f2⟩ := keyA j hj
          have hj' : j < ks.length := by omega
          have eu : ks.getD j Value.none = .ref b := by
            rw [List.getD_eq_getElem?_getD, f1]; rfl
          have e1' : some (ks.getD j Value.none) = some u := e1
          rw [eu] at e1'
          have e2' : some (pAt ps j) = some q := e2
          have eq : pAt ps j = ps[j] := by unfold pAt; simp [hj]
          rw [eq] at e2'
          cases e1'
          cases e2'
          exact ⟨b, rfl, f2⟩
    obtain ⟨hol, hog⟩ := hout
    -- as values
    have hall : ∀ u ∈ out, ∃ b, u = Value.ref b := fun u hu => by
      obtain ⟨i, hi, rfl⟩ := List.getElem_of_mem hu
      obtain ⟨b, e, _⟩ := hog i out[i] (ps'[i]'(by omega)) (by simp [hi]) (by simp [show i < ps'.length by omega])
      exact ⟨b, e⟩
    obtain ⟨vs, rvs⟩ : ∃ vs : List V, Vals vs out ∧ ∀ (i : Nat) (b : Addr), out[i]? = some (.ref b) → vs[i]? = some (.ref b) := by
      clear hog hol gD ho
      induction out with
      | nil => exact ⟨[], .nil, fun i b e => by simp at e⟩
      | cons u out ih =>
        obtain ⟨vs, h1, h2⟩ := ih fun u hu => hall u (List.mem_cons_of_mem _ hu)
        obtain ⟨b, rfl⟩ := hall u List.mem_cons_self
        refine ⟨.ref b :: vs, .cons rfl h1, fun i b' e => ?_⟩
        cases i with
        | zero => simpa using e
        | succ i => exact h2 i b' (by simpa using e)
    have lv : vs.length = out.length := rvs.1.length
    refine ⟨.ref D, _, I.laid (a := D) (o := .lst vs) (t' := tk) kp hD ⟨by rw [lv, hol, hperm.length_eq]; exact Nat.le_of_lt (small1000 (by omega)), out, c, rvs.1, gD⟩, rfl, q ps' vs D hperm hpw ⟨by omega, fun i v p e1 e2 => ?_⟩ nD⟩
    have hi : i < out.length := by
      rcases Nat.lt_or_ge i out.length with z | z
      · exact z
      · rw [List.getElem?_eq_none (by omega)] at e1; cases e1
    obtain ⟨b, f1, f2⟩ := hog i out[i] p (by simp [hi]) e2
    have := rvs.2 i b (by rw [← f1]; simp [hi])
    rw [this] at e1
    cases e1
    exact ⟨b, rfl, f2⟩
end
end L2

set_option Elab.async false
set_option linter.all false
set_option maxRecDepth 100000
set_option maxHeartbeats 4000000
namespace L2
open PySem PySem.W PySem.Spec PyProof.Rows
/-! min, max of two texts -/
def valS (a c : Str) (t u : Tok) (i : Nat) : Value := if i = 0 then .str a t else .str c u
section
variable {prog : Program} {w : World} {A : Around} {E : Value → Shared → Prop} {s : Shared}
theorem two_at {a c : Str} {t u : Tok} {i : Nat} {v : Value} (h : (#[Value.str a t, Value.str c u])[i]? = some v) : (i = 0 ∧ v = .str a t) ∨ (i = 1 ∧ v = .str c u) := by
  match i, h with
  | 0, h => exact .inl ⟨rfl, by simpa using h.symm⟩
  | 1, h => exact .inr ⟨rfl, by simpa using h.symm⟩
  | i + 2, h => simp at h
theorem max_two_strs {a c : Str} {t u : Tok} {R : Value → Shared → Prop} (hh : A.handled = none) (q : ∀ h' tk, (∀ b o, s.heap.get? b = some o → h'.get? b = some o) → R (if ltS a c = true then .str c u else .str a t) { s with heap := h', toks := tk }) :
    wpAny (model prog w) A (call (.builtin "max") [.str a t, .str c u]) R E s := by
  have hT : (s.heap.push { cls := .type "tuple", data := .seq #[.str a t, .str c u] }).IsTuple s.heap.objs.size #[.str a t, .str c u] := ⟨_, Heap.get?_push_size _ rfl, rfl, 0, rfl⟩
  have z : (s.heap.push { cls := .type "tuple", data := .seq #[.str a t, .str c u] }).objs.size = s.heap.objs.size + 1 := Heap.size_push ..
  refine call_max_two (wpAny_pyIter_tuple hT ?_)
  refine ⟨_, [_, s.heap.objs.size], [_], _, _, _, fun i j => ltS (strOf (valS a c t u j)) (strOf (valS a c t u i)), rfl, Walks.tuple (A := A.in1) hh _ s.heap.objs.size (by rw [z]; exact Nat.ne_of_lt (Nat.lt_succ_self _)) #[.str a t, .str c u], ⟨⟨_, Heap.get?_push_size _ rfl, rfl, rfl⟩, hT.push _⟩, fun b hb => ?_, (by decide : 0 < 2), ?_, fun v h' tk hP hk => ?_⟩
  · show b < ((s.heap.push _).push _).objs.size
    rw [Heap.size_push, z]
    rcases List.mem_cons.mp hb with rfl | hb
    · rw [z]; exact Nat.lt_succ_self _
    · rcases List.mem_cons.mp hb with rfl | hb
      · exact Nat.lt_succ_of_lt (Nat.lt_succ_self _)
      · cases hb
  · intro i j vi vj s' R' E' hi hj hq
    rcases two_at hi with ⟨rfl, rfl⟩ | ⟨rfl, rfl⟩ <;> rcases two_at hj with ⟨rfl, rfl⟩ | ⟨rfl, rfl⟩ <;> exact (PySem.P.gt_str hq : wpAny (model prog w) A.in1 (compareOp .Gt _ _) R' E' s')
  · have keep : ∀ b o, s.heap.get? b = some o → h'.get? b = some o := fun b o e => hk b o (fun hm => by
      rcases List.mem_cons.mp hm with e1 | hm
      · have lb := Heap.lt_size e
        rw [e1, z] at lb
        exact absurd lb (Nat.not_lt.mpr (Nat.le_succ _))
      · cases hm) (Heap.get?_push_of_some _ (Heap.get?_push_of_some _ e))
    have fin := q h' tk keep
    have eb : argBest (fun i j => ltS (strOf (valS a c t u j)) (strOf (valS a c t u i))) (2 - 1) = if ltS a c = true then 1 else 0 := rfl
    have hP' : (#[Value.str a t, Value.str c u])[if ltS a c = true then 1 else 0]? = some v := hP
    by_cases hc : ltS a c = true
    · rw [if_pos hc] at hP' fin
      have ev : Value.str c u = v := by simpa using hP'
      rw [← ev]; exact fin
    · rw [if_neg hc] at hP' fin
      have ev : Value.str a t = v := by simpa using hP'
      rw [← ev]; exact fin
theorem min_two_strs {a c : Str} {t u : Tok} {R : Value → Shared → Prop} (hh : A.handled = none) (q : ∀ h' tk, (∀ b o, s.heap.get? b = some o → h'.get? b = some o) → R (if ltS c a = true then .str c u else .str a t) { s with heap := h', toks := tk }) :
    wpAny (model prog w) A (call (.builtin "min") [.str a t, .str c u]) R E s := by
  have hT : (s.heap.push { cls := .type "tuple", data := .seq #[.str a t, .str c u] }).IsTuple s.heap.objs.size #[.str a t, .str c u] := ⟨_, Heap.get?_push_size _ rfl, rfl, 0, rfl⟩
  have z : (s.heap.push { cls := .type "tuple", data := .seq #[.str a t, .str c u] }).objs.size = s.heap.objs.size + 1 := Heap.size_push ..
  refine call_min_two (wpAny_pyIter_tuple hT ?_)
  refine ⟨_, [_, s.heap.objs.size], [_], _, _, _, fun i j => ltS (strOf (valS a c t u i)) (strOf (valS a c t u j)), rfl, Walks.tuple (A := A.in1) hh _ s.heap.objs.size (by rw [z]; exact Nat.ne_of_lt (Nat.lt_succ_self _)) #[.str a t, .str c u], ⟨⟨_, Heap.get?_push_size _ rfl, rfl, rfl⟩, hT.push _⟩, fun b hb => ?_, (by decide : 0 < 2), ?_, fun v h' tk hP hk => ?_⟩
  · show b < ((s.heap.push _).push _).objs.size
    rw [Heap.size_push, z]
    rcases List.mem_cons.mp hb with rfl | hb
    · rw [z]; exact Nat.lt_succ_self _
    · rcases List.mem_cons.mp hb with rfl | hb
      · exact Nat.lt_succ_of_lt (Nat.lt_succ_self _)
      · cases hb
  · intro i j vi vj s' R' E' hi hj hq
    rcases two_at hi with ⟨rfl, rfl⟩ | ⟨rfl, rfl⟩ <;> rcases two_at hj with ⟨rfl, rfl⟩ | ⟨rfl, rfl⟩ <;> exact (lt_str hq : wpAny (model prog w) A.in1 (compareOp .Lt _ _) R' E' s')
  · have keep : ∀ b o, s.heap.get? b = some o → h'.get? b = some o := fun b o e => hk b o (fun hm => by
      rcases List.mem_cons.mp hm with e1 | hm
      · have lb := Heap.lt_size e
        rw [e1, z] at lb
        exact absurd lb (Nat.not_lt.mpr (Nat.le_succ _))
      · cases hm) (Heap.get?_push_of_some _ (Heap.get?_push_of_some _ e))
    have fin := q h' tk keep
    have eb : argBest (fun i j => ltS (strOf (valS a c t u i)) (strOf (valS a c t u j))) (2 - 1) = if ltS c a = true then 1 else 0 := rfl
    have hP' : (#[Value.str a t, Value.str c u])[if ltS c a = true then 1 else 0]? = some v := hP
    by_cases hc : ltS c a = true
    · rw [if_pos hc] at hP' fin
      have ev : Value.str c u = v := by simpa using hP'
      rw [← ev]; exact fin
    · rw [if_neg hc] at hP' fin
      have ev : Value.str a t = v := by simpa using hP'
      rw [← ev]; exact fin
end

section
variable {X : Cx}
theorem call_max2S (hc : X.calm = true) : CallR X (.builtin "max") (fun xs H Q => ∃ a c, xs = [.str a, .str c] ∧ Q (.str (if ltS a c = true then c else a)) H) := by
  intro pins s σ H xs us Q I r h
  obtain ⟨i, j, rfl, q⟩ := h
  obtain ⟨u, w', rfl, ⟨t, rfl⟩, ⟨t', rfl⟩⟩ := vals2 r
  refine max_two_strs (I.ok.hd hc) fun h' tk k => ⟨_, H, I.kept k, ?_, q⟩
  by_cases hj : ltS i j = true
  · rw [if_pos hj, if_pos hj]; exact ⟨_, rfl⟩
  · rw [if_neg hj, if_neg hj]; exact ⟨_, rfl⟩
theorem call_min2S (hc : X.calm = true) : CallR X (.builtin "min") (fun xs H Q => ∃ a c, xs = [.str a, .str c] ∧ Q (.str (if ltS c a = true then c else a)) H) := by
  intro pins s σ H xs us Q I r h
  obtain ⟨i, j, rfl, q⟩ := h
  obtain ⟨u, w', rfl, ⟨t, rfl⟩, ⟨t', rfl⟩⟩ := vals2 r
  refine min_two_strs (I.ok.hd hc) fun h' tk k => ⟨_, H, I.kept k, ?_, q⟩
  by_cases hj : ltS j i = true
  · rw [if_pos hj, if_pos hj]; exact ⟨_, rfl⟩
  · rw [if_neg hj, if_neg hj]; exact ⟨_, rfl⟩
end
end L2

set_option Elab.async false
set_option linter.all false
set_option maxRecDepth 100000
set_option maxHeartbeats 4000000
namespace L2
open PySem PySem.W PySem.Spec PyProof.Rows
section
open PySem.SeqAt
open PySem.AutoSeq1 (wpAny_loadPart')
open PySem.MeetsSeq PySem.MeetsSeq2 PySem.MeetsSeq3
theorem tuple_lt_pair (l b : Addr) (n n2 : Nat) (dd dd2 : Option Addr) (sl sl2 : Array (Option Value)) (x y z v : Str) (t1 t2 t3 t4 : Tok) :
    Meets (Builtin.«tuple.__lt__» ⟨[.ref l, .ref b], []⟩) (fun _ R s => s.heap.get? l = some { cls := .type "tuple", dict := dd, data := .seq #[.str x t1, .str y t2] n, slots := sl } ∧ s.heap.get? b = some { cls := .type "tuple", dict := dd2, data := .seq #[.str z t3, .str v t4] n2, slots := sl2 } ∧ R (.ok (.ret (.bool (ltP (x, y) (z, v))))) s) :=
  .of_wp fun prog w A R s h => by
    obtain ⟨hp, g, d, tk, os⟩ := s; obtain ⟨hl, hb, h⟩ := h
    have f2 := AutoSeq1.sub_tuple_tuple
    have cmp : ∀ (a c : Str) (t u : Tok) (E : Value → Shared → Prop) (Q : Value → Shared → Prop), Q (.bool (ltS a c)) ⟨hp, g, d, tk, os⟩ → wpAny (model prog w) A.in1 (richCompare .Lt (.str a t) (.str c u)) Q E ⟨hp, g, d, tk, os⟩ := fun a c t u E Q hq => (PyProof.Rows.lt_str hq : wpAny (model prog w) A.in1 (compareOp .Lt (.str a t) (.str c u)) Q E ⟨hp, g, d, tk, os⟩)
    wp_walk using wpAny_loadPart' hl, wpAny_loadPart' hb, wpAny_forIn_list _ (fun rest b s' => b.1 = none ∧ s' = ⟨hp, g, d, tk, os⟩ ∧ ((rest = [(Value.str x t1, Value.str z t3), (Value.str y t2, Value.str v t4)]) ∨ (rest = [(Value.str y t2, Value.str v t4)] ∧ x = z) ∨ (rest = [] ∧ x = z ∧ y = v))) _
    case turn =>
      rintro ⟨p, q⟩ rest b s' ⟨hb', rfl, hr⟩
      rcases hr with hr | ⟨hr, ex⟩ | ⟨hr, _⟩
      · injection hr with h1 h2
        injection h1 with h3 h4
        subst h3 h4
        refine wpAny_bind (wpAny_eqBool_str ?_)
        by_cases ex : x = z
        · rw [decide_eq_true ex]
          wp_walk
          exact ⟨rfl, rfl, .inr (.inl ⟨h2, ex⟩)⟩
        · rw [decide_eq_false ex]
          have c1 := cmp x z t1 t3
          wp_walk using c1
          unfold ltP at h
          rw [if_neg ex] at h
          exact ⟨_, rfl, h⟩
      · injection hr with h1 h2
        injection h1 with h3 h4
        subst h3 h4
        refine wpAny_bind (wpAny_eqBool_str ?_)
        by_cases ey : y = v
        · rw [decide_eq_true ey]
          wp_walk
          exact ⟨rfl, rfl, .inr (.inr ⟨h2, ex, ey⟩)⟩
        · rw [decide_eq_false ey]
          have c1 := cmp y v t2 t4
          wp_walk using c1
          unfold ltP at h
          rw [if_pos ex, if_neg ey] at h
          exact ⟨_, rfl, h⟩
      · cases hr
    case fin =>
      rintro ⟨b1, b2⟩ s' ⟨hb', rfl, hr⟩
      simp only at hb'
      subst hb'
      rcases hr with hr | ⟨hr, _⟩ | ⟨_, ex, ey⟩
      · cases hr
      · cases hr
      · unfold ltP at h
        rw [if_pos ex, if_pos ey] at h
        wp_walk
        exact ⟨_, rfl, h⟩
    case h =>
      exact ⟨rfl, rfl, .inl rfl⟩
end

section
variable {X : Cx} {K : PySem.W.Frag}
/-- pairs of texts in order -/
def rLtP : R2 := fun x y H Q => ∃ a b p q, x = .ref a ∧ y = .ref b ∧ H a = some (.tup [.str p.1, .str p.2]) ∧ H b = some (.tup [.str q.1, .str q.2]) ∧ Q (.bl (ltP p q)) H
theorem pair_at {pins : List (Addr × Obj)} {σ : St} {H : Hp} {s : Shared} {a : Addr} {p : Str × Str} (I : Inv X pins σ H s) (h : H a = some (.tup [.str p.1, .str p.2])) : ∃ t1 t2 n dd sl, s.heap.get? a = some { cls := .type "tuple", dict := dd, data := .seq #[.str p.1 t1, .str p.2 t2] n, slots := sl } := by
  obtain ⟨_, its, rv, o', g', c', n', d'⟩ := (show ObjOk X.prog X.w H s.heap a (.tup [.str p.1, .str p.2]) from I.hok a _ h)
  cases rv with
  | cons r1 rv => cases rv with
    | cons r2 rv => cases rv with
      | nil =>
        obtain ⟨t1, rfl⟩ := r1
        obtain ⟨t2, rfl⟩ := r2
        obtain ⟨cls, dd, data, sl⟩ := o'
        simp only at c' d'
        subst c' d'
        exact ⟨t1, t2, n', dd, sl, g'⟩
theorem op_ltP (hu : X.A.units < cLine) : OpR X (compareOp .Lt) rLtP := by
  intro pins s σ H x y v u Q I rx ry h
  obtain ⟨a, b, p, q, rfl, rfl, ha, hb, fin⟩ := h
  cases rx
  cases ry
  obtain ⟨t1, t2, n, dd, sl, g1⟩ := pair_at I ha
  obtain ⟨t3, t4, n2, dd2, sl2, g2⟩ := pair_at I hb
  exact richCompare_meets_room (op := .Lt) ⟨_, g1, rfl⟩ ⟨_, g2, rfl⟩ PySem.F.slot_tuple_lt PySem.F.entry_tuple_lt (PySem.F.args_tuple_lt_2 _ _) (tuple_lt_pair a b n n2 dd dd2 sl sl2 p.1 p.2 q.1 q.2 t1 t2 t3 t4)
    ⟨g1, g2, show Value.bool (ltP p q) ≠ Value.notImplemented ∧ EP X pins σ Q (.bool (ltP p q)) s from ⟨(fun x => nomatch x), ⟨.bl (ltP p q), H, I, rfl, fin⟩⟩⟩ hu
/-- texts, or pairs of texts -/
def rLtA : R2 := fun x y H Q => (∃ i j, x = .str i ∧ y = .str j ∧ Q (.bl (ltS i j)) H) ∨ rLtP x y H Q
theorem op_ltA (hu : X.A.units < cLine) : OpR X (compareOp .Lt) rLtA := op_lt_str.or (op_ltP hu)
/-- t + u, whatever is empty -/
def rCatA (K : PySem.W.Frag) : R2 := fun x y H Q => ∃ a b xs ys, x = .ref a ∧ y = .ref b ∧ SqT K H a xs ∧ SqT K H b ys ∧ xs.length + ys.length ≤ sizeLine ∧
  (xs = [] → Q (.ref b) H) ∧ (xs ≠ [] → ys = [] → Q (.ref a) H) ∧ (xs ≠ [] → ys ≠ [] → ∀ p, H p = none → Q (.ref p) (upd H p (.tup (xs ++ ys))))
theorem op_catA : OpR X (binaryOp .Add) (rCatA X.K) := by
  intro pins s σ H x y v u Q I rx ry h
  obtain ⟨a, b, xs, ys, rfl, rfl, ha, hb, hz, q0, q1, q2⟩ := h
  by_cases hx : xs = []
  · cases rx
    cases ry
    obtain ⟨its, r1, p1, _⟩ := I.tuple ha
    obtain ⟨its2, r2, p2, _⟩ := I.tuple hb
    have e1 : its = [] := r1.nil_iff.mpr hx
    obtain ⟨⟨cls, dd, data, sl⟩, ho, hc, n, hd⟩ := id p1
    obtain ⟨⟨cls2, dd2, data2, sl2⟩, ho2, hc2, n2, hd2⟩ := id p2
    simp only at hc hd hc2 hd2
    subst hc hd hc2 hd2
    exact concat_meets ⟨_, ho, rfl⟩ ⟨_, ho2, rfl⟩ noFill_tuple_add seq_tuple_add PySem.F.slot_tuple_add PySem.F.entry_tuple_add (PySem.F.args_tuple_add_2 _ _) (tuple_addW0 a b its.toArray its2.toArray n n2 dd dd2 sl sl2 (by simp [e1])) ⟨ho, ho2, ⟨.ref b, H, I, rfl, q0 hx⟩⟩
  · exact op_catT pins s σ H _ _ v u Q I rx ry ⟨a, b, xs, ys, rfl, rfl, ha, hb, hx, hz, q1 hx, q2 hx⟩
end

section
open PySem.AutoSeq1 (wpAny_loadPart')
end
section
variable {X : Cx} {K : PySem.W.Frag}
theorem hu1 {k : Nat} {A : Around} (r : Room k A) : A.units + 1 < cLine := by have := r.units; omega
end
section
variable {X : Cx} {a b o i value : Expr} {x y : Str} {px py pt pt2 pos pos' : Pos} {kt k2 : Nat} {ta : TA} {td ty tv : TE}
theorem s_par (m n : Nat) (hN : X.N.Nodup) (ha : QA X [a, b] ta) (hc : X.calm = true := by rfl) (hi : X.N[m]? = some x := by rfl) (hj : X.N[n]? = some y := by rfl) (hij : m ≠ n := by decide)
    (hx : X.env.scope.names.lookup x = some .local := by rfl) (hy : X.env.scope.names.lookup y = some .local := by rfl)
    (hw : swappedStores [.Tuple [.Name x px, .Name y py] kt pt] (.Tuple [a, b] k2 pt2) X.env = pure (some [x, y]) := by rfl)
    (hs : swapsWithSole [.Tuple [.Name x px, .Name y py] kt pt] (.Tuple [a, b] k2 pt2) pos.line X.env = pure false := by rfl) :
    QS X (.Assign [.Tuple [.Name x px, .Name y py] kt pt] (.Tuple [a, b] k2 pt2) pos) (tPar m n ta) := ⟨ps_par hc hN hi hj hij hx hy ha.o hw hs⟩
theorem s_dput (hu : X.A.units + 1 < cLine) (ho : QE X o td) (hi : QE X i ty) (hv : QE X value tv) (hs : swapsWith value (some (.Subscript o i pos')) pos.line X.env = pure false := by rfl) :
    QS X (.Assign [.Subscript o i pos'] value pos) (sDPut td ty tv) := ⟨ps_dput hu ho.o hi.o hv.o hs⟩
theorem q_dnewT : QE X (.Dict [] [] pos) tDNewT := ⟨pe_dnewT⟩
end
end L2

set_option Elab.async false
set_option linter.all false
set_option maxRecDepth 100000
set_option maxHeartbeats 4000000
/-! towns: the mathematics -/
namespace RW
open PySem PySem.Spec PyProof.Rows L2
/-- the order of things that are_houses and are_ties ask for -/
def ltD : D → D → Bool
  | .str x, .str y => ltS x y
  | .tup [.str a, .str b], .tup [.str c, .str d] => ltP (a, b) (c, d)
  | _, _ => false
def isStrD : D → Bool | .str _ => true | _ => false
def isPairD : D → Bool | .tup [.str _, .str _] => true | _ => false
/-- each less than the next -/
def risingB (ds : List D) : Bool := (List.range (ds.length - 1)).all fun k => ltD (ds.getD k .non) (ds.getD (k + 1) .non)
def areHousesB : D → Bool | .tup ds => decide (1 ≤ ds.length) && decide (ds.length ≤ 10) && ds.all isNameD && risingB ds | _ => false
def inD (hs : List Str) : D → Bool | .str x => hs.any fun y => decide (y = x) | _ => false
def isHouseB (hs : List Str) (d : D) : Bool := isNameD d && inD hs d
def isTieB (hs : List Str) : D → Bool
  | .tup [a, b] => isHouseB hs a && isHouseB hs b && ltD a b
  | _ => false
def areTiesB (hs : List Str) : D → Bool | .tup ds => ds.all (isTieB hs) && risingB ds | _ => false
def areLikingsB : D → Bool | .tup ds => decide (ds.length ≤ 90) && ds.all isLikingB | _ => false
def areHandsB : D → Bool | .tup ds => decide (ds.length ≤ 90) && ds.all isHandB | _ => false
def strsOf : D → List Str | .tup ds => ds.filterMap (fun d => match d with | .str x => some x | _ => none) | _ => []
def manyB (d : D) (n : Nat) : Bool := match d with | .tup ds => decide (ds.length = n) | _ => false
def allB (g : D → Bool) : D → Bool | .tup ds => ds.all g | _ => false
def isTownB : D → Bool
  | .tup [goal, houses, ties, likings, hands] => areHousesB houses && isHouseB (strsOf houses) goal && areTiesB (strsOf houses) ties && manyB likings (strsOf houses).length && manyB hands (strsOf houses).length && allB areLikingsB likings && allB areHandsB hands
  | _ => false
theorem strs_map (xs : List Str) : strsOf (.tup (xs.map D.str)) = xs := by
  show (xs.map D.str).filterMap _ = xs
  rw [List.filterMap_map]
  exact List.filterMap_some
/-- a row of names, as texts -/
theorem names_strs : ∀ {ds : List D}, ds.all isNameD = true → ∃ xs : List Str, ds = xs.map D.str ∧ ∀ x ∈ xs, isNameB x = true
  | [], _ => ⟨[], rfl, fun _ z => nomatch z⟩
  | d :: ds, h => by
    rw [List.all_cons, Bool.and_eq_true] at h
    obtain ⟨xs, rfl, hx⟩ := names_strs h.2
    cases d with
    | str x => exact ⟨x :: xs, rfl, fun y hy => by
        rcases List.mem_cons.mp hy with rfl | hy
        · exact h.1
        · exact hx y hy⟩
    | _ => exact absurd h.1 (by simp [isNameD])
/-- rising rows of texts, of pairs -/
theorem rising_of {xs : List Str} (h : xs.Pairwise (fun a b => ltS a b = true)) : risingB (xs.map D.str) = true := by
  unfold risingB
  rw [List.all_eq_true]
  intro k hk
  have hk' : k + 1 < xs.length := by have := List.mem_range.mp hk; rw [List.length_map] at this; omega
  have e : ∀ i, i < xs.length → (xs.map D.str).getD i .non = D.str (xs.getD i ⟨#[]⟩) := fun i hi => by simp [List.getD, hi]
  rw [e k (by omega), e (k + 1) hk']
  show ltS _ _ = true
  have := List.pairwise_iff_getElem.mp h k (k + 1) (by omega) hk' (by omega)
  simpa [List.getD, hk', show k < xs.length by omega] using this
theorem risingP_of {ps : List (Str × Str)} (h : ps.Pairwise (fun a b => ltP a b = true)) : risingB (ps.map fun p => D.tup [.str p.1, .str p.2]) = true := by
  unfold risingB
  rw [List.all_eq_true]
  intro k hk
  have hk' : k + 1 < ps.length := by have := List.mem_range.mp hk; rw [List.length_map] at this; omega
  have e : ∀ i (hi : i < ps.length), (ps.map fun p => D.tup [.str p.1, .str p.2]).getD i .non = D.tup [.str ps[i].1, .str ps[i].2] := fun i hi => by simp [List.getD, hi]
  rw [e k (by omega), e (k + 1) hk']
  exact List.pairwise_iff_getElem.mp h k (k + 1) (by omega) hk' (by omega)
theorem rep_get {H : Hp} {vs : List V} {ds : List D} {i : Nat} (r : RepL H vs ds) (hi : i < ds.length) : ∃ v, vs[i]? = some v ∧ Rep H v (ds.getD i .non) := by
  have hv : i < vs.length := by rw [r.1]; exact hi
  refine ⟨vs[i], by simp [hv], ?_⟩
  have := r.2 i vs[i] ds[i] (by simp [hv]) (by simp [hi])
  simpa [List.getD, hi] using this
end RW
namespace RW
open PySem PySem.Spec PyProof.Rows L2
/-! unlike names -/
theorem repS_list (z : Str) (n : Nat) : (repS z n).cps.toList = (List.replicate n z.cps.toList).flatten := by
  unfold repS
  have key : ∀ (k : Nat) (acc : Array Nat), ((List.replicate k z.cps).foldl (· ++ ·) acc).toList = acc.toList ++ (List.replicate k z.cps.toList).flatten := by
    intro k
    induction k with
    | zero => intro acc; simp
    | succ k ih => intro acc; rw [List.replicate_succ, List.foldl_cons, ih, List.replicate_succ, List.flatten_cons, Array.toList_append, List.append_assoc]
  have := key n #[]
  simpa using this
theorem repS_one_list (c n : Nat) : (repS (one c) n).cps.toList = List.replicate n c := by
  rw [repS_list]
  show (List.replicate n [c]).flatten = _
  induction n with
  | zero => rfl
  | succ n ih => rw [List.replicate_succ, List.flatten_cons, ih, List.replicate_succ]; rfl
/-- all of one letter -/
def sameB (x : Str) : Bool := x.cps.toList.all fun c => some c == x.cps.toList.head?
theorem same_rep (c n : Nat) : sameB (repS (one c) n) = true := by
  unfold sameB
  rw [repS_one_list]
  cases n with
  | zero => rfl
  | succ n =>
    rw [List.all_eq_true]
    intro d hd
    rw [List.eq_of_mem_replicate hd]
    simp [List.replicate_succ]
def keptL : List Str := ["goal", "to", "by", "houses", "tie", "like", "hand", "keep", "put", "mark", "long", "from", "strike"]
theorem kept_ok : ∀ x ∈ keptL, isNameB x = true := by decide +kernel
theorem kept_same : ∀ x ∈ keptL, sameB x = false := by decide +kernel
theorem reps_ok : ∀ c ∈ lettersS.cps.toList, ∀ k ∈ List.range 8, isNameB (repS (one c) (k + 1)) = true := by decide +kernel
theorem letters_len : lettersS.length = 26 := by decide +kernel
theorem letters_at : ∀ k ∈ List.range 26, lettersS.cps.toList[k]? = some (97 + k) := by decide +kernel
theorem one_len (c : Nat) : (one c).length = 1 := rfl
def steps : List Nat := [1, 3, 5, 7, 9, 11]
theorem steps_nd : ∀ f ∈ List.range 26, ∀ st ∈ steps, ((List.range 13).map fun k => (f + st * k) % 26).Nodup := by decide +kernel
def nmS (f st k : Nat) : Str := repS (one (97 + (f + st * k) % 26)) (1 + (k * k + f) % 8)
def kwS (sp k : Nat) : Str := keptL.getD ((sp + 3 * k) % 13) ""
def nameS (f st sp j k : Nat) : Str := if k < j then kwS sp k else nmS f st k
theorem kws_nd : ∀ sp ∈ List.range 13, ((List.range 4).map fun k => kwS sp k).Nodup := by decide +kernel
theorem kw_mem (sp k : Nat) : kwS sp k ∈ keptL := by
  unfold kwS
  have h : (sp + 3 * k) % 13 < keptL.length := Nat.mod_lt _ (by decide)
  simp [List.getD, h]
theorem nd_ne {α : Type} {l : List α} (h : l.Nodup) {i j : Nat} (hi : i < l.length) (hj : j < l.length) (hij : i ≠ j) : l[i] ≠ l[j] := fun z => hij ((List.getElem_inj h).mp z)
theorem names_nodup {f st sp j m : Nat} (hf : f < 26) (hst : st ∈ steps) (hsp : sp < 13) (hj : j ≤ 4) (hm : m ≤ 13) : ((List.range m).map (nameS f st sp j)).Nodup := by
  have key : ∀ a b, a < b → b < 13 → nameS f st sp j a ≠ nameS f st sp j b := by
    intro a b hab hb
    unfold nameS
    by_cases h1 : a < j
    · rw [if_pos h1]
      by_cases h2 : b < j
      · rw [if_pos h2]
        have := nd_ne (kws_nd sp (List.mem_range.mpr hsp)) (i := a) (j := b) (by simp; omega) (by simp; omega) (by omega)
        simpa using this
      · rw [if_neg h2]
        intro z
        have e1 := kept_same _ (kw_mem sp a)
        rw [z] at e1
        unfold nmS at e1
        rw [same_rep] at e1
        cases e1
    · rw [if_neg h1, if_neg (by omega)]
      intro z
      have hh : (nmS f st a).cps.toList.head? = (nmS f st b).cps.toList.head? := by rw [z]
      unfold nmS at hh
      rw [repS_one_list, repS_one_list, Nat.add_comm 1, Nat.add_comm 1, List.replicate_succ, List.replicate_succ] at hh
      simp only [List.head?_cons, Option.some.injEq] at hh
      have := nd_ne (steps_nd f (List.mem_range.mpr hf) st hst) (i := a) (j := b) (by simp; omega) (by simp; omega) (by omega)
      simp at this
      omega
  rw [List.nodup_iff_pairwise_ne, List.pairwise_map]
  refine List.Pairwise.imp_of_mem (fun {a b} ha hb hab => ?_) (List.pairwise_lt_range (n := m))
  exact key a b hab (by have := List.mem_range.mp hb; omega)

theorem nm_ok (f st k : Nat) : isNameB (nmS f st k) = true := by
  unfold nmS
  rw [Nat.add_comm 1]
  have hr : (f + st * k) % 26 < 26 := Nat.mod_lt _ (by decide)
  exact reps_ok _ (List.mem_of_getElem? (letters_at _ (List.mem_range.mpr hr))) _ (List.mem_range.mpr (Nat.mod_lt _ (by decide)))
theorem name_ok (f st sp j k : Nat) : isNameB (nameS f st sp j k) = true := by
  unfold nameS
  split
  · exact kept_ok _ (kw_mem sp k)
  · exact nm_ok f st k
theorem name_set {f st sp j m : Nat} (hj : j < m) : ((List.range m).map (nameS f st sp j)).set j (kwS sp j) = (List.range m).map (nameS f st sp (j + 1)) := by
  apply List.ext_getElem?
  intro i
  rw [List.getElem?_set]
  by_cases e : j = i
  · subst e
    rw [if_pos rfl, if_pos (by simp; exact hj)]
    simp [hj, nameS]
  · rw [if_neg e]
    rcases Nat.lt_or_ge i m with h | h
    · rw [List.getElem?_map, List.getElem?_map, List.getElem?_range h]
      show some _ = some _
      congr 1
      unfold nameS
      by_cases h1 : i < j
      · rw [if_pos h1, if_pos (by omega)]
      · rw [if_neg h1, if_neg (by omega)]
    · rw [List.getElem?_eq_none (by simpa using h), List.getElem?_eq_none (by simpa using h)]
theorem kept_at {sp k : Nat} : keptL[(sp + 3 * k) % 13]? = some (kwS sp k) := by
  unfold kwS
  have h : (sp + 3 * k) % 13 < keptL.length := Nat.mod_lt _ (by decide)
  simp [List.getD, h]

theorem cut_drop {xs : List V} {m : Nat} : cutV xs (some (m : Int)) none = xs.drop m := by
  unfold cutV
  have e1 : HT.sIx xs.length xs.length none = xs.length := rfl
  have e2 : HT.sIx xs.length 0 (some (m : Int)) = min m xs.length := by
    unfold HT.sIx
    have h : ¬ (m : Int) < 0 := by omega
    simp only [if_neg h, Int.toNat_natCast]
  rw [e1, e2]
  rcases Nat.lt_or_ge m xs.length with h | h
  · rw [Nat.min_eq_left (by omega), List.take_of_length_le (by rw [List.length_drop]; omega)]
  · rw [Nat.min_eq_right h, List.drop_of_length_le (Nat.le_refl _), List.drop_of_length_le h]; simp
/-- a comprehension that draws, whatever it walks -/
theorem comp_drawsW {J : It} {N : Nat} {Pw : Nat → V → Prop} {ok : Hp → Prop} {a : Addr} {m c : Int} {Pd : Nat → D → Prop} {H : Hp} {te : TE} {src : List (Option Nat)} {σ σr : L2.St} {Q : VK} (wk : Wk J N Pw ok) (hok : ∀ H', Keep a H H' → ok H') (hs : capt src σ = none :: σr) (hH : Hand H a m) (hN : N ≤ 900) (hc : 0 ≤ c)
    (he : ∀ (i : Nat) (x : V) (H1 : Hp) (Q1 : VK), i < N → Hand H1 a (m + c * i) → Keep a H H1 → (∀ v d H2, Rep H2 v d → Pd i d → Hand H2 a (m + c * i + c) → Keep a H1 H2 → Q1 v H2) → te (some x :: σr) H1 Q1)
    (q : ∀ l vs ds H', H l = none → H' l = some (.lst vs) → RepL H' vs ds → ds.length = N → (∀ i d, ds[i]? = some d → Pd i d) → Hand H' a (m + c * N) → Keep a H H' → Q (.ref l) H') : CompGo (gName 0) tYes te src σ Q J H := by
  refine comp_by wk (fun l i ys σ' H' => (∃ o, σ' = o :: σr) ∧ (∃ ds : List D, RepL H' ys ds ∧ ds.length = i ∧ ∀ j d, ds[j]? = some d → Pd j d) ∧ Hand H' a (m + c * i) ∧ Keep a H H') ?_ (fun _ _ _ _ _ _ p => hok _ p.2.2.2) ?_ ?_
  · exact fun l hl => ⟨⟨_, hs⟩, ⟨[], RepL.nil, rfl, fun j d z => by simp at z⟩, (hH.new hl).mono (by simp), Keep.new hl⟩
  · rintro l i y ys σ' H1 hl hi hy ⟨⟨o, rfl⟩, ⟨ds, hr, hl2, hp⟩, hH1, k1⟩ hl'
    have nl := hH.ne hl
    refine he i y H1 _ hi hH1 k1 fun v d H2 rv pd hH2 k2 => ?_
    have hl2' : H2 l = some (.lst ys) := k2 _ _ nl hl'
    have m2 : Mono H1 H2 := Mono.keep k2 hH1 hH2
    have m3 : Mono H2 (upd H2 l (.lst (ys ++ [v]))) := Mono.lset hl2'
    refine ⟨hl2', ?_, ⟨_, rfl⟩, ⟨ds ++ [d], ((hr.mono m2).append (.cons rv .nil)).mono m3, ?_, ?_⟩, (hH2.updNe nl).mono ?_, (k1.trans k2).updNew hl⟩
    · have := hr.1
      exact small1000 (by omega)
    · rw [List.length_append, hl2]; rfl
    · intro j e he
      by_cases hj : j < ds.length
      · rw [List.getElem?_append_left hj] at he
        exact hp j e he
      · rw [List.getElem?_append_right (by omega)] at he
        have hj2 : j = ds.length := by
          rcases Nat.lt_or_ge ds.length j with z | z
          · rw [List.getElem?_eq_none (by simp; omega)] at he; cases he
          · omega
        subst hj2
        simp at he
        subst he
        rw [hl2]; exact pd
    · rw [show ((i + 1 : Nat) : Int) = (i : Int) + 1 by omega, Int.mul_add, Int.mul_one]
      omega
  · rintro l ys σ' H1 hl ⟨⟨o, rfl⟩, ⟨ds, hr, hl2, hp⟩, hH1, k1⟩ hl'
    exact q l ys ds H1 hl hl' hr hl2 hp hH1 k1
/-! a town as it is drawn -/
def pairD (p : Str × Str) : D := .tup [.str p.1, .str p.2]
structure TownOk (g : Str) (hs : List Str) (ps : List (Str × Str)) (lks hds : List D) : Prop where
  rise : hs.Pairwise (fun a b => ltS a b = true)
  one : 1 ≤ hs.length
  ten : hs.length ≤ 10
  names : ∀ x ∈ hs, isNameB x = true
  goal : g ∈ hs
  riseP : ps.Pairwise (fun a b => ltP a b = true)
  ties : ∀ p ∈ ps, p.1 ∈ hs ∧ p.2 ∈ hs ∧ ltS p.1 p.2 = true
  ll : lks.length = hs.length
  lh : hds.length = hs.length
  likes : ∀ d ∈ lks, areLikingsB d = true
  hands : ∀ d ∈ hds, areHandsB d = true
def townD (g : Str) (hs : List Str) (ps : List (Str × Str)) (lks hds : List D) : D := .tup [.str g, .tup (hs.map D.str), .tup (ps.map pairD), .tup lks, .tup hds]
theorem house_in {hs : List Str} {x : Str} (h : x ∈ hs) (hn : isNameB x = true) : isHouseB hs (.str x) = true := by
  show (isNameB x && hs.any fun y => decide (y = x)) = true
  rw [hn, List.any_eq_true.mpr ⟨x, h, decide_eq_true rfl⟩]; rfl
theorem houses_ok {hs : List Str} (h1 : hs.Pairwise (fun a b => ltS a b = true)) (h2 : 1 ≤ hs.length) (h3 : hs.length ≤ 10) (h4 : ∀ x ∈ hs, isNameB x = true) : areHousesB (.tup (hs.map D.str)) = true := by
  show (decide (1 ≤ (hs.map D.str).length) && decide ((hs.map D.str).length ≤ 10) && (hs.map D.str).all isNameD && risingB (hs.map D.str)) = true
  have e : (hs.map D.str).all isNameD = true := by
    rw [List.all_map, List.all_eq_true]
    exact fun x hx => h4 x hx
  rw [List.length_map, decide_eq_true h2, decide_eq_true h3, e, rising_of h1]; rfl
theorem ties_ok {hs : List Str} {ps : List (Str × Str)} (h1 : ps.Pairwise (fun a b => ltP a b = true)) (h2 : ∀ p ∈ ps, p.1 ∈ hs ∧ p.2 ∈ hs ∧ ltS p.1 p.2 = true) (h4 : ∀ x ∈ hs, isNameB x = true) : areTiesB hs (.tup (ps.map pairD)) = true := by
  show ((ps.map pairD).all (isTieB hs) && risingB (ps.map pairD)) = true
  have e : (ps.map pairD).all (isTieB hs) = true := by
    rw [List.all_map, List.all_eq_true]
    intro p hp
    obtain ⟨q1, q2, q3⟩ := h2 p hp
    show (isHouseB hs (.str p.1) && isHouseB hs (.str p.2) && ltS p.1 p.2) = true
    rw [house_in q1 (h4 _ q1), house_in q2 (h4 _ q2), q3]; rfl
  have e2 : risingB (ps.map pairD) = true := risingP_of h1
  rw [e, e2]; rfl
theorem TownOk.ok {g : Str} {hs : List Str} {ps : List (Str × Str)} {lks hds : List D} (T : TownOk g hs ps lks hds) : isTownB (townD g hs ps lks hds) = true := by
  show (areHousesB (.tup (hs.map D.str)) && isHouseB (strsOf (.tup (hs.map D.str))) (.str g) && areTiesB (strsOf (.tup (hs.map D.str))) (.tup (ps.map pairD)) && manyB (.tup lks) (strsOf (.tup (hs.map D.str))).length && manyB (.tup hds) (strsOf (.tup (hs.map D.str))).length && allB areLikingsB (.tup lks) && allB areHandsB (.tup hds)) = true
  rw [RW.strs_map, houses_ok T.rise T.one T.ten T.names, house_in T.goal (T.names _ T.goal), ties_ok T.riseP T.ties T.names]
  have e1 : manyB (.tup lks) hs.length = true := decide_eq_true T.ll
  have e2 : manyB (.tup hds) hs.length = true := decide_eq_true T.lh
  have e3 : allB areLikingsB (.tup lks) = true := List.all_eq_true.mpr T.likes
  have e4 : allB areHandsB (.tup hds) = true := List.all_eq_true.mpr T.hands
  rw [e1, e2, e3, e4]; rfl

section
variable {te tf : TE} {ta : TA} {tb : TS} {De : Ends} {σ : L2.St} {H : Hp} {d : D} {ds es : List D} {K : PySem.W.Frag} {k : Nat}
theorem dsp_catA (h : Dsp te σ H (.tup ds)) (g : Dsp tf σ H (.tup es)) (hl : ds.length + es.length ≤ 1000) : Dsp (tOp (rCatA K) te tf) σ H (.tup (ds ++ es)) := fun H1 Q s q =>
  h H1 _ s fun v H2 s2 rv => g H2 _ (s.trans s2) fun u H3 s3 ru => by
    obtain ⟨p, vs, rfl, hp, r1, _⟩ := rv.ofT
    obtain ⟨p', us, rfl, hp', r2, _⟩ := ru.ofT
    have hp3 := s3 _ _ hp
    have r13 := r1.mono (.of s3)
    refine ⟨p, p', vs, us, rfl, rfl, .inl (.inl hp3), .inl (.inl hp'), Nat.le_of_lt (small1000 (by rw [r1.1, r2.1]; exact hl)), fun z => ?_, fun _ z => ?_, fun _ _ p2 hp2 => ?_⟩
    · have e : ds = [] := by have := r1.1; rw [z] at this; exact List.eq_nil_of_length_eq_zero this.symm
      subst e
      exact q _ H3 (s2.trans s3) ru
    · have e : es = [] := by have := r2.1; rw [z] at this; exact List.eq_nil_of_length_eq_zero this.symm
      subst e
      have q' := q (.ref p) H3 (s2.trans s3)
      rw [List.append_nil] at q'
      exact q' (rv.same s3)
    · exact q _ _ ((s2.trans s3).trans (Same.new hp2)) (.mkL upd_same (by rw [List.length_append]; exact hl) ((r13.append r2).mono (.new hp2)))
theorem dsp_takeT {i j t : Nat} {v : V} (hv : σ[i]? = some (some v)) (r : Rep H v (.tup ds)) (ht : σ[j]? = some (some (.int (t : Int)))) (hlt : t < ds.length) : Dsp (tSl (rSlT K) (tVar i) tNoPart (tPart (tVar j))) σ H (.tup (ds.take t)) := fun H1 Q s q => by
  obtain ⟨p, vs, rfl, hp, r1, b⟩ := (r.same s).ofT
  refine ⟨_, hv, _, ht, t, rfl, p, vs, rfl, .inl (.inl hp), fun z => ?_, fun p2 hp2 => q _ _ (Same.new hp2) (.mkL upd_same (by rw [List.length_take]; omega) ?_)⟩
  · have e2 : HT.sIx vs.length vs.length (some (t : Int)) = min t vs.length := by
      unfold HT.sIx
      have h : ¬ (t : Int) < 0 := by omega
      simp only [if_neg h, Int.toNat_natCast]
    have := r1.1
    rw [e2] at z
    omega
  · rw [cut_take] at *
    exact (r1.take t).mono (.new hp2)
theorem dsp_dropT {i j t : Nat} {v : V} (hv : σ[i]? = some (some v)) (r : Rep H v (.tup ds)) (ht : σ[j]? = some (some (.int (t : Int)))) (hlt : t < ds.length) : Dsp (tSl (rSlT K) (tVar i) (tPart (tOp (rI0 fun i j => .int (i + j)) (tVar j) (tC (.int 1)))) tNoPart) σ H (.tup (ds.drop (t + 1))) := fun H1 Q s q => by
  obtain ⟨p, vs, rfl, hp, r1, b⟩ := (r.same s).ofT
  have e1 : (t : Int) + 1 = ((t + 1 : Nat) : Int) := by push_cast; rfl
  refine ⟨_, hv, _, ht, _, _, rfl, rfl, (t : Int) + 1, rfl, p, vs, rfl, .inl (.inl hp), fun z => ?_, fun p2 hp2 => q _ _ (Same.new hp2) ?_⟩
  · have e2 : HT.sIx vs.length 0 (some ((t : Int) + 1)) = min (t + 1) vs.length := by
      rw [e1]
      unfold HT.sIx
      have h : ¬ ((t + 1 : Nat) : Int) < 0 := by omega
      simp only [if_neg h, Int.toNat_natCast]
    have := r1.1
    rw [e2] at z
    omega
  · have ec : cutV vs (some ((t : Int) + 1)) none = vs.drop (t + 1) := by rw [e1]; exact cut_drop
    rw [ec] at *
    exact .mkL upd_same (by rw [List.length_drop]; omega) ((r1.drop (t + 1)).mono (.new hp2))
end
end RW

set_option Elab.async false
set_option linter.all false
set_option maxRecDepth 100000
set_option maxHeartbeats 4000000
/-! Rows kept and made, all ties. -/
namespace RW
open PySem PySem.Spec PyProof.Rows L2
section
variable {te tf : TE} {σ : L2.St} {H : Hp} {d : D} {ds es : List D} {K : PySem.W.Frag}
end
theorem strs_rep {H : Hp} {hs : List Str} (h : ∀ x ∈ hs, x.length ≤ 1000) : RepL H (hs.map V.str) (hs.map D.str) := by
  refine ⟨by rw [List.length_map, List.length_map], fun i v d hv hd => ?_⟩
  rw [List.getElem?_map] at hv hd
  cases e : hs[i]? with
  | none => rw [e] at hv; cases hv
  | some x =>
    rw [e] at hv hd
    cases hv
    cases hd
    exact .str x (h x (List.mem_of_getElem? e))
theorem flat_len {α β : Type} {F : α → List β} {m : Nat} (hF : ∀ a, (F a).length ≤ m) : ∀ l : List α, (l.flatMap F).length ≤ l.length * m
  | [] => Nat.zero_le _
  | a :: l => by
    rw [List.flatMap_cons, List.length_append, List.length_cons, Nat.succ_mul]
    have := flat_len hF l
    have := hF a
    omega
end RW

set_option Elab.async false
set_option linter.all false
set_option maxRecDepth 100000
set_option maxHeartbeats 4000000
/-! == and in of things with things in them -/
namespace RW
open PySem PySem.Spec PyProof.Rows L2
inductive Tr (H : Hp) : V → PyData → Prop
  | non : Tr H .non .none
  | bl (b : Bool) : Tr H (.bl b) (.bool b)
  | int (i : Int) : Tr H (.int i) (.int i)
  | str (x : Str) (h : PyData.strOk x = true) : Tr H (.str x) (.str x)
  | tup {p : Addr} {vs : List V} {ds : List PyData} (e : H p = some (.tup vs)) (hl : vs.length = ds.length) (h : ∀ (i : Nat) (v : V) (d : PyData), vs[i]? = some v → ds[i]? = some d → Tr H v d) : Tr H (.ref p) (.tuple ds)
  | lst {p : Addr} {vs : List V} {ds : List PyData} (e : H p = some (.lst vs)) (hl : vs.length = ds.length) (h : ∀ (i : Nat) (v : V) (d : PyData), vs[i]? = some v → ds[i]? = some d → Tr H v d) : Tr H (.ref p) (.list ds)
theorem readsAll_of {h : Heap} : ∀ {vs : List V} {us : List Value} {ds : List PyData}, Vals vs us → vs.length = ds.length → (∀ (i : Nat) (v : V) (d : PyData), vs[i]? = some v → ds[i]? = some d → ∀ u, RelV v u → ∃ as, Reads h u d as) → ∃ bs, ReadsAll h us ds bs
  | _, _, [], .nil, _, _ => ⟨_, .nil⟩
  | v :: vs, u :: us, d :: ds, .cons r t, hl, hh => by
    obtain ⟨as, ha⟩ := hh 0 v d rfl rfl u r
    obtain ⟨bs, hb⟩ := readsAll_of t (by simpa using hl) fun i v' d' h1 h2 => hh (i + 1) v' d' h1 h2
    exact ⟨_, .cons ha hb⟩
  | [], _, d :: ds, .nil, hl, _ => by simp at hl
  | v :: vs, u :: us, [], .cons r t, hl, _ => by simp at hl
theorem Tr.reads {X : Cx} {pins : List (Addr × Obj)} {σ : L2.St} {H : Hp} {s : Shared} (I : Inv X pins σ H s) {x : V} {d : PyData} (t : Tr H x d) : ∀ v, RelV x v → ∃ as, Reads s.heap v d as := by
  induction t with
  | non => intro v r; cases r; exact ⟨_, .none⟩
  | bl b => intro v r; cases r; exact ⟨_, .bool b⟩
  | int i => intro v r; obtain ⟨t, rfl⟩ := r; exact ⟨_, .int i t⟩
  | str x h => intro v r; obtain ⟨t, rfl⟩ := r; exact ⟨_, .str x t⟩
  | tup e hl h ih =>
    intro v r
    cases r
    obtain ⟨its, rv, ⟨o, ho, hc, n, hd⟩, _⟩ := I.tuple (SqT.of e)
    obtain ⟨bs, hb⟩ := readsAll_of (h := s.heap) rv hl ih
    exact ⟨_, .tuple ho hc hd (by simpa using hb)⟩
  | lst e hl h ih =>
    intro v r
    cases r
    obtain ⟨its, n, rv, ho, _⟩ := I.lst e
    obtain ⟨bs, hb⟩ := readsAll_of (h := s.heap) rv hl ih
    exact ⟨_, .list ho rfl rfl (by simpa using hb)⟩
theorem canAll_of : ∀ {vs : List V} {ds : List PyData}, vs.length = ds.length → (∀ (i : Nat) (v : V) (d : PyData), vs[i]? = some v → ds[i]? = some d → d.canLay0 = true) → PyData.canLayAll0 ds = true
  | _, [], _, _ => rfl
  | v :: vs, d :: ds, hl, hh => by
    rw [PyData.canLayAll0, hh 0 v d rfl rfl, canAll_of (vs := vs) (ds := ds) (by simpa using hl) fun i v' d' h1 h2 => hh (i + 1) v' d' h1 h2]; rfl
  | [], d :: ds, hl, _ => by simp at hl
theorem Tr.can {H : Hp} {x : V} {d : PyData} (t : Tr H x d) : d.canLay0 = true := by
  induction t with
  | non => rfl
  | bl b => rfl
  | int i => rfl
  | str x h => simp only [PyData.canLay0]; exact h
  | tup e hl h ih => rw [PyData.canLay0]; exact canAll_of hl ih
  | lst e hl h ih => rw [PyData.canLay0]; exact canAll_of hl ih
section
variable {X : Cx}
def rEqD : R2 := fun x y H Q => ∃ d e, Tr H x d ∧ Tr H y e ∧ min d.depth e.depth ≤ 60 ∧ Q (.bl (d.eqv e)) H
def rNeD : R2 := fun x y H Q => ∃ d e, Tr H x d ∧ Tr H y e ∧ min d.depth e.depth ≤ 60 ∧ Q (.bl (!d.eqv e)) H
theorem op_eqD (hu : X.A.units + 64 < cLine) : OpR X (compareOp .Eq) rEqD := by
  intro pins s σ H x y v u Q I rx ry h
  obtain ⟨d, e, t1, t2, hd, q⟩ := h
  obtain ⟨as, r1⟩ := t1.reads I v rx
  obtain ⟨bs, r2⟩ := t2.reads I u ry
  exact SeqAt.compareEq_reads r1 r2 t1.can t2.can (by omega) ⟨.bl _, H, I, rfl, q⟩
theorem op_neD (hu : X.A.units + 64 < cLine) : OpR X (compareOp .NotEq) rNeD := by
  intro pins s σ H x y v u Q I rx ry h
  obtain ⟨d, e, t1, t2, hd, q⟩ := h
  obtain ⟨as, r1⟩ := t1.reads I v rx
  obtain ⟨bs, r2⟩ := t2.reads I u ry
  exact SeqAt.compareNe_reads r1 r2 t1.can t2.can (by omega) ⟨.bl _, H, I, rfl, q⟩
theorem hu64 {k : Nat} {A : Around} (r : Room k A) : A.units + 64 < cLine := by have := r.un; omega
end
end RW

set_option Elab.async false
set_option linter.all false
set_option maxRecDepth 100000
set_option maxHeartbeats 4000000
/-! t[::-1] -/
namespace HT
open PySem PySem.Spec PyProof.Rows
section
variable {prog : Program} {w : World} {A : Around} {E : Value → Shared → Prop} {s : Shared}
theorem fm_map {α β : Type} {f : α → Option β} {g : α → β} : ∀ {l : List α}, (∀ a ∈ l, f a = some (g a)) → l.filterMap f = l.map g
  | [], _ => rfl
  | a :: l, h => by rw [List.filterMap_cons, h a List.mem_cons_self, fm_map fun b hb => h b (List.mem_cons_of_mem _ hb)]; rfl
theorem pick_rev (xs : Array Value) : ((List.range xs.size).filterMap fun (m : Nat) => xs[((xs.size : Int) - 1 + (m : Int) * -1).toNat]?).toArray = xs.toList.reverse.toArray := by
  congr 1
  refine List.ext_getElem? fun i => ?_
  have e : ((List.range xs.size).filterMap fun (m : Nat) => xs[((xs.size : Int) - 1 + (m : Int) * -1).toNat]?) = (List.range xs.size).map fun m => xs[xs.size - 1 - m]?.getD .none := by
    refine fm_map fun m hm => ?_
    have hm' := List.mem_range.mp hm
    rw [show ((xs.size : Int) - 1 + (m : Int) * -1).toNat = xs.size - 1 - m by omega]
    have : xs.size - 1 - m < xs.size := by omega
    simp [this]
  rw [e, List.getElem?_map]
  rcases Nat.lt_or_ge i xs.size with h | h
  · rw [List.getElem?_range h, List.getElem?_reverse (by simpa using h)]
    have : xs.size - 1 - i < xs.size := by omega
    simp [this]
  · rw [List.getElem?_eq_none (by simpa using h), List.getElem?_eq_none (by simpa using h)]; rfl
theorem getItem_tuple_rev {t sl : Addr} {items : Array Value} {tk : Tok} {Q : Value → Shared → Prop} (ht : IsTup s.heap t items) (hs : s.heap.IsSliceOf sl .none .none (.int (-1) tk))
    (h : Q (.ref s.heap.objs.size) { s with heap := s.heap.push { cls := .type "tuple", data := .seq items.toList.reverse.toArray } })
    (hsz : items.size ≤ sizeLine) : wpAny (model prog w) A (getItem (.ref t) (.ref sl)) Q E s := by
  have htake : sizeOk (.seq items.toList.reverse.toArray) := by
    show items.toList.reverse.toArray.size ≤ sizeLine
    rw [List.size_toArray, List.length_reverse, Array.length_toList]
    exact hsz
  obtain ⟨os, hos, hcs, hds⟩ := id hs
  have hTs : s.TypeIs (.ref sl) "slice" := ⟨os, hos, hcs⟩
  unfold getItem
  try with_reducible refine wpAny_holding ?_
  first | refine wpAny_bind (wpAny_pure ?_) | skip
  refine wpAny_bind (wpAny_sequenceKey ht.typeIs (by decide) ?_)
  refine wpAny_bind (wpAny_callSpecial?_slot (name := Str.ofString "__getitem__") ht.typeIs PyProof.Rows.slot_tuple_getitem
    (wpAny_call_entry PyProof.Rows.slot_tuple_getitem ht.typeIs entry_tuple_getitem ?_ (args_tuple_getitem _ _)))
  show wpAny _ _ (Builtin.Tuple.tupleItemsOf (.ref t) >>= _) _ _ s
  refine wpAny_bind (tupleItemsOf_ ht ?_)
  refine wpAny_bind (wpAny_typeOf hTs ?_)
  rw [if_pos (by decide)]
  have happ : ∀ {A : Around} {R : Int × Int × Nat → Shared → Prop}, R ((items.size : Int) - 1, -1, items.size) s → wpAny (model prog w) A (Builtin.Slice.sliceApplied (.ref sl) (pure (items.size : Int))) R E s := by
    intro A R hR
    unfold Builtin.Slice.sliceApplied Builtin.Slice.sliceFields
    refine wpAny_bind (wpAny_bind (wpAny_field hos hds (x := .none) rfl (wpAny_bind (wpAny_field hos hds (x := .none) rfl (wpAny_bind (wpAny_field hos hds (x := .int (-1) tk) rfl (wpAny_pure ?_)))))))
    refine wpAny_bind (slicePart_ (.int (-1) tk) ?_)
    show wpAny _ _ (if ((-1 : Int) == 0) = true then _ else _) _ _ s
    rw [if_neg (by decide)]
    refine wpAny_bind (slicePart_ .none (wpAny_bind (slicePart_ .none (wpAny_bind (wpAny_pure ?_)))))
    show wpAny _ _ (pure ((items.size : Int) - 1, (-1 : Int), Builtin.Slice.slicePlaces ((items.size : Int) - 1) (-1) (-1))) _ _ s
    have hp : Builtin.Slice.slicePlaces ((items.size : Int) - 1) (-1) (-1) = items.size := by
      unfold Builtin.Slice.slicePlaces
      rw [if_neg (by decide), show (- -1 : Int) = 1 by decide, Int.ediv_one]
      split <;> omega
    rw [hp]
    exact wpAny_pure hR
  refine wpAny_bind (happ ?_)
  have hno : ¬ (((items.size : Int) - 1 == 0 && (-1 : Int) == 1 && items.size == items.size) = true) := by
    intro q
    rw [Bool.and_eq_true, Bool.and_eq_true] at q
    exact absurd q.1.2 (by decide)
  show wpAny _ _ (if ((items.size : Int) - 1 == 0 && (-1 : Int) == 1 && items.size == items.size) = true then _ else _) _ _ s
  rw [if_neg hno, pick_rev]
  first
    | exact wpAny_bind (m := Builtin.Tuple.tupleExact _) (wpAny_newObj_type (wpAny_pure ⟨_, rfl, wpAny_pure h⟩) htake)
    | exact wpAny_bind (m := Builtin.Tuple.tupleExact _) (wpAny_newObj_type (wpAny_bind (wpAny_pure (wpAny_pure ⟨_, rfl, wpAny_pure h⟩))) htake)
    | exact wpAny_bind (wpAny_bind (m := Builtin.Tuple.tupleExact _) (wpAny_newObj_type (wpAny_pure (wpAny_pure ⟨_, rfl, wpAny_pure h⟩)) htake))
    | exact wpAny_bind (wpAny_bind (m := Builtin.Tuple.tupleExact _) (wpAny_newObj_type (wpAny_pure ⟨_, rfl, wpAny_pure h⟩) htake))
end
end HT
namespace L2
open PySem PySem.Spec PyProof.Rows
section
variable {X : Cx} {e : Expr} {te : TE} {p1 p2 p3 pos : Pos} {tk : Tok}
/-- t[::-1] -/
def tRev (K : PySem.W.Frag) (te : TE) : TE := fun σ H Q => te σ H fun x H1 => ∃ a xs, x = .ref a ∧ SqT K H1 a xs ∧ ∀ p, H1 p = none → Q (.ref p) (upd H1 p (.tup xs.reverse))
theorem Vals.rev : ∀ {xs : List V} {us : List Value}, Vals xs us → Vals xs.reverse us.reverse
  | _, _, .nil => .nil
  | x :: xs, u :: us, .cons r t => by
    rw [List.reverse_cons, List.reverse_cons]
    exact (Vals.rev t).append (.cons r .nil)
theorem pe_rev {st : Expr} (he : PE X e te) (hst : PE X st (tUn (rU fun i => .int (-i)) (tC (.int 1)))) : PE X (.Subscript e (.Slice none none (some st) p2) pos) (tRev X.K te) := by
  intro pins s σ H Q I h
  refine Subscript_ (thn (he pins s σ H _ I h) fun v s1 ⟨x, H1, I1, r1, q1⟩ => ?_)
  refine wpAny_Slice ?_
  rw [evalPart_none, evalPart_some]
  refine wpAny_pure (wpAny_pure ?_)
  refine thn (hst pins s1 σ H1 (fun y H2 => y = .int (-1) ∧ H2 = H1) I1 ⟨1, rfl, rfl, rfl⟩) fun vst s3 ⟨y, H3, I3, r3, ey, eh⟩ => ?_
  subst ey eh
  obtain ⟨tk, rfl⟩ := r3
  obtain ⟨a, xs, rfl, hx, q⟩ := q1
  cases r1
  have I4 : Inv X pins σ _ { s3 with heap := s3.heap.push { cls := .type "slice", data := .fields #[.none, .none, .int (-1) tk] } } := I3.kept (t' := s3.toks) fun b ob q => Heap.get?_push_of_some _ q
  obtain ⟨its, r, ht, hz⟩ := I4.tuple hx
  have hlen : its.toArray.size = xs.length := by rw [List.size_toArray]; exact r.length.symm
  show wpAny (model X.prog X.w) X.A (subscriptTail e (.Slice none none (some st) p2) (.ref a) (.ref s3.heap.objs.size)) (EP X pins σ Q) X.xe { s3 with heap := s3.heap.push { cls := .type "slice", data := .fields #[.none, .none, .int (-1) tk] } }
  refine tail_any (ops := [.ref a, .ref s3.heap.objs.size]) ht.typeIs PyProof.Rows.slot_tuple_getitem.lookup ?_ (by with_unfolding_all rfl)
  refine HT.getItem_tuple_rev (tk := tk) ht (Heap.IsSliceOf.new ..) ?_ (by rw [hlen]; exact hz)
  refine ⟨.ref _, _, I4.laid (t' := s3.toks) (o := .tup xs.reverse) (fun b ob q => Heap.get?_push_of_some _ q) (Nat.le_refl _) ?_, rfl, q _ (I4.hok.fresh (Nat.le_refl _))⟩
  exact ⟨by rw [List.length_reverse]; exact hz, _, r.rev, IsTup.new _ _⟩
theorem q_rev {st : Expr} (he : QE X e te) (hst : QE X st (tUn (rU fun i => .int (-i)) (tC (.int 1)))) : QE X (.Subscript e (.Slice none none (some st) p2) pos) (tRev X.K te) := ⟨pe_rev he.o hst.o⟩
end
end L2
namespace HT
open PySem PySem.Spec PyProof.Rows
section
variable {prog : Program} {w : World} {A : Around} {E : Value → Shared → Prop} {s : Shared}
theorem getItem_tuple_whole {t sl : Addr} {items : Array Value} {vl vu : Value} {lo hi : Option Int} {Q : Value → Shared → Prop} (ht : IsTup s.heap t items) (hs : s.heap.IsSliceOf sl vl vu .none) (pl : IsPart vl lo) (pu : IsPart vu hi)
    (h1 : sIx items.size 0 lo = 0) (h2 : sIx items.size items.size hi = items.size)
    (h : Q (.ref t) s) : wpAny (model prog w) A (getItem (.ref t) (.ref sl)) Q E s := by
  obtain ⟨os, hos, hcs, hds⟩ := id hs
  have hTs : s.TypeIs (.ref sl) "slice" := ⟨os, hos, hcs⟩
  unfold getItem
  try with_reducible refine wpAny_holding ?_
  first | refine wpAny_bind (wpAny_pure ?_) | skip
  refine wpAny_bind (wpAny_sequenceKey ht.typeIs (by decide) ?_)
  refine wpAny_bind (wpAny_callSpecial?_slot (name := Str.ofString "__getitem__") ht.typeIs PyProof.Rows.slot_tuple_getitem
    (wpAny_call_entry PyProof.Rows.slot_tuple_getitem ht.typeIs entry_tuple_getitem ?_ (args_tuple_getitem _ _)))
  show wpAny _ _ (Builtin.Tuple.tupleItemsOf (.ref t) >>= _) _ _ s
  refine wpAny_bind (tupleItemsOf_ ht ?_)
  refine wpAny_bind (wpAny_typeOf hTs ?_)
  rw [if_pos (by decide)]
  refine wpAny_bind (sliceApplied_gen hs pl pu ?_)
  rw [h1, h2]
  show wpAny _ _ (if (((0 : Nat) : Int) == 0 && (1 : Int) == 1 && (items.size - 0) == items.size) = true then _ else _) _ _ s
  rw [if_pos (by simp)]
  unfold Builtin.Tuple.tupleIsExact
  refine wpAny_bind (wpAny_bind (wpAny_typeOf ht.typeIs (wpAny_pure ?_)))
  rw [if_pos (by decide)]
  refine wpAny_bind (wpAny_rule ?_)
  exact wpAny_pure ⟨_, rfl, wpAny_pure h⟩
end
end HT
namespace L2
open PySem PySem.Spec PyProof.Rows
section
variable {X : Cx} {K : PySem.W.Frag}
/-- t[lo:hi], the whole of it, too -/
def rSlA (K : PySem.W.Frag) : V → Option Int → Option Int → Hp → VK → Prop := fun x lo hi H Q => ∃ a xs, x = .ref a ∧ SqT K H a xs ∧
  (cutV xs lo hi = xs → Q (.ref a) H) ∧ ∀ p, H p = none → Q (.ref p) (upd H p (.tup (cutV xs lo hi)))
theorem sl_tupA : SlR X (rSlA X.K) := by
  intro pins s σ H x v vl vu lo hi sl Q I rx hs pl pu h
  obtain ⟨a, xs, rfl, hx, q1, q2⟩ := h
  by_cases hw : HT.sIx xs.length 0 lo = 0 ∧ HT.sIx xs.length xs.length hi = xs.length
  · have rx' : v = .ref a := rx
    subst rx'
    obtain ⟨its, r, ht, hz⟩ := I.tuple hx
    have hlen : its.toArray.size = xs.length := by rw [List.size_toArray]; exact r.length.symm
    refine ⟨"tuple", _, PyProof.Rows.slot_tuple_getitem.lookup, ht.typeIs, ?_⟩
    refine HT.getItem_tuple_whole ht hs pl pu (by rw [hlen]; exact hw.1) (by rw [hlen]; exact hw.2) ⟨.ref a, H, I, rfl, q1 ?_⟩
    unfold cutV
    rw [hw.1, hw.2]; simp
  · exact sl_tup pins s σ H (.ref a) v vl vu lo hi sl Q I rx hs pl pu ⟨a, xs, rfl, hx, hw, q2⟩
end
end L2
namespace RW
open PySem PySem.Spec PyProof.Rows L2
section
variable {te tf : TE} {ta : TA} {σ : L2.St} {H : Hp} {d : D} {ds es : List D} {K : PySem.W.Frag}
/-- a slice of a tuple as it is read: the bounds are values -/
theorem dsp_slA {tl th : TO} {i : Nat} {v : V} {lo hi : Option Int} (hv : σ[i]? = some (some v)) (r : Rep H v (.tup ds)) (hl : ∀ H1 (Q : Option Int → Hp → Prop), Q lo H1 → tl σ H1 Q) (hh : ∀ H1 (Q : Option Int → Hp → Prop), Q hi H1 → th σ H1 Q)
    (hc : ∀ vs : List V, vs.length = ds.length → ∃ m k, cutV vs lo hi = (vs.drop m).take k ∧ es = (ds.drop m).take k) : Dsp (tSl (rSlA K) (tVar i) tl th) σ H (.tup es) := fun H1 Q s q => by
  obtain ⟨p, vs, rfl, hp, r1, b⟩ := (r.same s).ofT
  obtain ⟨m, k, e1, e2⟩ := hc vs r1.1
  refine ⟨_, hv, hl _ _ (hh _ _ ⟨p, vs, rfl, .inl (.inl hp), fun z => ?_, fun p2 hp2 => ?_⟩)⟩
  · refine q _ H1 (Same.refl _) ?_
    have e3 : es = ds := by
      rw [e2]
      rw [e1] at z
      have z1 := congrArg List.length z
      rw [List.length_take, List.length_drop, r1.1] at z1
      rcases Nat.eq_zero_or_pos m with rfl | hm
      · rw [List.drop_zero]
        exact List.take_of_length_le (by omega)
      · have : ds = [] := List.eq_nil_of_length_eq_zero (by omega)
        subst this; simp
    rw [e3]
    exact .mkL hp b r1
  · refine q _ _ (Same.new hp2) (.mkL upd_same (by rw [e2, List.length_take, List.length_drop]; omega) ?_)
    rw [e1, e2]
    exact ((r1.drop m).take k).mono (.new hp2)
theorem part_none {Q : Option Int → Hp → Prop} {H1 : Hp} (h : Q none H1) : tNoPart σ H1 Q := h
theorem part_int {Q : Option Int → Hp → Prop} {H1 : Hp} {i : Int} (h : Q (some i) H1) : tPart (tC (.int i)) σ H1 Q := ⟨i, rfl, h⟩
theorem part_neg {Q : Option Int → Hp → Prop} {H1 : Hp} {i : Int} (h : Q (some (-i)) H1) : tPart (tUn (rU fun i => .int (-i)) (tC (.int i))) σ H1 Q := ⟨i, rfl, -i, rfl, h⟩
theorem dsp_tail {i : Nat} {v : V} (hv : σ[i]? = some (some v)) (r : Rep H v (.tup ds)) : Dsp (tSl (rSlA K) (tVar i) (tPart (tC (.int 1))) tNoPart) σ H (.tup (ds.drop 1)) :=
  dsp_slA (lo := some 1) (hi := none) hv r (fun _ _ h => part_int h) (fun _ _ h => part_none h) fun vs hl => ⟨1, vs.length, by rw [show (1 : Int) = ((1 : Nat) : Int) from rfl, cut_drop]; exact (List.take_of_length_le (by rw [List.length_drop]; omega)).symm, (List.take_of_length_le (by rw [List.length_drop]; omega)).symm⟩
theorem dsp_headN {n : Nat} {i : Nat} {v : V} (hv : σ[i]? = some (some v)) (r : Rep H v (.tup ds)) : Dsp (tSl (rSlA K) (tVar i) tNoPart (tPart (tC (.int (n : Int))))) σ H (.tup (ds.take n)) :=
  dsp_slA (lo := none) (hi := some (n : Int)) hv r (fun _ _ h => part_none h) (fun _ _ h => part_int h) fun vs hl => ⟨0, n, by rw [cut_take, List.drop_zero], by rw [List.drop_zero]⟩
theorem dsp_lastS {i : Nat} {v : V} (hv : σ[i]? = some (some v)) (r : Rep H v (.tup (ds ++ [d]))) : Dsp (tSl (rSlA K) (tVar i) (tPart (tUn (rU fun i => .int (-i)) (tC (.int 1)))) tNoPart) σ H (.tup [d]) :=
  dsp_slA (lo := some (-1)) (hi := none) hv r (fun _ _ h => part_neg h) (fun _ _ h => part_none h) fun vs hl => by
    rw [List.length_append, List.length_singleton] at hl
    refine ⟨ds.length, 1, ?_, ?_⟩
    · unfold cutV
      have e1 : HT.sIx vs.length 0 (some (-1)) = ds.length := by
        unfold HT.sIx
        have h : (-1 : Int) < 0 := by omega
        simp only [if_pos h]; omega
      have e2 : HT.sIx vs.length vs.length none = vs.length := rfl
      rw [e1, e2, hl]
      congr 1; omega
    · simp
/-- t[::-1] -/
theorem dsp_rev {i : Nat} {v : V} (hv : σ[i]? = some (some v)) (r : Rep H v (.tup ds)) : Dsp (tRev K (tVar i)) σ H (.tup ds.reverse) := fun H1 Q s q => by
  obtain ⟨p, vs, rfl, hp, r1, b⟩ := (r.same s).ofT
  refine ⟨_, hv, p, vs, rfl, .inl (.inl hp), fun p2 hp2 => q _ _ (Same.new hp2) (.mkL upd_same (by rw [List.length_reverse]; exact b) ?_)⟩
  have rr : RepL H1 vs.reverse ds.reverse := by
    refine ⟨by rw [List.length_reverse, List.length_reverse]; exact r1.1, fun i v d h1 h2 => ?_⟩
    have hi : i < vs.length := by
      rcases Nat.lt_or_ge i vs.length with z | z
      · exact z
      · rw [List.getElem?_eq_none (by simpa using z)] at h1; cases h1
    have l1 := r1.1
    rw [List.getElem?_reverse hi] at h1
    rw [List.getElem?_reverse (by omega)] at h2
    exact r1.2 _ v d h1 (by rw [l1]; exact h2)
  exact rr.mono (.new hp2)
/-- list(t): a list, whose things are not looked at -/
theorem dsp_listO {i : Nat} {v : V} (hv : σ[i]? = some (some v)) (r : Rep H v (.tup ds)) : Dsp (tCB (fun xs H Q => ∃ p ys, xs = [.ref p] ∧ (SqL K H p ys ∨ SqT K H p ys) ∧ ∀ l, H l = none → Q (.ref l) (upd H l (.lst ys))) (tCons (tVar i) tNil)) σ H .oth := fun H1 Q s q => by
  obtain ⟨p, vs, rfl, hp, r1, b⟩ := (r.same s).ofT
  exact ⟨_, hv, p, vs, rfl, .inr (.inl (.inl hp)), fun p2 hp2 => q _ _ (Same.new hp2) (.lst upd_same)⟩
end
end RW
namespace RW
open PySem PySem.Spec PyProof.Rows L2
theorem here_kept : ∀ x ∈ keptL, x ≠ "nowhere" := by decide +kernel
theorem here_same : sameB "nowhere" = false := by decide +kernel
theorem name_here (f st sp j k : Nat) : nameS f st sp j k ≠ "nowhere" := by
  unfold nameS
  split
  · exact here_kept _ (kw_mem sp k)
  · intro z
    have e := here_same
    rw [← z] at e
    unfold nmS at e
    rw [same_rep] at e
    cases e
end RW

set_option Elab.async false
set_option linter.all false
set_option maxRecDepth 100000
set_option maxHeartbeats 4000000
/-! rows of spoilt things; what is no town -/
namespace RW
open PySem PySem.Spec PyProof.Rows L2
/-- a list of at most m things, of none of which g tells true -/
def BadL (g : D → Bool) (H : Hp) (l : Addr) (m : Nat) : Prop := ∃ vs ds, H l = some (.lst vs) ∧ RepL H vs ds ∧ ds.length ≤ m ∧ ∀ d ∈ ds, g d = false
theorem BadL.mk {g : D → Bool} {H : Hp} {l : Addr} {m : Nat} {vs : List V} {ds : List D} (e : H l = some (.lst vs)) (r : RepL H vs ds) (n : ds.length ≤ m) (h : ∀ d ∈ ds, g d = false) : BadL g H l m := ⟨vs, ds, e, r, n, h⟩
theorem BadL.same {g : D → Bool} {H H' : Hp} {l : Addr} {m : Nat} (h : BadL g H l m) (s : Same H H') : BadL g H' l m := let ⟨vs, ds, e, r, n, b⟩ := h; ⟨vs, ds, s _ _ e, r.mono (.of s), n, b⟩
theorem BadL.keep {g : D → Bool} {H H' : Hp} {a l : Addr} {m : Nat} {i j : Int} (h : BadL g H l m) (k : Keep a H H') (nl : l ≠ a) (h1 : Hand H a i) (h2 : Hand H' a j) : BadL g H' l m := let ⟨vs, ds, e, r, n, b⟩ := h; ⟨vs, ds, k _ _ nl e, r.mono (.keep k h1 h2), n, b⟩
theorem Keep.same_of {l : Addr} {H H1 H2 : Hp} (hl : H l = none) (s : Same H H1) (k : Keep l H1 H2) : Same H H2 := fun c o e => k c o (ne_of_none e hl) (s c o e)
section
variable {te : TE} {ta : TA} {tb : TS} {De : Ends} {σ : L2.St} {H : Hp} {d : D} {ds es : List D} {K : PySem.W.Frag} {k j : Nat} {g : D → Bool} {l lf : Addr} {m : Nat}
/-- found.append(thing) -/
theorem app_one {E : Ends} (hσ : σ[j]? = some (some (.ref lf))) (b : BadL g H lf m) (hm : m ≤ 900) (h : Dsp te σ H d) (hd : g d = false)
    (q : ∀ H', BadL g H' lf (m + 1) → Keep lf H H' → Mono H H' → E.nx σ H') : tDrop (tBM K "list" rAppend (tVar j) (tCons te tNil)) E σ H := by
  obtain ⟨vs, ds, e, r, n, hg⟩ := b
  refine ⟨_, hσ, .inl ⟨rfl, _, SqL.of e⟩, h H _ (Same.refl H) fun v H1 s1 rv => ?_⟩
  have e1 := s1 _ _ e
  have n1 := r.1
  refine ⟨lf, vs, v, rfl, rfl, e1, small1000 (by omega), q _ ⟨_, ds ++ [d], upd_same, (((r.mono (.of s1)).append (.cons rv .nil)).mono (.lset e1)), by rw [List.length_append, List.length_singleton]; omega, ?_⟩ ?_ ((Mono.of s1).trans (.lset e1))⟩
  · intro x hx
    rcases List.mem_append.mp hx with hx | hx
    · exact hg x hx
    · rw [List.mem_singleton.mp hx]; exact hd
  · exact fun c o hc z => by rw [upd_ne hc]; exact s1 _ _ z
theorem seq_app (hσ : σ[j]? = some (some (.ref lf))) (b : BadL g H lf m) (hm : m ≤ 900) (h : Dsp te σ H d) (hd : g d = false)
    (q : ∀ H', BadL g H' lf (m + 1) → Keep lf H H' → Mono H H' → tb De σ H') : tSeq (tDrop (tBM K "list" rAppend (tVar j) (tCons te tNil))) tb De σ H := app_one (E := { De with nx := tb De }) hσ b hm h hd q
/-- for one in [..]: found.append(thing of one) -/
theorem for_app {f : D → D} {us : List V} {o0 : Option V} (hk : σ.set k o0 = σ) (hσ : ∀ o, (σ.set k o)[j]? = some (some (.ref lf))) (e : H l = some (.lst us)) (r : RepL H us es) (nl : l ≠ lf) (b : BadL g H lf m) (hm : m + es.length ≤ 900)
    (h : ∀ (x : V) (d : D) (H1 : Hp), Mono H H1 → Keep lf H H1 → Rep H1 x d → d ∈ es → Dsp te (σ.set k (some x)) H1 (f d) ∧ g (f d) = false)
    (q : ∀ o H', BadL g H' lf (m + es.length) → Keep lf H H' → Mono H H' → De.nx (σ.set k o) H') : ForGo (gName k) (tDrop (tBM K "list" rAppend (tVar j) (tCons te tNil))) De σ (Itl K l) H := by
  refine for_by (wk_list (K := K) (a := l) (xs := us)) (fun i σ' H' => (∃ o, σ' = σ.set k o) ∧ BadL g H' lf (m + i) ∧ Keep lf H H' ∧ Mono H H') ⟨⟨o0, hk.symm⟩, b, Keep.refl _ _, Mono.refl _⟩ (fun i σ' H' p => SqL.of (p.2.2.1 _ _ nl e)) ?_ ?_
  · rintro i x σ' H1 hi hx ⟨⟨o, rfl⟩, b1, k1, m1⟩
    obtain ⟨d, hd, rd⟩ := r.get hx
    obtain ⟨h1, h2⟩ := h x d H1 m1 k1 (rd.mono m1) (List.mem_of_getElem? hd)
    have hi' : i < es.length := by rw [← r.1]; exact hi
    show tDrop _ _ ((σ.set k o).set k (some x)) H1
    rw [List.set_set]
    exact app_one (hσ _) b1 (by omega) h1 h2 fun H2 b2 k2 m2 => ⟨⟨_, rfl⟩, b2, k1.trans k2, m1.trans m2⟩
  · rintro σ' H1 ⟨⟨o, rfl⟩, b1, k1, m1⟩
    rw [r.1] at b1
    exact q o H1 b1 k1 m1
end
/-! what is no town -/
section
variable {x h t l a : D}
theorem town_eq : isTownB (.tup [x, h, t, l, a]) = (areHousesB h && isHouseB (strsOf h) x && areTiesB (strsOf h) t && manyB l (strsOf h).length && manyB a (strsOf h).length && allB areLikingsB l && allB areHandsB a) := rfl
theorem bad_houses (e : areHousesB h = false) : isTownB (.tup [x, h, t, l, a]) = false := by rw [town_eq, e]; simp
theorem bad_goal (e : isHouseB (strsOf h) x = false) : isTownB (.tup [x, h, t, l, a]) = false := by rw [town_eq, e]; simp
theorem bad_ties (e : areTiesB (strsOf h) t = false) : isTownB (.tup [x, h, t, l, a]) = false := by rw [town_eq, e]; simp
theorem bad_ll (e : manyB l (strsOf h).length = false) : isTownB (.tup [x, h, t, l, a]) = false := by rw [town_eq, e]; simp
theorem bad_lh (e : manyB a (strsOf h).length = false) : isTownB (.tup [x, h, t, l, a]) = false := by rw [town_eq, e]; simp
theorem bad_likes (e : allB areLikingsB l = false) : isTownB (.tup [x, h, t, l, a]) = false := by rw [town_eq, e]; simp
theorem bad_hands (e : allB areHandsB a = false) : isTownB (.tup [x, h, t, l, a]) = false := by rw [town_eq, e]; simp
end
theorem all_bad {g : D → Bool} {ds : List D} {d : D} (h : d ∈ ds) (e : g d = false) : ds.all g = false := List.all_eq_false.mpr ⟨d, h, by rw [e]; decide⟩
theorem houses_bad1 {ds : List D} {d : D} (h : d ∈ ds) (e : isNameD d = false) : areHousesB (.tup ds) = false := by
  show (_ && _ && ds.all isNameD && _) = false
  rw [all_bad h e]; simp
theorem houses_bad2 {ds : List D} (h : 10 < ds.length) : areHousesB (.tup ds) = false := by
  show (_ && decide (ds.length ≤ 10) && _ && _) = false
  rw [decide_eq_false (show ¬ ds.length ≤ 10 by omega)]; simp
theorem houses_bad3 {ds : List D} (h : risingB ds = false) : areHousesB (.tup ds) = false := by
  show (_ && _ && _ && risingB ds) = false
  rw [h]; simp
theorem rising_bad {ds es : List D} {x y : D} (h : ltD x y = false) : risingB (ds ++ x :: y :: es) = false := by
  unfold risingB
  refine List.all_eq_false.mpr ⟨ds.length, List.mem_range.mpr (by simp), ?_⟩
  have e1 : (ds ++ x :: y :: es).getD ds.length .non = x := by simp [List.getD]
  have e2 : (ds ++ x :: y :: es).getD (ds.length + 1) .non = y := by simp [List.getD]
  rw [e1, e2, h]; decide
theorem ties_bad1 {hs : List Str} {ds : List D} {d : D} (h : d ∈ ds) (e : isTieB hs d = false) : areTiesB hs (.tup ds) = false := by
  show (ds.all (isTieB hs) && _) = false
  rw [all_bad h e]; rfl
theorem ties_bad2 {hs : List Str} {ds : List D} (h : risingB ds = false) : areTiesB hs (.tup ds) = false := by
  show (_ && risingB ds) = false
  rw [h]; simp
theorem tie_bad1 {hs : List Str} {x y : D} (h : isHouseB hs x = false) : isTieB hs (.tup [x, y]) = false := by
  show (isHouseB hs x && _ && _) = false
  rw [h]; rfl
theorem tie_bad2 {hs : List Str} {x y : D} (h : isHouseB hs y = false) : isTieB hs (.tup [x, y]) = false := by
  show (_ && isHouseB hs y && _) = false
  rw [h]; simp
theorem tie_bad3 {hs : List Str} {x y : D} (h : ltD x y = false) : isTieB hs (.tup [x, y]) = false := by
  show (_ && ltD x y) = false
  rw [h]; simp
theorem house_out {hs : List Str} {x : Str} (h : ∀ y ∈ hs, y ≠ x) : isHouseB hs (.str x) = false := by
  show (_ && hs.any fun y => decide (y = x)) = false
  rw [List.any_eq_false.mpr fun y hy => by simpa using h y hy]; simp
theorem house_no {hs : List Str} {d : D} (h : isNameD d = false) : isHouseB hs d = false := by
  show (isNameD d && _) = false
  rw [h]; rfl
theorem many_bad {ds : List D} {n : Nat} (h : ds.length ≠ n) : manyB (.tup ds) n = false := decide_eq_false h
theorem likes_bad {ds : List D} {d : D} (h : d ∈ ds) (e : areLikingsB d = false) : allB areLikingsB (.tup ds) = false := all_bad h e
theorem hands_bad {ds : List D} {d : D} (h : d ∈ ds) (e : areHandsB d = false) : allB areHandsB (.tup ds) = false := all_bad h e
theorem lks_bad1 {ds : List D} (h : 90 < ds.length) : areLikingsB (.tup ds) = false := by
  show (decide (ds.length ≤ 90) && _) = false
  rw [decide_eq_false (show ¬ ds.length ≤ 90 by omega)]; rfl
theorem lks_bad2 {ds : List D} {d : D} (h : d ∈ ds) (e : isLikingB d = false) : areLikingsB (.tup ds) = false := by
  show (_ && ds.all isLikingB) = false
  rw [all_bad h e]; simp
theorem hds_bad1 {ds : List D} (h : 90 < ds.length) : areHandsB (.tup ds) = false := by
  show (decide (ds.length ≤ 90) && _) = false
  rw [decide_eq_false (show ¬ ds.length ≤ 90 by omega)]; rfl
theorem hds_bad2 {ds : List D} {d : D} (h : d ∈ ds) (e : isHandB d = false) : areHandsB (.tup ds) = false := by
  show (_ && ds.all isHandB) = false
  rw [all_bad h e]; simp
theorem ltD_str {x y : Str} : ltD (.str x) (.str y) = ltS x y := rfl
theorem ltD_pair {p q : Str × Str} : ltD (pairD p) (pairD q) = ltP p q := rfl
end RW

set_option Elab.async false
set_option linter.all false
set_option maxRecDepth 100000
set_option maxHeartbeats 4000000
namespace RW
open PySem PySem.Spec PyProof.Rows L2
section
variable {te tf : TE} {ta : TA} {tb : TS} {De : Ends} {σ : L2.St} {H : Hp} {d : D} {ds es : List D} {K : PySem.W.Frag} {k j : Nat} {g : D → Bool} {m : Nat}
theorem dspl_compE {f : D → D} {src : List (Option Nat)} {σr : L2.St} (h : DspL te σ H ds) (hl : ds.length ≤ 900) (hc : capt src σ = none :: σr)
    (he : ∀ (x : V) (d : D) (H1 : Hp), Same H H1 → Rep H1 x d → d ∈ ds → Dsp tf (some x :: σr) H1 (f d)) : DspL (tComp (iList K te) (gName 0) tYes tf src) σ H (ds.map f) := fun H1 Q s q =>
  h H1 _ s fun l vs H2 s2 e2 r2 => ⟨l, rfl, ⟨vs, SqL.of e2⟩, comp_map (wk_list (K := K)) (fun H' s' => SqL.of (s' _ _ e2)) r2 hl hc (fun x d H3 s3 rx hd => he x d H3 ((s.trans s2).trans s3) rx hd) fun l us H' s' _ e' r' => q l us H' (s2.trans s') e' r'⟩
theorem none_of_same {H H' : Hp} {p : Addr} (s : Same H H') (h : H' p = none) : H p = none := by
  cases e : H p with
  | none => rfl
  | some o => have := s _ _ e; rw [h] at this; cases this
theorem seq_compF {f : D → D} {src : List (Option Nat)} {σr : L2.St} (h : DspL te σ H ds) (hl : ds.length ≤ 900) (hc : capt src σ = none :: σr)
    (he : ∀ (x : V) (d : D) (H1 : Hp), Same H H1 → Rep H1 x d → d ∈ ds → Dsp tf (some x :: σr) H1 (f d)) (q : ∀ l vs H2, Same H H2 → H l = none → H2 l = some (.lst vs) → RepL H2 vs (ds.map f) → tb De (σ.set k (some (.ref l))) H2) :
    tSeq (tAsg (tComp (iList K te) (gName 0) tYes tf src) (gName k)) tb De σ H :=
  h H _ (Same.refl H) fun l vs H2 s2 e2 r2 => ⟨l, rfl, ⟨vs, SqL.of e2⟩, comp_map (wk_list (K := K)) (fun H' s' => SqL.of (s' _ _ e2)) r2 hl hc (fun x d H3 s3 rx hd => he x d H3 (s2.trans s3) rx hd) fun l us H' s' hn e' r' => q l us H' (s2.trans s') (none_of_same s2 hn) e' r'⟩
/-- for one in [..], the list being new -/
theorem seqfor_F {tg : TG} {ts : TS} (h : DspA ta σ H ds) (hl : ds.length ≤ 900) (q : ∀ l vs H2, Same H H2 → H l = none → H2 l = some (.lst vs) → RepL H2 vs ds → ForGo tg ts { De with nx := tb De } σ (Itl K l) H2) : tSeq (tForG (iList K (tLst ta)) tg ts) tb De σ H :=
  h H _ (Same.refl H) fun vs H2 s2 r2 => ⟨Nat.le_of_lt (small1000 (by rw [r2.1]; omega)), fun p hp => ⟨p, rfl, ⟨vs, SqL.of upd_same⟩, q p vs _ (s2.trans (Same.new hp)) (by
    cases e : H p with
    | none => rfl
    | some o => have := s2 _ _ e; rw [hp] at this; cases this) upd_same (r2.mono (.new hp))⟩⟩
theorem ret_bad {lf : Addr} (hσ : σ[j]? = some (some (.ref lf))) (b : BadL g H lf m) (h : DspL tf σ H es) (ge : ∀ d ∈ es, g d = false) (hm : m + es.length ≤ 1000)
    (q : ∀ l H', Same H H' → BadL g H' l (m + es.length) → De.rt (.ref l) H') : tRet (tOp rCat (tVar j) tf) De σ H := by
  obtain ⟨vs, ds, e, r, n, hg⟩ := b
  exact dspl_cat (dspl_var hσ e r) h (by omega) H _ (Same.refl H) fun l vs H2 s2 e2 r2 => q l H2 s2 (.mk e2 r2 (by rw [List.length_append]; omega) (List.forall_mem_append.mpr ⟨hg, ge⟩))
/-- texts made of a text's signs -/
theorem comp_txt {x : Str} {src : List (Option Nat)} {σr : L2.St} {Q : VK} {f : Nat → Str} (hx : x.length ≤ 900) (e : capt src σ = none :: σr) (hf : ∀ c, (f c).length ≤ 1000)
    (he : ∀ (c : Nat) (H1 : Hp) (Q1 : VK), Q1 (.str (f c)) H1 → te (some (.str ⟨#[c]⟩) :: σr) H1 Q1)
    (q : ∀ l us ds H', Same H H' → H l = none → H' l = some (.lst us) → RepL H' us ds → ds.length = x.length → Q (.ref l) H') : CompGo (gName 0) tYes te src σ Q (Its x) H := by
  refine comp_by wk_str (fun l i ys σ' H' => (∃ o, σ' = o :: σr) ∧ (∃ ds, RepL H' ys ds ∧ ds.length = i) ∧ Same H H') ?_ (fun _ _ _ _ _ _ _ => trivial) ?_ ?_
  · exact fun l h' => ⟨⟨none, e⟩, ⟨[], RepL.nil, rfl⟩, Same.new h'⟩
  · rintro l i y ys σ' H1 h' hi ⟨c, hc, rfl⟩ ⟨⟨o, rfl⟩, ⟨ds, ry, hl⟩, s1⟩ hl'
    refine he c H1 _ ⟨hl', ?_, ⟨_, rfl⟩, ⟨ds ++ [.str (f c)], (ry.append (.cons (.str _ (hf c)) .nil)).mono (.lset hl'), by rw [List.length_append, hl]; rfl⟩, ?_⟩
    · have := ry.1
      exact small1000 (by omega)
    · exact fun c o e => by
        rw [upd_ne (ne_of_none e h')]
        exact s1 _ _ e
  · rintro l ys σ' H1 h' ⟨⟨o, rfl⟩, ⟨ds, ry, hl⟩, s1⟩ hl'
    exact q l ys ds H1 s1 h' hl' ry hl
end
end RW
namespace RW
open PySem PySem.Spec PyProof.Rows L2
theorem BadL.le {g : D → Bool} {H : Hp} {l : Addr} {m n : Nat} (h : BadL g H l m) (z : m ≤ n) : BadL g H l n := let ⟨vs, ds, e, r, k, b⟩ := h; ⟨vs, ds, e, r, Nat.le_trans k z, b⟩
theorem name_strOk {x : Str} (h : isNameB x = true) : PyData.strOk x = true := by
  unfold isNameB at h
  simp only [Bool.and_eq_true] at h
  have h2 := h.1.2
  unfold PyData.strOk
  rw [Array.all_eq_true']
  intro c hc
  have := List.all_eq_true.mp h2 c (by simpa using hc)
  unfold letterC at this
  simp only [Bool.and_eq_true, decide_eq_true_eq] at this
  exact decide_eq_true (by omega)
def pairPy (p : Str × Str) : PyData := .tuple [.str p.1, .str p.2]
theorem tr_pair {H : Hp} {v : V} {p : Str × Str} (r : Rep H v (pairD p)) (h1 : isNameB p.1 = true) (h2 : isNameB p.2 = true) : Tr H v (pairPy p) := by
  obtain ⟨q, x, y, rfl, hq, r1, r2⟩ := r.of2
  cases r1 with | str _ _ =>
  cases r2 with | str _ _ =>
  refine .tup hq rfl fun i v d e1 e2 => ?_
  match i with
  | 0 => cases e1; cases e2; exact .str _ (name_strOk h1)
  | 1 => cases e1; cases e2; exact .str _ (name_strOk h2)
  | i + 2 => cases e1
theorem tr_pairs {H : Hp} {v : V} {ps : List (Str × Str)} (r : Rep H v (.tup (ps.map pairD))) (h : ∀ p ∈ ps, isNameB p.1 = true ∧ isNameB p.2 = true) : Tr H v (.tuple (ps.map pairPy)) := by
  obtain ⟨q, vs, rfl, hq, rl, _⟩ := r.ofT
  refine .tup hq (by rw [rl.1, List.length_map, List.length_map]) fun i v d e1 e2 => ?_
  rw [List.getElem?_map] at e2
  cases e : ps[i]? with
  | none => rw [e] at e2; cases e2
  | some p =>
    rw [e] at e2
    cases e2
    exact tr_pair (rl.2 i v (pairD p) e1 (by rw [List.getElem?_map, e]; rfl)) (h p (List.mem_of_getElem? e)).1 (h p (List.mem_of_getElem? e)).2
theorem nodup_len {α : Type} [DecidableEq α] : ∀ {l m : List α}, l.Nodup → (∀ x ∈ l, x ∈ m) → l.length ≤ m.length
  | [], m, _, _ => Nat.zero_le _
  | a :: l, m, hn, hs => by
    have ha := hs a List.mem_cons_self
    have := nodup_len (l := l) (m := m.erase a) (List.nodup_cons.mp hn).2 fun x hx => (List.mem_erase_of_ne (fun z : x = a => (List.nodup_cons.mp hn).1 (by rw [← z]; exact hx))).mpr (hs x (List.mem_cons_of_mem _ hx))
    rw [List.length_erase_of_mem ha] at this
    have : 1 ≤ m.length := List.length_pos_of_mem ha
    rw [List.length_cons]
    omega
theorem TownOk.lp {g : Str} {hs : List Str} {ps : List (Str × Str)} {lks hds : List D} (T : TownOk g hs ps lks hds) : ps.length ≤ 100 := by
  have nd : ps.Nodup := T.riseP.imp fun {a b} h z => by rw [z, ltP_irr] at h; cases h
  have := nodup_len (m := hs.flatMap fun a => hs.map fun b => (a, b)) nd fun p hp => by
    obtain ⟨h1, h2, _⟩ := T.ties p hp
    exact List.mem_flatMap.mpr ⟨p.1, h1, List.mem_map.mpr ⟨p.2, h2, rfl⟩⟩
  have h2 := flat_len (F := fun a => hs.map fun b => (a, b)) (m := 10) (fun a => by rw [List.length_map]; exact T.ten) hs
  have := T.ten
  omega
theorem TownOk.tn {g : Str} {hs : List Str} {ps : List (Str × Str)} {lks hds : List D} (T : TownOk g hs ps lks hds) : ∀ p ∈ ps, isNameB p.1 = true ∧ isNameB p.2 = true := fun p hp => ⟨T.names _ (T.ties p hp).1, T.names _ (T.ties p hp).2.1⟩
end RW
namespace RW
theorem if_t {b : Bool} {X Y : Prop} (h : b = true) (x : X) : if b = true then X else Y := by rw [if_pos h]; exact x
theorem if_f {b : Bool} {X Y : Prop} (h : b = false) (y : Y) : if b = true then X else Y := by rw [if_neg (by rw [h]; decide)]; exact y
end RW

set_option Elab.async false
set_option linter.all false
set_option maxRecDepth 100000
set_option maxHeartbeats 4000000
namespace K05
open PySem PySem.Spec PyProof.Rows L2
def top (i : Nat) : Stmt := PySem.Challenge.pw_restways_k05_towns_that_are_none.main.body.getD i (.Pass ⟨0, 0, 0, 0⟩)
abbrev s_is_name : Stmt := top 3
abbrev n_is_name : List Str := ["thing"]
abbrev p_is_name : List Str := ["thing"]
theorem c_is_name : FnScope n_is_name p_is_name (defScope s_is_name) := ⟨rfl, rfl, rfl, by decide +kernel, rfl, by decide +kernel, by decide +kernel⟩
def k_is_name_1 : Scope := { kind := .function, names := [(".0", .local), ("sign", .local)], isGenerator := false, isCoroutine := false, more := [] }
theorem o_is_name_1 : CompOk n_is_name (defScope s_is_name) ["sign"] [none] k_is_name_1 := ⟨rfl, by decide +kernel, by decide +kernel, by decide +kernel, by decide +kernel, rfl, by decide +kernel⟩
abbrev s_is_number : Stmt := top 5
abbrev n_is_number : List Str := ["thing"]
abbrev p_is_number : List Str := ["thing"]
theorem c_is_number : FnScope n_is_number p_is_number (defScope s_is_number) := ⟨rfl, rfl, rfl, by decide +kernel, rfl, by decide +kernel, by decide +kernel⟩
abbrev s_is_whole : Stmt := top 6
abbrev n_is_whole : List Str := ["thing", "low", "high"]
abbrev p_is_whole : List Str := ["thing", "low", "high"]
theorem c_is_whole : FnScope n_is_whole p_is_whole (defScope s_is_whole) := ⟨rfl, rfl, rfl, by decide +kernel, rfl, by decide +kernel, by decide +kernel⟩
abbrev s_is_row : Stmt := top 7
abbrev n_is_row : List Str := ["thing", "fewest", "most"]
abbrev p_is_row : List Str := ["thing", "fewest", "most"]
theorem c_is_row : FnScope n_is_row p_is_row (defScope s_is_row) := ⟨rfl, rfl, rfl, by decide +kernel, rfl, by decide +kernel, by decide +kernel⟩
abbrev s_is_rising : Stmt := top 8
abbrev n_is_rising : List Str := ["things"]
abbrev p_is_rising : List Str := ["things"]
theorem c_is_rising : FnScope n_is_rising p_is_rising (defScope s_is_rising) := ⟨rfl, rfl, rfl, by decide +kernel, rfl, by decide +kernel, by decide +kernel⟩
def k_is_rising_1 : Scope := { kind := .function, names := [(".0", .local), ("k", .local), ("things", .free)], isGenerator := false, isCoroutine := false, more := [] }
theorem o_is_rising_1 : CompOk n_is_rising (defScope s_is_rising) ["k", "things"] [none, some 0] k_is_rising_1 := ⟨rfl, by decide +kernel, by decide +kernel, by decide +kernel, by decide +kernel, rfl, by decide +kernel⟩
abbrev s_is_worded : Stmt := top 14
abbrev n_is_worded : List Str := ["thing", "many"]
abbrev p_is_worded : List Str := ["thing", "many"]
theorem c_is_worded : FnScope n_is_worded p_is_worded (defScope s_is_worded) := ⟨rfl, rfl, rfl, by decide +kernel, rfl, by decide +kernel, by decide +kernel⟩
abbrev s_is_plain_cond : Stmt := top 15
abbrev n_is_plain_cond : List Str := ["thing", "word", "about"]
abbrev p_is_plain_cond : List Str := ["thing"]
theorem c_is_plain_cond : FnScope n_is_plain_cond p_is_plain_cond (defScope s_is_plain_cond) := ⟨rfl, rfl, rfl, by decide +kernel, rfl, by decide +kernel, by decide +kernel⟩
abbrev s_is_cond : Stmt := top 16
abbrev n_is_cond : List Str := ["thing"]
abbrev p_is_cond : List Str := ["thing"]
theorem c_is_cond : FnScope n_is_cond p_is_cond (defScope s_is_cond) := ⟨rfl, rfl, rfl, by decide +kernel, rfl, by decide +kernel, by decide +kernel⟩
abbrev s_are_conds : Stmt := top 17
abbrev n_are_conds : List Str := ["thing"]
abbrev p_are_conds : List Str := ["thing"]
theorem c_are_conds : FnScope n_are_conds p_are_conds (defScope s_are_conds) := ⟨rfl, rfl, rfl, by decide +kernel, rfl, by decide +kernel, by decide +kernel⟩
def k_are_conds_1 : Scope := { kind := .function, names := [(".0", .local), ("cond", .local), ("is_cond", .globalImplicit)], isGenerator := false, isCoroutine := false, more := [] }
theorem o_are_conds_1 : CompOk n_are_conds (defScope s_are_conds) ["cond"] [none] k_are_conds_1 := ⟨rfl, by decide +kernel, by decide +kernel, by decide +kernel, by decide +kernel, rfl, by decide +kernel⟩
abbrev s_asks_to : Stmt := top 18
abbrev n_asks_to : List Str := ["cond"]
abbrev p_asks_to : List Str := ["cond"]
theorem c_asks_to : FnScope n_asks_to p_asks_to (defScope s_asks_to) := ⟨rfl, rfl, rfl, by decide +kernel, rfl, by decide +kernel, by decide +kernel⟩
abbrev s_is_worth : Stmt := top 19
abbrev n_is_worth : List Str := ["thing"]
abbrev p_is_worth : List Str := ["thing"]
theorem c_is_worth : FnScope n_is_worth p_is_worth (defScope s_is_worth) := ⟨rfl, rfl, rfl, by decide +kernel, rfl, by decide +kernel, by decide +kernel⟩
abbrev s_is_liking : Stmt := top 20
abbrev n_is_liking : List Str := ["thing"]
abbrev p_is_liking : List Str := ["thing"]
theorem c_is_liking : FnScope n_is_liking p_is_liking (defScope s_is_liking) := ⟨rfl, rfl, rfl, by decide +kernel, rfl, by decide +kernel, by decide +kernel⟩
def k_is_liking_1 : Scope := { kind := .function, names := [(".0", .local), ("cond", .local), ("asks_to", .globalImplicit)], isGenerator := false, isCoroutine := false, more := [] }
theorem o_is_liking_1 : CompOk n_is_liking (defScope s_is_liking) ["cond"] [none] k_is_liking_1 := ⟨rfl, by decide +kernel, by decide +kernel, by decide +kernel, by decide +kernel, rfl, by decide +kernel⟩
abbrev s_is_act : Stmt := top 21
abbrev n_is_act : List Str := ["thing"]
abbrev p_is_act : List Str := ["thing"]
theorem c_is_act : FnScope n_is_act p_is_act (defScope s_is_act) := ⟨rfl, rfl, rfl, by decide +kernel, rfl, by decide +kernel, by decide +kernel⟩
abbrev s_is_hand : Stmt := top 22
abbrev n_is_hand : List Str := ["thing"]
abbrev p_is_hand : List Str := ["thing"]
theorem c_is_hand : FnScope n_is_hand p_is_hand (defScope s_is_hand) := ⟨rfl, rfl, rfl, by decide +kernel, rfl, by decide +kernel, by decide +kernel⟩
abbrev s_are_houses : Stmt := top 26
abbrev n_are_houses : List Str := ["thing"]
abbrev p_are_houses : List Str := ["thing"]
theorem c_are_houses : FnScope n_are_houses p_are_houses (defScope s_are_houses) := ⟨rfl, rfl, rfl, by decide +kernel, rfl, by decide +kernel, by decide +kernel⟩
def k_are_houses_1 : Scope := { kind := .function, names := [(".0", .local), ("name", .local), ("is_name", .globalImplicit)], isGenerator := false, isCoroutine := false, more := [] }
theorem o_are_houses_1 : CompOk n_are_houses (defScope s_are_houses) ["name"] [none] k_are_houses_1 := ⟨rfl, by decide +kernel, by decide +kernel, by decide +kernel, by decide +kernel, rfl, by decide +kernel⟩
abbrev s_is_house : Stmt := top 27
abbrev n_is_house : List Str := ["houses", "thing"]
abbrev p_is_house : List Str := ["houses", "thing"]
theorem c_is_house : FnScope n_is_house p_is_house (defScope s_is_house) := ⟨rfl, rfl, rfl, by decide +kernel, rfl, by decide +kernel, by decide +kernel⟩
abbrev s_is_tie : Stmt := top 28
abbrev n_is_tie : List Str := ["houses", "thing"]
abbrev p_is_tie : List Str := ["houses", "thing"]
theorem c_is_tie : FnScope n_is_tie p_is_tie (defScope s_is_tie) := ⟨rfl, rfl, rfl, by decide +kernel, rfl, by decide +kernel, by decide +kernel⟩
abbrev s_are_ties : Stmt := top 29
abbrev n_are_ties : List Str := ["houses", "thing"]
abbrev p_are_ties : List Str := ["houses", "thing"]
theorem c_are_ties : FnScope n_are_ties p_are_ties (defScope s_are_ties) := ⟨rfl, rfl, rfl, by decide +kernel, rfl, by decide +kernel, by decide +kernel⟩
def k_are_ties_1 : Scope := { kind := .function, names := [(".0", .local), ("pair", .local), ("is_tie", .globalImplicit), ("houses", .free)], isGenerator := false, isCoroutine := false, more := [] }
theorem o_are_ties_1 : CompOk n_are_ties (defScope s_are_ties) ["pair", "houses"] [none, some 0] k_are_ties_1 := ⟨rfl, by decide +kernel, by decide +kernel, by decide +kernel, by decide +kernel, rfl, by decide +kernel⟩
abbrev s_are_likings : Stmt := top 30
abbrev n_are_likings : List Str := ["thing"]
abbrev p_are_likings : List Str := ["thing"]
theorem c_are_likings : FnScope n_are_likings p_are_likings (defScope s_are_likings) := ⟨rfl, rfl, rfl, by decide +kernel, rfl, by decide +kernel, by decide +kernel⟩
def k_are_likings_1 : Scope := { kind := .function, names := [(".0", .local), ("rule", .local), ("is_liking", .globalImplicit)], isGenerator := false, isCoroutine := false, more := [] }
theorem o_are_likings_1 : CompOk n_are_likings (defScope s_are_likings) ["rule"] [none] k_are_likings_1 := ⟨rfl, by decide +kernel, by decide +kernel, by decide +kernel, by decide +kernel, rfl, by decide +kernel⟩
abbrev s_are_hands : Stmt := top 31
abbrev n_are_hands : List Str := ["thing"]
abbrev p_are_hands : List Str := ["thing"]
theorem c_are_hands : FnScope n_are_hands p_are_hands (defScope s_are_hands) := ⟨rfl, rfl, rfl, by decide +kernel, rfl, by decide +kernel, by decide +kernel⟩
def k_are_hands_1 : Scope := { kind := .function, names := [(".0", .local), ("rule", .local), ("is_hand", .globalImplicit)], isGenerator := false, isCoroutine := false, more := [] }
theorem o_are_hands_1 : CompOk n_are_hands (defScope s_are_hands) ["rule"] [none] k_are_hands_1 := ⟨rfl, by decide +kernel, by decide +kernel, by decide +kernel, by decide +kernel, rfl, by decide +kernel⟩
abbrev s_is_town : Stmt := top 32
abbrev n_is_town : List Str := ["thing", "goal", "houses", "ties", "likings", "hands", "many"]
abbrev p_is_town : List Str := ["thing"]
theorem c_is_town : FnScope n_is_town p_is_town (defScope s_is_town) := ⟨rfl, rfl, rfl, by decide +kernel, rfl, by decide +kernel, by decide +kernel⟩
def k_is_town_1 : Scope := { kind := .function, names := [(".0", .local), ("rules", .local), ("are_likings", .globalImplicit)], isGenerator := false, isCoroutine := false, more := [] }
theorem o_is_town_1 : CompOk n_is_town (defScope s_is_town) ["rules"] [none] k_is_town_1 := ⟨rfl, by decide +kernel, by decide +kernel, by decide +kernel, by decide +kernel, rfl, by decide +kernel⟩
def k_is_town_2 : Scope := { kind := .function, names := [(".0", .local), ("rules", .local), ("are_hands", .globalImplicit)], isGenerator := false, isCoroutine := false, more := [] }
theorem o_is_town_2 : CompOk n_is_town (defScope s_is_town) ["rules"] [none] k_is_town_2 := ⟨rfl, by decide +kernel, by decide +kernel, by decide +kernel, by decide +kernel, rfl, by decide +kernel⟩
abbrev s__law_hand : Stmt := top 34
abbrev n__law_hand : List Str := ["_law_script", "_law_k", "_law_cell"]
abbrev p__law_hand : List Str := ["_law_script", "_law_k"]
theorem c__law_hand : FnScope n__law_hand p__law_hand (defScope s__law_hand) := ⟨rfl, rfl, rfl, by decide +kernel, rfl, by decide +kernel, by decide +kernel⟩
abbrev s__law_take : Stmt := top 35
abbrev n__law_take : List Str := ["_law_hand_here", "_law_many", "_law_digit", "_law_turn", "_law_mixed", "_law_rest_here"]
abbrev p__law_take : List Str := ["_law_hand_here", "_law_many"]
theorem c__law_take : FnScope n__law_take p__law_take (defScope s__law_take) := ⟨rfl, rfl, rfl, by decide +kernel, rfl, by decide +kernel, by decide +kernel⟩
abbrev s__law_pick : Stmt := top 36
abbrev n__law_pick : List Str := ["_law_hand_here", "_law_some"]
abbrev p__law_pick : List Str := ["_law_hand_here", "_law_some"]
theorem c__law_pick : FnScope n__law_pick p__law_pick (defScope s__law_pick) := ⟨rfl, rfl, rfl, by decide +kernel, rfl, by decide +kernel, by decide +kernel⟩
abbrev s__law_names : Stmt := top 37
abbrev n__law_names : List Str := ["_law_hand_here", "_law_many", "_law_letters", "_law_first", "_law_step", "_law_names_here", "_law_kept", "_law_spot", "_law_k"]
abbrev p__law_names : List Str := ["_law_hand_here", "_law_many"]
theorem c__law_names : FnScope n__law_names p__law_names (defScope s__law_names) := ⟨rfl, rfl, rfl, by decide +kernel, rfl, by decide +kernel, by decide +kernel⟩
def k__law_names_1 : Scope := { kind := .function, names := [(".0", .local), ("_law_k", .local), ("_law_first", .free), ("_law_letters", .free), ("_law_step", .free)], isGenerator := false, isCoroutine := false, more := [] }
theorem o__law_names_1 : CompOk n__law_names (defScope s__law_names) ["_law_k", "_law_first", "_law_letters", "_law_step"] [none, some 3, some 2, some 4] k__law_names_1 := ⟨rfl, by decide +kernel, by decide +kernel, by decide +kernel, by decide +kernel, rfl, by decide +kernel⟩
abbrev s__law_cond : Stmt := top 38
abbrev n__law_cond : List Str := ["_law_hand_here", "_law_houses", "_law_marks", "_law_to", "_law_way", "_law_cond_here"]
abbrev p__law_cond : List Str := ["_law_hand_here", "_law_houses", "_law_marks", "_law_to"]
theorem c__law_cond : FnScope n__law_cond p__law_cond (defScope s__law_cond) := ⟨rfl, rfl, rfl, by decide +kernel, rfl, by decide +kernel, by decide +kernel⟩
abbrev s__law_conds : Stmt := top 39
abbrev n__law_conds : List Str := ["_law_hand_here", "_law_houses", "_law_marks", "_law_to", "_law_many"]
abbrev p__law_conds : List Str := ["_law_hand_here", "_law_houses", "_law_marks", "_law_to"]
theorem c__law_conds : FnScope n__law_conds p__law_conds (defScope s__law_conds) := ⟨rfl, rfl, rfl, by decide +kernel, rfl, by decide +kernel, by decide +kernel⟩
def k__law_conds_1 : Scope := { kind := .function, names := [(".0", .local), ("_law_k", .local), ("_law_cond", .globalImplicit), ("_law_hand_here", .free), ("_law_houses", .free), ("_law_marks", .free), ("_law_to", .free)], isGenerator := false, isCoroutine := false, more := [] }
theorem o__law_conds_1 : CompOk n__law_conds (defScope s__law_conds) ["_law_k", "_law_hand_here", "_law_houses", "_law_marks", "_law_to"] [none, some 0, some 1, some 2, some 3] k__law_conds_1 := ⟨rfl, by decide +kernel, by decide +kernel, by decide +kernel, by decide +kernel, rfl, by decide +kernel⟩
abbrev s__law_likings : Stmt := top 40
abbrev n__law_likings : List Str := ["_law_hand_here", "_law_houses", "_law_marks", "_law_some", "_law_k", "_law_number"]
abbrev p__law_likings : List Str := ["_law_hand_here", "_law_houses", "_law_marks"]
theorem c__law_likings : FnScope n__law_likings p__law_likings (defScope s__law_likings) := ⟨rfl, rfl, rfl, by decide +kernel, rfl, by decide +kernel, by decide +kernel⟩
abbrev s__law_hands : Stmt := top 41
abbrev n__law_hands : List Str := ["_law_hand_here", "_law_houses", "_law_marks", "_law_some", "_law_k", "_law_act"]
abbrev p__law_hands : List Str := ["_law_hand_here", "_law_houses", "_law_marks"]
theorem c__law_hands : FnScope n__law_hands p__law_hands (defScope s__law_hands) := ⟨rfl, rfl, rfl, by decide +kernel, rfl, by decide +kernel, by decide +kernel⟩
abbrev s__law_ties : Stmt := top 42
abbrev n__law_ties : List Str := ["_law_hand_here", "_law_houses", "_law_more", "_law_ties_here", "_law_k", "_law_a", "_law_b"]
abbrev p__law_ties : List Str := ["_law_hand_here", "_law_houses", "_law_more"]
theorem c__law_ties : FnScope n__law_ties p__law_ties (defScope s__law_ties) := ⟨rfl, rfl, rfl, by decide +kernel, rfl, by decide +kernel, by decide +kernel⟩
abbrev s__law_town : Stmt := top 43
abbrev n__law_town : List Str := ["_law_hand_here", "_law_many", "_law_names_here", "_law_houses", "_law_marks", "_law_ties_here_here", "_law_goal", "_law_rising", "_law_likings_here", "_law_hands_here"]
abbrev p__law_town : List Str := ["_law_hand_here"]
theorem c__law_town : FnScope n__law_town p__law_town (defScope s__law_town) := ⟨rfl, rfl, rfl, by decide +kernel, rfl, by decide +kernel, by decide +kernel⟩
def k__law_town_1 : Scope := { kind := .function, names := [(".0", .local), ("_law_house", .local), ("_law_likings", .globalImplicit), ("_law_hand_here", .free), ("_law_marks", .free), ("_law_names_here", .free)], isGenerator := false, isCoroutine := false, more := [] }
theorem o__law_town_1 : CompOk n__law_town (defScope s__law_town) ["_law_house", "_law_hand_here", "_law_marks", "_law_names_here"] [none, some 0, some 4, some 2] k__law_town_1 := ⟨rfl, by decide +kernel, by decide +kernel, by decide +kernel, by decide +kernel, rfl, by decide +kernel⟩
def k__law_town_2 : Scope := { kind := .function, names := [(".0", .local), ("_law_house", .local), ("_law_hands", .globalImplicit), ("_law_hand_here", .free), ("_law_marks", .free), ("_law_names_here", .free)], isGenerator := false, isCoroutine := false, more := [] }
theorem o__law_town_2 : CompOk n__law_town (defScope s__law_town) ["_law_house", "_law_hand_here", "_law_marks", "_law_names_here"] [none, some 0, some 4, some 2] k__law_town_2 := ⟨rfl, by decide +kernel, by decide +kernel, by decide +kernel, by decide +kernel, rfl, by decide +kernel⟩
abbrev s__law_houses_spoilt : Stmt := top 44
abbrev n__law_houses_spoilt : List Str := ["_law_town_here", "_law_goal", "_law_houses", "_law_ties_here_here", "_law_likings_here", "_law_hands_here", "_law_many", "_law_eleven", "_law_found", "_law_some"]
abbrev p__law_houses_spoilt : List Str := ["_law_town_here"]
theorem c__law_houses_spoilt : FnScope n__law_houses_spoilt p__law_houses_spoilt (defScope s__law_houses_spoilt) := ⟨rfl, rfl, rfl, by decide +kernel, rfl, by decide +kernel, by decide +kernel⟩
def k__law_houses_spoilt_1 : Scope := { kind := .function, names := [(".0", .local), ("_law_letter", .local)], isGenerator := false, isCoroutine := false, more := [] }
theorem o__law_houses_spoilt_1 : CompOk n__law_houses_spoilt (defScope s__law_houses_spoilt) ["_law_letter"] [none] k__law_houses_spoilt_1 := ⟨rfl, by decide +kernel, by decide +kernel, by decide +kernel, by decide +kernel, rfl, by decide +kernel⟩
def k__law_houses_spoilt_2 : Scope := { kind := .function, names := [(".0", .local), ("_law_one", .local), ("_law_hands_here", .free), ("_law_houses", .free), ("_law_likings_here", .free), ("_law_ties_here_here", .free)], isGenerator := false, isCoroutine := false, more := [] }
theorem o__law_houses_spoilt_2 : CompOk n__law_houses_spoilt (defScope s__law_houses_spoilt) ["_law_one", "_law_hands_here", "_law_houses", "_law_likings_here", "_law_ties_here_here"] [none, some 5, some 2, some 4, some 3] k__law_houses_spoilt_2 := ⟨rfl, by decide +kernel, by decide +kernel, by decide +kernel, by decide +kernel, rfl, by decide +kernel⟩
abbrev s__law_ties_spoilt : Stmt := top 45
abbrev n__law_ties_spoilt : List Str := ["_law_town_here", "_law_goal", "_law_houses", "_law_ties_here_here", "_law_likings_here", "_law_hands_here", "_law_some", "_law_a", "_law_b"]
abbrev p__law_ties_spoilt : List Str := ["_law_town_here"]
theorem c__law_ties_spoilt : FnScope n__law_ties_spoilt p__law_ties_spoilt (defScope s__law_ties_spoilt) := ⟨rfl, rfl, rfl, by decide +kernel, rfl, by decide +kernel, by decide +kernel⟩
def k__law_ties_spoilt_1 : Scope := { kind := .function, names := [(".0", .local), ("_law_one", .local), ("_law_goal", .free), ("_law_hands_here", .free), ("_law_houses", .free), ("_law_likings_here", .free)], isGenerator := false, isCoroutine := false, more := [] }
theorem o__law_ties_spoilt_1 : CompOk n__law_ties_spoilt (defScope s__law_ties_spoilt) ["_law_one", "_law_goal", "_law_hands_here", "_law_houses", "_law_likings_here"] [none, some 1, some 5, some 2, some 4] k__law_ties_spoilt_1 := ⟨rfl, by decide +kernel, by decide +kernel, by decide +kernel, by decide +kernel, rfl, by decide +kernel⟩
abbrev s__law_rules_spoilt : Stmt := top 46
abbrev n__law_rules_spoilt : List Str := ["_law_hand_here", "_law_town_here", "_law_goal", "_law_houses", "_law_ties_here_here", "_law_likings_here", "_law_hands_here", "_law_at", "_law_liking", "_law_act", "_law_found", "_law_one"]
abbrev p__law_rules_spoilt : List Str := ["_law_hand_here", "_law_town_here"]
theorem c__law_rules_spoilt : FnScope n__law_rules_spoilt p__law_rules_spoilt (defScope s__law_rules_spoilt) := ⟨rfl, rfl, rfl, by decide +kernel, rfl, by decide +kernel, by decide +kernel⟩
def k__law_rules_spoilt_1 : Scope := { kind := .function, names := [(".0", .local), ("_law_one", .local), ("_law_goal", .free), ("_law_hands_here", .free), ("_law_houses", .free), ("_law_ties_here_here", .free)], isGenerator := false, isCoroutine := false, more := [] }
theorem o__law_rules_spoilt_1 : CompOk n__law_rules_spoilt (defScope s__law_rules_spoilt) ["_law_one", "_law_goal", "_law_hands_here", "_law_houses", "_law_ties_here_here"] [none, some 2, some 6, some 3, some 4] k__law_rules_spoilt_1 := ⟨rfl, by decide +kernel, by decide +kernel, by decide +kernel, by decide +kernel, rfl, by decide +kernel⟩
def k__law_rules_spoilt_2 : Scope := { kind := .function, names := [(".0", .local), ("_law_one", .local), ("_law_goal", .free), ("_law_houses", .free), ("_law_likings_here", .free), ("_law_ties_here_here", .free)], isGenerator := false, isCoroutine := false, more := [] }
theorem o__law_rules_spoilt_2 : CompOk n__law_rules_spoilt (defScope s__law_rules_spoilt) ["_law_one", "_law_goal", "_law_houses", "_law_likings_here", "_law_ties_here_here"] [none, some 2, some 3, some 5, some 4] k__law_rules_spoilt_2 := ⟨rfl, by decide +kernel, by decide +kernel, by decide +kernel, by decide +kernel, rfl, by decide +kernel⟩
abbrev s__law_odd : Stmt := top 47
abbrev n__law_odd : List Str := ["_law_hand_here", "_law_town_here", "_law_deep", "_law_k", "_law_some"]
abbrev p__law_odd : List Str := ["_law_hand_here", "_law_town_here"]
theorem c__law_odd : FnScope n__law_odd p__law_odd (defScope s__law_odd) := ⟨rfl, rfl, rfl, by decide +kernel, rfl, by decide +kernel, by decide +kernel⟩
abbrev s_law : Stmt := top 48
abbrev n_law : List Str := ["_law_script", "_law_k", "_law_hand_here", "_law_town_here", "_law_some"]
abbrev p_law : List Str := ["_law_script"]
theorem c_law : FnScope n_law p_law (defScope s_law) := ⟨rfl, rfl, rfl, by decide +kernel, rfl, by decide +kernel, by decide +kernel⟩
def k_law_1 : Scope := { kind := .function, names := [(".0", .local), ("_law_one", .local), ("is_town", .globalImplicit)], isGenerator := false, isCoroutine := false, more := [] }
theorem o_law_1 : CompOk n_law (defScope s_law) ["_law_one"] [none] k_law_1 := ⟨rfl, by decide +kernel, by decide +kernel, by decide +kernel, by decide +kernel, rfl, by decide +kernel⟩
set_option genInjectivity false in
set_option genSizeOfSpec false in
set_option genSizeOf false in
structure Ev (K : PySem.W.Frag) (mg : Str → Option Value) where
  a_is_name : Addr
  d_is_name : FuncData
  is_name : RW.At K mg "is_name" s_is_name p_is_name a_is_name d_is_name
  a_is_number : Addr
  d_is_number : FuncData
  is_number : RW.At K mg "is_number" s_is_number p_is_number a_is_number d_is_number
  a_is_whole : Addr
  d_is_whole : FuncData
  is_whole : RW.At K mg "is_whole" s_is_whole p_is_whole a_is_whole d_is_whole
  a_is_row : Addr
  d_is_row : FuncData
  is_row : RW.At K mg "is_row" s_is_row p_is_row a_is_row d_is_row
  a_is_rising : Addr
  d_is_rising : FuncData
  is_rising : RW.At K mg "is_rising" s_is_rising p_is_rising a_is_rising d_is_rising
  a_is_worded : Addr
  d_is_worded : FuncData
  is_worded : RW.At K mg "is_worded" s_is_worded p_is_worded a_is_worded d_is_worded
  a_is_plain_cond : Addr
  d_is_plain_cond : FuncData
  is_plain_cond : RW.At K mg "is_plain_cond" s_is_plain_cond p_is_plain_cond a_is_plain_cond d_is_plain_cond
  a_is_cond : Addr
  d_is_cond : FuncData
  is_cond : RW.At K mg "is_cond" s_is_cond p_is_cond a_is_cond d_is_cond
  a_are_conds : Addr
  d_are_conds : FuncData
  are_conds : RW.At K mg "are_conds" s_are_conds p_are_conds a_are_conds d_are_conds
  a_asks_to : Addr
  d_asks_to : FuncData
  asks_to : RW.At K mg "asks_to" s_asks_to p_asks_to a_asks_to d_asks_to
  a_is_worth : Addr
  d_is_worth : FuncData
  is_worth : RW.At K mg "is_worth" s_is_worth p_is_worth a_is_worth d_is_worth
  a_is_liking : Addr
  d_is_liking : FuncData
  is_liking : RW.At K mg "is_liking" s_is_liking p_is_liking a_is_liking d_is_liking
  a_is_act : Addr
  d_is_act : FuncData
  is_act : RW.At K mg "is_act" s_is_act p_is_act a_is_act d_is_act
  a_is_hand : Addr
  d_is_hand : FuncData
  is_hand : RW.At K mg "is_hand" s_is_hand p_is_hand a_is_hand d_is_hand
  a_are_houses : Addr
  d_are_houses : FuncData
  are_houses : RW.At K mg "are_houses" s_are_houses p_are_houses a_are_houses d_are_houses
  a_is_house : Addr
  d_is_house : FuncData
  is_house : RW.At K mg "is_house" s_is_house p_is_house a_is_house d_is_house
  a_is_tie : Addr
  d_is_tie : FuncData
  is_tie : RW.At K mg "is_tie" s_is_tie p_is_tie a_is_tie d_is_tie
  a_are_ties : Addr
  d_are_ties : FuncData
  are_ties : RW.At K mg "are_ties" s_are_ties p_are_ties a_are_ties d_are_ties
  a_are_likings : Addr
  d_are_likings : FuncData
  are_likings : RW.At K mg "are_likings" s_are_likings p_are_likings a_are_likings d_are_likings
  a_are_hands : Addr
  d_are_hands : FuncData
  are_hands : RW.At K mg "are_hands" s_are_hands p_are_hands a_are_hands d_are_hands
  a_is_town : Addr
  d_is_town : FuncData
  is_town : RW.At K mg "is_town" s_is_town p_is_town a_is_town d_is_town
  a__law_hand : Addr
  d__law_hand : FuncData
  _law_hand : RW.At K mg "_law_hand" s__law_hand p__law_hand a__law_hand d__law_hand
  a__law_take : Addr
  d__law_take : FuncData
  _law_take : RW.At K mg "_law_take" s__law_take p__law_take a__law_take d__law_take
  a__law_pick : Addr
  d__law_pick : FuncData
  _law_pick : RW.At K mg "_law_pick" s__law_pick p__law_pick a__law_pick d__law_pick
  a__law_names : Addr
  d__law_names : FuncData
  _law_names : RW.At K mg "_law_names" s__law_names p__law_names a__law_names d__law_names
  a__law_cond : Addr
  d__law_cond : FuncData
  _law_cond : RW.At K mg "_law_cond" s__law_cond p__law_cond a__law_cond d__law_cond
  a__law_conds : Addr
  d__law_conds : FuncData
  _law_conds : RW.At K mg "_law_conds" s__law_conds p__law_conds a__law_conds d__law_conds
  a__law_likings : Addr
  d__law_likings : FuncData
  _law_likings : RW.At K mg "_law_likings" s__law_likings p__law_likings a__law_likings d__law_likings
  a__law_hands : Addr
  d__law_hands : FuncData
  _law_hands : RW.At K mg "_law_hands" s__law_hands p__law_hands a__law_hands d__law_hands
  a__law_ties : Addr
  d__law_ties : FuncData
  _law_ties : RW.At K mg "_law_ties" s__law_ties p__law_ties a__law_ties d__law_ties
  a__law_town : Addr
  d__law_town : FuncData
  _law_town : RW.At K mg "_law_town" s__law_town p__law_town a__law_town d__law_town
  a__law_houses_spoilt : Addr
  d__law_houses_spoilt : FuncData
  _law_houses_spoilt : RW.At K mg "_law_houses_spoilt" s__law_houses_spoilt p__law_houses_spoilt a__law_houses_spoilt d__law_houses_spoilt
  a__law_ties_spoilt : Addr
  d__law_ties_spoilt : FuncData
  _law_ties_spoilt : RW.At K mg "_law_ties_spoilt" s__law_ties_spoilt p__law_ties_spoilt a__law_ties_spoilt d__law_ties_spoilt
  a__law_rules_spoilt : Addr
  d__law_rules_spoilt : FuncData
  _law_rules_spoilt : RW.At K mg "_law_rules_spoilt" s__law_rules_spoilt p__law_rules_spoilt a__law_rules_spoilt d__law_rules_spoilt
  a__law_odd : Addr
  d__law_odd : FuncData
  _law_odd : RW.At K mg "_law_odd" s__law_odd p__law_odd a__law_odd d__law_odd
  a_law : Addr
  d_law : FuncData
  law : RW.At K mg "law" s_law p_law a_law d_law
  v_LONGEST : Value
  m_LONGEST : mg "LONGEST" = some v_LONGEST
  r_LONGEST : RelV (.int 8) v_LONGEST
  v_MOST_CONDS : Value
  m_MOST_CONDS : mg "MOST_CONDS" = some v_MOST_CONDS
  r_MOST_CONDS : RelV (.int 4) v_MOST_CONDS
  v_LONGEST_ASKED : Value
  m_LONGEST_ASKED : mg "LONGEST_ASKED" = some v_LONGEST_ASKED
  r_LONGEST_ASKED : RelV (.int 99) v_LONGEST_ASKED
  v_GREATEST_WORTH : Value
  m_GREATEST_WORTH : mg "GREATEST_WORTH" = some v_GREATEST_WORTH
  r_GREATEST_WORTH : RelV (.int 999) v_GREATEST_WORTH
  v_MOST_HOUSES : Value
  m_MOST_HOUSES : mg "MOST_HOUSES" = some v_MOST_HOUSES
  r_MOST_HOUSES : RelV (.int 10) v_MOST_HOUSES
  v_MOST_RULES : Value
  m_MOST_RULES : mg "MOST_RULES" = some v_MOST_RULES
  r_MOST_RULES : RelV (.int 90) v_MOST_RULES
  a_TAKEN : Addr
  m_TAKEN : mg "TAKEN" = some (.ref a_TAKEN)
  t_TAKEN : ∀ H, SqT K H a_TAKEN [.str "if", .str "and", .str "not", .str "never"]
  a_NAMING : Addr
  m_NAMING : mg "NAMING" = some (.ref a_NAMING)
  t_NAMING : ∀ H, SqT K H a_NAMING [.str "by", .str "from", .str "to", .str "mark"]
  isinstance : mg "isinstance" = none
  str : mg "str" = none
  len : mg "len" = none
  all : mg "all" = none
  any : mg "any" = none
  int : mg "int" = none
  bool : mg "bool" = none
  tuple : mg "tuple" = none
  range : mg "range" = none
  max : mg "max" = none
  min : mg "min" = none
  sorted : mg "sorted" = none
  list : mg "list" = none
end K05

set_option Elab.async false
set_option linter.all false
set_option maxRecDepth 100000
set_option maxHeartbeats 4000000
namespace K05
open PySem PySem.Spec PyProof.Rows L2 RW
local macro_rules | `(tactic| walk_at "cond") => `(tactic| first | assumption | decide | omega | exact few rfl | exact .inl ⟨by decide, by decide⟩ | exact .inr ⟨by decide, by decide⟩ | exact .inl ⟨by omega, by omega⟩ | exact .inr ⟨by omega, by omega⟩ | exact ⟨by omega, by omega⟩ | exact ⟨by assumption, by assumption⟩ | exact ⟨by decide, by decide, by decide⟩ | exact .inr ⟨by split <;> decide, by split <;> decide⟩)
local macro_rules | `(tactic| walk_at "rd") => `(tactic| first | with_reducible_and_instances refine ⟨_, rfl, ?_⟩ | refine ⟨_, rfl, ?_⟩ | refine ⟨_, _, rfl, rfl, ?_⟩ | refine ⟨_, _, _, _, rfl, rfl, SqL.of (by assumption), rfl, ?_⟩ | refine ⟨_, _, _, _, rfl, rfl, (by assumption), rfl, ?_⟩ | refine .inl ⟨_, rfl, ?_⟩ | refine .inr ⟨_, rfl, ?_⟩ | refine .inl ⟨_, _, rfl, .inl (by assumption), ?_⟩ | refine ⟨(by walk_at "cond"), ?_⟩)
local macro_rules | `(tactic| walk_at "dsp") => `(tactic| repeat' (first | exact dsp_str (by decide) | exact dsp_int | exact dsp_bl | exact dsp_non | exact dsp_neg | exact dspA_nil | exact dsp_dnew | exact dsp_disp rfl | exact dsp_var rfl (by assumption) | refine dspA_cons ?_ ?_ | refine dsp_tup ?_ ?_ | refine dsp_lst' ?_ | refine n_cons ?_ ?_ | exact n_nil | exact v_c | exact v_var rfl | refine v_tup ?_ | refine dspl_lst ?_ ?_ | refine dspl_cat ?_ ?_ ?_ | exact dspl_var rfl (by assumption) (by assumption) | exact Nat.le_of_ble_eq_true rfl))
local macro_rules | `(tactic| walk_at "each") => `(tactic| repeat' (first | exact forall_nil | refine List.forall_mem_append.mpr ⟨?_, ?_⟩ | refine List.forall_mem_cons.mpr ⟨?_, ?_⟩))
section
variable {P : Program} {w : World} {K : PySem.W.Frag} {mg : Str → Option Value} {base : Heap}
theorem ok_is_number (Y : Ev K mg) : FnOk P w K mg base CX0 1 Y.a_is_number Y.d_is_number p_is_number (spAny isNumB) := by
  refine Y.is_number.fn.okQ c_is_number (fun vs H Q E h => ?_) (fun cdv A outer s H vs Q E hr h => ?_)
  · obtain ⟨v, d, rfl, _⟩ := h; rfl
  · obtain ⟨v, d, rfl, hd, q⟩ := h
    obtain ⟨t, ht, h1, h2, h3, h4⟩ := hd.isi (K := K)
    have q := q H (Same.refl H)
    refine ⟨_, (b_one (s_ret (q_and (q_callB call_isi Y.isinstance bt_isinstance (a_cons (qv 0) (a_cons (q_ty Y.int bt_int) a_nil))) (q_one (q_not (q_callB call_isi Y.isinstance bt_isinstance (a_cons (qv 0) (a_cons (q_ty Y.bool bt_bool) a_nil)))))))), ?_⟩
    refine ⟨_, rfl, _, _, _, _, rfl, ht, h2, _, rfl, ?_⟩
    refine ite2 (fun e => ?_) (fun e => ?_)
    · refine ⟨_, rfl, _, _, _, _, rfl, ht, h3, _, rfl, ?_⟩
      cases d <;> first | exact q | cases e
    · cases d <;> first | exact q | exact absurd rfl e
def spWhole : Sp := fun vs H Q _ => ∃ v d lo hi, vs = [v, .int lo, .int hi] ∧ Rep H v d ∧ ∀ H', Same H H' → Q (.bl (isWholeB d lo hi)) H'
theorem ok_is_whole (Y : Ev K mg) : FnOk P w K mg base CX0 2 Y.a_is_whole Y.d_is_whole p_is_whole spWhole := by
  have G_is_number : FnOk P w K mg base CX0 1 Y.a_is_number Y.d_is_number p_is_number (spAny isNumB) := ok_is_number Y
  refine Y.is_whole.fn.okQ c_is_whole (fun vs H Q E h => ?_) (fun cdv A outer s H vs Q E hr h => ?_)
  · obtain ⟨v, d, lo, hi, rfl, _⟩ := h; rfl
  · obtain ⟨v, d, lo, hi, rfl, hd, q⟩ := h
    refine ⟨_, (b_one (s_ret (q_and (q_call G_is_number (hr.mono (by decide)) Y.is_number.mg Y.is_number.kp Y.is_number.b .nil pass0 (a_cons (qv 0) a_nil)) (q_one (q_chain op_le op_le (qv 1) (qv 0) (qv 2)))))), ?_⟩
    refine ⟨_, rfl, v, d, rfl, hd, fun H1 s1 => ?_⟩
    have q := q H1 s1
    refine ⟨_, rfl, ite2 (fun e => ?_) (fun e => ?_)⟩
    · cases hd with
      | int i =>
        refine ⟨_, rfl, _, rfl, _, _, rfl, rfl, _, rfl, ite2 (fun e1 => ?_) (fun e1 => ?_)⟩
        · refine ⟨_, rfl, _, _, rfl, rfl, ?_⟩
          have : isWholeB (.int i) lo hi = decide (i ≤ hi) := by show (decide (lo ≤ i) && decide (i ≤ hi)) = _; rw [e1]; rfl
          rw [this] at q; exact q
        · have : isWholeB (.int i) lo hi = false := by show (decide (lo ≤ i) && decide (i ≤ hi)) = _; rw [tru e1]; rfl
          rw [this] at q; exact q
      | _ => cases e
    · have : isWholeB d lo hi = false := by cases d <;> first | rfl | exact absurd rfl e
      rw [this] at q; exact q
def spRow : Sp := fun vs H Q _ => ∃ v d lo hi, vs = [v, .int lo, .int hi] ∧ Rep H v d ∧ ∀ H', Same H H' → Q (.bl (isRowB d lo hi)) H'
theorem ok_is_row (Y : Ev K mg) : FnOk P w K mg base CX0 1 Y.a_is_row Y.d_is_row p_is_row spRow := by
  refine Y.is_row.fn.okQ c_is_row (fun vs H Q E h => ?_) (fun cdv A outer s H vs Q E hr h => ?_)
  · obtain ⟨v, d, lo, hi, rfl, _⟩ := h; rfl
  · obtain ⟨v, d, lo, hi, rfl, hd, q⟩ := h
    have q := q H (Same.refl H)
    obtain ⟨t, ht, h1, h2, h3, h4⟩ := hd.isi (K := K)
    refine ⟨_, (b_one (s_ret (q_and (q_callB call_isi Y.isinstance bt_isinstance (a_cons (qv 0) (a_cons (q_ty Y.tuple bt_tuple) a_nil))) (q_one (q_chain op_le op_le (qv 1) (q_callB call_len2 Y.len bt_len (a_cons (qv 0) a_nil)) (qv 2)))))), ?_⟩
    refine ⟨_, rfl, _, _, _, _, rfl, ht, h1, _, rfl, ite2 (fun e => ?_) (fun e => ?_)⟩
    · cases hd with
      | @tup p vs ds hp l b r =>
        refine ⟨_, rfl, _, rfl, .inl ⟨p, vs, rfl, .inr (.inl (.inl hp)), _, _, rfl, rfl, _, rfl, ite2 (fun e1 => ?_) (fun e1 => ?_)⟩⟩
        · refine ⟨_, rfl, _, _, rfl, rfl, ?_⟩
          have : isRowB (.tup ds) lo hi = decide ((vs.length : Int) ≤ hi) := by show (decide (lo ≤ (ds.length : Int)) && decide ((ds.length : Int) ≤ hi)) = _; rw [← l, e1]; rfl
          rw [this] at q; exact q
        · have : isRowB (.tup ds) lo hi = false := by show (decide (lo ≤ (ds.length : Int)) && decide ((ds.length : Int) ≤ hi)) = _; rw [← l, tru e1]; rfl
          rw [this] at q; exact q
      | _ => cases e
    · have : isRowB d lo hi = false := by cases d <;> first | rfl | exact absurd rfl e
      rw [this] at q; exact q
def spWorded : Sp := fun vs H Q _ => ∃ v d n, vs = [v, .int n] ∧ 1 ≤ n ∧ Rep H v d ∧ ∀ H', Same H H' → Q (.bl (isWordedB d n)) H'
theorem ok_is_worded (Y : Ev K mg) : FnOk P w K mg base CX0 2 Y.a_is_worded Y.d_is_worded p_is_worded spWorded := by
  have G_is_row : FnOk P w K mg base CX0 1 Y.a_is_row Y.d_is_row p_is_row spRow := ok_is_row Y
  refine Y.is_worded.fn.okQ c_is_worded (fun vs H Q E h => ?_) (fun cdv A outer s H vs Q E hr h => ?_)
  · obtain ⟨v, d, n, rfl, _⟩ := h; rfl
  · obtain ⟨v, d, n, rfl, hn, hd, q⟩ := h
    refine ⟨_, (b_one (s_ret (q_and (q_call G_is_row (hr.mono (by decide)) Y.is_row.mg Y.is_row.kp Y.is_row.b .nil pass0 (a_cons (qv 0) (a_cons (qv 1) (a_cons (qv 1) a_nil)))) (q_one (q_callB call_isi Y.isinstance bt_isinstance (a_cons (q_ix ix_tup (qv 0) q_int) (a_cons (q_ty Y.str bt_str) a_nil))))))), ?_⟩
    refine ⟨_, rfl, _, rfl, _, rfl, v, d, n, n, rfl, hd, fun H1 s1 => ?_⟩
    have q := q H1 s1
    have hd1 := hd.same s1
    refine ⟨_, rfl, ite2 (fun e => ?_) (fun e => ?_)⟩
    · have e0 := e
      unfold isWordedB at q
      rw [e] at q
      cases hd1 with
      | @tup p vs ds hp l b r =>
        match ds, vs, l with
        | [], _, _ =>
          exfalso
          simp [isRowB] at e0
          omega
        | d0 :: ds, x :: vs, l =>
          have h0 : Rep H1 x d0 := r 0 x d0 rfl rfl
          obtain ⟨t, ht, h1, h2, h3, h4⟩ := h0.isi (K := K)
          refine ⟨_, rfl, p, x :: vs, 0, x, rfl, rfl, .inl (.inl hp), at0, _, _, _, _, rfl, ht, h4, ?_⟩
          cases d0 <;> exact q
      | _ => cases e
    · unfold isWordedB at q
      rw [tru e] at q; exact q
end
end K05

set_option Elab.async false
set_option linter.all false
set_option maxRecDepth 100000
set_option maxHeartbeats 4000000
namespace K05
open PySem PySem.Spec PyProof.Rows L2 RW
local macro_rules | `(tactic| walk_at "cond") => `(tactic| first | assumption | decide | omega | exact few rfl | exact .inl ⟨by decide, by decide⟩ | exact .inr ⟨by decide, by decide⟩ | exact .inl ⟨by omega, by omega⟩ | exact .inr ⟨by omega, by omega⟩ | exact ⟨by omega, by omega⟩ | exact ⟨by assumption, by assumption⟩ | exact ⟨by decide, by decide, by decide⟩ | exact .inr ⟨by split <;> decide, by split <;> decide⟩)
local macro_rules | `(tactic| walk_at "rd") => `(tactic| first | with_reducible_and_instances refine ⟨_, rfl, ?_⟩ | refine ⟨_, rfl, ?_⟩ | refine ⟨_, _, rfl, rfl, ?_⟩ | refine ⟨_, _, _, _, rfl, rfl, SqL.of (by assumption), rfl, ?_⟩ | refine ⟨_, _, _, _, rfl, rfl, (by assumption), rfl, ?_⟩ | refine .inl ⟨_, rfl, ?_⟩ | refine .inr ⟨_, rfl, ?_⟩ | refine .inl ⟨_, _, rfl, .inl (by assumption), ?_⟩ | refine ⟨(by walk_at "cond"), ?_⟩)
local macro_rules | `(tactic| walk_at "dsp") => `(tactic| repeat' (first | exact dsp_str (by decide) | exact dsp_int | exact dsp_bl | exact dsp_non | exact dsp_neg | exact dspA_nil | exact dsp_dnew | exact dsp_disp rfl | exact dsp_var rfl (by assumption) | refine dspA_cons ?_ ?_ | refine dsp_tup ?_ ?_ | refine dsp_lst' ?_ | refine n_cons ?_ ?_ | exact n_nil | exact v_c | exact v_var rfl | refine v_tup ?_ | refine dspl_lst ?_ ?_ | refine dspl_cat ?_ ?_ ?_ | exact dspl_var rfl (by assumption) (by assumption) | exact Nat.le_of_ble_eq_true rfl))
local macro_rules | `(tactic| walk_at "each") => `(tactic| repeat' (first | exact forall_nil | refine List.forall_mem_append.mpr ⟨?_, ?_⟩ | refine List.forall_mem_cons.mpr ⟨?_, ?_⟩))
section
variable {P : Program} {w : World} {K : PySem.W.Frag} {mg : Str → Option Value} {base : Heap}
theorem ok_is_name (Y : Ev K mg) : FnOk P w K mg base CX0 1 Y.a_is_name Y.d_is_name p_is_name (spAny isNameD) := by
  refine Y.is_name.fn.okQ c_is_name (fun vs H Q E h => ?_) (fun cdv A outer s H vs Q E hr h => ?_)
  · obtain ⟨v, d, rfl, _⟩ := h; rfl
  · obtain ⟨v, d, rfl, hd, q⟩ := h
    refine ⟨_, (b_cons (s_if (t_w (w_or (t_not (t_val (q_callB call_isi Y.isinstance bt_isinstance (a_cons (qv 0) (a_cons (q_ty Y.str bt_str) a_nil))))) (w_or1 (t_not (t_chain op_le op_le q_int (q_callB call_len2 Y.len bt_len (a_cons (qv 0) a_nil)) (q_glob Y.m_LONGEST Y.r_LONGEST)))))) (b_one (s_ret q_bl)) b_nil)
      (b_one (s_ret (q_and (q_callB (call_allB rfl) Y.all bt_all (a_cons (q_comp (src := [none]) o_is_name_1 rfl rfl (i_str (qv 0)) (fun _ _ _ _ _ => (g_name 0 o_is_name_1.nd)) (fun _ _ _ _ _ => f_nil) (fun _ _ _ _ _ => (q_chain op_le_str op_le_str q_str (qv 0) q_str))) a_nil)) (q_one (q_cmp op_notIn_seq (qv 0) (q_glob (v := .ref Y.a_TAKEN) Y.m_TAKEN rfl))))))), ?_⟩
    obtain ⟨t, ht, _, _, _, h4⟩ := hd.isi (K := K)
    refine ⟨_, rfl, _, _, _, _, rfl, ht, h4, _, rfl, ?_⟩
    cases hd with
    | str x hx =>
      have hz : x.length ≤ sizeLine := Nat.le_of_lt (small1000 hx)
      refine ⟨_, rfl, .inr ⟨x, rfl, hz, _, _, rfl, rfl, _, rfl, ?_⟩⟩
      refine ite2 (fun h1 => ?_) (fun h1 => ?_)
      · have h1' : 1 ≤ x.length := by
          have := of_decide_eq_true h1
          omega
        refine ⟨_, _, rfl, rfl, _, rfl, ?_⟩
        cases h8 : decide ((x.length : Int) ≤ 8) with
        | false =>
          have e : isNameB x = false := by
            have h8' := of_decide_eq_false h8
            have : decide (x.length ≤ 8) = false := decide_eq_false (by omega)
            unfold isNameB
            rw [this]
            simp
          have q := q H (Same.refl H)
          rw [nameD_eq] at q
          rw [e] at q
          exact q
        | true =>
          have h8' : x.length ≤ 8 := by
            have := of_decide_eq_true h8
            omega
          refine ⟨_, rfl, x, rfl, ?_⟩
          refine comp_by wk_str (fun l i ys σ' H' => (∃ o, σ' = [o]) ∧ ys = (x.cps.toList.take i).map (fun c => V.bl (letterC c)) ∧ H' = upd H l (.lst ys)) ?_ (fun _ _ _ _ _ _ _ => trivial) ?_ ?_
          · exact fun l hl => ⟨⟨_, rfl⟩, rfl, rfl⟩
          · rintro l i y ys σ' H' hl hi ⟨c, hc, rfl⟩ ⟨⟨o, rfl⟩, rfl, rfl⟩ hl'
            repeat walk_at "rd"
            have hc' : x.cps.toList[i]? = some c := by simpa using hc
            have tk : (x.cps.toList.take i).map (fun c => V.bl (letterC c)) ++ [V.bl (letterC c)] = (x.cps.toList.take (i + 1)).map (fun c => V.bl (letterC c)) := by
              rw [List.take_add_one, hc']
              simp
            have ll : ((x.cps.toList.take i).map (fun c => V.bl (letterC c))).length < sizeLine := Nat.lt_of_le_of_lt (by rw [List.length_map, List.length_take]; omega) (small1000 (n := 8) (by decide))
            rw [lt_a]
            refine ite2 (fun ha => ⟨_, _, rfl, rfl, hl', ll, ⟨_, rfl⟩, ?_, upd_upd⟩) (fun ha => ⟨hl', ll, ⟨_, rfl⟩, ?_, upd_upd⟩)
            · rw [lt_z, ← tk]
              congr 2
              unfold letterC
              have ha' : ¬ c < 97 := by simpa using ha
              by_cases hq : 122 < c
              · rw [decide_eq_true hq, decide_eq_false (show ¬ c ≤ 122 by omega)]; simp
              · rw [decide_eq_false hq, decide_eq_true (show c ≤ 122 by omega), decide_eq_true (show 97 ≤ c by omega)]; rfl
            · rw [← tk]
              congr 2
              unfold letterC
              have ha' : c < 97 := by simpa using ha
              rw [decide_eq_false (show ¬ 97 ≤ c by omega)]; rfl
          · rintro l ys σ' H' hl ⟨⟨o, rfl⟩, rfl, rfl⟩ hl'
            have tk : (x.cps.toList.take x.length).map (fun c => V.bl (letterC c)) = (x.cps.toList.map letterC).map V.bl := by
              rw [List.take_of_length_le (by simp [Str.length]), List.map_map]
              rfl
            rw [tk] at hl'
            rw [tk]
            refine ⟨l, _, rfl, SqL.of hl', _, rfl, ?_⟩
            have sm : Same H (upd H l (.lst ((x.cps.toList.map letterC).map V.bl))) := Same.new hl
            have ea : (x.cps.toList.map letterC).all id = x.cps.toList.all letterC := by rw [List.all_map]; rfl
            rw [ea]
            refine ite2 (fun hA => ?_) (fun hA => ?_)
            · refine ⟨_, rfl, Y.a_TAKEN, _, rfl, .inr (Y.t_TAKEN _), rfl, rfl, ?_⟩
              have e : isNameB x = !inV (.str x) (takenL.map V.str) := by
                unfold isNameB inV
                rw [hA, decide_eq_true h1', decide_eq_true h8', List.any_map]
                simp only [Bool.true_and]
                congr 2
              have q := q _ sm
              rw [nameD_eq] at q
              rw [e] at q
              exact q
            · have e : isNameB x = false := by
                unfold isNameB
                have : x.cps.toList.all letterC = false := by simpa using hA
                rw [this]
                simp
              have q := q _ sm
              rw [nameD_eq] at q
              rw [e] at q
              exact q
      · have e : isNameB x = false := by
          have h1' : ¬ (1 : Int) ≤ (x.length : Int) := fun z => h1 (decide_eq_true z)
          have : decide (1 ≤ x.length) = false := decide_eq_false (by omega)
          unfold isNameB
          rw [this]
          simp
        have q := q H (Same.refl H)
        rw [nameD_eq] at q
        rw [e] at q
        exact ⟨_, rfl, q⟩
    | _ => exact q H (Same.refl H)
end
end K05

set_option Elab.async false
set_option linter.all false
set_option maxRecDepth 100000
set_option maxHeartbeats 4000000
namespace K05
open PySem PySem.Spec PyProof.Rows L2 RW
local macro_rules | `(tactic| walk_at "cond") => `(tactic| first | assumption | decide | omega | exact few rfl | exact .inl ⟨by decide, by decide⟩ | exact .inr ⟨by decide, by decide⟩ | exact .inl ⟨by omega, by omega⟩ | exact .inr ⟨by omega, by omega⟩ | exact ⟨by omega, by omega⟩ | exact ⟨by assumption, by assumption⟩ | exact ⟨by decide, by decide, by decide⟩ | exact .inr ⟨by split <;> decide, by split <;> decide⟩)
local macro_rules | `(tactic| walk_at "rd") => `(tactic| first | with_reducible_and_instances refine ⟨_, rfl, ?_⟩ | refine ⟨_, rfl, ?_⟩ | refine ⟨_, _, rfl, rfl, ?_⟩ | refine ⟨_, _, _, _, rfl, rfl, SqL.of (by assumption), rfl, ?_⟩ | refine ⟨_, _, _, _, rfl, rfl, (by assumption), rfl, ?_⟩ | refine .inl ⟨_, rfl, ?_⟩ | refine .inr ⟨_, rfl, ?_⟩ | refine .inl ⟨_, _, rfl, .inl (by assumption), ?_⟩ | refine ⟨(by walk_at "cond"), ?_⟩)
local macro_rules | `(tactic| walk_at "dsp") => `(tactic| repeat' (first | exact dsp_str (by decide) | exact dsp_int | exact dsp_bl | exact dsp_non | exact dsp_neg | exact dspA_nil | exact dsp_dnew | exact dsp_disp rfl | exact dsp_var rfl (by assumption) | refine dspA_cons ?_ ?_ | refine dsp_tup ?_ ?_ | refine dsp_lst' ?_ | refine n_cons ?_ ?_ | exact n_nil | exact v_c | exact v_var rfl | refine v_tup ?_ | refine dspl_lst ?_ ?_ | refine dspl_cat ?_ ?_ ?_ | exact dspl_var rfl (by assumption) (by assumption) | exact Nat.le_of_ble_eq_true rfl))
local macro_rules | `(tactic| walk_at "each") => `(tactic| repeat' (first | exact forall_nil | refine List.forall_mem_append.mpr ⟨?_, ?_⟩ | refine List.forall_mem_cons.mpr ⟨?_, ?_⟩))
section
variable {P : Program} {w : World} {K : PySem.W.Frag} {mg : Str → Option Value} {base : Heap}
theorem ok_is_plain_cond (Y : Ev K mg) : FnOk P w K mg base CX0 3 Y.a_is_plain_cond Y.d_is_plain_cond p_is_plain_cond (spAny isPlainB) := by
  have G_is_worded : FnOk P w K mg base CX0 2 Y.a_is_worded Y.d_is_worded p_is_worded spWorded := ok_is_worded Y
  have G_is_whole : FnOk P w K mg base CX0 2 Y.a_is_whole Y.d_is_whole p_is_whole spWhole := ok_is_whole Y
  have G_is_name : FnOk P w K mg base CX0 1 Y.a_is_name Y.d_is_name p_is_name (spAny isNameD) := ok_is_name Y
  refine Y.is_plain_cond.fn.okQ c_is_plain_cond (fun vs H Q E h => ?_) (fun cdv A outer s H vs Q E hr h => ?_)
  · obtain ⟨v, d, rfl, _⟩ := h; rfl
  · obtain ⟨v, d, rfl, hd, q⟩ := h
    refine ⟨_, (b_cons (s_if (t_not (t_val (q_call G_is_worded (hr.mono (by decide)) Y.is_worded.mg Y.is_worded.kp Y.is_worded.b .nil pass0 (a_cons (qv 0) (a_cons q_int a_nil))))) (b_one (s_ret q_bl)) b_nil)
      (b_cons (s_asg (qv 0) (g_tup 2 rfl (gs_cons (g_name 1 c_is_plain_cond.nd) (gs_cons (g_name 2 c_is_plain_cond.nd) gs_nil))))
      (b_cons (s_if (t_cmp op_eq (qv 1) q_str) (b_one (s_ret (q_call G_is_whole (hr.mono (by decide)) Y.is_whole.mg Y.is_whole.kp Y.is_whole.b .nil pass0 (a_cons (qv 2) (a_cons q_int (a_cons (q_glob Y.m_LONGEST_ASKED Y.r_LONGEST_ASKED) a_nil)))))) b_nil)
      (b_one (s_ret (q_and (q_cmp op_in_seq (qv 1) (q_glob (v := .ref Y.a_NAMING) Y.m_NAMING rfl)) (q_one (q_call G_is_name (hr.mono (by decide)) Y.is_name.mg Y.is_name.kp Y.is_name.b .nil pass0 (a_cons (qv 2) a_nil))))))))), ?_⟩
    refine ⟨_, rfl, v, d, 2, rfl, by decide, hd, fun H1 s1 => ⟨_, rfl, ?_⟩⟩
    have hd1 := hd.same s1
    cases hw : isWordedB d 2 with
    | false =>
      have q := q H1 s1
      rw [plain_no hw] at q
      exact q
    | true =>
      obtain ⟨x, e, rfl⟩ := worded2 hw
      obtain ⟨p, v0, v1, rfl, hp, r0, r1⟩ := hd1.of2
      cases r0 with
      | str _ hx =>
      refine ⟨_, rfl, p, _, rfl, .inl (.inl hp), rfl, _, _, rfl, _, _, rfl, rfl, ?_⟩
      refine ⟨_, rfl, rfl, _, rfl, ite2 (fun el => ?_) (fun el => ?_)⟩
      · have el' : x = "long" := by
          have := of_decide_eq_true el
          exact V.str.inj this
        refine ⟨_, rfl, v1, e, 0, 99, rfl, r1, fun H2 s2 => ?_⟩
        have q := q H2 (s1.trans s2)
        rw [plain_eq] at q
        rw [if_pos el'] at q
        exact q
      · have el' : ¬ x = "long" := fun z => el (decide_eq_true (by rw [z]))
        refine ⟨_, rfl, Y.a_NAMING, _, rfl, .inr (Y.t_NAMING _), rfl, rfl, _, rfl, ite2 (fun en => ?_) (fun en => ?_)⟩
        · refine ⟨_, rfl, v1, e, rfl, r1, fun H2 s2 => ?_⟩
          have q := q H2 (s1.trans s2)
          rw [plain_eq] at q
          rw [if_neg el', naming_in, en] at q
          exact q
        · have q := q H1 s1
          rw [plain_eq] at q
          rw [if_neg el', naming_in, tru en] at q
          exact q
theorem ok_is_cond (Y : Ev K mg) : FnOk P w K mg base CX0 4 Y.a_is_cond Y.d_is_cond p_is_cond (spAny isCondB) := by
  have G_is_worded : FnOk P w K mg base CX0 2 Y.a_is_worded Y.d_is_worded p_is_worded spWorded := ok_is_worded Y
  have G_is_plain_cond : FnOk P w K mg base CX0 3 Y.a_is_plain_cond Y.d_is_plain_cond p_is_plain_cond (spAny isPlainB) := ok_is_plain_cond Y
  refine Y.is_cond.fn.okQ c_is_cond (fun vs H Q E h => ?_) (fun cdv A outer s H vs Q E hr h => ?_)
  · obtain ⟨v, d, rfl, _⟩ := h; rfl
  · obtain ⟨v, d, rfl, hd, q⟩ := h
    refine ⟨_, (b_cons (s_if (t_w (w_and (t_val (q_call G_is_worded (hr.mono (by decide)) Y.is_worded.mg Y.is_worded.kp Y.is_worded.b .nil pass0 (a_cons (qv 0) (a_cons q_int a_nil)))) (w_and1 (t_cmp op_eq (q_ix ix_tup (qv 0) q_int) q_str)))) (b_one (s_ret (q_call G_is_plain_cond (hr.mono (by decide)) Y.is_plain_cond.mg Y.is_plain_cond.kp Y.is_plain_cond.b .nil pass0 (a_cons (q_ix ix_tup (qv 0) q_int) a_nil)))) b_nil)
      (b_one (s_ret (q_call G_is_plain_cond (hr.mono (by decide)) Y.is_plain_cond.mg Y.is_plain_cond.kp Y.is_plain_cond.b .nil pass0 (a_cons (qv 0) a_nil))))), ?_⟩
    refine ⟨_, rfl, v, d, 2, rfl, by decide, hd, fun H1 s1 => ⟨_, rfl, ?_⟩⟩
    have hd1 := hd.same s1
    cases hw : isWordedB d 2 with
    | false =>
      refine ⟨_, rfl, v, d, rfl, hd1, fun H2 s2 => ?_⟩
      have q := q H2 (s1.trans s2)
      rw [cond_no hw] at q
      rw [plain_no hw]
      exact q
    | true =>
      obtain ⟨x, e, rfl⟩ := worded2 hw
      obtain ⟨p, v0, v1, rfl, hp, r0, r1⟩ := hd1.of2
      cases r0 with
      | str _ hx =>
      refine ⟨_, rfl, p, _, 0, _, rfl, rfl, .inl (.inl hp), at0, rfl, _, rfl, ite2 (fun el => ?_) (fun el => ?_)⟩
      · have el' : x = "not" := V.str.inj (of_decide_eq_true el)
        refine ⟨_, rfl, p, _, 1, _, rfl, rfl, .inl (.inl hp), at1, v1, e, rfl, r1, fun H2 s2 => ?_⟩
        have q := q H2 (s1.trans s2)
        rw [cond_eq] at q
        rw [if_pos el'] at q
        exact q
      · have el' : ¬ x = "not" := fun z => el (decide_eq_true (by rw [z]))
        refine ⟨_, rfl, _, _, rfl, hd1, fun H2 s2 => ?_⟩
        have q := q H2 (s1.trans s2)
        rw [cond_eq] at q
        rw [if_neg el'] at q
        exact q
theorem ok_are_conds (Y : Ev K mg) : FnOk P w K mg base CX0 5 Y.a_are_conds Y.d_are_conds p_are_conds (spAny areCondsB) := by
  have G_is_row : FnOk P w K mg base CX0 1 Y.a_is_row Y.d_is_row p_is_row spRow := ok_is_row Y
  have G_is_cond : FnOk P w K mg base CX0 4 Y.a_is_cond Y.d_is_cond p_is_cond (spAny isCondB) := ok_is_cond Y
  refine Y.are_conds.fn.okQ c_are_conds (fun vs H Q E h => ?_) (fun cdv A outer s H vs Q E hr h => ?_)
  · obtain ⟨v, d, rfl, _⟩ := h; rfl
  · obtain ⟨v, d, rfl, hd, q⟩ := h
    refine ⟨_, (b_one (s_ret (q_and (q_call G_is_row (hr.mono (by decide)) Y.is_row.mg Y.is_row.kp Y.is_row.b .nil pass0 (a_cons (qv 0) (a_cons q_int (a_cons (q_glob Y.m_MOST_CONDS Y.r_MOST_CONDS) a_nil)))) (q_one (q_callB (call_allB rfl) Y.all bt_all (a_cons (q_comp (src := [none]) o_are_conds_1 rfl rfl (i_tup (qv 0)) (fun _ _ _ _ _ => (g_name 0 o_are_conds_1.nd)) (fun _ _ _ _ _ => f_nil) (fun _ _ _ _ _ => (q_call G_is_cond (hr.mono (by decide)) Y.is_cond.mg Y.is_cond.kp Y.is_cond.b .nil pass0 (a_cons (qv 0) a_nil)))) a_nil)))))), ?_⟩
    refine ⟨_, rfl, v, d, 0, 4, rfl, hd, fun H1 s1 => ⟨_, rfl, ite2 (fun e => ?_) (fun e => ?_)⟩⟩
    · have hd1 := hd.same s1
      cases d with
      | tup ds =>
        obtain ⟨p, vs, rfl, hp, r, b⟩ := hd1.ofT
        have h4 : decide (ds.length ≤ 4) = true := by
          simp [isRowB] at e
          exact decide_eq_true (by omega)
        refine ⟨_, rfl, p, rfl, ⟨vs, .inl (.inl hp)⟩, ?_⟩
        refine comp_truths (g := isCondB) (ok := fun H => SqT K H p vs) wk_tup (fun H' s => .inl (.inl (s _ _ hp))) r b rfl (fun x d H2 Q1 s2 rx _ q1 => ?_) (fun l H2 s2 _ hl => ?_)
        · exact ⟨_, rfl, x, d, rfl, rx, q1⟩
        · refine ⟨l, _, rfl, SqL.of hl, ?_⟩
          have q := q H2 (s1.trans s2)
          rw [conds_eq] at q
          rw [h4, ← all_map_id] at q
          exact q
      | _ => cases e
    · have q := q H1 s1
      have : areCondsB d = false := by
        cases d with
        | tup ds =>
          have : decide (ds.length ≤ 4) = false := by
            simp [isRowB] at e
            exact decide_eq_false (by omega)
          rw [conds_eq, this]; rfl
        | _ => rfl
      rw [this] at q
      exact q
def spAsk (c : D → Bool) (g : D → Bool) : Sp := fun vs H Q _ => ∃ v d, vs = [v] ∧ Rep H v d ∧ c d = true ∧ ∀ H', Same H H' → Q (.bl (g d)) H'
theorem ok_asks_step {k : Nat} {c g : D → Bool} (Y : Ev K mg) (G_asks_to : FnOk P w K mg base CX0 k Y.a_asks_to Y.d_asks_to p_asks_to (spAsk c g)) (c' g' : D → Bool)
    (hc : ∀ d, c' d = true → ∃ x e, d = .tup [.str x, e]) (h1 : ∀ x e, c' (.tup [.str x, e]) = true → x = "not" → c e = true ∧ g e = g' (.tup [.str x, e])) (h2 : ∀ x e, c' (.tup [.str x, e]) = true → ¬ x = "not" → decide (V.str x = V.str "to") = g' (.tup [.str x, e])) :
    FnOk P w K mg base CX0 (k + 1) Y.a_asks_to Y.d_asks_to p_asks_to (spAsk c' g') := by
  refine Y.asks_to.fn.okQ c_asks_to (fun vs H Q E h => ?_) (fun cdv A outer s H vs Q E hr h => ?_)
  · obtain ⟨v, d, rfl, _⟩ := h; rfl
  · obtain ⟨v, d, rfl, hd, hcd, q⟩ := h
    obtain ⟨x, e, rfl⟩ := hc d hcd
    obtain ⟨p, v0, v1, rfl, hp, r0, r1⟩ := hd.of2
    cases r0 with
    | str _ hx =>
    refine ⟨_, (b_cons (s_if (t_cmp op_eq (q_ix ix_tup (qv 0) q_int) q_str) (b_one (s_ret (q_call G_asks_to hr Y.asks_to.mg Y.asks_to.kp Y.asks_to.b .nil pass0 (a_cons (q_ix ix_tup (qv 0) q_int) a_nil)))) b_nil)
      (b_one (s_ret (q_cmp op_eq (q_ix ix_tup (qv 0) q_int) q_str)))), ?_⟩
    refine ⟨_, rfl, p, _, 0, _, rfl, rfl, .inl (.inl hp), at0, rfl, _, rfl, ite2 (fun el => ?_) (fun el => ?_)⟩
    · obtain ⟨ce, ge⟩ := h1 x e hcd (V.str.inj (of_decide_eq_true el))
      refine ⟨_, rfl, p, _, 1, _, rfl, rfl, .inl (.inl hp), at1, v1, e, rfl, r1, ce, fun H' s' => ?_⟩
      rw [ge]
      exact q H' s'
    · have ge := h2 x e hcd fun z => el (decide_eq_true (by rw [z]))
      refine ⟨_, rfl, p, _, 0, _, rfl, rfl, .inl (.inl hp), at0, rfl, ?_⟩
      rw [ge]
      exact q H (Same.refl H)
theorem ok_asks0 (Y : Ev K mg) : FnOk P w K mg base CX0 1 Y.a_asks_to Y.d_asks_to p_asks_to (spAsk (fun _ => false) (fun _ => false)) := by
  refine Y.asks_to.fn.okQ c_asks_to (fun vs H Q E h => ?_) (fun cdv A outer s H vs Q E hr h => ?_)
  · obtain ⟨v, d, rfl, _, z, _⟩ := h; cases z
  · obtain ⟨v, d, rfl, _, z, _⟩ := h; cases z
theorem ok_asks_to (Y : Ev K mg) : FnOk P w K mg base CX0 3 Y.a_asks_to Y.d_asks_to p_asks_to (spAsk isCondB asksB) := by
  refine ok_asks_step (c := isPlainB) (g := asks0) Y ?_ isCondB asksB cond_form ?_ ?_
  · refine ok_asks_step Y (ok_asks0 Y) isPlainB asks0 plain_form ?_ ?_
    · intro x e h z
      subst z
      exact absurd h (by rw [plain_not]; exact Bool.false_ne_true)
    · intro x e _ _
      rw [dec_str']; rfl
  · intro x e h z
    subst z
    exact ⟨h, rfl⟩
  · intro x e h z
    rw [dec_str']
    show _ = (if x = "not" then asks0 e else decide (x = "to"))
    rw [if_neg z]
theorem ok_is_worth (Y : Ev K mg) : FnOk P w K mg base CX0 3 Y.a_is_worth Y.d_is_worth p_is_worth (spAny isWorthB) := by
  have G_is_whole : FnOk P w K mg base CX0 2 Y.a_is_whole Y.d_is_whole p_is_whole spWhole := ok_is_whole Y
  refine Y.is_worth.fn.okQ c_is_worth (fun vs H Q E h => ?_) (fun cdv A outer s H vs Q E hr h => ?_)
  · obtain ⟨v, d, rfl, _⟩ := h; rfl
  · obtain ⟨v, d, rfl, hd, q⟩ := h
    refine ⟨_, (b_one (s_ret (q_or (q_cmp op_isN (qv 0) q_non) (q_one (q_call G_is_whole (hr.mono (by decide)) Y.is_whole.mg Y.is_whole.kp Y.is_whole.b .nil pass0 (a_cons (qv 0) (a_cons (q_un un_neg (q_glob Y.m_GREATEST_WORTH Y.r_GREATEST_WORTH)) (a_cons (q_glob Y.m_GREATEST_WORTH Y.r_GREATEST_WORTH) a_nil)))))))), ?_⟩
    refine ⟨_, rfl, rfl, _, rfl, ite2 (fun e => ?_) (fun e => ?_)⟩
    · have e' : v = .non := of_decide_eq_true e
      subst e'
      cases hd
      exact q H (Same.refl H)
    · have e' : ¬ v = .non := fun z => e (decide_eq_true z)
      refine ⟨_, rfl, _, rfl, v, d, -999, 999, rfl, hd, fun H' s' => ?_⟩
      have q := q H' s'
      cases hd <;> first | exact absurd rfl e' | exact q
theorem ok_is_liking (Y : Ev K mg) : FnOk P w K mg base CX0 6 Y.a_is_liking Y.d_is_liking p_is_liking (spAny isLikingB) := by
  have G_is_row : FnOk P w K mg base CX0 1 Y.a_is_row Y.d_is_row p_is_row spRow := ok_is_row Y
  have G_are_conds : FnOk P w K mg base CX0 5 Y.a_are_conds Y.d_are_conds p_are_conds (spAny areCondsB) := ok_are_conds Y
  have G_is_worth : FnOk P w K mg base CX0 3 Y.a_is_worth Y.d_is_worth p_is_worth (spAny isWorthB) := ok_is_worth Y
  have G_asks_to : FnOk P w K mg base CX0 3 Y.a_asks_to Y.d_asks_to p_asks_to (spAsk isCondB asksB) := ok_asks_to Y
  refine Y.is_liking.fn.okQ c_is_liking (fun vs H Q E h => ?_) (fun cdv A outer s H vs Q E hr h => ?_)
  · obtain ⟨v, d, rfl, _⟩ := h; rfl
  · obtain ⟨v, d, rfl, hd, q⟩ := h
    refine ⟨_, (b_cons (s_if (t_w (w_or (t_not (t_val (q_call G_is_row (hr.mono (by decide)) Y.is_row.mg Y.is_row.kp Y.is_row.b .nil pass0 (a_cons (qv 0) (a_cons q_int (a_cons q_int a_nil)))))) (w_or1 (t_not (t_val (q_call G_are_conds (hr.mono (by decide)) Y.are_conds.mg Y.are_conds.kp Y.are_conds.b .nil pass0 (a_cons (q_ix ix_tup (qv 0) q_int) a_nil))))))) (b_one (s_ret q_bl)) b_nil)
      (b_one (s_ret (q_and (q_call G_is_worth (hr.mono (by decide)) Y.is_worth.mg Y.is_worth.kp Y.is_worth.b .nil pass0 (a_cons (q_ix ix_tup (qv 0) q_int) a_nil)) (q_one (q_not (q_callB (call_anyB rfl) Y.any bt_any (a_cons (q_comp (src := [none]) o_is_liking_1 rfl rfl (i_tup (q_ix ix_tup (qv 0) q_int)) (fun _ _ _ _ _ => (g_name 0 o_is_liking_1.nd)) (fun _ _ _ _ _ => f_nil) (fun _ _ _ _ _ => (q_call G_asks_to (hr.mono (by decide)) Y.asks_to.mg Y.asks_to.kp Y.asks_to.b .nil pass0 (a_cons (qv 0) a_nil)))) a_nil)))))))), ?_⟩
    refine ⟨_, rfl, v, d, 2, 2, rfl, hd, fun H1 s1 => ⟨_, rfl, ?_⟩⟩
    have hd1 := hd.same s1
    cases hw : isRowB d 2 2 with
    | false =>
      have q := q H1 s1
      rw [liking_no hw] at q
      exact q
    | true =>
      obtain ⟨c, e, rfl⟩ := row2 hw
      obtain ⟨p, v0, v1, rfl, hp, r0, r1⟩ := hd1.of2
      refine ⟨_, rfl, p, _, 0, _, rfl, rfl, .inl (.inl hp), at0, v0, c, rfl, r0, fun H2 s2 => ⟨_, rfl, ?_⟩⟩
      cases hcs : areCondsB c with
      | false =>
        have q := q H2 (s1.trans s2)
        rw [liking_eq] at q
        rw [hcs] at q
        exact q
      | true =>
        refine ⟨_, rfl, p, _, 1, _, rfl, rfl, .inl (.inl (s2 _ _ hp)), at1, v1, e, rfl, r1.same s2, fun H3 s3 => ⟨_, rfl, ite2 (fun e1 => ?_) (fun e1 => ?_)⟩⟩
        · cases c with
          | tup ds =>
            have r03 := (r0.same s2).same s3
            obtain ⟨pc, vs, rfl, hpc, rc, bc⟩ := r03.ofT
            have hall : ∀ d ∈ ds, isCondB d = true := by
              rw [conds_eq] at hcs
              rw [Bool.and_eq_true, List.all_eq_true] at hcs
              exact hcs.2
            refine ⟨_, rfl, p, _, 0, _, rfl, rfl, .inl (.inl (s3 _ _ (s2 _ _ hp))), at0, pc, rfl, ⟨vs, .inl (.inl hpc)⟩, ?_⟩
            refine comp_truths (g := asksB) (ok := fun H => SqT K H pc vs) wk_tup (fun H' s => .inl (.inl (s _ _ hpc))) rc bc rfl (fun x d H4 Q1 s4 rx hdm q1 => ?_) (fun l H4 s4 _ hl => ?_)
            · exact ⟨_, rfl, x, d, rfl, rx, hall d hdm, q1⟩
            · refine ⟨l, _, rfl, SqL.of hl, _, rfl, ?_⟩
              have q := q H4 (((s1.trans s2).trans s3).trans s4)
              rw [liking_eq] at q
              rw [hcs, e1] at q
              have ea : anyAsks (.tup ds) = (ds.map asksB).any id := by
                show ds.any asksB = _
                rw [List.any_map]; rfl
              rw [ea] at q
              exact q
          | _ => cases hcs
        · have q := q H3 ((s1.trans s2).trans s3)
          rw [liking_eq] at q
          rw [hcs, tru e1] at q
          exact q
theorem ok_is_act (Y : Ev K mg) : FnOk P w K mg base CX0 3 Y.a_is_act Y.d_is_act p_is_act (spAny isActB) := by
  have G_is_worded : FnOk P w K mg base CX0 2 Y.a_is_worded Y.d_is_worded p_is_worded spWorded := ok_is_worded Y
  have G_is_name : FnOk P w K mg base CX0 1 Y.a_is_name Y.d_is_name p_is_name (spAny isNameD) := ok_is_name Y
  refine Y.is_act.fn.okQ c_is_act (fun vs H Q E h => ?_) (fun cdv A outer s H vs Q E hr h => ?_)
  · obtain ⟨v, d, rfl, _⟩ := h; rfl
  · obtain ⟨v, d, rfl, hd, q⟩ := h
    refine ⟨_, (b_cons (s_if (t_val (q_call G_is_worded (hr.mono (by decide)) Y.is_worded.mg Y.is_worded.kp Y.is_worded.b .nil pass0 (a_cons (qv 0) (a_cons q_int a_nil)))) (b_one (s_ret (q_cmp op_eq (q_ix ix_tup (qv 0) q_int) q_str))) b_nil)
      (b_one (s_ret (q_and (q_call G_is_worded (hr.mono (by decide)) Y.is_worded.mg Y.is_worded.kp Y.is_worded.b .nil pass0 (a_cons (qv 0) (a_cons q_int a_nil))) (q_and (q_cmp op_in_seq (q_ix ix_tup (qv 0) q_int) (q_tup (a_cons q_str (a_cons q_str a_nil)))) (q_one (q_call G_is_name (hr.mono (by decide)) Y.is_name.mg Y.is_name.kp Y.is_name.b .nil pass0 (a_cons (q_ix ix_tup (qv 0) q_int) a_nil)))))))), ?_⟩
    refine ⟨_, rfl, v, d, 1, rfl, by decide, hd, fun H1 s1 => ⟨_, rfl, ?_⟩⟩
    have hd1 := hd.same s1
    cases hw : isWordedB d 1 with
    | true =>
      obtain ⟨x, rfl⟩ := worded1 hw
      obtain ⟨p, v0, rfl, hp, r0⟩ := hd1.of1
      cases r0 with
      | str _ hx =>
      refine ⟨_, rfl, p, _, 0, _, rfl, rfl, .inl (.inl hp), at0, rfl, ?_⟩
      have q := q H1 s1
      have e : isActB (.tup [.str x]) = decide (V.str x = V.str "keep") := by rw [dec_str']; rfl
      rw [e] at q
      exact q
    | false =>
      refine ⟨_, rfl, v, d, 2, rfl, by decide, hd1, fun H2 s2 => ⟨_, rfl, ite2 (fun ew => ?_) (fun ew => ?_)⟩⟩
      · obtain ⟨x, e, rfl⟩ := worded2 ew
        obtain ⟨p, v0, v1, rfl, hp, r0, r1⟩ := (hd1.same s2).of2
        cases r0 with
        | str _ hx =>
        refine ⟨_, rfl, p, _, 0, _, rfl, rfl, .inl (.inl hp), at0, by decide, fun pt hpt => ⟨pt, _, rfl, .inr (.inl (.inl upd_same)), rfl, rfl, _, rfl, ?_⟩⟩
        have es : (if false = true then !inV (V.str x) [V.str "put", V.str "strike"] else inV (V.str x) [V.str "put", V.str "strike"]) = (decide (x = "put") || decide (x = "strike")) := act_in
        rw [es]
        have s3 : Same H2 (upd H2 pt (.tup [V.str "put", V.str "strike"])) := Same.new hpt
        refine ite2 (fun e1 => ?_) (fun e1 => ?_)
        · refine ⟨_, rfl, p, _, 1, _, rfl, rfl, .inl (.inl (s3 _ _ hp)), at1, v1, e, rfl, r1.same s3, fun H4 s4 => ?_⟩
          have q := q H4 (((s1.trans s2).trans s3).trans s4)
          rw [act_eq] at q
          rw [e1] at q
          exact q
        · have q := q _ ((s1.trans s2).trans s3)
          rw [act_eq] at q
          rw [tru e1] at q
          exact q
      · have q := q H2 (s1.trans s2)
        rw [act_no hw (tru ew)] at q
        exact q
theorem ok_is_hand (Y : Ev K mg) : FnOk P w K mg base CX0 6 Y.a_is_hand Y.d_is_hand p_is_hand (spAny isHandB) := by
  have G_is_row : FnOk P w K mg base CX0 1 Y.a_is_row Y.d_is_row p_is_row spRow := ok_is_row Y
  have G_are_conds : FnOk P w K mg base CX0 5 Y.a_are_conds Y.d_are_conds p_are_conds (spAny areCondsB) := ok_are_conds Y
  have G_is_act : FnOk P w K mg base CX0 3 Y.a_is_act Y.d_is_act p_is_act (spAny isActB) := ok_is_act Y
  refine Y.is_hand.fn.okQ c_is_hand (fun vs H Q E h => ?_) (fun cdv A outer s H vs Q E hr h => ?_)
  · obtain ⟨v, d, rfl, _⟩ := h; rfl
  · obtain ⟨v, d, rfl, hd, q⟩ := h
    refine ⟨_, (b_one (s_ret (q_and (q_call G_is_row (hr.mono (by decide)) Y.is_row.mg Y.is_row.kp Y.is_row.b .nil pass0 (a_cons (qv 0) (a_cons q_int (a_cons q_int a_nil)))) (q_and (q_call G_are_conds (hr.mono (by decide)) Y.are_conds.mg Y.are_conds.kp Y.are_conds.b .nil pass0 (a_cons (q_ix ix_tup (qv 0) q_int) a_nil)) (q_one (q_call G_is_act (hr.mono (by decide)) Y.is_act.mg Y.is_act.kp Y.is_act.b .nil pass0 (a_cons (q_ix ix_tup (qv 0) q_int) a_nil))))))), ?_⟩
    refine ⟨_, rfl, v, d, 2, 2, rfl, hd, fun H1 s1 => ⟨_, rfl, ite2 (fun hw => ?_) (fun hw => ?_)⟩⟩
    · obtain ⟨c, e, rfl⟩ := row2 hw
      obtain ⟨p, v0, v1, rfl, hp, r0, r1⟩ := (hd.same s1).of2
      refine ⟨_, rfl, p, _, 0, _, rfl, rfl, .inl (.inl hp), at0, v0, c, rfl, r0, fun H2 s2 => ⟨_, rfl, ite2 (fun e1 => ?_) (fun e1 => ?_)⟩⟩
      · refine ⟨_, rfl, p, _, 1, _, rfl, rfl, .inl (.inl (s2 _ _ hp)), at1, v1, e, rfl, r1.same s2, fun H3 s3 => ?_⟩
        have q := q H3 ((s1.trans s2).trans s3)
        rw [hand_eq] at q
        rw [e1] at q
        exact q
      · have q := q H2 (s1.trans s2)
        rw [hand_eq] at q
        rw [tru e1] at q
        exact q
    · have q := q H1 s1
      rw [hand_no (tru hw)] at q
      exact q
end
end K05

set_option Elab.async false
set_option linter.all false
set_option maxRecDepth 100000
set_option maxHeartbeats 4000000
namespace K05
open PySem PySem.Spec PyProof.Rows L2 RW
local macro_rules | `(tactic| walk_at "cond") => `(tactic| first | assumption | decide | omega | exact few rfl | exact .inl ⟨by decide, by decide⟩ | exact .inr ⟨by decide, by decide⟩ | exact .inl ⟨by omega, by omega⟩ | exact .inr ⟨by omega, by omega⟩ | exact ⟨by omega, by omega⟩ | exact ⟨by assumption, by assumption⟩ | exact ⟨by decide, by decide, by decide⟩ | exact .inr ⟨by split <;> decide, by split <;> decide⟩)
local macro_rules | `(tactic| walk_at "rd") => `(tactic| first | with_reducible_and_instances refine ⟨_, rfl, ?_⟩ | refine ⟨_, rfl, ?_⟩ | refine ⟨_, _, rfl, rfl, ?_⟩ | refine ⟨_, _, _, _, rfl, rfl, SqL.of (by assumption), rfl, ?_⟩ | refine ⟨_, _, _, _, rfl, rfl, (by assumption), rfl, ?_⟩ | refine .inl ⟨_, rfl, ?_⟩ | refine .inr ⟨_, rfl, ?_⟩ | refine .inl ⟨_, _, rfl, .inl (by assumption), ?_⟩ | refine ⟨(by walk_at "cond"), ?_⟩)
local macro_rules | `(tactic| walk_at "dsp") => `(tactic| repeat' (first | exact dsp_str (by decide) | exact dsp_int | exact dsp_bl | exact dsp_non | exact dsp_neg | exact dspA_nil | exact dsp_dnew | exact dsp_disp rfl | exact dsp_var rfl (by assumption) | refine dspA_cons ?_ ?_ | refine dsp_tup ?_ ?_ | refine dsp_lst' ?_ | refine n_cons ?_ ?_ | exact n_nil | exact v_c | exact v_var rfl | refine v_tup ?_ | refine dspl_lst ?_ ?_ | refine dspl_cat ?_ ?_ ?_ | exact dspl_var rfl (by assumption) (by assumption) | exact Nat.le_of_ble_eq_true rfl))
local macro_rules | `(tactic| walk_at "each") => `(tactic| repeat' (first | exact forall_nil | refine List.forall_mem_append.mpr ⟨?_, ?_⟩ | refine List.forall_mem_cons.mpr ⟨?_, ?_⟩))
section
variable {P : Program} {w : World} {K : PySem.W.Frag} {mg : Str → Option Value} {base : Heap}
def spRise : Sp := fun vs H Q _ => ∃ v ds, vs = [v] ∧ Rep H v (.tup ds) ∧ (ds.all isStrD = true ∨ ds.all isPairD = true) ∧ ∀ H', Same H H' → Q (.bl (risingB ds)) H'
theorem ok_is_rising (Y : Ev K mg) : FnOk P w K mg base CX0 1 Y.a_is_rising Y.d_is_rising p_is_rising spRise := by
  refine Y.is_rising.fn.okQ c_is_rising (fun vs H Q E h => ?_) (fun cdv A outer s H vs Q E hr h => ?_)
  · obtain ⟨v, ds, rfl, _⟩ := h; rfl
  · obtain ⟨v, ds, rfl, hd, hk, q⟩ := h
    obtain ⟨p, vs, rfl, hp, r, b⟩ := hd.ofT
    refine ⟨_, (b_one (s_ret (q_callB (call_allB rfl) Y.all bt_all (a_cons (q_comp (src := [none, some 0]) o_is_rising_1 rfl rfl (i_rng1 Y.range (a_cons (q_op op_sub (q_callB call_len2 Y.len bt_len (a_cons (qc 0) a_nil)) q_int) a_nil)) (fun _ _ _ _ _ => (g_name 0 o_is_rising_1.nd)) (fun _ _ _ _ _ => f_nil) (fun _ _ _ _ _ => (q_cmp (op_ltA hr.units0) (q_ix (ix_tupK (K := K) rfl) (qc 1) (qv 0)) (q_ix (ix_tupK (K := K) rfl) (qc 1) (q_op op_add (qv 0) q_int))))) a_nil)))), ?_⟩
    have hl := r.1
    refine ⟨_, rfl, .inl ⟨p, vs, rfl, .inr (.inl (.inl hp)), _, _, rfl, rfl, _, rfl, ?_, ?_, ?_⟩⟩
    · omega
    · omega
    have e : ((vs.length : Int) - 1).toNat = ds.length - 1 := by omega
    rw [e]
    refine comp_by wk_rng (fun l i ys σ' H' => (∃ o, σ' = [o, some (.ref p)]) ∧ ys = ((List.range i).map fun k => ltD (ds.getD k .non) (ds.getD (k + 1) .non)).map V.bl ∧ Same H H') ?_ (fun _ _ _ _ _ _ _ => trivial) ?_ ?_
    · exact fun l hl => ⟨⟨_, rfl⟩, rfl, Same.new hl⟩
    · rintro l i y ys σ' H1 hl' hi rfl ⟨⟨o, rfl⟩, rfl, s1⟩ hl1
      have hi1 : i + 1 < ds.length := by omega
      obtain ⟨v0, g0, r0⟩ := rep_get r (show i < ds.length by omega)
      obtain ⟨v1, g1, r1⟩ := rep_get r hi1
      have hp1 := s1 _ _ hp
      have e0 : atI vs (0 + (i : Int)) = some v0 := by rw [Int.zero_add]; exact atI_nat g0
      have e1 : atI vs (0 + (i : Int) + 1) = some v1 := by rw [Int.zero_add]; exact atI_nat (j := i + 1) g1
      refine ⟨_, rfl, _, rfl, p, vs, _, v0, rfl, rfl, .inl (.inl hp1), e0, _, rfl, _, rfl, _, _, rfl, rfl, p, vs, _, v1, rfl, rfl, .inl (.inl hp1), e1, ?_⟩
      have fin : ∀ (b : Bool), b = ltD (ds.getD i .non) (ds.getD (i + 1) .non) → H1 l = some (.lst (((List.range i).map fun k => ltD (ds.getD k .non) (ds.getD (k + 1) .non)).map V.bl)) ∧ (((List.range i).map fun k => ltD (ds.getD k .non) (ds.getD (k + 1) .non)).map V.bl).length < sizeLine ∧
          (∃ o', [some (V.int (0 + (i : Int))), some (.ref p)] = [o', some (V.ref p)]) ∧ ((List.range i).map fun k => ltD (ds.getD k .non) (ds.getD (k + 1) .non)).map V.bl ++ [V.bl b] = ((List.range (i + 1)).map fun k => ltD (ds.getD k .non) (ds.getD (k + 1) .non)).map V.bl ∧
          Same H (upd H1 l (.lst (((List.range i).map fun k => ltD (ds.getD k .non) (ds.getD (k + 1) .non)).map V.bl ++ [V.bl b]))) := fun b hb => by
        refine ⟨hl1, ?_, ⟨_, rfl⟩, ?_, ?_⟩
        · rw [List.length_map, List.length_map, List.length_range]
          exact small1000 (by omega)
        · rw [List.range_succ, List.map_append, List.map_append, hb]; rfl
        · exact fun c o e => by
            rw [upd_ne (ne_of_none e hl')]
            exact s1 _ _ e
      rcases hk with hk | hk
      · have k0 := List.all_eq_true.mp hk (ds.getD i .non) (by simp [List.getD, show i < ds.length by omega])
        have k1 := List.all_eq_true.mp hk (ds.getD (i + 1) .non) (by simp [List.getD, hi1])
        generalize ds.getD i .non = d0 at *
        generalize ds.getD (i + 1) .non = d1 at *
        cases r0 with
        | str x _ => cases r1 with
          | str y _ => exact .inl ⟨x, y, rfl, rfl, fin _ rfl⟩
          | _ => cases k1
        | _ => cases k0
      · have k0 := List.all_eq_true.mp hk (ds.getD i .non) (by simp [List.getD, show i < ds.length by omega])
        have k1 := List.all_eq_true.mp hk (ds.getD (i + 1) .non) (by simp [List.getD, hi1])
        generalize ds.getD i .non = d0 at *
        generalize ds.getD (i + 1) .non = d1 at *
        obtain ⟨a, b', rfl⟩ : ∃ a b, d0 = .tup [.str a, .str b] := by
          unfold isPairD at k0; split at k0
          · exact ⟨_, _, rfl⟩
          · cases k0
        obtain ⟨c, d', rfl⟩ : ∃ a b, d1 = .tup [.str a, .str b] := by
          unfold isPairD at k1; split at k1
          · exact ⟨_, _, rfl⟩
          · cases k1
        obtain ⟨q0, x0, x1, rfl, hq0, y0, y1⟩ := r0.of2
        obtain ⟨q1, z0, z1, rfl, hq1, w0, w1⟩ := r1.of2
        cases y0 with | str _ _ =>
        cases y1 with | str _ _ =>
        cases w0 with | str _ _ =>
        cases w1 with | str _ _ =>
        exact .inr ⟨q0, q1, (a, b'), (c, d'), rfl, rfl, s1 _ _ hq0, s1 _ _ hq1, fin _ rfl⟩
    · rintro l ys σ' H1 hl' ⟨⟨o, rfl⟩, rfl, s1⟩ hl1
      refine ⟨l, _, rfl, SqL.of hl1, ?_⟩
      rw [all_map_id]
      exact q H1 s1
theorem all_str {ds : List D} (h : ds.all isNameD = true) : ds.all isStrD = true := by
  rw [List.all_eq_true] at h ⊢
  intro d hd
  have := h d hd
  cases d <;> first | rfl | exact this
theorem ok_are_houses (Y : Ev K mg) : FnOk P w K mg base CX0 2 Y.a_are_houses Y.d_are_houses p_are_houses (spAny areHousesB) := by
  have G_is_row : FnOk P w K mg base CX0 1 Y.a_is_row Y.d_is_row p_is_row spRow := ok_is_row Y
  have G_is_name : FnOk P w K mg base CX0 1 Y.a_is_name Y.d_is_name p_is_name (spAny isNameD) := ok_is_name Y
  have G_is_rising : FnOk P w K mg base CX0 1 Y.a_is_rising Y.d_is_rising p_is_rising spRise := ok_is_rising Y
  refine Y.are_houses.fn.okQ c_are_houses (fun vs H Q E h => ?_) (fun cdv A outer s H vs Q E hr h => ?_)
  · obtain ⟨v, d, rfl, _⟩ := h; rfl
  · obtain ⟨v, d, rfl, hd, q⟩ := h
    refine ⟨_, (b_one (s_ret (q_and (q_call G_is_row (hr.mono (by decide)) Y.is_row.mg Y.is_row.kp Y.is_row.b .nil pass0 (a_cons (qv 0) (a_cons q_int (a_cons (q_glob Y.m_MOST_HOUSES Y.r_MOST_HOUSES) a_nil)))) (q_and (q_callB (call_allB rfl) Y.all bt_all (a_cons (q_comp (src := [none]) o_are_houses_1 rfl rfl (i_tup (qv 0)) (fun _ _ _ _ _ => (g_name 0 o_are_houses_1.nd)) (fun _ _ _ _ _ => f_nil) (fun _ _ _ _ _ => (q_call G_is_name (hr.mono (by decide)) Y.is_name.mg Y.is_name.kp Y.is_name.b .nil pass0 (a_cons (qv 0) a_nil)))) a_nil)) (q_one (q_call G_is_rising (hr.mono (by decide)) Y.is_rising.mg Y.is_rising.kp Y.is_rising.b .nil pass0 (a_cons (qv 0) a_nil))))))), ?_⟩
    refine ⟨_, rfl, v, d, 1, 10, rfl, hd, fun H1 s1 => ⟨_, rfl, ite2 (fun e => ?_) (fun e => ?_)⟩⟩
    · have hd1 := hd.same s1
      cases d with
      | tup ds =>
        obtain ⟨p, vs, rfl, hp, r, b⟩ := hd1.ofT
        have hrow : (decide (1 ≤ ds.length) && decide (ds.length ≤ 10)) = true := by
          simp [isRowB] at e ⊢
          omega
        refine ⟨_, rfl, p, rfl, ⟨vs, .inl (.inl hp)⟩, ?_⟩
        refine comp_truths (g := isNameD) (ok := fun H => SqT K H p vs) wk_tup (fun H' s => .inl (.inl (s _ _ hp))) r b rfl (fun x d H2 Q1 s2 rx _ q1 => ⟨_, rfl, x, d, rfl, rx, q1⟩) (fun l H2 s2 _ hl => ?_)
        refine ⟨l, _, rfl, SqL.of hl, _, rfl, ?_⟩
        rw [all_map_id]
        refine ite2 (fun en => ?_) (fun en => ?_)
        · refine ⟨_, rfl, _, ds, rfl, hd1.same s2, .inl (all_str en), fun H3 s3 => ?_⟩
          have q := q H3 ((s1.trans s2).trans s3)
          have ea : areHousesB (.tup ds) = risingB ds := by
            show (decide (1 ≤ ds.length) && decide (ds.length ≤ 10) && ds.all isNameD && risingB ds) = _
            rw [hrow, en]; rfl
          rw [ea] at q
          exact q
        · have q := q H2 (s1.trans s2)
          have ea : areHousesB (.tup ds) = false := by
            show (decide (1 ≤ ds.length) && decide (ds.length ≤ 10) && ds.all isNameD && risingB ds) = _
            rw [hrow, tru en]; rfl
          rw [ea] at q
          exact q
      | _ => cases e
    · have q := q H1 s1
      have ea : areHousesB d = false := by
        cases d with
        | tup ds =>
          have hrow : (decide (1 ≤ ds.length) && decide (ds.length ≤ 10)) = false := by
            cases hz : (decide (1 ≤ ds.length) && decide (ds.length ≤ 10)) with
            | false => rfl
            | true =>
              exfalso
              simp [isRowB] at e hz
              omega
          show (decide (1 ≤ ds.length) && decide (ds.length ≤ 10) && ds.all isNameD && risingB ds) = _
          rw [hrow]; rfl
        | _ => rfl
      rw [ea] at q
      exact q
/-- a tuple of names -/
def HsAt (H : Hp) (v : V) (hs : List Str) : Prop := ∃ p, v = .ref p ∧ H p = some (.tup (hs.map V.str)) ∧ hs.length ≤ 10 ∧ ∀ x ∈ hs, isNameB x = true
theorem HsAt.same {H H' : Hp} {v : V} {hs : List Str} (h : HsAt H v hs) (s : Same H H') : HsAt H' v hs := let ⟨p, e, g, r⟩ := h; ⟨p, e, s _ _ g, r⟩
theorem in_strs {hs : List Str} {x : Str} : inV (.str x) (hs.map V.str) = hs.any fun y => decide (y = x) := by
  unfold inV
  rw [List.any_map]
  congr 1
theorem flat_strs {hs : List Str} : (hs.map V.str).all flatV = true := by
  rw [List.all_map, List.all_eq_true]
  exact fun _ _ => rfl
def spHouse : Sp := fun vs H Q _ => ∃ u v d hs, vs = [u, v] ∧ HsAt H u hs ∧ Rep H v d ∧ ∀ H', Same H H' → Q (.bl (isHouseB hs d)) H'
theorem ok_is_house (Y : Ev K mg) : FnOk P w K mg base CX0 2 Y.a_is_house Y.d_is_house p_is_house spHouse := by
  have G_is_name : FnOk P w K mg base CX0 1 Y.a_is_name Y.d_is_name p_is_name (spAny isNameD) := ok_is_name Y
  refine Y.is_house.fn.okQ c_is_house (fun vs H Q E h => ?_) (fun cdv A outer s H vs Q E hr h => ?_)
  · obtain ⟨u, v, d, hs, rfl, _⟩ := h; rfl
  · obtain ⟨u, v, d, hs, rfl, ⟨p, rfl, hp, hl, hn⟩, hd, q⟩ := h
    refine ⟨_, (b_one (s_ret (q_and (q_call G_is_name (hr.mono (by decide)) Y.is_name.mg Y.is_name.kp Y.is_name.b .nil pass0 (a_cons (qv 1) a_nil)) (q_one (q_cmp op_in_seq (qv 1) (qv 0)))))), ?_⟩
    refine ⟨_, rfl, v, d, rfl, hd, fun H1 s1 => ⟨_, rfl, ite2 (fun e => ?_) (fun e => ?_)⟩⟩
    · cases d with
      | str x =>
        cases hd
        refine ⟨_, rfl, _, rfl, p, _, rfl, .inr (.inl (.inl (s1 _ _ hp))), rfl, flat_strs, ?_⟩
        have q := q H1 s1
        have ea : isHouseB hs (.str x) = inV (.str x) (hs.map V.str) := by
          show (isNameB x && hs.any fun y => decide (y = x)) = _
          rw [in_strs, show isNameB x = true from e]; rfl
        rw [ea] at q
        exact q
      | _ => cases e
    · have q := q H1 s1
      have ea : isHouseB hs d = false := by
        show (isNameD d && inD hs d) = false
        rw [tru e]; rfl
      rw [ea] at q
      exact q
def spTie : Sp := fun vs H Q _ => ∃ u v d hs, vs = [u, v] ∧ HsAt H u hs ∧ Rep H v d ∧ ∀ H', Same H H' → Q (.bl (isTieB hs d)) H'
theorem ok_is_tie (Y : Ev K mg) : FnOk P w K mg base CX0 3 Y.a_is_tie Y.d_is_tie p_is_tie spTie := by
  have G_is_row : FnOk P w K mg base CX0 1 Y.a_is_row Y.d_is_row p_is_row spRow := ok_is_row Y
  have G_is_house : FnOk P w K mg base CX0 2 Y.a_is_house Y.d_is_house p_is_house spHouse := ok_is_house Y
  refine Y.is_tie.fn.okQ c_is_tie (fun vs H Q E h => ?_) (fun cdv A outer s H vs Q E hr h => ?_)
  · obtain ⟨u, v, d, hs, rfl, _⟩ := h; rfl
  · obtain ⟨u, v, d, hs, rfl, hu, hd, q⟩ := h
    refine ⟨_, (b_cons (s_if (t_not (t_val (q_call G_is_row (hr.mono (by decide)) Y.is_row.mg Y.is_row.kp Y.is_row.b .nil pass0 (a_cons (qv 1) (a_cons q_int (a_cons q_int a_nil)))))) (b_one (s_ret q_bl)) b_nil)
      (b_one (s_ret (q_and (q_call G_is_house (hr.mono (by decide)) Y.is_house.mg Y.is_house.kp Y.is_house.b .nil pass0 (a_cons (qv 0) (a_cons (q_ix ix_tup (qv 1) q_int) a_nil))) (q_and (q_call G_is_house (hr.mono (by decide)) Y.is_house.mg Y.is_house.kp Y.is_house.b .nil pass0 (a_cons (qv 0) (a_cons (q_ix ix_tup (qv 1) q_int) a_nil))) (q_one (q_cmp op_lt_str (q_ix ix_tup (qv 1) q_int) (q_ix ix_tup (qv 1) q_int)))))))), ?_⟩
    refine ⟨_, rfl, v, d, 2, 2, rfl, hd, fun H1 s1 => ⟨_, rfl, ?_⟩⟩
    cases hw : isRowB d 2 2 with
    | false =>
      have q := q H1 s1
      have ea : isTieB hs d = false := by
        unfold isTieB
        split
        · simp [isRowB] at hw
        · rfl
      rw [ea] at q
      exact q
    | true =>
      obtain ⟨a, b, rfl⟩ := row2 hw
      obtain ⟨p, v0, v1, rfl, hp, r0, r1⟩ := (hd.same s1).of2
      have et : isTieB hs (.tup [a, b]) = (isHouseB hs a && isHouseB hs b && ltD a b) := rfl
      refine ⟨_, rfl, _, rfl, p, _, 0, _, rfl, rfl, .inl (.inl hp), at0, u, v0, a, hs, rfl, hu.same s1, r0, fun H2 s2 => ⟨_, rfl, ite2 (fun e1 => ?_) (fun e1 => ?_)⟩⟩
      · refine ⟨_, rfl, _, rfl, p, _, 1, _, rfl, rfl, .inl (.inl (s2 _ _ hp)), at1, u, v1, b, hs, rfl, (hu.same s1).same s2, r1.same s2, fun H3 s3 => ⟨_, rfl, ite2 (fun e2 => ?_) (fun e2 => ?_)⟩⟩
        · have n1 : isNameD a = true := (Bool.and_eq_true _ _ ▸ (show (isNameD a && inD hs a) = true from e1)).1
          have n2 : isNameD b = true := (Bool.and_eq_true _ _ ▸ (show (isNameD b && inD hs b) = true from e2)).1
          cases a with
          | str x => cases b with
            | str y =>
              cases r0
              cases r1
              have hp3 := s3 _ _ (s2 _ _ hp)
              refine ⟨_, rfl, p, _, 0, _, rfl, rfl, .inl (.inl hp3), at0, _, rfl, p, _, 1, _, rfl, rfl, .inl (.inl hp3), at1, x, y, rfl, rfl, ?_⟩
              have q := q H3 ((s1.trans s2).trans s3)
              rw [et, e1, e2] at q
              exact q
            | _ => cases n2
          | _ => cases n1
        · have q := q H3 ((s1.trans s2).trans s3)
          rw [et, e1, tru e2] at q
          exact q
      · have q := q H2 (s1.trans s2)
        rw [et, tru e1] at q
        exact q

theorem tie_pair {hs : List Str} {d : D} (h : isTieB hs d = true) : isPairD d = true := by
  unfold isTieB at h
  split at h
  · rename_i a b
    rw [Bool.and_eq_true, Bool.and_eq_true] at h
    have n1 : isNameD a = true := by have := h.1.1; unfold isHouseB at this; rw [Bool.and_eq_true] at this; exact this.1
    have n2 : isNameD b = true := by have := h.1.2; unfold isHouseB at this; rw [Bool.and_eq_true] at this; exact this.1
    cases a with
    | str x => cases b with
      | str y => rfl
      | _ => cases n2
    | _ => cases n1
  · cases h
def spTies : Sp := fun vs H Q _ => ∃ u v d hs, vs = [u, v] ∧ HsAt H u hs ∧ Rep H v d ∧ ∀ H', Same H H' → Q (.bl (areTiesB hs d)) H'
/-- as comp_truths, with things captured -/
theorem comp_truthsC {J : It} {vs : List V} {ds : List D} {g : D → Bool} {ok : Hp → Prop} {H : Hp} {te : TE} {src : List (Option Nat)} {σ σr : L2.St} {Q : VK} (wk : Wk J vs.length (fun i x => vs[i]? = some x) ok) (hok : ∀ H', Same H H' → ok H') (r : RepL H vs ds) (hl : ds.length ≤ 1000) (e : capt src σ = none :: σr)
    (he : ∀ (x : V) (d : D) (H1 : Hp) (Q1 : VK), Same H H1 → Rep H1 x d → d ∈ ds → (∀ H2, Same H1 H2 → Q1 (.bl (g d)) H2) → te (some x :: σr) H1 Q1)
    (q : ∀ l H', Same H H' → H l = none → H' l = some (.lst ((ds.map g).map V.bl)) → Q (.ref l) H') : CompGo (gName 0) tYes te src σ Q J H := by
  refine comp_by wk (fun l i ys σ' H' => (∃ o, σ' = o :: σr) ∧ ys = ((ds.take i).map g).map V.bl ∧ Same H H') ?_ ?_ ?_ ?_
  · exact fun l h' => ⟨⟨none, e⟩, rfl, Same.new h'⟩
  · exact fun l i ys σ' H' _ p => hok H' p.2.2
  · rintro l i y ys σ' H1 h' hi hy ⟨⟨o, rfl⟩, rfl, s1⟩ hl'
    obtain ⟨d, hd, rd⟩ := r.get hy
    refine he y d H1 _ s1 (rd.same s1) (List.mem_of_getElem? hd) fun H2 s2 => ?_
    refine ⟨s2 _ _ hl', ?_, ⟨_, rfl⟩, ?_, ?_⟩
    · rw [List.length_map, List.length_map, List.length_take]
      exact small1000 (by omega)
    · rw [List.take_add_one, hd]
      simp
    · exact fun c o e => by
        rw [upd_ne (ne_of_none e h')]
        exact s2 _ _ (s1 _ _ e)
  · rintro l ys σ' H1 h' ⟨⟨o, rfl⟩, rfl, s1⟩ hl'
    rw [r.1, List.take_length] at hl'
    exact q l H1 s1 h' hl'
theorem ok_are_ties (Y : Ev K mg) : FnOk P w K mg base CX0 4 Y.a_are_ties Y.d_are_ties p_are_ties spTies := by
  have G_is_tie : FnOk P w K mg base CX0 3 Y.a_is_tie Y.d_is_tie p_is_tie spTie := ok_is_tie Y
  have G_is_rising : FnOk P w K mg base CX0 1 Y.a_is_rising Y.d_is_rising p_is_rising spRise := ok_is_rising Y
  refine Y.are_ties.fn.okQ c_are_ties (fun vs H Q E h => ?_) (fun cdv A outer s H vs Q E hr h => ?_)
  · obtain ⟨u, v, d, hs, rfl, _⟩ := h; rfl
  · obtain ⟨u, v, d, hs, rfl, hu, hd, q⟩ := h
    obtain ⟨t, ht, h1, _, _, _⟩ := hd.isi (K := K)
    refine ⟨_, (b_one (s_ret (q_and (q_callB call_isi Y.isinstance bt_isinstance (a_cons (qv 1) (a_cons (q_ty Y.tuple bt_tuple) a_nil))) (q_and (q_callB (call_allB rfl) Y.all bt_all (a_cons (q_comp (src := [none, some 0]) o_are_ties_1 rfl rfl (i_tup (qv 1)) (fun _ _ _ _ _ => (g_name 0 o_are_ties_1.nd)) (fun _ _ _ _ _ => f_nil) (fun _ _ _ _ _ => (q_call G_is_tie (hr.mono (by decide)) Y.is_tie.mg Y.is_tie.kp Y.is_tie.b .nil pass0 (a_cons (qc 1) (a_cons (qv 0) a_nil))))) a_nil)) (q_one (q_call G_is_rising (hr.mono (by decide)) Y.is_rising.mg Y.is_rising.kp Y.is_rising.b .nil pass0 (a_cons (qv 1) a_nil))))))), ?_⟩
    refine ⟨_, rfl, _, _, _, _, rfl, ht, h1, _, rfl, ite2 (fun e => ?_) (fun e => ?_)⟩
    · cases d with
      | tup ds =>
        obtain ⟨p, vs, rfl, hp, r, b⟩ := hd.ofT
        refine ⟨_, rfl, p, rfl, ⟨vs, .inl (.inl hp)⟩, ?_⟩
        refine comp_truthsC (g := isTieB hs) (σr := [some u]) (ok := fun H => SqT K H p vs) wk_tup (fun H' s => .inl (.inl (s _ _ hp))) r b rfl (fun x d H2 Q1 s2 rx _ q1 => ⟨_, rfl, _, rfl, u, x, d, hs, rfl, hu.same s2, rx, q1⟩) (fun l H2 s2 _ hl => ?_)
        refine ⟨l, _, rfl, SqL.of hl, _, rfl, ?_⟩
        rw [all_map_id]
        have et : areTiesB hs (.tup ds) = (ds.all (isTieB hs) && risingB ds) := rfl
        refine ite2 (fun en => ?_) (fun en => ?_)
        · refine ⟨_, rfl, _, ds, rfl, hd.same s2, .inr (List.all_eq_true.mpr fun d hd => tie_pair (List.all_eq_true.mp en d hd)), fun H3 s3 => ?_⟩
          have q := q H3 (s2.trans s3)
          rw [et, en] at q
          exact q
        · have q := q H2 s2
          rw [et, tru en] at q
          exact q
      | _ => cases e
    · have q := q H (Same.refl H)
      have et : areTiesB hs d = false := by cases d <;> first | rfl | exact absurd rfl e
      rw [et] at q
      exact q
theorem ok_are_likings (Y : Ev K mg) : FnOk P w K mg base CX0 7 Y.a_are_likings Y.d_are_likings p_are_likings (spAny areLikingsB) := by
  have G_is_row : FnOk P w K mg base CX0 1 Y.a_is_row Y.d_is_row p_is_row spRow := ok_is_row Y
  have G_is_liking : FnOk P w K mg base CX0 6 Y.a_is_liking Y.d_is_liking p_is_liking (spAny isLikingB) := ok_is_liking Y
  refine Y.are_likings.fn.okQ c_are_likings (fun vs H Q E h => ?_) (fun cdv A outer s H vs Q E hr h => ?_)
  · obtain ⟨v, d, rfl, _⟩ := h; rfl
  · obtain ⟨v, d, rfl, hd, q⟩ := h
    refine ⟨_, (b_one (s_ret (q_and (q_call G_is_row (hr.mono (by decide)) Y.is_row.mg Y.is_row.kp Y.is_row.b .nil pass0 (a_cons (qv 0) (a_cons q_int (a_cons (q_glob Y.m_MOST_RULES Y.r_MOST_RULES) a_nil)))) (q_one (q_callB (call_allB rfl) Y.all bt_all (a_cons (q_comp (src := [none]) o_are_likings_1 rfl rfl (i_tup (qv 0)) (fun _ _ _ _ _ => (g_name 0 o_are_likings_1.nd)) (fun _ _ _ _ _ => f_nil) (fun _ _ _ _ _ => (q_call G_is_liking (hr.mono (by decide)) Y.is_liking.mg Y.is_liking.kp Y.is_liking.b .nil pass0 (a_cons (qv 0) a_nil)))) a_nil)))))), ?_⟩
    refine ⟨_, rfl, v, d, 0, 90, rfl, hd, fun H1 s1 => ⟨_, rfl, ite2 (fun e => ?_) (fun e => ?_)⟩⟩
    · have hd1 := hd.same s1
      cases d with
      | tup ds =>
        obtain ⟨p, vs, rfl, hp, r, b⟩ := hd1.ofT
        have h90 : decide (ds.length ≤ 90) = true := by
          simp [isRowB] at e
          exact decide_eq_true (by omega)
        refine ⟨_, rfl, p, rfl, ⟨vs, .inl (.inl hp)⟩, ?_⟩
        refine comp_truths (g := isLikingB) (ok := fun H => SqT K H p vs) wk_tup (fun H' s => .inl (.inl (s _ _ hp))) r b rfl (fun x d H2 Q1 s2 rx _ q1 => ⟨_, rfl, x, d, rfl, rx, q1⟩) (fun l H2 s2 _ hl => ?_)
        refine ⟨l, _, rfl, SqL.of hl, ?_⟩
        rw [all_map_id]
        have q := q H2 (s1.trans s2)
        have et : areLikingsB (.tup ds) = ds.all isLikingB := by
          show (decide (ds.length ≤ 90) && ds.all isLikingB) = _
          rw [h90]; rfl
        rw [et] at q
        exact q
      | _ => cases e
    · have q := q H1 s1
      have et : areLikingsB d = false := by
        cases d with
        | tup ds =>
          have h90 : decide (ds.length ≤ 90) = false := by
            simp [isRowB] at e
            exact decide_eq_false (by omega)
          show (decide (ds.length ≤ 90) && ds.all isLikingB) = _
          rw [h90]; rfl
        | _ => rfl
      rw [et] at q
      exact q
theorem ok_are_hands (Y : Ev K mg) : FnOk P w K mg base CX0 7 Y.a_are_hands Y.d_are_hands p_are_hands (spAny areHandsB) := by
  have G_is_row : FnOk P w K mg base CX0 1 Y.a_is_row Y.d_is_row p_is_row spRow := ok_is_row Y
  have G_is_hand : FnOk P w K mg base CX0 6 Y.a_is_hand Y.d_is_hand p_is_hand (spAny isHandB) := ok_is_hand Y
  refine Y.are_hands.fn.okQ c_are_hands (fun vs H Q E h => ?_) (fun cdv A outer s H vs Q E hr h => ?_)
  · obtain ⟨v, d, rfl, _⟩ := h; rfl
  · obtain ⟨v, d, rfl, hd, q⟩ := h
    refine ⟨_, (b_one (s_ret (q_and (q_call G_is_row (hr.mono (by decide)) Y.is_row.mg Y.is_row.kp Y.is_row.b .nil pass0 (a_cons (qv 0) (a_cons q_int (a_cons (q_glob Y.m_MOST_RULES Y.r_MOST_RULES) a_nil)))) (q_one (q_callB (call_allB rfl) Y.all bt_all (a_cons (q_comp (src := [none]) o_are_hands_1 rfl rfl (i_tup (qv 0)) (fun _ _ _ _ _ => (g_name 0 o_are_hands_1.nd)) (fun _ _ _ _ _ => f_nil) (fun _ _ _ _ _ => (q_call G_is_hand (hr.mono (by decide)) Y.is_hand.mg Y.is_hand.kp Y.is_hand.b .nil pass0 (a_cons (qv 0) a_nil)))) a_nil)))))), ?_⟩
    refine ⟨_, rfl, v, d, 0, 90, rfl, hd, fun H1 s1 => ⟨_, rfl, ite2 (fun e => ?_) (fun e => ?_)⟩⟩
    · have hd1 := hd.same s1
      cases d with
      | tup ds =>
        obtain ⟨p, vs, rfl, hp, r, b⟩ := hd1.ofT
        have h90 : decide (ds.length ≤ 90) = true := by
          simp [isRowB] at e
          exact decide_eq_true (by omega)
        refine ⟨_, rfl, p, rfl, ⟨vs, .inl (.inl hp)⟩, ?_⟩
        refine comp_truths (g := isHandB) (ok := fun H => SqT K H p vs) wk_tup (fun H' s => .inl (.inl (s _ _ hp))) r b rfl (fun x d H2 Q1 s2 rx _ q1 => ⟨_, rfl, x, d, rfl, rx, q1⟩) (fun l H2 s2 _ hl => ?_)
        refine ⟨l, _, rfl, SqL.of hl, ?_⟩
        rw [all_map_id]
        have q := q H2 (s1.trans s2)
        have et : areHandsB (.tup ds) = ds.all isHandB := by
          show (decide (ds.length ≤ 90) && ds.all isHandB) = _
          rw [h90]; rfl
        rw [et] at q
        exact q
      | _ => cases e
    · have q := q H1 s1
      have et : areHandsB d = false := by
        cases d with
        | tup ds =>
          have h90 : decide (ds.length ≤ 90) = false := by
            simp [isRowB] at e
            exact decide_eq_false (by omega)
          show (decide (ds.length ≤ 90) && ds.all isHandB) = _
          rw [h90]; rfl
        | _ => rfl
      rw [et] at q
      exact q
theorem rep_strs {H : Hp} {v : V} {xs : List Str} (h : Rep H v (.tup (xs.map D.str))) : ∃ p, v = .ref p ∧ H p = some (.tup (xs.map V.str)) := by
  obtain ⟨p, vs, rfl, hp, r, _⟩ := h.ofT
  refine ⟨p, rfl, ?_⟩
  have e : vs = xs.map V.str := by
    apply List.ext_getElem?
    intro i
    rcases Nat.lt_or_ge i xs.length with hi | hi
    · have hv : i < vs.length := by rw [r.1, List.length_map]; exact hi
      have := r.2 i vs[i] (.str xs[i]) (by simp [hv]) (by simp [hi])
      rw [List.getElem?_eq_getElem hv, List.getElem?_map, List.getElem?_eq_getElem hi]
      generalize vs[i] = z at this
      cases this
      rfl
    · rw [List.getElem?_eq_none (by rw [r.1, List.length_map]; exact hi), List.getElem?_eq_none (by rw [List.length_map]; exact hi)]
  rw [← e]; exact hp
theorem row5 {d : D} (h : isRowB d 5 5 = true) : ∃ a b c e f, d = .tup [a, b, c, e, f] := by
  cases d with
  | tup ds =>
    have hl : ds.length = 5 := by
      simp [isRowB] at h
      omega
    match ds, hl with
    | [a, b, c, e, f], _ => exact ⟨a, b, c, e, f, rfl⟩
  | _ => cases h
theorem rep5 {H : Hp} {v : V} {d1 d2 d3 d4 d5 : D} (h : Rep H v (.tup [d1, d2, d3, d4, d5])) : ∃ p x1 x2 x3 x4 x5, v = .ref p ∧ H p = some (.tup [x1, x2, x3, x4, x5]) ∧ Rep H x1 d1 ∧ Rep H x2 d2 ∧ Rep H x3 d3 ∧ Rep H x4 d4 ∧ Rep H x5 d5 := by
  obtain ⟨p, vs, rfl, hp, r, _⟩ := h.ofT
  match vs, r with
  | [x1, x2, x3, x4, x5], r => exact ⟨p, x1, x2, x3, x4, x5, rfl, hp, r.head.1, r.head.2.head.1, r.head.2.head.2.head.1, r.head.2.head.2.head.2.head.1, r.head.2.head.2.head.2.head.2.head.1⟩
  | [], r => exact absurd r.1 (by simp)
  | [_], r => exact absurd r.1 (by simp)
  | [_, _], r => exact absurd r.1 (by simp)
  | [_, _, _], r => exact absurd r.1 (by simp)
  | [_, _, _, _], r => exact absurd r.1 (by simp)
  | _ :: _ :: _ :: _ :: _ :: _ :: _, r => exact absurd r.1 (by simp)
theorem houses_form {d : D} (h : areHousesB d = true) : ∃ xs : List Str, d = .tup (xs.map D.str) ∧ xs.length ≤ 10 ∧ 1 ≤ xs.length ∧ ∀ x ∈ xs, isNameB x = true := by
  cases d with
  | tup ds =>
    have h' : (decide (1 ≤ ds.length) && decide (ds.length ≤ 10) && ds.all isNameD && risingB ds) = true := h
    simp only [Bool.and_eq_true, decide_eq_true_eq] at h'
    obtain ⟨xs, rfl, hx⟩ := names_strs h'.1.2
    exact ⟨xs, rfl, by simpa using h'.1.1.2, by simpa using h'.1.1.1, hx⟩
  | _ => cases h
theorem many_row {d : D} {n : Nat} : isRowB d n n = manyB d n := by
  cases d with
  | tup ds =>
    show (decide ((n : Int) ≤ (ds.length : Int)) && decide ((ds.length : Int) ≤ (n : Int))) = decide (ds.length = n)
    by_cases h : ds.length = n
    · rw [decide_eq_true h, decide_eq_true (by omega), decide_eq_true (by omega)]; rfl
    · rw [decide_eq_false h]
      by_cases h2 : n ≤ ds.length
      · rw [decide_eq_true (by omega), decide_eq_false (show ¬ ((ds.length : Int) ≤ (n : Int)) by omega)]; rfl
      · rw [decide_eq_false (show ¬ ((n : Int) ≤ (ds.length : Int)) by omega)]; rfl
  | _ => rfl
theorem many_form {d : D} {n : Nat} (h : manyB d n = true) : ∃ ds, d = .tup ds := by
  cases d <;> first | exact ⟨_, rfl⟩ | cases h
theorem ok_is_town (Y : Ev K mg) : FnOk P w K mg base CX0 8 Y.a_is_town Y.d_is_town p_is_town (spAny isTownB) := by
  have G_is_row : FnOk P w K mg base CX0 1 Y.a_is_row Y.d_is_row p_is_row spRow := ok_is_row Y
  have G_are_houses : FnOk P w K mg base CX0 2 Y.a_are_houses Y.d_are_houses p_are_houses (spAny areHousesB) := ok_are_houses Y
  have G_is_house : FnOk P w K mg base CX0 2 Y.a_is_house Y.d_is_house p_is_house spHouse := ok_is_house Y
  have G_are_ties : FnOk P w K mg base CX0 4 Y.a_are_ties Y.d_are_ties p_are_ties spTies := ok_are_ties Y
  have G_are_likings : FnOk P w K mg base CX0 7 Y.a_are_likings Y.d_are_likings p_are_likings (spAny areLikingsB) := ok_are_likings Y
  have G_are_hands : FnOk P w K mg base CX0 7 Y.a_are_hands Y.d_are_hands p_are_hands (spAny areHandsB) := ok_are_hands Y
  refine Y.is_town.fn.okQ c_is_town (fun vs H Q E h => ?_) (fun cdv A outer s H vs Q E hr h => ?_)
  · obtain ⟨v, d, rfl, _⟩ := h; rfl
  · obtain ⟨v, d, rfl, hd, q⟩ := h
    refine ⟨_, (b_cons (s_if (t_not (t_val (q_call G_is_row (hr.mono (by decide)) Y.is_row.mg Y.is_row.kp Y.is_row.b .nil pass0 (a_cons (qv 0) (a_cons q_int (a_cons q_int a_nil)))))) (b_one (s_ret q_bl)) b_nil)
      (b_cons (s_asg (qv 0) (g_tup 5 rfl (gs_cons (g_name 1 c_is_town.nd) (gs_cons (g_name 2 c_is_town.nd) (gs_cons (g_name 3 c_is_town.nd) (gs_cons (g_name 4 c_is_town.nd) (gs_cons (g_name 5 c_is_town.nd) gs_nil)))))))
      (b_cons (s_if (t_w (w_or (t_not (t_val (q_call G_are_houses (hr.mono (by decide)) Y.are_houses.mg Y.are_houses.kp Y.are_houses.b .nil pass0 (a_cons (qv 2) a_nil)))) (w_or (t_not (t_val (q_call G_is_house (hr.mono (by decide)) Y.is_house.mg Y.is_house.kp Y.is_house.b .nil pass0 (a_cons (qv 2) (a_cons (qv 1) a_nil))))) (w_or1 (t_not (t_val (q_call G_are_ties (hr.mono (by decide)) Y.are_ties.mg Y.are_ties.kp Y.are_ties.b .nil pass0 (a_cons (qv 2) (a_cons (qv 3) a_nil))))))))) (b_one (s_ret q_bl)) b_nil)
      (b_cons (s_set 6 c_is_town.nd (q_callB call_len2 Y.len bt_len (a_cons (qv 2) a_nil)))
      (b_cons (s_if (t_w (w_or (t_not (t_val (q_call G_is_row (hr.mono (by decide)) Y.is_row.mg Y.is_row.kp Y.is_row.b .nil pass0 (a_cons (qv 4) (a_cons (qv 6) (a_cons (qv 6) a_nil)))))) (w_or1 (t_not (t_val (q_call G_is_row (hr.mono (by decide)) Y.is_row.mg Y.is_row.kp Y.is_row.b .nil pass0 (a_cons (qv 5) (a_cons (qv 6) (a_cons (qv 6) a_nil))))))))) (b_one (s_ret q_bl)) b_nil)
      (b_one (s_ret (q_and (q_callB (call_allB rfl) Y.all bt_all (a_cons (q_comp (src := [none]) o_is_town_1 rfl rfl (i_tup (qv 4)) (fun _ _ _ _ _ => (g_name 0 o_is_town_1.nd)) (fun _ _ _ _ _ => f_nil) (fun _ _ _ _ _ => (q_call G_are_likings (hr.mono (by decide)) Y.are_likings.mg Y.are_likings.kp Y.are_likings.b .nil pass0 (a_cons (qv 0) a_nil)))) a_nil)) (q_one (q_callB (call_allB rfl) Y.all bt_all (a_cons (q_comp (src := [none]) o_is_town_2 rfl rfl (i_tup (qv 5)) (fun _ _ _ _ _ => (g_name 0 o_is_town_2.nd)) (fun _ _ _ _ _ => f_nil) (fun _ _ _ _ _ => (q_call G_are_hands (hr.mono (by decide)) Y.are_hands.mg Y.are_hands.kp Y.are_hands.b .nil pass0 (a_cons (qv 0) a_nil)))) a_nil))))))))))), ?_⟩
    refine ⟨_, rfl, v, d, 5, 5, rfl, hd, fun H1 s1 => ⟨_, rfl, ?_⟩⟩
    cases hw : isRowB d 5 5 with
    | false =>
      have q := q H1 s1
      have ea : isTownB d = false := by
        unfold isTownB
        split
        · simp [isRowB] at hw
        · rfl
      rw [ea] at q
      exact q
    | true =>
      obtain ⟨dg, dh, dt, dl, da, rfl⟩ := row5 hw
      have et : isTownB (.tup [dg, dh, dt, dl, da]) = (areHousesB dh && isHouseB (strsOf dh) dg && areTiesB (strsOf dh) dt && manyB dl (strsOf dh).length && manyB da (strsOf dh).length && allB areLikingsB dl && allB areHandsB da) := rfl
      obtain ⟨p, x1, x2, x3, x4, x5, rfl, hp, r1, r2, r3, r4, r5⟩ := rep5 (hd.same s1)
      refine ⟨_, rfl, p, _, rfl, .inl (.inl hp), rfl, _, _, rfl, _, _, rfl, _, _, rfl, _, _, rfl, _, _, rfl, rfl, ?_⟩
      refine ⟨_, rfl, x2, dh, rfl, r2, fun H2 s2 => ⟨_, rfl, ?_⟩⟩
      cases eh : areHousesB dh with
      | false =>
        have q := q H2 (s1.trans s2)
        rw [et, eh] at q
        exact q
      | true =>
        obtain ⟨xs, rfl, hx10, hx1, hxn⟩ := houses_form eh
        obtain ⟨ph, rfl, hph⟩ := rep_strs (r2.same s2)
        rw [RW.strs_map] at et
        have HS : HsAt H2 (.ref ph) xs := ⟨ph, rfl, hph, hx10, hxn⟩
        refine ⟨_, rfl, _, rfl, _, x1, dg, xs, rfl, HS, r1.same s2, fun H3 s3 => ⟨_, rfl, ?_⟩⟩
        cases eg : isHouseB xs dg with
        | false =>
          have q := q H3 ((s1.trans s2).trans s3)
          rw [et, eh, eg] at q
          exact q
        | true =>
          refine ⟨_, rfl, _, rfl, _, x3, dt, xs, rfl, HS.same s3, (r3.same s2).same s3, fun H4 s4 => ⟨_, rfl, ?_⟩⟩
          have S4 := ((s1.trans s2).trans s3).trans s4
          cases ett : areTiesB xs dt with
          | false =>
            have q := q H4 S4
            rw [et, eh, eg, ett] at q
            exact q
          | true =>
            have hph4 := s4 _ _ (s3 _ _ hph)
            refine ⟨_, rfl, .inl ⟨ph, _, rfl, .inr (.inl (.inl hph4)), ?_⟩⟩
            have hz : ((xs.map V.str).length : Int) = (xs.length : Int) := by rw [List.length_map]
            rw [hz]
            have T4 := (s2.trans s3).trans s4
            refine ⟨_, rfl, _, rfl, _, rfl, x4, dl, (xs.length : Int), (xs.length : Int), rfl, r4.same T4, fun H5 s5 => ⟨_, rfl, ?_⟩⟩
            rw [many_row]
            cases el : manyB dl xs.length with
            | false =>
              have q := q H5 (S4.trans s5)
              rw [et, eh, eg, ett, el] at q
              exact q
            | true =>
              refine ⟨_, rfl, _, rfl, _, rfl, x5, da, (xs.length : Int), (xs.length : Int), rfl, (r5.same T4).same s5, fun H6 s6 => ⟨_, rfl, ?_⟩⟩
              rw [many_row]
              cases ea : manyB da xs.length with
              | false =>
                have q := q H6 ((S4.trans s5).trans s6)
                rw [et, eh, eg, ett, el, ea] at q
                exact q
              | true =>
                obtain ⟨ls, rfl⟩ := many_form el
                obtain ⟨as, rfl⟩ := many_form ea
                have T6 := (T4.trans s5).trans s6
                obtain ⟨pl, vl, rfl, hpl, rl, bl⟩ := (r4.same T6).ofT
                obtain ⟨pa, va, rfl, hpa, ra, ba⟩ := (r5.same T6).ofT
                refine ⟨_, rfl, pl, rfl, ⟨vl, .inl (.inl hpl)⟩, ?_⟩
                refine comp_truths (g := areLikingsB) (ok := fun H => SqT K H pl vl) wk_tup (fun H' s => .inl (.inl (s _ _ hpl))) rl bl rfl (fun x d H2 Q1 s2 rx _ q1 => ⟨_, rfl, x, d, rfl, rx, q1⟩) (fun l H7 s7 _ hl => ?_)
                refine ⟨l, _, rfl, SqL.of hl, _, rfl, ?_⟩
                rw [all_map_id]
                have S7 := ((S4.trans s5).trans s6).trans s7
                refine ite2 (fun en => ?_) (fun en => ?_)
                · refine ⟨_, rfl, pa, rfl, ⟨va, .inl (.inl (s7 _ _ hpa))⟩, ?_⟩
                  refine comp_truths (g := areHandsB) (ok := fun H => SqT K H pa va) wk_tup (fun H' s => .inl (.inl (s _ _ (s7 _ _ hpa)))) (ra.mono (.of s7)) ba rfl (fun x d H2 Q1 s2 rx _ q1 => ⟨_, rfl, x, d, rfl, rx, q1⟩) (fun l2 H8 s8 _ hl2 => ?_)
                  refine ⟨l2, _, rfl, SqL.of hl2, ?_⟩
                  rw [all_map_id]
                  have q := q H8 (S7.trans s8)
                  have e7 : allB areLikingsB (.tup ls) = true := en
                  rw [et, eh, eg, ett, el, ea, e7] at q
                  exact q
                · have q := q H7 S7
                  have e7 : allB areLikingsB (.tup ls) = false := tru en
                  rw [et, eh, eg, ett, el, ea, e7] at q
                  exact q
end
end K05

set_option Elab.async false
set_option linter.all false
set_option maxRecDepth 100000
set_option maxHeartbeats 4000000
namespace K05
open PySem PySem.Spec PyProof.Rows L2 RW
local macro_rules | `(tactic| walk_at "cond") => `(tactic| first | assumption | decide | omega | exact few rfl | exact .inl ⟨by decide, by decide⟩ | exact .inr ⟨by decide, by decide⟩ | exact .inl ⟨by omega, by omega⟩ | exact .inr ⟨by omega, by omega⟩ | exact ⟨by omega, by omega⟩ | exact ⟨by assumption, by assumption⟩ | exact ⟨by decide, by decide, by decide⟩ | exact .inr ⟨by split <;> decide, by split <;> decide⟩)
local macro_rules | `(tactic| walk_at "rd") => `(tactic| first | with_reducible_and_instances refine ⟨_, rfl, ?_⟩ | refine ⟨_, rfl, ?_⟩ | refine ⟨_, _, rfl, rfl, ?_⟩ | refine ⟨_, _, _, _, rfl, rfl, SqL.of (by assumption), rfl, ?_⟩ | refine ⟨_, _, _, _, rfl, rfl, (by assumption), rfl, ?_⟩ | refine .inl ⟨_, rfl, ?_⟩ | refine .inr ⟨_, rfl, ?_⟩ | refine .inl ⟨_, _, rfl, .inl (by assumption), ?_⟩ | refine ⟨(by walk_at "cond"), ?_⟩)
local macro_rules | `(tactic| walk_at "dsp") => `(tactic| repeat' (first | exact dsp_str (by decide) | exact dsp_int | exact dsp_bl | exact dsp_non | exact dsp_neg | exact dspA_nil | exact dsp_dnew | exact dsp_disp rfl | exact dsp_var rfl (by assumption) | refine dspA_cons ?_ ?_ | refine dsp_tup ?_ ?_ | refine dsp_lst' ?_ | refine n_cons ?_ ?_ | exact n_nil | exact v_c | exact v_var rfl | refine v_tup ?_ | refine dspl_lst ?_ ?_ | refine dspl_cat ?_ ?_ ?_ | exact dspl_var rfl (by assumption) (by assumption) | exact Nat.le_of_ble_eq_true rfl))
local macro_rules | `(tactic| walk_at "each") => `(tactic| repeat' (first | exact forall_nil | refine List.forall_mem_append.mpr ⟨?_, ?_⟩ | refine List.forall_mem_cons.mpr ⟨?_, ?_⟩))
section
variable {P : Program} {w : World} {K : PySem.W.Frag} {mg : Str → Option Value} {base : Heap}
def spTake : Sp := fun vs H Q _ => ∃ (a : Addr) (k n : Int), vs = [.ref a, .int k] ∧ Hand H a n ∧ n < 2 ^ 40 ∧ 0 < k ∧ k < 1073741824 ∧ ∀ d H', 0 ≤ d → d < k → Hand H' a (n + 1) → Keep a H H' → Q (.int d) H'
theorem ok_take (Y : Ev K mg) : FnOk P w K mg base CX0 1 Y.a__law_take Y.d__law_take p__law_take spTake := by
  refine Y._law_take.fn.okQ c__law_take (fun vs H Q E h => ?_) (fun cdv A outer s H vs Q E hr h => ?_)
  · obtain ⟨a, k, n, rfl, _⟩ := h
    rfl
  · obtain ⟨a, k, n, rfl, ⟨x, m, t, hH, m0, m1, t0, t1⟩, hn, k0, k1, q⟩ := h
    refine ⟨_, (b_cons (s_if (t_cmp op_gt (q_ix ix_list (qv 0) q_int) q_int) (b_cons (s_set 2 c__law_take.nd (q_op op_mod (q_ix ix_list (qv 0) q_int) (qv 1)))
      (b_cons (s_asg (q_op op_fdiv (q_ix ix_list (qv 0) q_int) (qv 1)) (g_sub (qv 0) q_int set_list))
      (b_one (s_ret (qv 2))))) b_nil)
      (b_cons (s_asg (q_op op_add (q_ix ix_list (qv 0) q_int) q_int) (g_sub (qv 0) q_int set_list))
      (b_cons (s_set 3 c__law_take.nd (q_ix ix_list (qv 0) q_int))
      (b_cons (s_set 4 c__law_take.nd (q_op op_mod (q_op op_mul (q_ix ix_list (qv 0) q_int) (q_op op_add (q_op op_add q_int (q_op op_mul (q_op op_mul q_int (qv 3)) (qv 3))) (q_op op_mul q_int (qv 3)))) q_int))
      (b_cons (s_set 5 c__law_take.nd (q_op op_add (q_op op_add (q_op op_mod (qv 4) q_int) (q_op op_mul (qv 3) q_int)) q_int))
      (b_cons (s_set 4 c__law_take.nd (q_op op_mod (q_op op_mul (qv 4) (qv 5)) q_int))
      (b_one (s_ret (q_op op_mod (q_op op_add (q_op op_fdiv (qv 4) q_int) (q_op op_fdiv (qv 4) q_int)) (qv 1)))))))))), ?_⟩
    repeat walk_at "rd"
    refine ite2 (fun hx => ?_) (fun hx => ?_)
    · repeat walk_at "rd"
      exact q _ _ (Int.emod_nonneg _ (by omega)) (Int.emod_lt_of_pos _ k0) ⟨_, m, t, upd_same, m0, m1, t0, by omega⟩ (Keep.upd _ _ _)
    · refine ⟨_, rfl, a, _, _, _, rfl, rfl, SqL.of hH, rfl, _, _, rfl, rfl, _, rfl, a, _, _, _, rfl, rfl, hH, rfl, ?_⟩
      have h2 : upd H a (.lst [.int x, .int m, .int (t + 1)]) a = some (.lst [.int x, .int m, .int (t + 1)]) := upd_same
      repeat walk_at "rd"
      exact q _ _ (Int.emod_nonneg _ (by omega)) (Int.emod_lt_of_pos _ k0) ⟨_, m, _, upd_same, m0, m1, by omega, by omega⟩ (Keep.upd _ _ _)
def spPick (K : PySem.W.Frag) : Sp := fun vs H Q _ => ∃ (a : Addr) (n : Int), Hand H a n ∧ n < 2 ^ 40 ∧
  ((∃ (b : Addr) (xs : List V), vs = [.ref a, .ref b] ∧ b ≠ a ∧ SqL K H b xs ∧ 0 < xs.length ∧ xs.length < 1000 ∧ ∀ v H', v ∈ xs → Hand H' a (n + 1) → Keep a H H' → Q v H') ∨
   (∃ z : Str, vs = [.ref a, .str z] ∧ 0 < z.length ∧ z.length < 1000 ∧ ∀ c H', c ∈ z.cps.toList → Hand H' a (n + 1) → Keep a H H' → Q (.str (one c)) H'))
theorem ok_pick (Y : Ev K mg) : FnOk P w K mg base CX0 2 Y.a__law_pick Y.d__law_pick p__law_pick (spPick K) := by
  have G__law_take : FnOk P w K mg base CX0 1 Y.a__law_take Y.d__law_take p__law_take spTake := ok_take Y
  refine Y._law_pick.fn.okQ c__law_pick (fun vs H Q E h => ?_) (fun cdv A outer s H vs Q E hr h => ?_)
  · obtain ⟨a, n, _, _, ⟨b, xs, rfl, _⟩ | ⟨z, rfl, _⟩⟩ := h <;> rfl
  · obtain ⟨a, n, hH, hn, h⟩ := h
    have hl : ∀ m : Nat, m < 1000 → m ≤ sizeLine := fun m h => Nat.le_of_lt (small1000 (Nat.le_of_lt h))
    rcases h with ⟨b, xs, rfl, hb, hS, x0, x1, q⟩ | ⟨z, rfl, z0, z1, q⟩
    · refine ⟨_, (b_one (s_ret (q_ix ix_seq (qv 1) (q_call G__law_take (hr.mono (by decide)) Y._law_take.mg Y._law_take.kp Y._law_take.b .nil pass0 (a_cons (qv 0) (a_cons (q_callB call_len2 Y.len bt_len (a_cons (qv 1) a_nil)) a_nil)))))), ?_⟩
      refine ⟨_, rfl, _, rfl, _, rfl, .inl ⟨b, xs, rfl, .inl hS, a, _, n, rfl, hH, hn, by omega, by omega, fun d H' h0 h1 hH' kp => ?_⟩⟩
      obtain ⟨v, e, hv⟩ := atI_mem h0 h1
      exact .inl ⟨b, xs, d, v, rfl, rfl, kp.sqL hb hS, e, q v H' hv hH' kp⟩
    · refine ⟨_, (b_one (s_ret (q_ix ix_seq (qv 1) (q_call G__law_take (hr.mono (by decide)) Y._law_take.mg Y._law_take.kp Y._law_take.b .nil pass0 (a_cons (qv 0) (a_cons (q_callB call_len2 Y.len bt_len (a_cons (qv 1) a_nil)) a_nil)))))), ?_⟩
      refine ⟨_, rfl, _, rfl, _, rfl, .inr ⟨z, rfl, hl _ z1, a, _, n, rfl, hH, hn, by omega, by omega, fun d H' h0 h1 hH' kp => ?_⟩⟩
      obtain ⟨c, e, hc⟩ := atI_mem (xs := z.cps.toList) h0 (by simpa [Str.length] using h1)
      exact .inr (.inr ⟨z, d, c, rfl, rfl, hl _ z1, e, q c H' hc hH' kp⟩)
def spHand (K : PySem.W.Frag) : Sp := fun vs H Q _ => ∃ (b : Addr) (ns : List Int) (k : Int), vs = [.ref b, .int k] ∧ SqL K H b (ns.map V.int) ∧ 0 ≤ k ∧ k < 1000 ∧ ∀ a H', H a = none → Hand H' a 0 → Same H H' → Q (.ref a) H'
theorem ok_hand (Y : Ev K mg) : FnOk P w K mg base CX0 1 Y.a__law_hand Y.d__law_hand p__law_hand (spHand K) := by
  refine Y._law_hand.fn.okQ c__law_hand (fun vs H Q E h => ?_) (fun cdv A outer s H vs Q E hr h => ?_)
  · obtain ⟨a, k, n, rfl, _⟩ := h
    rfl
  · obtain ⟨b, ns, k, rfl, hS, k0, k1, q⟩ := h
    refine ⟨_, (b_cons (s_set 2 c__law_hand.nd q_int)
      (b_cons (s_if (t_cmp op_lt (qv 1) (q_callB call_len2 Y.len bt_len (a_cons (qv 0) a_nil))) (b_one (s_set 2 c__law_hand.nd (q_ix ix_list (qv 0) (qv 1)))) b_nil)
      (b_one (s_ret (q_lst (a_cons (q_op op_mul (qv 2) (q_callTy call_int1 Y.int bt_int (a_cons (q_cmp op_ge (qv 2) (q_op op_pow q_int q_int)) a_nil))) (a_cons (q_op op_add (q_op op_add (q_op op_mod (qv 2) q_int) (q_op op_mul q_int (qv 1))) q_int) (a_cons q_int a_nil)))))))), ?_⟩
    refine ⟨_, rfl, _, rfl, .inl ⟨b, _, rfl, .inl hS, _, _, rfl, rfl, _, rfl, ?_⟩⟩
    refine ite2 (fun hx => ?_) (fun hx => ?_)
    · have hx' : k < ((ns.map V.int).length : Int) := of_decide_eq_true hx
      obtain ⟨v, e, hv⟩ := atI_mem k0 hx'
      obtain ⟨c, _, rfl⟩ := List.mem_map.mp hv
      refine ⟨_, rfl, _, rfl, b, _, k, _, rfl, rfl, hS, e, ?_⟩
      repeat walk_at "rd"
      intro p hp
      exact q p _ hp ⟨_, _, _, upd_same, by omega, by omega, by decide, by decide⟩ (fun b' o hb' => by rw [upd_ne (ne_of_none hb' hp)]; exact hb')
    · repeat walk_at "rd"
      intro p hp
      exact q p _ hp ⟨_, _, _, upd_same, by omega, by omega, by decide, by decide⟩ (fun b' o hb' => by rw [upd_ne (ne_of_none hb' hp)]; exact hb')
end
end K05

set_option Elab.async false
set_option linter.all false
set_option maxRecDepth 100000
set_option maxHeartbeats 4000000
namespace K05
open PySem PySem.Spec PyProof.Rows L2 RW
local macro_rules | `(tactic| walk_at "cond") => `(tactic| first | assumption | decide | omega | exact few rfl | exact .inl ⟨by decide, by decide⟩ | exact .inr ⟨by decide, by decide⟩ | exact .inl ⟨by omega, by omega⟩ | exact .inr ⟨by omega, by omega⟩ | exact ⟨by omega, by omega⟩ | exact ⟨by assumption, by assumption⟩ | exact ⟨by decide, by decide, by decide⟩ | exact .inr ⟨by split <;> decide, by split <;> decide⟩)
local macro_rules | `(tactic| walk_at "rd") => `(tactic| first | with_reducible_and_instances refine ⟨_, rfl, ?_⟩ | refine ⟨_, rfl, ?_⟩ | refine ⟨_, _, rfl, rfl, ?_⟩ | refine ⟨_, _, _, _, rfl, rfl, SqL.of (by assumption), rfl, ?_⟩ | refine ⟨_, _, _, _, rfl, rfl, (by assumption), rfl, ?_⟩ | refine .inl ⟨_, rfl, ?_⟩ | refine .inr ⟨_, rfl, ?_⟩ | refine .inl ⟨_, _, rfl, .inl (by assumption), ?_⟩ | refine ⟨(by walk_at "cond"), ?_⟩)
local macro_rules | `(tactic| walk_at "dsp") => `(tactic| repeat' (first | exact dsp_str (by decide) | exact dsp_int | exact dsp_bl | exact dsp_non | exact dsp_neg | exact dspA_nil | exact dsp_dnew | exact dsp_disp rfl | exact dsp_var rfl (by assumption) | refine dspA_cons ?_ ?_ | refine dsp_tup ?_ ?_ | refine dsp_lst' ?_ | refine n_cons ?_ ?_ | exact n_nil | exact v_c | exact v_var rfl | refine v_tup ?_ | refine dspl_lst ?_ ?_ | refine dspl_cat ?_ ?_ ?_ | exact dspl_var rfl (by assumption) (by assumption) | exact Nat.le_of_ble_eq_true rfl))
local macro_rules | `(tactic| walk_at "each") => `(tactic| repeat' (first | exact forall_nil | refine List.forall_mem_append.mpr ⟨?_, ?_⟩ | refine List.forall_mem_cons.mpr ⟨?_, ?_⟩))
section
variable {P : Program} {w : World} {K : PySem.W.Frag} {mg : Str → Option Value} {base : Heap}

def spNames2 : Sp := fun vs H Q _ => ∃ (a : Addr) (n : Int) (m : Nat), vs = [.ref a, .int m] ∧ Hand H a n ∧ n < 2 ^ 39 ∧ 4 ≤ m ∧ m ≤ 13 ∧ ∀ (l : Addr) (xs : List Str) (H' : Hp), H l = none → H' l = some (.lst (xs.map V.str)) → xs.length = m → (∀ x ∈ xs, isNameB x = true) → xs.Nodup → (∀ x ∈ xs, x ≠ "nowhere") → Hand H' a (n + 4) → Keep a H H' → Q (.ref l) H'
theorem ok_names2 (Y : Ev K mg) : FnOk P w K mg base CX0 3 Y.a__law_names Y.d__law_names p__law_names spNames2 := by
  have G__law_take : FnOk P w K mg base CX0 1 Y.a__law_take Y.d__law_take p__law_take spTake := ok_take Y
  have G__law_pick : FnOk P w K mg base CX0 2 Y.a__law_pick Y.d__law_pick p__law_pick (spPick K) := ok_pick Y
  refine Y._law_names.fn.okQ c__law_names (fun vs H Q E h => ?_) (fun cdv A outer s H vs Q E hr h => ?_)
  · obtain ⟨a, n, m, rfl, _⟩ := h; rfl
  · obtain ⟨a, n, m, rfl, hH, hn, m4, m13, q⟩ := h
    refine ⟨_, (b_cons (s_setC 2 c__law_names.nd q_str)
      (b_cons (s_setC 3 c__law_names.nd (q_call G__law_take (hr.mono (by decide)) Y._law_take.mg Y._law_take.kp Y._law_take.b .nil pass0 (a_cons (qv 0) (a_cons q_int a_nil))))
      (b_cons (s_setC 4 c__law_names.nd (q_call G__law_pick (hr.mono (by decide)) Y._law_pick.mg Y._law_pick.kp Y._law_pick.b .nil pass0 (a_cons (qv 0) (a_cons (q_lstC [V.int 1, V.int 3, V.int 5, V.int 7, V.int 9, V.int 11] (by decide +kernel)) a_nil))))
      (b_cons (s_setcomp 5 (src := [none, some 3, some 2, some 4]) o__law_names_1 rfl rfl c__law_names.nd (i_rng1 Y.range (a_cons (qv 1) a_nil)) (fun _ _ _ _ _ => (g_name 0 o__law_names_1.nd)) (fun _ _ _ _ _ => f_nil) (fun _ _ _ _ _ => (q_op op_mul_strN (q_ix ix_str (qc 2) (q_op op_mod (q_op op_add (qc 1) (q_op op_mul (qc 3) (qv 0))) q_int)) (q_op op_add q_int (q_op op_mod (q_op op_add (q_op op_mul (qv 0) (qv 0)) (qc 1)) q_int)))))
      (b_cut (s_if (t_cmp op_eq (q_call G__law_take (hr.mono (by decide)) Y._law_take.mg Y._law_take.kp Y._law_take.b .nil pass0 (a_cons (qv 0) (a_cons q_int a_nil))) q_int) (b_cons (s_set 6 c__law_names.nd (q_lstC [V.str "goal", V.str "to", V.str "by", V.str "houses", V.str "tie", V.str "like", V.str "hand", V.str "keep", V.str "put", V.str "mark", V.str "long", V.str "from", V.str "strike"] (by decide +kernel)))
      (b_cons (s_set 7 c__law_names.nd (q_call G__law_take (hr.mono (by decide)) Y._law_take.mg Y._law_take.kp Y._law_take.b .nil pass0 (a_cons (qv 0) (a_cons q_int a_nil))))
      (b_one (s_for PassesOwn.never rfl (i_rng1 Y.range (a_cons (q_callB (call_min2 rfl) Y.min bt_min (a_cons (qv 1) (a_cons q_int a_nil))) a_nil)) (g_name 8 c__law_names.nd) (b_one (s_asg (q_ix ix_list (qv 6) (q_op op_mod (q_op op_add (qv 7) (q_op op_mul q_int (qv 8))) q_int)) (g_sub (qv 5) (qv 8) set_list))))))) b_nil)
      (b_one (s_ret (qv 5)))))))), ?_⟩
    refine ⟨_, rfl, a, 26, n, rfl, hH, by omega, by decide, by decide, fun f' H1 f0 f26 hH1 k1 => ?_⟩
    obtain ⟨f, rfl⟩ : ∃ f : Nat, f' = (f : Int) := ⟨f'.toNat, by omega⟩
    refine ⟨_, rfl, by decide, fun pl hpl => ⟨a, n + 1, hH1.new hpl, by omega, .inl ⟨pl, _, rfl, hH1.ne hpl, SqL.of upd_same, by decide, by decide, fun v H2 hv hH2 k2 => ?_⟩⟩⟩
    obtain ⟨st, rfl, st0, st11⟩ : ∃ st : Nat, v = .int (st : Int) ∧ st ∈ steps ∧ st ≤ 11 := by
      simp only [List.mem_cons, List.not_mem_nil, or_false] at hv
      rcases hv with rfl | rfl | rfl | rfl | rfl | rfl
      · exact ⟨1, rfl, by decide, by decide⟩
      · exact ⟨3, rfl, by decide, by decide⟩
      · exact ⟨5, rfl, by decide, by decide⟩
      · exact ⟨7, rfl, by decide, by decide⟩
      · exact ⟨9, rfl, by decide, by decide⟩
      · exact ⟨11, rfl, by decide, by decide⟩
    have kp2 : Keep a H H2 := k1.trans ((Keep.new hpl).trans k2)
    refine ⟨_, rfl, m, rfl, by omega, by omega, ?_⟩
    refine comp_by wk_rng (fun l i ys σ' H' => (∃ o, σ' = [o, some (.int (f : Int)), some (.str lettersS), some (.int (st : Int))]) ∧ ys = ((List.range i).map (nmS f st)).map V.str ∧ Hand H' a (n + 1 + 1) ∧ Keep a H2 H') ?_ (fun _ _ _ _ _ _ _ => trivial) ?_ ?_
    · exact fun l hl => ⟨⟨_, rfl⟩, rfl, hH2.new hl, Keep.new hl⟩
    · rintro l i y ys σ' H' hl hi rfl ⟨⟨o, rfl⟩, rfl, hH', k'⟩ hl'
      have hi13 : i < 13 := by have : i < m := by omega
                               omega
      have hr26 : (f + st * i) % 26 < 26 := Nat.mod_lt _ (by decide)
      have ei : ((f : Int) + (st : Int) * (0 + (i : Int))) % 26 = (((f + st * i) % 26 : Nat) : Int) := by rw [Int.zero_add]; push_cast; rfl
      have ec : atI lettersS.cps.toList (((f : Int) + (st : Int) * (0 + (i : Int))) % 26) = some (97 + (f + st * i) % 26) := by
        rw [ei]; exact atI_nat (letters_at _ (List.mem_range.mpr hr26))
      have en : (1 + ((0 + (i : Int)) * (0 + (i : Int)) + (f : Int)) % 8) = ((1 + (i * i + f) % 8 : Nat) : Int) := by rw [Int.zero_add]; push_cast; rfl
      have g8 : (i * i + f) % 8 < 8 := Nat.mod_lt _ (by decide)
      refine ⟨_, rfl, _, rfl, _, rfl, _, rfl, _, _, rfl, rfl, .inl ⟨by omega, by omega⟩, _, _, rfl, rfl, _, _, rfl, rfl, (by decide : (0 : Int) < 26), lettersS, _, _, rfl, rfl, by rw [letters_len]; decide, ec, _, rfl, _, rfl, _, _, rfl, rfl, .inl ⟨by omega, by omega⟩, _, rfl, _, _, rfl, rfl, _, _, rfl, rfl, (by decide : (0 : Int) < 8), _, _, rfl, rfl, one (97 + (f + st * i) % 26), _, rfl, rfl, by rw [en]; omega, by rw [en]; omega, by rw [one_len]; decide, by rw [one_len]; decide, ?_⟩
      have nl := hH2.ne hl
      refine ⟨hl', ?_, ⟨_, rfl⟩, ?_, hH'.updNe nl, k'.updNew hl⟩
      · rw [List.length_map, List.length_map, List.length_range]; exact small1000 (by omega)
      · rw [en, Int.toNat_natCast, List.range_succ, List.map_append, List.map_append]; rfl
    · rintro l ys σ' H3 hl ⟨⟨o, rfl⟩, rfl, hH3, k3⟩ hl'
      have nl := hH2.ne hl
      rw [Int.toNat_natCast] at hl'
      have e0 : (List.range m).map (nmS f st) = (List.range m).map (nameS f st 0 0) := by
        apply List.map_congr_left
        intro k _
        unfold nameS
        rw [if_neg (by omega)]
      have hln : H l = none := by
        cases e : H l with
        | none => rfl
        | some o => exact absurd (kp2 l o nl e) (by rw [hl]; exact fun z => nomatch z)
      refine ⟨fun σ' H' => (∃ o6 o7 o8, σ' = [some (.ref a), some (.int m), some (.str lettersS), some (.int (f : Int)), some (.int (st : Int)), some (.ref l), o6, o7, o8]) ∧ (∃ sp j : Nat, H' l = some (.lst (((List.range m).map (nameS f st sp j)).map V.str)) ∧ sp < 13 ∧ j ≤ 4) ∧ Hand H' a (n + 4) ∧ Keep a H H', ?_, ?_⟩
      · refine ⟨_, rfl, a, 6, n + 1 + 1, rfl, hH3, by omega, by decide, by decide, fun d H4 d0 d6 hH4 k4 => ⟨rfl, _, rfl, ite2 (fun _ => ?_) (fun _ => ?_)⟩⟩
        · have hl4 := k4 _ _ nl hl'
          have kp4 : Keep a H H4 := (kp2.trans k3).trans k4
          refine ⟨by decide, fun pk hpk => ?_⟩
          have npl : pk ≠ l := fun z => by rw [z, hl4] at hpk; cases hpk
          have npa := hH4.ne hpk
          refine ⟨_, rfl, a, 13, n + 1 + 1 + 1, rfl, hH4.new hpk, by omega, by decide, by decide, fun sp' H5 sp0 sp13 hH5 k5 => ?_⟩
          obtain ⟨sp, rfl⟩ : ∃ f : Nat, sp' = (f : Int) := ⟨sp'.toNat, by omega⟩
          refine ⟨_, rfl, _, _, rfl, _, rfl, ?_, ?_, ?_⟩
          · split <;> omega
          · split <;> omega
          have e4 : (if (4 : Int) < (m : Int) then (4 : Int) else (m : Int)).toNat = 4 := by split <;> omega
          rw [e4]
          refine for_by wk_rng (fun i σ' H' => (∃ o8, σ' = [some (.ref a), some (.int m), some (.str lettersS), some (.int (f : Int)), some (.int (st : Int)), some (.ref l), some (.ref pk), some (.int (sp : Int)), o8]) ∧ H' l = some (.lst (((List.range m).map (nameS f st sp i)).map V.str)) ∧ Hand H' a (n + 4) ∧ Keep a H H' ∧ H' pk = some (.lst (keptL.map V.str))) ?_ (fun _ _ _ _ => trivial) ?_ ?_
          · refine ⟨⟨_, rfl⟩, ?_, hH5.mono (by omega), kp4.trans ((Keep.new hpk).trans k5), k5 _ _ npa upd_same⟩
            have e0' : (List.range m).map (nmS f st) = (List.range m).map (nameS f st sp 0) := by
              apply List.map_congr_left
              intro k _
              unfold nameS
              rw [if_neg (by omega)]
            rw [← e0']
            exact k5 _ _ nl (by rw [upd_ne (Ne.symm npl)]; exact hl4)
          · rintro i y σ' H6 hi4 rfl ⟨⟨o8, rfl⟩, hz, hH6, k6, hp6⟩
            have ek : ((sp : Int) + 3 * (0 + (i : Int))) % 13 = (((sp + 3 * i) % 13 : Nat) : Int) := by rw [Int.zero_add]; push_cast; rfl
            have ev : atI (keptL.map V.str) (((sp : Int) + 3 * (0 + (i : Int))) % 13) = some (.str (kwS sp i)) := by
              rw [ek]; exact atI_nat (by rw [List.getElem?_map, kept_at]; rfl)
            have hix : ixN (((List.range m).map (nameS f st sp i)).map V.str).length (0 + (i : Int)) = some i := by
              unfold ixN
              rw [if_pos (by omega), if_pos (by rw [List.length_map, List.length_map, List.length_range]; omega)]
              congr 1
              omega
            refine ⟨_, rfl, _, rfl, _, rfl, _, _, rfl, rfl, .inl ⟨by decide, by decide⟩, _, _, rfl, rfl, _, _, rfl, rfl, (by decide : (0 : Int) < 13), pk, _, _, _, rfl, rfl, SqL.of hp6, ev, _, rfl, _, rfl, l, _, _, i, rfl, rfl, hz, hix, ?_⟩
            refine ⟨⟨_, rfl⟩, ?_, hH6.updNe nl, k6.updNew hln, by rw [upd_ne npl]; exact hp6⟩
            rw [upd_same, ← List.map_set, name_set (by omega)]
          · rintro σ' H6 ⟨⟨o8, rfl⟩, hz, hH6, k6, _⟩
            exact ⟨⟨_, _, _, rfl⟩, ⟨sp, 4, hz, by omega, by decide⟩, hH6, k6⟩
        · rw [e0] at hl'
          exact ⟨⟨_, _, _, rfl⟩, ⟨0, 0, k4 _ _ nl hl', by decide, by decide⟩, hH4.mono (by omega), (kp2.trans k3).trans k4⟩
      · rintro σ' H' ⟨⟨o6, o7, o8, rfl⟩, ⟨sp, j, hz, hsp, hj⟩, hH', k'⟩
        refine ⟨_, rfl, q l _ H' hln hz (by rw [List.length_map, List.length_range]) (fun x hx => ?_) (names_nodup (by omega) st0 hsp hj m13) (fun x hx => ?_) hH' k'⟩
        · obtain ⟨k, _, rfl⟩ := List.mem_map.mp hx
          exact name_ok _ _ _ _ _
        · obtain ⟨k, _, rfl⟩ := List.mem_map.mp hx
          exact name_here _ _ _ _ _
end
end K05

set_option Elab.async false
set_option linter.all false
set_option maxRecDepth 100000
set_option maxHeartbeats 4000000
namespace K05
open PySem PySem.Spec PyProof.Rows L2 RW
local macro_rules | `(tactic| walk_at "cond") => `(tactic| first | assumption | decide | omega | exact few rfl | exact .inl ⟨by decide, by decide⟩ | exact .inr ⟨by decide, by decide⟩ | exact .inl ⟨by omega, by omega⟩ | exact .inr ⟨by omega, by omega⟩ | exact ⟨by omega, by omega⟩ | exact ⟨by assumption, by assumption⟩ | exact ⟨by decide, by decide, by decide⟩ | exact .inr ⟨by split <;> decide, by split <;> decide⟩)
local macro_rules | `(tactic| walk_at "rd") => `(tactic| first | with_reducible_and_instances refine ⟨_, rfl, ?_⟩ | refine ⟨_, rfl, ?_⟩ | refine ⟨_, _, rfl, rfl, ?_⟩ | refine ⟨_, _, _, _, rfl, rfl, SqL.of (by assumption), rfl, ?_⟩ | refine ⟨_, _, _, _, rfl, rfl, (by assumption), rfl, ?_⟩ | refine .inl ⟨_, rfl, ?_⟩ | refine .inr ⟨_, rfl, ?_⟩ | refine .inl ⟨_, _, rfl, .inl (by assumption), ?_⟩ | refine ⟨(by walk_at "cond"), ?_⟩)
local macro_rules | `(tactic| walk_at "dsp") => `(tactic| repeat' (first | exact dsp_str (by decide) | exact dsp_int | exact dsp_bl | exact dsp_non | exact dsp_neg | exact dspA_nil | exact dsp_dnew | exact dsp_disp rfl | exact dsp_var rfl (by assumption) | refine dspA_cons ?_ ?_ | refine dsp_tup ?_ ?_ | refine dsp_lst' ?_ | refine n_cons ?_ ?_ | exact n_nil | exact v_c | exact v_var rfl | refine v_tup ?_ | refine dspl_lst ?_ ?_ | refine dspl_cat ?_ ?_ ?_ | exact dspl_var rfl (by assumption) (by assumption) | exact Nat.le_of_ble_eq_true rfl))
local macro_rules | `(tactic| walk_at "each") => `(tactic| repeat' (first | exact forall_nil | refine List.forall_mem_append.mpr ⟨?_, ?_⟩ | refine List.forall_mem_cons.mpr ⟨?_, ?_⟩))
section
variable {P : Program} {w : World} {K : PySem.W.Frag} {mg : Str → Option Value} {base : Heap}
/-! a list of names -/
def NL (H : Hp) (l : Addr) : Prop := ∃ xs : List Str, H l = some (.lst (xs.map V.str)) ∧ 0 < xs.length ∧ xs.length ≤ 100 ∧ ∀ x ∈ xs, isNameB x = true
theorem NL.keep {H H' : Hp} {a l : Addr} (h : NL H l) (k : Keep a H H') (n : l ≠ a) : NL H' l := let ⟨xs, e, r⟩ := h; ⟨xs, k _ _ n e, r⟩
theorem NL.same {H H' : Hp} {l : Addr} (h : NL H l) (k : Same H H') : NL H' l := let ⟨xs, e, r⟩ := h; ⟨xs, k _ _ e, r⟩
/-- pick of a list of names -/
theorem pick_name {H : Hp} {a l : Addr} {n : Int} {Q : VK} (hH : Hand H a n) (hn : n < 2 ^ 40) (hl : NL H l) (hla : l ≠ a) (q : ∀ x H', isNameB x = true → Hand H' a (n + 1) → Keep a H H' → Q (.str x) H') : spPick K [.ref a, .ref l] H Q E0 := by
  obtain ⟨xs, e, x0, x1, hx⟩ := hl
  refine ⟨a, n, hH, hn, .inl ⟨l, _, rfl, hla, SqL.of e, by rw [List.length_map]; exact x0, by rw [List.length_map]; omega, fun v H' hv hH' k' => ?_⟩⟩
  obtain ⟨x, hxx, rfl⟩ := List.mem_map.mp hv
  exact q x H' (hx x hxx) hH' k'
theorem name_short {x : Str} (h : isNameB x = true) : x.length ≤ 1000 := by
  unfold isNameB at h
  simp only [Bool.and_eq_true, decide_eq_true_eq] at h
  omega
theorem plain_name {y x : Str} (hy : y ∈ namingL) (hx : isNameB x = true) : isPlainB (.tup [.str y, .str x]) = true := by
  have h1 : ¬ y = "long" := by
    intro z
    subst z
    revert hy
    decide +kernel
  have h2 : (namingL.any fun z => decide (z = y)) = true := List.any_eq_true.mpr ⟨y, hy, decide_eq_true rfl⟩
  rw [plain_eq, if_neg h1, h2, nameD_eq, hx]; rfl
theorem plain_cond {d : D} (h : isPlainB d = true) : isCondB d = true := by
  obtain ⟨x, e, rfl⟩ := plain_form d h
  by_cases hx : x = "not"
  · subst hx; rw [plain_not] at h; cases h
  · rw [cond_eq, if_neg hx]; exact h
theorem plain_asks {d : D} (h : isPlainB d = true) (ha : asks0 d = false) : asksB d = false := by
  obtain ⟨x, e, rfl⟩ := plain_form d h
  by_cases hx : x = "not"
  · subst hx; rw [plain_not] at h; cases h
  · show (if x = "not" then asks0 e else decide (x = "to")) = false
    rw [if_neg hx]; exact ha
def spCond : Sp := fun vs H Q _ => ∃ (a h m : Addr) (n : Int) (to : Bool), vs = [.ref a, .ref h, .ref m, .bl to] ∧ Hand H a n ∧ n < 2 ^ 39 ∧ NL H h ∧ NL H m ∧ h ≠ a ∧ m ≠ a ∧ ∀ v d H', Rep H' v d → isCondB d = true → (to = false → asksB d = false) → Hand H' a (n + 4) → Keep a H H' → Q v H'
theorem ok_cond (Y : Ev K mg) : FnOk P w K mg base CX0 3 Y.a__law_cond Y.d__law_cond p__law_cond spCond := by
  have G__law_take : FnOk P w K mg base CX0 1 Y.a__law_take Y.d__law_take p__law_take spTake := ok_take Y
  have G__law_pick : FnOk P w K mg base CX0 2 Y.a__law_pick Y.d__law_pick p__law_pick (spPick K) := ok_pick Y
  refine Y._law_cond.fn.okQ c__law_cond (fun vs H Q E h => ?_) (fun cdv A outer s H vs Q E hr h => ?_)
  · obtain ⟨a, h, m, n, to, rfl, _⟩ := h; rfl
  · obtain ⟨a, h, m, n, to, rfl, hH, hn, hh, hm, nh, nm, q⟩ := h
    refine ⟨_, (b_cons (s_set 4 c__law_cond.nd (q_call G__law_take (hr.mono (by decide)) Y._law_take.mg Y._law_take.kp Y._law_take.b .nil pass0 (a_cons (qv 0) (a_cons (q_op op_add q_int (q_callTy call_int1 Y.int bt_int (a_cons (qv 3) a_nil))) a_nil))))
      (b_cons (s_set 5 c__law_cond.nd (q_tup (a_cons q_str (a_cons (q_call G__law_pick (hr.mono (by decide)) Y._law_pick.mg Y._law_pick.kp Y._law_pick.b .nil pass0 (a_cons (qv 0) (a_cons (qv 1) a_nil))) a_nil))))
      (b_cut (s_if (t_w (w_or (t_cmp op_eq (qv 4) q_int) (w_or1 (t_cmp op_eq (qv 4) q_int)))) (b_one (s_set 5 c__law_cond.nd (q_tup (a_cons q_str (a_cons (q_call G__law_pick (hr.mono (by decide)) Y._law_pick.mg Y._law_pick.kp Y._law_pick.b .nil pass0 (a_cons (qv 0) (a_cons (qv 1) a_nil))) a_nil))))) (b_one (s_if (t_cmp op_eq (qv 4) q_int) (b_one (s_set 5 c__law_cond.nd (q_tup (a_cons q_str (a_cons (q_call G__law_pick (hr.mono (by decide)) Y._law_pick.mg Y._law_pick.kp Y._law_pick.b .nil pass0 (a_cons (qv 0) (a_cons (q_lstC [V.int 0, V.int 1, V.int 2, V.int 3, V.int 4, V.int 6, V.int 9, V.int 99] (by decide +kernel)) a_nil))) a_nil))))) (b_one (s_if (t_cmp op_eq (qv 4) q_int) (b_one (s_set 5 c__law_cond.nd (q_tup (a_cons q_str (a_cons (q_call G__law_pick (hr.mono (by decide)) Y._law_pick.mg Y._law_pick.kp Y._law_pick.b .nil pass0 (a_cons (qv 0) (a_cons (qv 2) a_nil))) a_nil))))) (b_one (s_if (t_cmp op_eq (qv 4) q_int) (b_one (s_set 5 c__law_cond.nd (q_tup (a_cons q_str (a_cons (q_call G__law_pick (hr.mono (by decide)) Y._law_pick.mg Y._law_pick.kp Y._law_pick.b .nil pass0 (a_cons (qv 0) (a_cons (qv 1) a_nil))) a_nil))))) b_nil)))))))
      (b_cut (s_if (t_cmp op_eq (q_call G__law_take (hr.mono (by decide)) Y._law_take.mg Y._law_take.kp Y._law_take.b .nil pass0 (a_cons (qv 0) (a_cons q_int a_nil))) q_int) (b_one (s_set 5 c__law_cond.nd (q_tup (a_cons q_str (a_cons (qv 5) a_nil))))) b_nil)
      (b_one (s_ret (qv 5))))))), ?_⟩
    refine ⟨_, rfl, _, rfl, .inr ⟨to, rfl, _, _, rfl, rfl, a, _, n, rfl, hH, by omega, by split <;> omega, by split <;> omega, fun t H1 t0 t5 hH1 k1 => ?_⟩⟩
    refine ⟨_, rfl, _, rfl, pick_name hH1 (by omega) (hh.keep k1 nh) nh fun x H2 hx hH2 k2 => ⟨few rfl, fun p2 hp2 => ?_⟩⟩
    have mk2 : ∀ {H0 : Hp} {p : Addr} {y x : Str}, y.length ≤ 1000 → isNameB x = true → Rep (upd H0 p (.tup [.str y, .str x])) (.ref p) (.tup [.str y, .str x]) := fun hy hx => .mk2 upd_same (.str _ hy) (.str _ (name_short hx))
    have hh2 : NL (upd H2 p2 (.tup [.str "by", .str x])) h := ((hh.keep k1 nh).keep k2 nh).same (Same.new hp2)
    have hm2 : NL (upd H2 p2 (.tup [.str "by", .str x])) m := ((hm.keep k1 nm).keep k2 nm).same (Same.new hp2)
    have hH2' := hH2.new (o := .tup [.str "by", .str x]) hp2
    have kp2 : Keep a H (upd H2 p2 (.tup [.str "by", .str x])) := (k1.trans k2).trans (Keep.new hp2)
    refine ⟨fun σ' H' => ∃ v d, σ' = [some (.ref a), some (.ref h), some (.ref m), some (.bl to), some (.int t), some v] ∧ Rep H' v d ∧ isPlainB d = true ∧ (to = false → asks0 d = false) ∧ Hand H' a (n + 3) ∧ Keep a H H', ?_, ?_⟩
    · have ap : ∀ {y x : Str}, ¬ y = "to" → asks0 (.tup [.str y, .str x]) = false := fun h => decide_eq_false h
      have br : ∀ {y : Str}, y.length ≤ 1000 → y ∈ namingL → ¬ y = "to" → ∀ (l : Addr), l ≠ a → NL (upd H2 p2 (.tup [.str "by", .str x])) l → ∀ R : V → Hp → Prop, (∀ v d H', Rep H' v d → isPlainB d = true → (to = false → asks0 d = false) → Hand H' a (n + 3) → Keep a H H' → R v H') →
          spPick K [.ref a, .ref l] (upd H2 p2 (.tup [.str "by", .str x])) (fun v H3 => [V.str y, v].length ≤ sizeLine ∧ ∀ p, H3 p = none → R (.ref p) (upd H3 p (.tup [V.str y, v]))) E0 := by
        intro y hy hyn hyt l nl hl R hR
        refine pick_name hH2' (by omega) hl nl fun x3 H3 hx3 hH3 k3 => ⟨few rfl, fun p3 hp3 => ?_⟩
        exact hR _ _ _ (mk2 hy hx3) (plain_name hyn hx3) (fun _ => ap hyt) ((hH3.new hp3).mono (by omega)) ((kp2.trans k3).trans (Keep.new hp3))
      have fin : ∀ v d H', Rep H' v d → isPlainB d = true → (to = false → asks0 d = false) → Hand H' a (n + 3) → Keep a H H' → (fun (v : V) (H' : Hp) => ∃ v0 d, [some (V.ref a), some (.ref h), some (.ref m), some (.bl to), some (.int t), some v] = [some (.ref a), some (.ref h), some (.ref m), some (.bl to), some (.int t), some v0] ∧ Rep H' v0 d ∧ isPlainB d = true ∧ (to = false → asks0 d = false) ∧ Hand H' a (n + 3) ∧ Keep a H H') v H' :=
        fun v d H' h1 h2 h3 h4 h5 => ⟨v, d, rfl, h1, h2, h3, h4, h5⟩
      refine ⟨_, rfl, rfl, _, rfl, ite2 (fun _ => ?_) (fun _ => ⟨_, rfl, rfl, _, rfl, ite2 (fun _ => ?_) (fun _ => ?_)⟩)⟩
      · exact ⟨_, rfl, _, rfl, br (by decide) (by decide) (by decide +kernel) h nh hh2 _ fin⟩
      · exact ⟨_, rfl, _, rfl, br (by decide) (by decide) (by decide +kernel) h nh hh2 _ fin⟩
      refine ⟨_, rfl, rfl, _, rfl, ite2 (fun _ => ?_) (fun _ => ⟨_, rfl, rfl, _, rfl, ite2 (fun _ => ?_) (fun _ => ⟨_, rfl, rfl, _, rfl, ite2 (fun h5 => ?_) (fun _ => ?_)⟩)⟩)⟩
      · refine ⟨_, rfl, by decide, fun pl hpl => ⟨a, n + 2, (hH2'.mono (by omega)).new hpl, by omega, .inl ⟨pl, _, rfl, hH2'.ne hpl, SqL.of upd_same, by decide, by decide, fun v H3 hv hH3 k3 => ⟨few rfl, fun p3 hp3 => ?_⟩⟩⟩⟩
        have hk : ∃ j : Int, v = .int j ∧ 0 ≤ j ∧ j ≤ 99 := by
          simp only [List.mem_cons, List.not_mem_nil, or_false] at hv
          rcases hv with rfl | rfl | rfl | rfl | rfl | rfl | rfl | rfl <;> exact ⟨_, rfl, by decide, by decide⟩
        obtain ⟨j, rfl, j0, j9⟩ := hk
        refine fin _ (.tup [.str "long", .int j]) _ (.mk2 upd_same (.str _ (by decide)) (.int _)) ?_ (fun _ => (by decide +kernel : decide (("long" : Str) = "to") = false)) ((hH3.new hp3).mono (by omega)) ((kp2.trans ((Keep.new hpl).trans k3)).trans (Keep.new hp3))
        rw [plain_eq, if_pos rfl]
        show (decide (0 ≤ j) && decide (j ≤ 99)) = true
        rw [decide_eq_true j0, decide_eq_true j9]; rfl
      · exact ⟨_, rfl, _, rfl, br (by decide) (by decide) (by decide +kernel) m nm hm2 _ fin⟩
      · refine ⟨_, rfl, _, rfl, pick_name hH2' (by omega) hh2 nh fun x3 H3 hx3 hH3 k3 => ⟨few rfl, fun p3 hp3 => ?_⟩⟩
        refine fin _ _ _ (mk2 (by decide) hx3) (plain_name (by decide) hx3) (fun z => ?_) ((hH3.new hp3).mono (by omega)) ((kp2.trans k3).trans (Keep.new hp3))
        subst z
        have e5 : t = 5 := V.int.inj (of_decide_eq_true h5)
        simp at t5
        omega
      · exact fin _ _ _ (mk2 (by decide) hx) (plain_name (by decide) hx) (fun _ => ap (by decide +kernel)) (hH2'.mono (by omega)) kp2
    · rintro σ' H3 ⟨v, d, rfl, hv, hd, hto, hH3, k3⟩
      refine ⟨fun σ' H' => ∃ v d, σ' = [some (.ref a), some (.ref h), some (.ref m), some (.bl to), some (.int t), some v] ∧ Rep H' v d ∧ isCondB d = true ∧ (to = false → asksB d = false) ∧ Hand H' a (n + 4) ∧ Keep a H H', ?_, ?_⟩
      · refine ⟨_, rfl, a, 4, n + 3, rfl, hH3, by omega, by decide, by decide, fun d4 H4 _ _ hH4 k4 => ⟨rfl, _, rfl, ite2 (fun _ => ?_) (fun _ => ?_)⟩⟩
        · have hv4 := hv.mono (Mono.keep k4 hH3 hH4)
          refine ⟨_, rfl, few rfl, fun p5 hp5 => ⟨_, .tup [.str "not", d], rfl, .mk2 upd_same (.str _ (by decide)) (hv4.mono (.new hp5)), ?_, ?_, (hH4.new hp5).mono (by omega), (k3.trans k4).trans (Keep.new hp5)⟩⟩
          · rw [cond_eq, if_pos rfl]; exact hd
          · exact fun z => hto z
        · refine ⟨_, d, rfl, hv.mono (Mono.keep k4 hH3 hH4), plain_cond hd, fun z => plain_asks hd (hto z), hH4.mono (by omega), k3.trans k4⟩
      · rintro σ' H4 ⟨v, d, rfl, hv, hd, hto, hH4, k4⟩
        exact ⟨_, rfl, q v d H4 hv hd hto hH4 k4⟩

end
end K05

set_option Elab.async false
set_option linter.all false
set_option maxRecDepth 100000
set_option maxHeartbeats 4000000
namespace K05
open PySem PySem.Spec PyProof.Rows L2 RW
local macro_rules | `(tactic| walk_at "cond") => `(tactic| first | assumption | decide | omega | exact few rfl | exact .inl ⟨by decide, by decide⟩ | exact .inr ⟨by decide, by decide⟩ | exact .inl ⟨by omega, by omega⟩ | exact .inr ⟨by omega, by omega⟩ | exact ⟨by omega, by omega⟩ | exact ⟨by assumption, by assumption⟩ | exact ⟨by decide, by decide, by decide⟩ | exact .inr ⟨by split <;> decide, by split <;> decide⟩)
local macro_rules | `(tactic| walk_at "rd") => `(tactic| first | with_reducible_and_instances refine ⟨_, rfl, ?_⟩ | refine ⟨_, rfl, ?_⟩ | refine ⟨_, _, rfl, rfl, ?_⟩ | refine ⟨_, _, _, _, rfl, rfl, SqL.of (by assumption), rfl, ?_⟩ | refine ⟨_, _, _, _, rfl, rfl, (by assumption), rfl, ?_⟩ | refine .inl ⟨_, rfl, ?_⟩ | refine .inr ⟨_, rfl, ?_⟩ | refine .inl ⟨_, _, rfl, .inl (by assumption), ?_⟩ | refine ⟨(by walk_at "cond"), ?_⟩)
local macro_rules | `(tactic| walk_at "dsp") => `(tactic| repeat' (first | exact dsp_str (by decide) | exact dsp_int | exact dsp_bl | exact dsp_non | exact dsp_neg | exact dspA_nil | exact dsp_dnew | exact dsp_disp rfl | exact dsp_var rfl (by assumption) | refine dspA_cons ?_ ?_ | refine dsp_tup ?_ ?_ | refine dsp_lst' ?_ | refine n_cons ?_ ?_ | exact n_nil | exact v_c | exact v_var rfl | refine v_tup ?_ | refine dspl_lst ?_ ?_ | refine dspl_cat ?_ ?_ ?_ | exact dspl_var rfl (by assumption) (by assumption) | exact Nat.le_of_ble_eq_true rfl))
local macro_rules | `(tactic| walk_at "each") => `(tactic| repeat' (first | exact forall_nil | refine List.forall_mem_append.mpr ⟨?_, ?_⟩ | refine List.forall_mem_cons.mpr ⟨?_, ?_⟩))
section
variable {P : Program} {w : World} {K : PySem.W.Frag} {mg : Str → Option Value} {base : Heap}
theorem conds_mk {ds : List D} (hl : ds.length ≤ 4) (h : ∀ d ∈ ds, isCondB d = true) : areCondsB (.tup ds) = true := by
  rw [conds_eq, decide_eq_true hl, List.all_eq_true.mpr h]; rfl
theorem getD_mem {α : Type} {P : α → Prop} {ds : List α} (h : ∀ (i : Nat) (d : α), ds[i]? = some d → P d) : ∀ d ∈ ds, P d := fun d hd => by
  obtain ⟨i, hi, e⟩ := List.getElem_of_mem hd
  exact h i d (by rw [List.getElem?_eq_getElem hi, e])
def spConds : Sp := fun vs H Q _ => ∃ (a h m : Addr) (n : Int) (to : Bool), vs = [.ref a, .ref h, .ref m, .bl to] ∧ Hand H a n ∧ n < 2 ^ 38 ∧ NL H h ∧ NL H m ∧ h ≠ a ∧ m ≠ a ∧ ∀ v ds H', Rep H' v (.tup ds) → ds.length ≤ 4 → (∀ d ∈ ds, isCondB d = true) → (to = false → ∀ d ∈ ds, asksB d = false) → Hand H' a (n + 17) → Keep a H H' → Q v H'
theorem ok_conds (Y : Ev K mg) : FnOk P w K mg base CX0 4 Y.a__law_conds Y.d__law_conds p__law_conds spConds := by
  have G__law_pick : FnOk P w K mg base CX0 2 Y.a__law_pick Y.d__law_pick p__law_pick (spPick K) := ok_pick Y
  have G__law_cond : FnOk P w K mg base CX0 3 Y.a__law_cond Y.d__law_cond p__law_cond spCond := ok_cond Y
  refine Y._law_conds.fn.okQ c__law_conds (fun vs H Q E h => ?_) (fun cdv A outer s H vs Q E hr h => ?_)
  · obtain ⟨a, h, m, n, to, rfl, _⟩ := h; rfl
  · obtain ⟨a, h, m, n, to, rfl, hH, hn, hh, hm, nh, nm, q⟩ := h
    refine ⟨_, (b_cons (s_set 4 c__law_conds.nd (q_call G__law_pick (hr.mono (by decide)) Y._law_pick.mg Y._law_pick.kp Y._law_pick.b .nil pass0 (a_cons (qc 0) (a_cons (q_lstC [V.int 1, V.int 1, V.int 1, V.int 2, V.int 0, V.int 4] (by decide +kernel)) a_nil))))
      (b_one (s_ret (q_callTy call_tuple_of Y.tuple bt_tuple (a_cons (q_comp (src := [none, some 0, some 1, some 2, some 3]) o__law_conds_1 rfl rfl (i_rng1 Y.range (a_cons (qv 4) a_nil)) (fun _ _ _ _ _ => (g_name 0 o__law_conds_1.nd)) (fun _ _ _ _ _ => f_nil) (fun _ _ _ _ _ => (q_call G__law_cond (hr.mono (by decide)) Y._law_cond.mg Y._law_cond.kp Y._law_cond.b .nil pass0 (a_cons (qc 1) (a_cons (qc 2) (a_cons (qc 3) (a_cons (qc 4) a_nil))))))) a_nil))))), ?_⟩
    refine ⟨_, rfl, by decide, fun pl hpl => ⟨a, n, hH.new hpl, by omega, .inl ⟨pl, _, rfl, hH.ne hpl, SqL.of upd_same, by decide, by decide, fun v H1 hv hH1 k1 => ?_⟩⟩⟩
    obtain ⟨c, rfl, c4⟩ : ∃ c : Nat, v = .int (c : Int) ∧ c ≤ 4 := by
      simp only [List.mem_cons, List.not_mem_nil, or_false] at hv
      rcases hv with rfl | rfl | rfl | rfl | rfl | rfl
      · exact ⟨1, rfl, by decide⟩
      · exact ⟨1, rfl, by decide⟩
      · exact ⟨1, rfl, by decide⟩
      · exact ⟨2, rfl, by decide⟩
      · exact ⟨0, rfl, by decide⟩
      · exact ⟨4, rfl, by decide⟩
    have kp1 : Keep a H H1 := (Keep.new hpl).trans k1
    have hh1 := (hh.same (Same.new (o := .lst [V.int 1, V.int 1, V.int 1, V.int 2, V.int 0, V.int 4]) hpl)).keep k1 nh
    have hm1 := (hm.same (Same.new (o := .lst [V.int 1, V.int 1, V.int 1, V.int 2, V.int 0, V.int 4]) hpl)).keep k1 nm
    refine ⟨_, rfl, c, rfl, by omega, by omega, ?_⟩
    rw [Int.toNat_natCast]
    refine comp_draws (a := a) (m := n + 1) (c := 4) (Pd := fun _ d => isCondB d = true ∧ (to = false → asksB d = false)) (σr := [some (.ref a), some (.ref h), some (.ref m), some (.bl to)]) rfl hH1 (by omega) (by decide) (fun j H2 Q1 hj hH2 k2 q1 => ?_) (fun l vs ds H2 hl hl2 r2 hds pd hH2 k2 => ?_)
    · exact ⟨_, rfl, _, rfl, _, rfl, _, rfl, a, h, m, _, to, rfl, hH2, by omega, hh1.keep k2 nh, hm1.keep k2 nm, nh, nm, fun v d H3 rv hc ht hH3 k3 => q1 v d H3 rv ⟨hc, ht⟩ hH3 k3⟩
    · refine ⟨l, vs, rfl, .inl ⟨SqL.of hl2, fun p hp => ?_⟩⟩
      have pd' := getD_mem (P := fun d => isCondB d = true ∧ (to = false → asksB d = false)) pd
      exact q _ ds _ (.mkL upd_same (by omega) (r2.mono (.new hp))) (by omega) (fun d hd => (pd' d hd).1) (fun z d hd => (pd' d hd).2 z) ((hH2.new hp).mono (by omega)) ((kp1.trans k2).trans (Keep.new hp))
/-- a row of rules drawn into a list -/
def Rules (g : D → Bool) (H' : Hp) (ls : Addr) (i : Nat) : Prop := ∃ (zs : List V) (ds : List D), H' ls = some (.lst zs) ∧ RepL H' zs ds ∧ ds.length = i ∧ ∀ d ∈ ds, g d = true
def spRules (g : D → Bool) : Sp := fun vs H Q _ => ∃ (a h m : Addr) (n : Int), vs = [.ref a, .ref h, .ref m] ∧ Hand H a n ∧ n < 2 ^ 37 ∧ NL H h ∧ NL H m ∧ h ≠ a ∧ m ≠ a ∧ ∀ v ds H', Rep H' v (.tup ds) → ds.length ≤ 12 → (∀ d ∈ ds, g d = true) → Hand H' a (n + 400) → Keep a H H' → Q v H'
theorem liking_mk {ds : List D} {x : D} (hl : ds.length ≤ 4) (h : ∀ d ∈ ds, isCondB d = true) (ha : ∀ d ∈ ds, asksB d = false) (hx : isWorthB x = true) : isLikingB (.tup [.tup ds, x]) = true := by
  rw [liking_eq, conds_mk hl h, hx]
  have : anyAsks (.tup ds) = false := by
    show ds.any asksB = false
    rw [List.any_eq_false]
    exact fun d hd z => by rw [ha d hd] at z; cases z
  rw [this]; rfl
theorem ok_likings (Y : Ev K mg) : FnOk P w K mg base CX0 5 Y.a__law_likings Y.d__law_likings p__law_likings (spRules isLikingB) := by
  have G__law_take : FnOk P w K mg base CX0 1 Y.a__law_take Y.d__law_take p__law_take spTake := ok_take Y
  have G__law_pick : FnOk P w K mg base CX0 2 Y.a__law_pick Y.d__law_pick p__law_pick (spPick K) := ok_pick Y
  have G__law_conds : FnOk P w K mg base CX0 4 Y.a__law_conds Y.d__law_conds p__law_conds spConds := ok_conds Y
  refine Y._law_likings.fn.okQ c__law_likings (fun vs H Q E h => ?_) (fun cdv A outer s H vs Q E hr h => ?_)
  · obtain ⟨a, h, m, n, rfl, _⟩ := h; rfl
  · obtain ⟨a, h, m, n, rfl, hH, hn, hh, hm, nh, nm, q⟩ := h
    refine ⟨_, (b_cons (s_set 3 c__law_likings.nd (q_lst a_nil))
      (b_cons (s_for PassesOwn.never rfl (i_rng1 Y.range (a_cons (q_op op_add (q_call G__law_take (hr.mono (by decide)) Y._law_take.mg Y._law_take.kp Y._law_take.b .nil pass0 (a_cons (qv 0) (a_cons q_int a_nil))) (q_ix ix_list (q_lstC [V.int 0, V.int 0, V.int 0, V.int 0, V.int 0, V.int 0, V.int 0, V.int 9] (by decide +kernel)) (q_call G__law_take (hr.mono (by decide)) Y._law_take.mg Y._law_take.kp Y._law_take.b .nil pass0 (a_cons (qv 0) (a_cons q_int a_nil))))) a_nil)) (g_name 4 c__law_likings.nd) (b_cons (s_set 5 c__law_likings.nd (q_call G__law_pick (hr.mono (by decide)) Y._law_pick.mg Y._law_pick.kp Y._law_pick.b .nil pass0 (a_cons (qv 0) (a_cons (q_lst (a_cons q_int (a_cons q_int (a_cons q_int (a_cons (q_un un_neg q_int) (a_cons q_int (a_cons q_int (a_cons (q_un un_neg q_int) (a_cons q_non a_nil))))))))) a_nil))))
      (b_one (s_expr (q_bm PySem.F.plainAttrs_list PySem.F.slot_list_append PySem.F.type_list_append mt_append (qv 3) (a_cons (q_tup (a_cons (q_call G__law_conds (hr.mono (by decide)) Y._law_conds.mg Y._law_conds.kp Y._law_conds.b .nil pass0 (a_cons (qv 0) (a_cons (qv 1) (a_cons (qv 2) (a_cons q_bl a_nil))))) (a_cons (qv 5) a_nil))) a_nil))))))
      (b_one (s_ret (q_callTy call_tuple_of Y.tuple bt_tuple (a_cons (qv 3) a_nil)))))), ?_⟩
    refine ⟨few rfl, fun ls hls => ?_⟩
    have nls := hH.ne hls
    refine ⟨_, rfl, a, 4, n, rfl, hH.new hls, by omega, by decide, by decide, fun t H1 t0 t4 hH1 k1 => ⟨by decide, fun pk hpk => ⟨_, rfl, a, 8, n + 1, rfl, hH1.new hpk, by omega, by decide, by decide, fun u H2 u0 u8 hH2 k2 => ?_⟩⟩⟩
    have hk2 : H2 pk = some (.lst [V.int 0, V.int 0, V.int 0, V.int 0, V.int 0, V.int 0, V.int 0, V.int 9]) := k2 _ _ (hH1.ne hpk) upd_same
    obtain ⟨v, ev, hv⟩ := atI_mem (xs := [V.int 0, V.int 0, V.int 0, V.int 0, V.int 0, V.int 0, V.int 0, V.int 9]) u0 u8
    obtain ⟨c, rfl, c0, c9⟩ : ∃ c : Int, v = .int c ∧ 0 ≤ c ∧ c ≤ 9 := by
      simp only [List.mem_cons, List.not_mem_nil, or_false] at hv
      rcases hv with rfl | rfl | rfl | rfl | rfl | rfl | rfl | rfl <;> exact ⟨_, rfl, by decide, by decide⟩
    have hl1 : H1 ls = some (.lst []) := k1 _ _ nls upd_same
    have hl2 : H2 ls = some (.lst []) := k2 _ _ nls (by rw [upd_ne (ne_of_none hl1 hpk)]; exact hl1)
    have kp2 : Keep a H H2 := ((Keep.new hls).trans k1).trans ((Keep.new hpk).trans k2)
    refine ⟨pk, _, _, _, rfl, rfl, SqL.of hk2, ev, _, _, rfl, rfl, _, rfl, by omega, by omega, ?_⟩
    have hN : (t + c).toNat ≤ 12 := by omega
    generalize (t + c).toNat = N at *
    refine for_by wk_rng (fun i σ' H' => (∃ o1 o2, σ' = [some (.ref a), some (.ref h), some (.ref m), some (.ref ls), o1, o2]) ∧ Rules isLikingB H' ls i ∧ Hand H' a (n + 2 + 18 * i) ∧ Keep a H H') ?_ (fun _ _ _ _ => trivial) ?_ ?_
    · exact ⟨⟨_, _, rfl⟩, ⟨[], [], hl2, RepL.nil, rfl, fun _ z => nomatch z⟩, hH2.mono (by omega), kp2⟩
    · rintro i y σ' H3 hi rfl ⟨⟨o1, o2, rfl⟩, ⟨zs, ds, hz, rz, hdl, hds⟩, hH3, k3⟩
      have rz1 := rz.1
      refine ⟨_, rfl, cons_L (ds := [.int 5, .int 5, .int 1, .int (-3), .int 0, .int 999, .int (-999), .non]) (by walk_at "dsp") fun l4 vs4 H4 s4 e4 r4 => ?_⟩
      refine ⟨a, _, hH3.same s4, by omega, .inl ⟨l4, _, rfl, hand_three (hH3.same s4) e4 r4 (by decide), SqL.of e4, by rw [r4.1]; decide, by rw [r4.1]; decide, fun v H5 hv hH5 k5 => ?_⟩⟩
      obtain ⟨dn, rn, hw⟩ : ∃ dn, Rep H5 v dn ∧ isWorthB dn = true := by
        obtain ⟨j, hj, ej⟩ := List.getElem_of_mem hv
        obtain ⟨d, hd, rd⟩ := r4.get (i := j) (v := v) (by rw [List.getElem?_eq_getElem hj, ej])
        refine ⟨d, rd.mono (.keep k5 (hH3.same s4) hH5), ?_⟩
        have key : ∀ d ∈ ([.int 5, .int 5, .int 1, .int (-3), .int 0, .int 999, .int (-999), .non] : List D), isWorthB d = true := by walk_at "each" <;> decide
        exact key d (List.mem_of_getElem? hd)
      have k35 : Keep a H3 H5 := (Keep.of s4).trans k5
      have hz5 := k35 _ _ nls hz
      have hh5 := (hh.keep k3 nh).keep k35 nh
      have hm5 := (hm.keep k3 nm).keep k35 nm
      refine ⟨_, rfl, .inl ⟨rfl, _, SqL.of hz5⟩, _, rfl, _, rfl, _, rfl, a, h, m, _, false, rfl, hH5, by omega, hh5, hm5, nh, nm, fun vc dc H6 rc lc hc hto hH6 k6 => ⟨_, rfl, few rfl, fun p7 hp7 => ?_⟩⟩
      have m36 : Mono H3 H6 := (Mono.keep k35 hH3 hH5).trans (.keep k6 hH5 hH6)
      have hz7 : upd H6 p7 (.tup [vc, v]) ls = some (.lst zs) := by rw [upd_ne (ne_of_none (k6 _ _ nls hz5) hp7)]; exact k6 _ _ nls hz5
      refine ⟨ls, _, _, rfl, rfl, hz7, small1000 (by omega), ⟨_, _, rfl⟩, ⟨_, ds ++ [.tup [.tup dc, dn]], upd_same, ?_, ?_, ?_⟩, ?_, ?_⟩
      · exact RepL.mono (.append ((rz.mono m36).mono (.new hp7)) (.cons (.mk2 upd_same (rc.mono (.new hp7)) ((rn.mono (.keep k6 hH5 hH6)).mono (.new hp7))) .nil)) (.lset hz7)
      · rw [List.length_append, hdl]; rfl
      · intro d hd
        rcases List.mem_append.mp hd with hd | hd
        · exact hds d hd
        · rw [List.mem_singleton.mp hd]; exact liking_mk lc hc (hto rfl) hw
      · exact ((hH6.new hp7).updNe nls).mono (by rw [show ((i + 1 : Nat) : Int) = (i : Int) + 1 by omega]; omega)
      · exact Keep.updNew ((k3.trans (k35.trans k6)).trans (Keep.new hp7)) hls
    · rintro σ' H3 ⟨⟨o1, o2, rfl⟩, ⟨zs, ds, hz, rz, hdl, hds⟩, hH3, k3⟩
      refine ⟨_, rfl, ls, zs, rfl, .inl ⟨SqL.of hz, fun p hp => ?_⟩⟩
      exact q _ ds _ (.mkL upd_same (by omega) (rz.mono (.new hp))) (by omega) hds ((hH3.new hp).mono (by omega)) (k3.trans (Keep.new hp))
end
end K05

set_option Elab.async false
set_option linter.all false
set_option maxRecDepth 100000
set_option maxHeartbeats 4000000
namespace K05
open PySem PySem.Spec PyProof.Rows L2 RW
local macro_rules | `(tactic| walk_at "cond") => `(tactic| first | assumption | decide | omega | exact few rfl | exact .inl ⟨by decide, by decide⟩ | exact .inr ⟨by decide, by decide⟩ | exact .inl ⟨by omega, by omega⟩ | exact .inr ⟨by omega, by omega⟩ | exact ⟨by omega, by omega⟩ | exact ⟨by assumption, by assumption⟩ | exact ⟨by decide, by decide, by decide⟩ | exact .inr ⟨by split <;> decide, by split <;> decide⟩)
local macro_rules | `(tactic| walk_at "rd") => `(tactic| first | with_reducible_and_instances refine ⟨_, rfl, ?_⟩ | refine ⟨_, rfl, ?_⟩ | refine ⟨_, _, rfl, rfl, ?_⟩ | refine ⟨_, _, _, _, rfl, rfl, SqL.of (by assumption), rfl, ?_⟩ | refine ⟨_, _, _, _, rfl, rfl, (by assumption), rfl, ?_⟩ | refine .inl ⟨_, rfl, ?_⟩ | refine .inr ⟨_, rfl, ?_⟩ | refine .inl ⟨_, _, rfl, .inl (by assumption), ?_⟩ | refine ⟨(by walk_at "cond"), ?_⟩)
local macro_rules | `(tactic| walk_at "dsp") => `(tactic| repeat' (first | exact dsp_str (by decide) | exact dsp_int | exact dsp_bl | exact dsp_non | exact dsp_neg | exact dspA_nil | exact dsp_dnew | exact dsp_disp rfl | exact dsp_var rfl (by assumption) | refine dspA_cons ?_ ?_ | refine dsp_tup ?_ ?_ | refine dsp_lst' ?_ | refine n_cons ?_ ?_ | exact n_nil | exact v_c | exact v_var rfl | refine v_tup ?_ | refine dspl_lst ?_ ?_ | refine dspl_cat ?_ ?_ ?_ | exact dspl_var rfl (by assumption) (by assumption) | exact Nat.le_of_ble_eq_true rfl))
local macro_rules | `(tactic| walk_at "each") => `(tactic| repeat' (first | exact forall_nil | refine List.forall_mem_append.mpr ⟨?_, ?_⟩ | refine List.forall_mem_cons.mpr ⟨?_, ?_⟩))
section
variable {P : Program} {w : World} {K : PySem.W.Frag} {mg : Str → Option Value} {base : Heap}
theorem hand_mk {ds : List D} {x : D} (hl : ds.length ≤ 4) (h : ∀ d ∈ ds, isCondB d = true) (hx : isActB x = true) : isHandB (.tup [.tup ds, x]) = true := by
  rw [hand_eq, conds_mk hl h, hx]; rfl
theorem act_ok {y x : Str} (hx : isNameB x = true) (hy : y = "put" ∨ y = "strike") : isActB (.tup [.str y, .str x]) = true := by
  rw [act_eq, nameD_eq, hx]
  rcases hy with rfl | rfl <;> decide +kernel
theorem ok_hands (Y : Ev K mg) : FnOk P w K mg base CX0 5 Y.a__law_hands Y.d__law_hands p__law_hands (spRules isHandB) := by
  have G__law_take : FnOk P w K mg base CX0 1 Y.a__law_take Y.d__law_take p__law_take spTake := ok_take Y
  have G__law_pick : FnOk P w K mg base CX0 2 Y.a__law_pick Y.d__law_pick p__law_pick (spPick K) := ok_pick Y
  have G__law_conds : FnOk P w K mg base CX0 4 Y.a__law_conds Y.d__law_conds p__law_conds spConds := ok_conds Y
  refine Y._law_hands.fn.okQ c__law_hands (fun vs H Q E h => ?_) (fun cdv A outer s H vs Q E hr h => ?_)
  · obtain ⟨a, h, m, n, rfl, _⟩ := h; rfl
  · obtain ⟨a, h, m, n, rfl, hH, hn, hh, hm, nh, nm, q⟩ := h
    refine ⟨_, (b_cons (s_set 3 c__law_hands.nd (q_lst a_nil))
      (b_cons (s_for PassesOwn.never rfl (i_rng1 Y.range (a_cons (q_op op_add (q_call G__law_pick (hr.mono (by decide)) Y._law_pick.mg Y._law_pick.kp Y._law_pick.b .nil pass0 (a_cons (qv 0) (a_cons (q_lstC [V.int 0, V.int 1, V.int 2, V.int 4] (by decide +kernel)) a_nil))) (q_op op_mul q_int (q_callTy call_int1 Y.int bt_int (a_cons (q_cmp op_eq (q_call G__law_take (hr.mono (by decide)) Y._law_take.mg Y._law_take.kp Y._law_take.b .nil pass0 (a_cons (qv 0) (a_cons q_int a_nil))) q_int) a_nil)))) a_nil)) (g_name 4 c__law_hands.nd) (b_cons (s_set 5 c__law_hands.nd (q_call G__law_pick (hr.mono (by decide)) Y._law_pick.mg Y._law_pick.kp Y._law_pick.b .nil pass0 (a_cons (qv 0) (a_cons (q_lst (a_cons (q_tup (a_cons q_str a_nil)) (a_cons (q_tup (a_cons q_str (a_cons (q_call G__law_pick (hr.mono (by decide)) Y._law_pick.mg Y._law_pick.kp Y._law_pick.b .nil pass0 (a_cons (qv 0) (a_cons (qv 2) a_nil))) a_nil))) (a_cons (q_tup (a_cons q_str (a_cons (q_call G__law_pick (hr.mono (by decide)) Y._law_pick.mg Y._law_pick.kp Y._law_pick.b .nil pass0 (a_cons (qv 0) (a_cons (qv 2) a_nil))) a_nil))) a_nil)))) a_nil))))
      (b_one (s_expr (q_bm PySem.F.plainAttrs_list PySem.F.slot_list_append PySem.F.type_list_append mt_append (qv 3) (a_cons (q_tup (a_cons (q_call G__law_conds (hr.mono (by decide)) Y._law_conds.mg Y._law_conds.kp Y._law_conds.b .nil pass0 (a_cons (qv 0) (a_cons (qv 1) (a_cons (qv 2) (a_cons q_bl a_nil))))) (a_cons (qv 5) a_nil))) a_nil))))))
      (b_one (s_ret (q_callTy call_tuple_of Y.tuple bt_tuple (a_cons (qv 3) a_nil)))))), ?_⟩
    refine ⟨few rfl, fun ls hls => ?_⟩
    have nls := hH.ne hls
    have hH0 := hH.new (o := .lst []) hls
    refine ⟨_, rfl, by decide, fun pk hpk => ⟨a, n, hH0.new hpk, by omega, .inl ⟨pk, _, rfl, hH0.ne hpk, SqL.of upd_same, by decide, by decide, fun v H1 hv hH1 k1 => ?_⟩⟩⟩
    obtain ⟨c, rfl, c0, c4⟩ : ∃ c : Int, v = .int c ∧ 0 ≤ c ∧ c ≤ 4 := by
      simp only [List.mem_cons, List.not_mem_nil, or_false] at hv
      rcases hv with rfl | rfl | rfl | rfl <;> exact ⟨_, rfl, by decide, by decide⟩
    refine ⟨_, rfl, a, 8, n + 1, rfl, hH1, by omega, by decide, by decide, fun u H2 u0 u8 hH2 k2 => ?_⟩
    have hl0 : upd H ls (.lst []) ls = some (.lst []) := upd_same
    have hl1 : H1 ls = some (.lst []) := k1 _ _ nls (by rw [upd_ne (ne_of_none hl0 hpk)]; exact hl0)
    have hl2 : H2 ls = some (.lst []) := k2 _ _ nls hl1
    have kp2 : Keep a H H2 := ((Keep.new hls).trans ((Keep.new hpk).trans k1)).trans k2
    refine ⟨rfl, .inr ⟨_, rfl, _, _, rfl, rfl, .inl ⟨by decide, by decide⟩, _, _, rfl, rfl, _, rfl, ?_, ?_, ?_⟩⟩
    · split <;> omega
    · split <;> omega
    have hN : (c + 8 * (if decide (V.int u = V.int 0) = true then (1 : Int) else 0)).toNat ≤ 12 := by split <;> omega
    generalize (c + 8 * (if decide (V.int u = V.int 0) = true then (1 : Int) else 0)).toNat = N at *
    refine for_by wk_rng (fun i σ' H' => (∃ o1 o2, σ' = [some (.ref a), some (.ref h), some (.ref m), some (.ref ls), o1, o2]) ∧ Rules isHandB H' ls i ∧ Hand H' a (n + 2 + 20 * i) ∧ Keep a H H') ?_ (fun _ _ _ _ => trivial) ?_ ?_
    · exact ⟨⟨_, _, rfl⟩, ⟨[], [], hl2, RepL.nil, rfl, fun _ z => nomatch z⟩, hH2.mono (by omega), kp2⟩
    · rintro i y σ' H3 hi rfl ⟨⟨o1, o2, rfl⟩, ⟨zs, ds, hz, rz, hdl, hds⟩, hH3, k3⟩
      have rz1 := rz.1
      refine ⟨_, rfl, few rfl, fun p1 hp1 => ?_⟩
      have S1 : Same H3 (upd H3 p1 (.tup [.str "keep"])) := Same.new hp1
      have hm3 := hm.keep k3 nm
      have hh3 := hh.keep k3 nh
      refine ⟨_, rfl, _, rfl, pick_name (hH3.new hp1) (by omega) (hm3.same S1) nm fun x H4 hx hH4 k4 => ⟨few rfl, fun p2 hp2 => ?_⟩⟩
      have S2 : Same H4 (upd H4 p2 (.tup [.str "put", .str x])) := Same.new hp2
      refine ⟨_, rfl, _, rfl, pick_name (hH4.new hp2) (by omega) (((hm3.same S1).keep k4 nm).same S2) nm fun y H5 hy hH5 k5 => ⟨few rfl, fun p3 hp3 => ⟨few rfl, fun p4 hp4 => ?_⟩⟩⟩
      have S3 : Same H5 (upd H5 p3 (.tup [.str "strike", .str y])) := Same.new hp3
      have S4 : Same (upd H5 p3 (.tup [.str "strike", .str y])) (upd (upd H5 p3 (.tup [.str "strike", .str y])) p4 (.lst [.ref p1, .ref p2, .ref p3])) := Same.new hp4
      have hH6 := (hH5.new (o := .tup [.str "strike", .str y]) hp3).new (o := .lst [.ref p1, .ref p2, .ref p3]) hp4
      refine ⟨a, _, hH6, by omega, .inl ⟨p4, _, rfl, Hand.ne (hH5.new hp3) hp4, SqL.of upd_same, (by decide : 0 < 3), (by decide : 3 < 1000), fun v H7 hv hH7 k7 => ?_⟩⟩
      have M2 : Mono (upd H3 p1 (.tup [.str "keep"])) H4 := Mono.keep k4 (hH3.new hp1) hH4
      have M3 := Mono.keep k5 (hH4.new hp2) hH5
      have M5 := Mono.keep k7 hH6 hH7
      have M45 := ((Mono.of S3).trans (Mono.of S4)).trans M5
      have k37 : Keep a H3 H7 := (((((Keep.of S1).trans k4).trans (Keep.of S2)).trans k5).trans ((Keep.of S3).trans (Keep.of S4))).trans k7
      obtain ⟨da, ra, haa⟩ : ∃ da, Rep H7 v da ∧ isActB da = true := by
        simp only [List.mem_cons, List.not_mem_nil, or_false] at hv
        rcases hv with rfl | rfl | rfl
        · exact ⟨.tup [.str "keep"], Rep.mono (.mk1 upd_same (.str _ (by decide))) (((M2.trans (.of S2)).trans M3).trans M45), by decide +kernel⟩
        · exact ⟨.tup [.str "put", .str x], Rep.mono (.mk2 upd_same (.str _ (by decide)) (.str _ (name_short hx))) (M3.trans M45), act_ok hx (.inl rfl)⟩
        · exact ⟨.tup [.str "strike", .str y], Rep.mono (.mk2 upd_same (.str _ (by decide)) (.str _ (name_short hy))) ((Mono.of S4).trans M5), act_ok hy (.inr rfl)⟩
      have hz7 := k37 _ _ nls hz
      refine ⟨_, rfl, .inl ⟨rfl, _, SqL.of hz7⟩, _, rfl, _, rfl, _, rfl, a, h, m, _, true, rfl, hH7, by omega, hh3.keep k37 nh, hm3.keep k37 nm, nh, nm, fun vc dc H8 rc lc hc hto hH8 k8 => ⟨_, rfl, few rfl, fun p9 hp9 => ?_⟩⟩
      have m38 : Mono H3 H8 := (Mono.keep k37 hH3 hH7).trans (.keep k8 hH7 hH8)
      have hz9 : upd H8 p9 (.tup [vc, v]) ls = some (.lst zs) := by rw [upd_ne (ne_of_none (k8 _ _ nls hz7) hp9)]; exact k8 _ _ nls hz7
      refine ⟨ls, _, _, rfl, rfl, hz9, small1000 (by omega), ⟨_, _, rfl⟩, ⟨_, ds ++ [.tup [.tup dc, da]], upd_same, ?_, ?_, ?_⟩, ?_, ?_⟩
      · exact RepL.mono (.append ((rz.mono m38).mono (.new hp9)) (.cons (.mk2 upd_same (rc.mono (.new hp9)) ((ra.mono (.keep k8 hH7 hH8)).mono (.new hp9))) .nil)) (.lset hz9)
      · rw [List.length_append, hdl]; rfl
      · intro d hd
        rcases List.mem_append.mp hd with hd | hd
        · exact hds d hd
        · rw [List.mem_singleton.mp hd]; exact hand_mk lc hc haa
      · exact ((hH8.new hp9).updNe nls).mono (by rw [show ((i + 1 : Nat) : Int) = (i : Int) + 1 by omega]; omega)
      · exact Keep.updNew ((k3.trans (k37.trans k8)).trans (Keep.new hp9)) hls
    · rintro σ' H3 ⟨⟨o1, o2, rfl⟩, ⟨zs, ds, hz, rz, hdl, hds⟩, hH3, k3⟩
      refine ⟨_, rfl, ls, zs, rfl, .inl ⟨SqL.of hz, fun p hp => ?_⟩⟩
      exact q _ ds _ (.mkL upd_same (by omega) (rz.mono (.new hp))) (by omega) hds ((hH3.new hp).mono (by omega)) (k3.trans (Keep.new hp))
/-! ties -/
/-- a dict of ties stands at d -/
def TD (H : Hp) (d : Addr) (xs : List Str) (c : Nat) : Prop := ∃ (kvs : List (List Key × V)) (ps : List (Str × Str)), H d = some (.dT kvs) ∧ kvs.map (·.1) = ps.map keyP ∧ ps.length ≤ c ∧ ∀ p ∈ ps, p.1 ∈ xs ∧ p.2 ∈ xs ∧ ltS p.1 p.2 = true
theorem putK_keys {kvs : List (List Key × V)} {k : List Key} {v : V} : (putK kvs k v).map (·.1) = kvs.map (·.1) ∨ (putK kvs k v).map (·.1) = kvs.map (·.1) ++ [k] := by
  unfold putK
  by_cases h : (kvs.any fun kv => decide (kv.1 = k)) = true
  · rw [if_pos h]
    refine .inl ?_
    rw [List.map_map]
    apply List.map_congr_left
    intro x _
    show (if x.1 = k then (x.1, v) else x).1 = x.1
    split <;> rfl
  · rw [if_neg h, List.map_append]
    exact .inr rfl
theorem TD.put {H : Hp} {d : Addr} {xs : List Str} {c : Nat} {p : Str × Str} {v : V} {kvs : List (List Key × V)} {ps : List (Str × Str)} (h1 : kvs.map (·.1) = ps.map keyP) (h2 : ps.length ≤ c) (h3 : ∀ p ∈ ps, p.1 ∈ xs ∧ p.2 ∈ xs ∧ ltS p.1 p.2 = true) (hp : p.1 ∈ xs ∧ p.2 ∈ xs ∧ ltS p.1 p.2 = true) :
    TD (upd H d (.dT (putK kvs (keyP p) v))) d xs (c + 1) := by
  rcases putK_keys (kvs := kvs) (k := keyP p) (v := v) with e | e
  · exact ⟨_, ps, upd_same, e.trans h1, by omega, h3⟩
  · refine ⟨_, ps ++ [p], upd_same, by rw [e, h1, List.map_append]; rfl, by rw [List.length_append]; show ps.length + 1 ≤ _; omega, fun q hq => ?_⟩
    rcases List.mem_append.mp hq with hq | hq
    · exact h3 q hq
    · rw [List.mem_singleton.mp hq]; exact hp
theorem TD.keep {H H' : Hp} {a d : Addr} {xs : List Str} {c : Nat} (h : TD H d xs c) (k : Keep a H H') (n : d ≠ a) : TD H' d xs c := let ⟨kvs, ps, e, r⟩ := h; ⟨kvs, ps, k _ _ n e, r⟩
theorem TD.mono {H : Hp} {d : Addr} {xs : List Str} {c c' : Nat} (h : TD H d xs c) (l : c ≤ c') : TD H d xs c' := let ⟨kvs, ps, e, f, g, r⟩ := h; ⟨kvs, ps, e, f, Nat.le_trans g l, r⟩
theorem minmax {x y : Str} (h : x ≠ y) : ltS (if ltS y x = true then y else x) (if ltS x y = true then y else x) = true := by
  cases e : ltS x y with
  | true => rw [ltS_asy e]; simp only [Bool.false_eq_true, if_false, if_true]; exact e
  | false =>
    have := ltS_tri h e
    rw [this]; simp only [Bool.false_eq_true, if_false, if_true]; exact this
def spLTies : Sp := fun vs H Q _ => ∃ (a h : Addr) (n : Int) (more : Nat) (xs : List Str), vs = [.ref a, .ref h, .int more] ∧ Hand H a n ∧ n < 2 ^ 38 ∧ H h = some (.lst (xs.map V.str)) ∧ h ≠ a ∧ 1 ≤ xs.length ∧ xs.length ≤ 10 ∧ xs.Nodup ∧ (∀ x ∈ xs, isNameB x = true) ∧ more ≤ 30 ∧
  ∀ (v : V) (ps : List (Str × Str)) (H' : Hp), Rep H' v (.tup (ps.map pairD)) → ps.Pairwise (fun a b => ltP a b = true) → (∀ p ∈ ps, p.1 ∈ xs ∧ p.2 ∈ xs ∧ ltS p.1 p.2 = true) → Hand H' a (n + 100) → Keep a H H' → Q v H'
theorem ok_ties (Y : Ev K mg) : FnOk P w K mg base CX0 3 Y.a__law_ties Y.d__law_ties p__law_ties spLTies := by
  have G__law_take : FnOk P w K mg base CX0 1 Y.a__law_take Y.d__law_take p__law_take spTake := ok_take Y
  have G__law_pick : FnOk P w K mg base CX0 2 Y.a__law_pick Y.d__law_pick p__law_pick (spPick K) := ok_pick Y
  refine Y._law_ties.fn.okQ c__law_ties (fun vs H Q E h => ?_) (fun cdv A outer s H vs Q E hr h => ?_)
  · obtain ⟨a, h, n, more, xs, rfl, _⟩ := h; rfl
  · obtain ⟨a, h, n, more, xs, rfl, hH, hn, hh, nh, x1, x10, hnd, hxn, hmore, q⟩ := h
    refine ⟨_, (b_cons (s_set 3 c__law_ties.nd q_dnewT)
      (b_cons (s_for PassesOwn.never rfl (i_rng2 Y.range (a_cons q_int (a_cons (q_callB call_len2 Y.len bt_len (a_cons (qv 1) a_nil)) a_nil))) (g_name 4 c__law_ties.nd) (b_cons (s_par 5 6 c__law_ties.nd (a_cons (q_ix ix_list (qv 1) (qv 4)) (a_cons (q_ix ix_list (qv 1) (q_call G__law_take (hr.mono (by decide)) Y._law_take.mg Y._law_take.kp Y._law_take.b .nil pass0 (a_cons (qv 0) (a_cons (qv 4) a_nil)))) a_nil)))
      (b_one (s_if (t_cmp op_gt (q_call G__law_take (hr.mono (by decide)) Y._law_take.mg Y._law_take.kp Y._law_take.b .nil pass0 (a_cons (qv 0) (a_cons q_int a_nil))) q_int) (b_one (s_dput (hu1 hr) (qv 3) (q_tup (a_cons (q_callB (call_min2S rfl) Y.min bt_min (a_cons (qv 5) (a_cons (qv 6) a_nil))) (a_cons (q_callB (call_max2S rfl) Y.max bt_max (a_cons (qv 5) (a_cons (qv 6) a_nil))) a_nil))) q_bl)) b_nil))))
      (b_cons (s_for PassesOwn.never rfl (i_rng1 Y.range (a_cons (qv 2) a_nil)) (g_name 4 c__law_ties.nd) (b_cons (s_par 5 6 c__law_ties.nd (a_cons (q_call G__law_pick (hr.mono (by decide)) Y._law_pick.mg Y._law_pick.kp Y._law_pick.b .nil pass0 (a_cons (qv 0) (a_cons (qv 1) a_nil))) (a_cons (q_call G__law_pick (hr.mono (by decide)) Y._law_pick.mg Y._law_pick.kp Y._law_pick.b .nil pass0 (a_cons (qv 0) (a_cons (qv 1) a_nil))) a_nil)))
      (b_one (s_if (t_cmp op_ne (qv 5) (qv 6)) (b_one (s_dput (hu1 hr) (qv 3) (q_tup (a_cons (q_callB (call_min2S rfl) Y.min bt_min (a_cons (qv 5) (a_cons (qv 6) a_nil))) (a_cons (q_callB (call_max2S rfl) Y.max bt_max (a_cons (qv 5) (a_cons (qv 6) a_nil))) a_nil))) q_bl)) b_nil))))
      (b_one (s_ret (q_callTy call_tuple_of Y.tuple bt_tuple (a_cons (q_callB (call_sortedT rfl) Y.sorted bt_sorted (a_cons (qv 3) a_nil)) a_nil))))))), ?_⟩
    intro d hd
    have nd := hH.ne hd
    have ndh : d ≠ h := fun z => by rw [z, hh] at hd; cases hd
    have hh0 : upd H d (.dT []) h = some (.lst (xs.map V.str)) := by rw [upd_ne (Ne.symm ndh)]; exact hh
    refine ⟨_, rfl, .inl ⟨h, _, rfl, .inl (SqL.of hh0), 1, _, rfl, ⟨by decide, by decide, by omega, by rw [List.length_map]; omega⟩, ?_⟩⟩
    have hN : (((xs.map V.str).length : Int) - 1).toNat = xs.length - 1 := by rw [List.length_map]; omega
    rw [hN]
    refine for_by wk_rng (fun i σ' H' => (∃ o1 o2 o3, σ' = [some (.ref a), some (.ref h), some (.int more), some (.ref d), o1, o2, o3]) ∧ TD H' d xs i ∧ Hand H' a (n + 2 * i) ∧ Keep a H H') ?_ (fun _ _ _ _ => trivial) ?_ ?_
    · exact ⟨⟨_, _, _, rfl⟩, ⟨[], [], upd_same, rfl, Nat.le_refl _, fun _ z => nomatch z⟩, (hH.new hd).mono (by omega), Keep.new hd⟩
    · rintro i y σ' H1 hi rfl ⟨⟨o1, o2, o3, rfl⟩, td, hH1, k1⟩
      have hh1 := k1 _ _ nh hh
      have g1 : atI (xs.map V.str) (1 + (i : Int)) = some (.str (xs.getD (i + 1) "")) := by
        have hi1 : i + 1 < xs.length := by omega
        rw [Int.add_comm]
        exact atI_nat (j := i + 1) (by simp [hi1, List.getD])
      refine ⟨_, rfl, _, rfl, h, _, _, _, rfl, rfl, SqL.of hh1, g1, _, rfl, _, rfl, _, rfl, a, _, _, rfl, hH1, by omega, by omega, by omega, fun t' H2 t0 t1 hH2 k2 => ?_⟩
      obtain ⟨t, rfl⟩ : ∃ t : Nat, t' = (t : Int) := ⟨t'.toNat, by omega⟩
      have hh2 := k2 _ _ nh hh1
      have ht : t < xs.length := by omega
      have g2 : atI (xs.map V.str) (t : Int) = some (.str (xs.getD t "")) := atI_nat (by simp [ht, List.getD])
      have hne : xs.getD (i + 1) "" ≠ xs.getD t "" := by
        have hi1 : i + 1 < xs.length := by omega
        have := nd_ne hnd hi1 ht (by omega)
        simpa [List.getD, hi1, ht] using this
      have mx1 : xs.getD (i + 1) "" ∈ xs := by have hi1 : i + 1 < xs.length := by omega
                                               simp [List.getD, hi1]
      have mx2 : xs.getD t "" ∈ xs := by simp [List.getD, ht]
      generalize xs.getD (i + 1) "" = x at *
      generalize xs.getD t "" = y at *
      refine ⟨h, _, _, _, rfl, rfl, SqL.of hh2, g2, _, _, rfl, ?_⟩
      have td2 := td.keep k2 nd
      refine ⟨_, rfl, a, 9, _, rfl, hH2, by omega, by decide, by decide, fun u H3 u0 u9 hH3 k3 => ⟨_, _, rfl, rfl, _, rfl, ite2 (fun _ => ?_) (fun _ => ?_)⟩⟩
      · obtain ⟨kvs, ps, hkv, hkk, hpl, hpg⟩ := td2.keep k3 nd
        refine ⟨_, rfl, _, rfl, _, rfl, x, y, rfl, _, rfl, _, rfl, x, y, rfl, few rfl, fun p hp => ?_⟩
        have hkv4 : upd H3 p (.tup [.str (if ltS y x = true then y else x), .str (if ltS x y = true then y else x)]) d = some (.dT kvs) := by rw [upd_ne (ne_of_none hkv hp)]; exact hkv
        have hlk : kvs.length = ps.length := by have := congrArg List.length hkk; simpa using this
        refine ⟨d, _, rfl, DPut.t (k := keyP (if ltS y x = true then y else x, if ltS x y = true then y else x)) hkv4 upd_same (small1000 (by omega)), ⟨_, _, _, rfl⟩, TD.put hkk hpl hpg ⟨?_, ?_, minmax hne⟩, ?_, ?_⟩
        · dsimp only; split <;> assumption
        · dsimp only; split <;> assumption
        · exact ((hH3.new hp).updNe nd).mono (by rw [show ((i + 1 : Nat) : Int) = (i : Int) + 1 by omega]; omega)
        · exact Keep.updNew (((k1.trans k2).trans k3).trans (Keep.new hp)) hd
      · exact ⟨⟨_, _, _, rfl⟩, (td2.keep k3 nd).mono (by omega), hH3.mono (by rw [show ((i + 1 : Nat) : Int) = (i : Int) + 1 by omega]; omega), (k1.trans k2).trans k3⟩
    · rintro σ' H1 ⟨⟨o1, o2, o3, rfl⟩, td, hH1, k1⟩
      refine ⟨_, rfl, more, rfl, by omega, by omega, ?_⟩
      rw [Int.toNat_natCast]
      refine for_by wk_rng (fun i σ' H' => (∃ o1 o2 o3, σ' = [some (.ref a), some (.ref h), some (.int more), some (.ref d), o1, o2, o3]) ∧ TD H' d xs (9 + i) ∧ Hand H' a (n + 20 + 2 * i) ∧ Keep a H H') ?_ (fun _ _ _ _ => trivial) ?_ ?_
      · exact ⟨⟨_, _, _, rfl⟩, td.mono (by omega), hH1.mono (by omega), k1⟩
      · rintro i y σ' H2 hi rfl ⟨⟨o1, o2, o3, rfl⟩, td2, hH2, k2⟩
        have NL2 : NL H2 h := ⟨xs, k2 _ _ nh hh, by omega, by omega, hxn⟩
        have pk : ∀ {H0 : Hp} {n0 : Int} {R : VK}, Hand H0 a n0 → n0 < 2 ^ 40 → H0 h = some (.lst (xs.map V.str)) → (∀ x H', x ∈ xs → Hand H' a (n0 + 1) → Keep a H0 H' → R (.str x) H') → spPick K [.ref a, .ref h] H0 R E0 := fun hH0 hn0 e0 qq =>
          ⟨a, _, hH0, hn0, .inl ⟨h, _, rfl, nh, SqL.of e0, by rw [List.length_map]; omega, by rw [List.length_map]; omega, fun v H' hv hH' k' => by
            obtain ⟨x, hx, rfl⟩ := List.mem_map.mp hv
            exact qq x H' hx hH' k'⟩⟩
        have hh2 := k2 _ _ nh hh
        refine ⟨_, rfl, _, rfl, pk hH2 (by omega) hh2 fun x H3 hx hH3 k3 => ⟨_, rfl, _, rfl, pk hH3 (by omega) (k3 _ _ nh hh2) fun y H4 hy hH4 k4 => ⟨_, _, rfl, _, rfl, _, rfl, rfl, _, rfl, ite2 (fun hc => ?_) (fun _ => ?_)⟩⟩⟩
        · have hne : x ≠ y := fun z => by rw [z] at hc; simp at hc
          obtain ⟨kvs, ps, hkv, hkk, hpl, hpg⟩ := (td2.keep k3 nd).keep k4 nd
          refine ⟨_, rfl, _, rfl, _, rfl, x, y, rfl, _, rfl, _, rfl, x, y, rfl, few rfl, fun p hp => ?_⟩
          have hkv4 : upd H4 p (.tup [.str (if ltS y x = true then y else x), .str (if ltS x y = true then y else x)]) d = some (.dT kvs) := by rw [upd_ne (ne_of_none hkv hp)]; exact hkv
          have hlk : kvs.length = ps.length := by have := congrArg List.length hkk; simpa using this
          refine ⟨d, _, rfl, DPut.t (k := keyP (if ltS y x = true then y else x, if ltS x y = true then y else x)) hkv4 upd_same (small1000 (by omega)), ⟨_, _, _, rfl⟩, TD.put hkk hpl hpg ⟨?_, ?_, minmax hne⟩, ?_, ?_⟩
          · dsimp only; split <;> assumption
          · dsimp only; split <;> assumption
          · exact ((hH4.new hp).updNe nd).mono (by rw [show ((i + 1 : Nat) : Int) = (i : Int) + 1 by omega]; omega)
          · exact Keep.updNew (((k2.trans k3).trans k4).trans (Keep.new hp)) hd
        · exact ⟨⟨_, _, _, rfl⟩, ((td2.keep k3 nd).keep k4 nd).mono (by omega), hH4.mono (by rw [show ((i + 1 : Nat) : Int) = (i : Int) + 1 by omega]; omega), (k2.trans k3).trans k4⟩
      · rintro σ' H2 ⟨⟨o1, o2, o3, rfl⟩, ⟨kvs, ps, hkv, hkk, hpl, hpg⟩, hH2, k2⟩
        refine ⟨_, rfl, d, kvs, ps, rfl, hkv, hkk, by omega, fun ps' vs l hperm hpw hpa hl => ⟨l, vs, rfl, .inl ⟨SqL.of upd_same, fun p hp => ?_⟩⟩⟩
        have S : Same H2 (upd (upd H2 l (.lst vs)) p (.tup vs)) := (Same.new hl).trans (Same.new hp)
        refine q _ ps' _ (.mkL upd_same (by rw [List.length_map, hperm.length_eq]; omega) ⟨by rw [List.length_map]; exact hpa.1, fun i v dd e1 e2 => ?_⟩) hpw (fun p hp => hpg p (hperm.mem_iff.mp hp)) ((hH2.same S).mono (by omega)) (k2.trans (Keep.of S))
        rw [List.getElem?_map] at e2
        cases e3 : ps'[i]? with
        | none => rw [e3] at e2; cases e2
        | some pr =>
          rw [e3] at e2
          cases e2
          obtain ⟨b, rfl, hb⟩ := hpa.2 i v pr e1 e3
          have hpr := hpg pr (hperm.mem_iff.mp (List.mem_of_getElem? e3))
          exact .mk2 (S _ _ hb) (.str _ (name_short (hxn _ hpr.1))) (.str _ (name_short (hxn _ hpr.2.1)))
end
end K05

set_option Elab.async false
set_option linter.all false
set_option maxRecDepth 100000
set_option maxHeartbeats 4000000
namespace K05
open PySem PySem.Spec PyProof.Rows L2 RW
local macro_rules | `(tactic| walk_at "cond") => `(tactic| first | assumption | decide | omega | exact few rfl | exact .inl ⟨by decide, by decide⟩ | exact .inr ⟨by decide, by decide⟩ | exact .inl ⟨by omega, by omega⟩ | exact .inr ⟨by omega, by omega⟩ | exact ⟨by omega, by omega⟩ | exact ⟨by assumption, by assumption⟩ | exact ⟨by decide, by decide, by decide⟩ | exact .inr ⟨by split <;> decide, by split <;> decide⟩)
local macro_rules | `(tactic| walk_at "rd") => `(tactic| first | with_reducible_and_instances refine ⟨_, rfl, ?_⟩ | refine ⟨_, rfl, ?_⟩ | refine ⟨_, _, rfl, rfl, ?_⟩ | refine ⟨_, _, _, _, rfl, rfl, SqL.of (by assumption), rfl, ?_⟩ | refine ⟨_, _, _, _, rfl, rfl, (by assumption), rfl, ?_⟩ | refine .inl ⟨_, rfl, ?_⟩ | refine .inr ⟨_, rfl, ?_⟩ | refine .inl ⟨_, _, rfl, .inl (by assumption), ?_⟩ | refine ⟨(by walk_at "cond"), ?_⟩)
local macro_rules | `(tactic| walk_at "dsp") => `(tactic| repeat' (first | exact dsp_str (by decide) | exact dsp_int | exact dsp_bl | exact dsp_non | exact dsp_neg | exact dspA_nil | exact dsp_dnew | exact dsp_disp rfl | exact dsp_var rfl (by assumption) | refine dspA_cons ?_ ?_ | refine dsp_tup ?_ ?_ | refine dsp_lst' ?_ | refine n_cons ?_ ?_ | exact n_nil | exact v_c | exact v_var rfl | refine v_tup ?_ | refine dspl_lst ?_ ?_ | refine dspl_cat ?_ ?_ ?_ | exact dspl_var rfl (by assumption) (by assumption) | exact Nat.le_of_ble_eq_true rfl))
local macro_rules | `(tactic| walk_at "each") => `(tactic| repeat' (first | exact forall_nil | refine List.forall_mem_append.mpr ⟨?_, ?_⟩ | refine List.forall_mem_cons.mpr ⟨?_, ?_⟩))
section
variable {P : Program} {w : World} {K : PySem.W.Frag} {mg : Str → Option Value} {base : Heap}
def spTown : Sp := fun vs H Q _ => ∃ (a : Addr) (n : Int), vs = [.ref a] ∧ Hand H a n ∧ n < 2 ^ 36 ∧ ∀ (v : V) (g : Str) (hs : List Str) (ps : List (Str × Str)) (lks hds : List D) (H' : Hp), Rep H' v (townD g hs ps lks hds) → TownOk g hs ps lks hds → (∀ x ∈ hs, x ≠ "nowhere") → Hand H' a (n + 9000) → Keep a H H' → Q v H'
theorem rules_likings {d : D} {ds : List D} (e : d = .tup ds) (h : ds.length ≤ 12) (h2 : ∀ d ∈ ds, isLikingB d = true) : areLikingsB d = true := by
  subst e
  show (decide (ds.length ≤ 90) && ds.all isLikingB) = true
  rw [decide_eq_true (by omega), List.all_eq_true.mpr h2]; rfl
theorem rules_hands {d : D} {ds : List D} (e : d = .tup ds) (h : ds.length ≤ 12) (h2 : ∀ d ∈ ds, isHandB d = true) : areHandsB d = true := by
  subst e
  show (decide (ds.length ≤ 90) && ds.all isHandB) = true
  rw [decide_eq_true (by omega), List.all_eq_true.mpr h2]; rfl
theorem ok_town (Y : Ev K mg) : FnOk P w K mg base CX0 6 Y.a__law_town Y.d__law_town p__law_town spTown := by
  have G__law_take : FnOk P w K mg base CX0 1 Y.a__law_take Y.d__law_take p__law_take spTake := ok_take Y
  have G__law_pick : FnOk P w K mg base CX0 2 Y.a__law_pick Y.d__law_pick p__law_pick (spPick K) := ok_pick Y
  have G__law_names : FnOk P w K mg base CX0 3 Y.a__law_names Y.d__law_names p__law_names spNames2 := ok_names2 Y
  have G__law_ties : FnOk P w K mg base CX0 3 Y.a__law_ties Y.d__law_ties p__law_ties spLTies := ok_ties Y
  have G__law_likings : FnOk P w K mg base CX0 5 Y.a__law_likings Y.d__law_likings p__law_likings (spRules isLikingB) := ok_likings Y
  have G__law_hands : FnOk P w K mg base CX0 5 Y.a__law_hands Y.d__law_hands p__law_hands (spRules isHandB) := ok_hands Y
  refine Y._law_town.fn.okQ c__law_town (fun vs H Q E h => ?_) (fun cdv A outer s H vs Q E hr h => ?_)
  · obtain ⟨a, n, rfl, _⟩ := h; rfl
  · obtain ⟨a, n, rfl, hH, hn, q⟩ := h
    refine ⟨_, (b_cons (s_set 1 c__law_town.nd (q_ix ix_list (q_lst (a_cons q_int (a_cons q_int (a_cons q_int (a_cons q_int (a_cons q_int (a_cons q_int (a_cons q_int (a_cons (q_op op_add q_int (q_call G__law_take (hr.mono (by decide)) Y._law_take.mg Y._law_take.kp Y._law_take.b .nil pass0 (a_cons (qc 0) (a_cons q_int a_nil)))) a_nil))))))))) (q_call G__law_take (hr.mono (by decide)) Y._law_take.mg Y._law_take.kp Y._law_take.b .nil pass0 (a_cons (qc 0) (a_cons q_int a_nil)))))
      (b_cons (s_setC 2 c__law_town.nd (q_call G__law_names (hr.mono (by decide)) Y._law_names.mg Y._law_names.kp Y._law_names.b .nil pass0 (a_cons (qc 0) (a_cons (q_op op_add (qv 1) q_int) a_nil))))
      (b_cons (s_asg (q_tup (a_cons (q_sl sl_list (qc 2) o_none (o_some (qv 1))) (a_cons (q_sl sl_list (qc 2) (o_some (qv 1)) o_none) a_nil))) (g_tup 2 rfl (gs_cons (g_name 3 c__law_town.nd) (gs_cons (g_nameC 4 c__law_town.nd) gs_nil))))
      (b_cons (s_set 5 c__law_town.nd (q_call G__law_ties (hr.mono (by decide)) Y._law_ties.mg Y._law_ties.kp Y._law_ties.b .nil pass0 (a_cons (qc 0) (a_cons (qv 3) (a_cons (q_call G__law_pick (hr.mono (by decide)) Y._law_pick.mg Y._law_pick.kp Y._law_pick.b .nil pass0 (a_cons (qc 0) (a_cons (q_lstC [V.int 0, V.int 3, V.int 9, V.int 30] (by decide +kernel)) a_nil))) a_nil)))))
      (b_cons (s_set 6 c__law_town.nd (q_call G__law_pick (hr.mono (by decide)) Y._law_pick.mg Y._law_pick.kp Y._law_pick.b .nil pass0 (a_cons (qc 0) (a_cons (qv 3) a_nil))))
      (b_cons (s_set 7 c__law_town.nd (q_callTy call_tuple_of Y.tuple bt_tuple (a_cons (q_callB call_sortedS Y.sorted bt_sorted (a_cons (qv 3) a_nil)) a_nil)))
      (b_cons (s_set 8 c__law_town.nd (q_callTy call_tuple_of Y.tuple bt_tuple (a_cons (q_comp (src := [none, some 0, some 4, some 2]) o__law_town_1 rfl rfl (i_tup (qv 7)) (fun _ _ _ _ _ => (g_name 0 o__law_town_1.nd)) (fun _ _ _ _ _ => f_nil) (fun _ _ _ _ _ => (q_call G__law_likings (hr.mono (by decide)) Y._law_likings.mg Y._law_likings.kp Y._law_likings.b .nil pass0 (a_cons (qc 1) (a_cons (qc 3) (a_cons (qc 2) a_nil)))))) a_nil)))
      (b_cons (s_set 9 c__law_town.nd (q_callTy call_tuple_of Y.tuple bt_tuple (a_cons (q_comp (src := [none, some 0, some 4, some 2]) o__law_town_2 rfl rfl (i_tup (qv 7)) (fun _ _ _ _ _ => (g_name 0 o__law_town_2.nd)) (fun _ _ _ _ _ => f_nil) (fun _ _ _ _ _ => (q_call G__law_hands (hr.mono (by decide)) Y._law_hands.mg Y._law_hands.kp Y._law_hands.b .nil pass0 (a_cons (qc 1) (a_cons (qc 3) (a_cons (qc 2) a_nil)))))) a_nil)))
      (b_one (s_ret (q_tup (a_cons (qv 6) (a_cons (qv 7) (a_cons (qv 5) (a_cons (qv 8) (a_cons (qv 9) a_nil)))))))))))))))), ?_⟩
    refine ⟨_, rfl, a, 5, n, rfl, hH, by omega, by decide, by decide, fun t H1 t0 t5 hH1 k1 => ⟨_, _, rfl, rfl, few rfl, fun pl hpl => ⟨_, rfl, a, 8, n + 1, rfl, hH1.new hpl, by omega, by decide, by decide, fun u H2 u0 u8 hH2 k2 => ?_⟩⟩⟩
    have hpl2 := k2 _ _ (hH1.ne hpl) (upd_same (o := .lst [V.int 2, V.int 3, V.int 4, V.int 5, V.int 1, V.int 7, V.int 10, V.int (6 + t)]))
    obtain ⟨v, ev, hv⟩ := atI_mem (xs := [V.int 2, V.int 3, V.int 4, V.int 5, V.int 1, V.int 7, V.int 10, V.int (6 + t)]) u0 u8
    obtain ⟨m, rfl, m1, m10⟩ : ∃ m : Nat, v = .int (m : Int) ∧ 1 ≤ m ∧ m ≤ 10 := by
      simp only [List.mem_cons, List.not_mem_nil, or_false] at hv
      rcases hv with rfl | rfl | rfl | rfl | rfl | rfl | rfl | rfl
      · exact ⟨2, rfl, by decide, by decide⟩
      · exact ⟨3, rfl, by decide, by decide⟩
      · exact ⟨4, rfl, by decide, by decide⟩
      · exact ⟨5, rfl, by decide, by decide⟩
      · exact ⟨1, rfl, by decide, by decide⟩
      · exact ⟨7, rfl, by decide, by decide⟩
      · exact ⟨10, rfl, by decide, by decide⟩
      · exact ⟨(6 + t).toNat, by congr 1; omega, by omega, by omega⟩
    have kp2 : Keep a H H2 := (k1.trans (Keep.new hpl)).trans k2
    refine ⟨pl, _, _, _, rfl, rfl, SqL.of hpl2, ev, ?_⟩
    refine ⟨_, rfl, _, rfl, _, _, rfl, rfl, a, n + 1 + 1, m + 3, by push_cast; rfl, hH2, by omega, by omega, by omega, fun ln xs H3 hln hl3 hlen hxn hxd hxw hH3 k3 => ?_⟩
    have nln : ln ≠ a := hH2.ne hln
    refine ⟨_, rfl, _, rfl, _, rfl, ln, _, rfl, SqL.of hl3, fun p1 hp1 => ?_⟩
    have S1 : Same H3 (upd H3 p1 (.lst (cutV (xs.map V.str) none (some (m : Int))))) := Same.new hp1
    refine ⟨_, rfl, _, rfl, _, rfl, ln, _, rfl, SqL.of (S1 _ _ hl3), fun p2 hp2 => ⟨few rfl, fun p3 hp3 => ?_⟩⟩
    have S2 := Same.new (o := .lst (cutV (xs.map V.str) (some (m : Int)) none)) hp2
    have S3 := Same.new (o := .tup [V.ref p1, V.ref p2]) hp3
    have S13 := (S1.trans S2).trans S3
    have hp1' := S3 _ _ (S2 _ _ (upd_same (H := H3) (a := p1) (o := .lst (cutV (xs.map V.str) none (some (m : Int))))))
    have hp2' := S3 _ _ (upd_same (H := upd H3 p1 (.lst (cutV (xs.map V.str) none (some (m : Int))))) (a := p2) (o := .lst (cutV (xs.map V.str) (some (m : Int)) none)))
    refine ⟨p3, _, rfl, .inl (.inl upd_same), rfl, _, _, rfl, _, _, rfl, rfl, ?_⟩
    have hl4 := S13 _ _ hl3
    have hH4 := hH3.same S13
    have np1 : p1 ≠ a := hH3.ne hp1
    have np2 : p2 ≠ a := (hH3.same S1).ne hp2
    have kp4 := (kp2.trans k3).trans (Keep.of S13)
    generalize (upd (upd (upd H3 p1 (HO.lst (cutV (xs.map V.str) none (some (m : Int))))) p2 (HO.lst (cutV (xs.map V.str) (some (m : Int)) none))) p3 (HO.tup [V.ref p1, V.ref p2])) = H4 at *
    rw [cut_take, ← List.map_take] at hp1'
    rw [cut_drop, ← List.map_drop] at hp2'
    have hth : (xs.take m).length = m := by rw [List.length_take]; omega
    have htn : ∀ x ∈ xs.take m, isNameB x = true := fun x hx => hxn x (List.mem_of_mem_take hx)
    have htw : ∀ x ∈ xs.take m, x ≠ "nowhere" := fun x hx => hxw x (List.mem_of_mem_take hx)
    have htd : (xs.take m).Nodup := hxd.sublist (List.take_sublist m xs)
    have hdn : ∀ x ∈ xs.drop m, isNameB x = true := fun x hx => hxn x (List.mem_of_mem_drop hx)
    have hdl : (xs.drop m).length = 3 := by rw [List.length_drop]; omega
    generalize xs.take m = hs at *
    generalize xs.drop m = ms at *
    have NLn : NL H4 ln := ⟨xs, hl4, by omega, by omega, hxn⟩
    have NLm : NL H4 p2 := ⟨ms, hp2', by omega, by omega, hdn⟩
    -- the ties
    refine ⟨_, rfl, _, rfl, _, rfl, by decide, fun pk hpk => ⟨a, _, hH4.new hpk, by omega, .inl ⟨pk, _, rfl, hH4.ne hpk, SqL.of upd_same, by decide, by decide, fun v H5 hv hH5 k5 => ?_⟩⟩⟩
    obtain ⟨mo, rfl, mo30⟩ : ∃ mo : Nat, v = .int (mo : Int) ∧ mo ≤ 30 := by
      simp only [List.mem_cons, List.not_mem_nil, or_false] at hv
      rcases hv with rfl | rfl | rfl | rfl
      · exact ⟨0, rfl, by decide⟩
      · exact ⟨3, rfl, by decide⟩
      · exact ⟨9, rfl, by decide⟩
      · exact ⟨30, rfl, by decide⟩
    have k45 : Keep a H4 H5 := (Keep.new hpk).trans k5
    have hp15 := k45 _ _ np1 hp1'
    refine ⟨a, p1, _, mo, hs, rfl, hH5, by omega, hp15, np1, by omega, by omega, htd, htn, mo30, fun vt ps H6 rt hpw hpg hH6 k6 => ?_⟩
    -- the goal
    have hp16 := k6 _ _ np1 hp15
    refine ⟨_, rfl, _, rfl, a, _, hH6, by omega, .inl ⟨p1, _, rfl, np1, SqL.of hp16, by rw [List.length_map]; omega, by rw [List.length_map]; omega, fun vg H7 hvg hH7 k7 => ?_⟩⟩
    obtain ⟨g, hg, rfl⟩ := List.mem_map.mp hvg
    have hp17 := k7 _ _ np1 hp16
    have rt7 := rt.mono (.keep k7 hH6 hH7)
    -- rising
    refine ⟨_, rfl, p1, hs, rfl, SqL.of hp17, by omega, htd, fun hs' l hperm hrise hl => ⟨l, _, rfl, .inl ⟨SqL.of upd_same, fun pr hpr => ?_⟩⟩⟩
    have S8 : Same H7 (upd (upd H7 l (.lst (hs'.map V.str))) pr (.tup (hs'.map V.str))) := (Same.new hl).trans (Same.new hpr)
    have hpr8 : (upd (upd H7 l (.lst (hs'.map V.str))) pr (.tup (hs'.map V.str))) pr = some (.tup (hs'.map V.str)) := upd_same
    have hH8 := hH7.same S8
    have rt8 := rt7.same S8
    have npr : pr ≠ a := (hH7.new hl).ne hpr
    have k48 : Keep a H4 (upd (upd H7 l (.lst (hs'.map V.str))) pr (.tup (hs'.map V.str))) := ((k45.trans k6).trans k7).trans (Keep.of S8)
    have hlen' : hs'.length = m := by rw [hperm.length_eq]; exact hth
    generalize (upd (upd H7 l (HO.lst (hs'.map V.str))) pr (HO.tup (hs'.map V.str))) = H8 at *
    have NLn8 := NLn.keep k48 nln
    have NLm8 := NLm.keep k48 np2
    -- the likings
    refine ⟨_, rfl, pr, rfl, ⟨_, .inl (.inl hpr8)⟩, ?_⟩
    refine comp_drawsW (a := a) (m := n + 300) (c := 400) (Pd := fun _ d => areLikingsB d = true) (σr := [some (.ref a), some (.ref p2), some (.ref ln)]) (wk_tup (K := K) (xs := hs'.map V.str)) (fun H' k => .inl (.inl (k _ _ npr hpr8))) rfl (hH8.mono (by omega)) (by rw [List.length_map]; omega) (by decide) (fun i x H9 Q1 hi hH9 k9 q1 => ?_) (fun l1 vl lks H9 hl1 hl1' rl hll pl9 hH9 k9 => ?_)
    · rw [List.length_map] at hi
      exact ⟨_, rfl, _, rfl, _, rfl, a, ln, p2, _, rfl, hH9, by omega, NLn8.keep k9 nln, NLm8.keep k9 np2, nln, np2, fun v ds H10 rv hds hg10 hH10 k10 => q1 v _ H10 rv (rules_likings rfl hds hg10) hH10 k10⟩
    refine ⟨l1, vl, rfl, .inl ⟨SqL.of hl1', fun pA hpA => ?_⟩⟩
    rw [List.length_map] at hll hH9
    have SA := Same.new (o := .tup vl) hpA
    have rlA : Rep (upd H9 pA (.tup vl)) (.ref pA) (.tup lks) := .mkL upd_same (by omega) (rl.mono (.new hpA))
    have hHA := hH9.new (o := .tup vl) hpA
    have k8A : Keep a H8 (upd H9 pA (.tup vl)) := k9.trans (Keep.of SA)
    generalize (upd H9 pA (HO.tup vl)) = HA at *
    have hprA := k8A _ _ npr hpr8
    -- the hands
    refine ⟨_, rfl, pr, rfl, ⟨_, .inl (.inl hprA)⟩, ?_⟩
    refine comp_drawsW (a := a) (m := n + 300 + 400 * hs'.length) (c := 400) (Pd := fun _ d => areHandsB d = true) (σr := [some (.ref a), some (.ref p2), some (.ref ln)]) (wk_tup (K := K) (xs := hs'.map V.str)) (fun H' k => .inl (.inl (k _ _ npr hprA))) rfl hHA (by rw [List.length_map]; omega) (by decide) (fun i x HB Q1 hi hHB kB q1 => ?_) (fun l2 va hds HB hl2 hl2' ra hla plB hHB kB => ?_)
    · rw [List.length_map] at hi
      exact ⟨_, rfl, _, rfl, _, rfl, a, ln, p2, _, rfl, hHB, by omega, (NLn8.keep k8A nln).keep kB nln, (NLm8.keep k8A np2).keep kB np2, nln, np2, fun v ds H10 rv hds hg10 hH10 k10 => q1 v _ H10 rv (rules_hands rfl hds hg10) hH10 k10⟩
    refine ⟨l2, va, rfl, .inl ⟨SqL.of hl2', fun pB hpB => ?_⟩⟩
    rw [List.length_map] at hla hHB
    have SB := Same.new (o := .tup va) hpB
    have mAB : Mono HA (upd HB pB (.tup va)) := (Mono.keep kB hHA hHB).trans (.of SB)
    have raB : Rep (upd HB pB (.tup va)) (.ref pB) (.tup hds) := .mkL upd_same (by omega) (ra.mono (.new hpB))
    have kAB : Keep a HA (upd HB pB (.tup va)) := kB.trans (Keep.of SB)
    have hHB' := hHB.new (o := .tup va) hpB
    have rlB := rlA.mono mAB
    have rtB := (rt8.mono (.keep k8A hH8 hHA)).mono mAB
    have hprB := kAB _ _ npr hprA
    refine ⟨_, rfl, _, rfl, _, rfl, _, rfl, _, rfl, few rfl, fun pT hpT => ?_⟩
    have rr : Rep (upd HB pB (.tup va)) (.ref pr) (.tup (hs'.map D.str)) := by
      refine .mkL hprB (by rw [List.length_map]; omega) ⟨by rw [List.length_map, List.length_map], fun i v d e1 e2 => ?_⟩
      rw [List.getElem?_map] at e1 e2
      cases e3 : hs'[i]? with
      | none => rw [e3] at e1; cases e1
      | some x =>
        rw [e3] at e1 e2
        cases e1
        cases e2
        exact .str x (name_short (htn x (hperm.mem_iff.mp (List.mem_of_getElem? e3))))
    have ST := Mono.new (o := .tup [.str g, .ref pr, vt, .ref pA, .ref pB]) hpT
    have rtown := Rep.mkL (H := upd (upd HB pB (.tup va)) pT (.tup [.str g, .ref pr, vt, .ref pA, .ref pB])) (p := pT) (vs := [.str g, .ref pr, vt, .ref pA, .ref pB]) (ds := [.str g, .tup (hs'.map D.str), .tup (ps.map pairD), .tup lks, .tup hds]) upd_same (Nat.le_of_ble_eq_true rfl) (.cons (.str g (name_short (htn g hg))) (.cons (rr.mono ST) (.cons (rtB.mono ST) (.cons (rlB.mono ST) (.cons (raB.mono ST) .nil)))))
    refine q _ g hs' ps lks hds _ rtown ⟨hrise, by omega, by omega, fun x hx => htn x (hperm.mem_iff.mp hx), hperm.mem_iff.mpr hg, hpw, fun p hp => ?_, by omega, by omega, getD_mem pl9, getD_mem plB⟩ (fun x hx => htw x (hperm.mem_iff.mp hx)) ((hHB'.new hpT).mono (by omega)) (((kp4.trans k48).trans (k8A.trans kAB)).trans (Keep.new hpT))
    obtain ⟨h1, h2, h3⟩ := hpg p hp
    exact ⟨hperm.mem_iff.mpr h1, hperm.mem_iff.mpr h2, h3⟩
end
end K05

set_option Elab.async false
set_option linter.all false
set_option maxRecDepth 100000
set_option maxHeartbeats 4000000
namespace K05
open PySem PySem.Spec PyProof.Rows L2 RW
local macro_rules | `(tactic| walk_at "cond") => `(tactic| first | assumption | decide | omega | exact few rfl | exact .inl ⟨by decide, by decide⟩ | exact .inr ⟨by decide, by decide⟩ | exact .inl ⟨by omega, by omega⟩ | exact .inr ⟨by omega, by omega⟩ | exact ⟨by omega, by omega⟩ | exact ⟨by assumption, by assumption⟩ | exact ⟨by decide, by decide, by decide⟩ | exact .inr ⟨by split <;> decide, by split <;> decide⟩)
local macro_rules | `(tactic| walk_at "rd") => `(tactic| first | with_reducible_and_instances refine ⟨_, rfl, ?_⟩ | refine ⟨_, rfl, ?_⟩ | refine ⟨_, _, rfl, rfl, ?_⟩ | refine ⟨_, _, _, _, rfl, rfl, SqL.of (by assumption), rfl, ?_⟩ | refine ⟨_, _, _, _, rfl, rfl, (by assumption), rfl, ?_⟩ | refine .inl ⟨_, rfl, ?_⟩ | refine .inr ⟨_, rfl, ?_⟩ | refine .inl ⟨_, _, rfl, .inl (by assumption), ?_⟩ | refine ⟨(by walk_at "cond"), ?_⟩)
local macro_rules | `(tactic| walk_at "dsp") => `(tactic| repeat' (first | exact dsp_str (by decide) | exact dsp_int | exact dsp_bl | exact dsp_non | exact dsp_neg | exact dspA_nil | exact dsp_dnew | exact dsp_disp rfl | exact dsp_var rfl (by assumption) | refine dspA_cons ?_ ?_ | refine dsp_tup ?_ ?_ | refine dsp_lst' ?_ | refine n_cons ?_ ?_ | exact n_nil | exact v_c | exact v_var rfl | refine v_tup ?_ | refine dspl_lst ?_ ?_ | refine dspl_cat ?_ ?_ ?_ | exact dspl_var rfl (by assumption) (by assumption) | exact Nat.le_of_ble_eq_true rfl))
local macro_rules | `(tactic| walk_at "each") => `(tactic| repeat' (first | exact forall_nil | refine List.forall_mem_append.mpr ⟨?_, ?_⟩ | refine List.forall_mem_cons.mpr ⟨?_, ?_⟩))
section
variable {P : Program} {w : World} {K : PySem.W.Frag} {mg : Str → Option Value} {base : Heap}
end
end K05

set_option Elab.async false
set_option linter.all false
set_option maxRecDepth 100000
set_option maxHeartbeats 4000000
namespace K05
open PySem PySem.Spec PyProof.Rows L2 RW
local macro_rules | `(tactic| walk_at "cond") => `(tactic| first | assumption | decide | omega | exact few rfl | exact .inl ⟨by decide, by decide⟩ | exact .inr ⟨by decide, by decide⟩ | exact .inl ⟨by omega, by omega⟩ | exact .inr ⟨by omega, by omega⟩ | exact ⟨by omega, by omega⟩ | exact ⟨by assumption, by assumption⟩ | exact ⟨by decide, by decide, by decide⟩ | exact .inr ⟨by split <;> decide, by split <;> decide⟩)
local macro_rules | `(tactic| walk_at "rd") => `(tactic| first | with_reducible_and_instances refine ⟨_, rfl, ?_⟩ | refine ⟨_, rfl, ?_⟩ | refine ⟨_, _, rfl, rfl, ?_⟩ | refine ⟨_, _, _, _, rfl, rfl, SqL.of (by assumption), rfl, ?_⟩ | refine ⟨_, _, _, _, rfl, rfl, (by assumption), rfl, ?_⟩ | refine .inl ⟨_, rfl, ?_⟩ | refine .inr ⟨_, rfl, ?_⟩ | refine .inl ⟨_, _, rfl, .inl (by assumption), ?_⟩ | refine ⟨(by walk_at "cond"), ?_⟩)
local macro_rules | `(tactic| walk_at "dsp") => `(tactic| repeat' (first | exact dsp_str (by decide) | exact dsp_int | exact dsp_bl | exact dsp_non | exact dsp_neg | exact dspA_nil | exact dsp_dnew | exact dsp_disp rfl | exact dsp_var rfl (by assumption) | refine dspA_cons ?_ ?_ | refine dsp_tup ?_ ?_ | refine dsp_lst' ?_ | refine n_cons ?_ ?_ | exact n_nil | exact v_c | exact v_var rfl | refine v_tup ?_ | refine dspl_lst ?_ ?_ | refine dspl_cat ?_ ?_ ?_ | exact dspl_var rfl (by assumption) (by assumption) | exact Nat.le_of_ble_eq_true rfl))
local macro_rules | `(tactic| walk_at "each") => `(tactic| repeat' (first | exact forall_nil | refine List.forall_mem_append.mpr ⟨?_, ?_⟩ | refine List.forall_mem_cons.mpr ⟨?_, ?_⟩))
section
variable {P : Program} {w : World} {K : PySem.W.Frag} {mg : Str → Option Value} {base : Heap}
/-- a town that stands -/
def TownAt (H : Hp) (v : V) (g : Str) (hs : List Str) (ps : List (Str × Str)) (lks hds : List D) : Prop := ∃ p pr pt pl pa vt vl va, v = .ref p ∧ H p = some (.tup [.str g, .ref pr, .ref pt, .ref pl, .ref pa]) ∧ H pr = some (.tup (hs.map V.str)) ∧ H pt = some (.tup vt) ∧ RepL H vt (ps.map pairD) ∧ H pl = some (.tup vl) ∧ RepL H vl lks ∧ H pa = some (.tup va) ∧ RepL H va hds
theorem town_at {H : Hp} {v : V} {g : Str} {hs : List Str} {ps : List (Str × Str)} {lks hds : List D} (h : Rep H v (townD g hs ps lks hds)) : TownAt H v g hs ps lks hds := by
  obtain ⟨p, x1, x2, x3, x4, x5, rfl, hp, r1, r2, r3, r4, r5⟩ := rep5 h
  cases r1 with | str _ _ =>
  obtain ⟨pr, rfl, hpr⟩ := rep_strs r2
  obtain ⟨pt, vt, rfl, hpt, rt, _⟩ := r3.ofT
  obtain ⟨pl, vl, rfl, hpl, rl, _⟩ := r4.ofT
  obtain ⟨pa, va, rfl, hpa, ra, _⟩ := r5.ofT
  exact ⟨p, pr, pt, pl, pa, vt, vl, va, rfl, hp, hpr, hpt, rt, hpl, rl, hpa, ra⟩
end
end K05

set_option Elab.async false
set_option linter.all false
set_option maxRecDepth 100000
set_option maxHeartbeats 4000000
namespace K05
open PySem PySem.Spec PyProof.Rows L2 RW
local macro_rules | `(tactic| walk_at "cond") => `(tactic| first | assumption | decide | omega | exact few rfl | exact .inl ⟨by decide, by decide⟩ | exact .inr ⟨by decide, by decide⟩ | exact .inl ⟨by omega, by omega⟩ | exact .inr ⟨by omega, by omega⟩ | exact ⟨by omega, by omega⟩ | exact ⟨by assumption, by assumption⟩ | exact ⟨by decide, by decide, by decide⟩ | exact .inr ⟨by split <;> decide, by split <;> decide⟩)
local macro_rules | `(tactic| walk_at "rd") => `(tactic| first | with_reducible_and_instances refine ⟨_, rfl, ?_⟩ | refine ⟨_, rfl, ?_⟩ | refine ⟨_, _, rfl, rfl, ?_⟩ | refine ⟨_, _, _, _, rfl, rfl, SqL.of (by assumption), rfl, ?_⟩ | refine ⟨_, _, _, _, rfl, rfl, (by assumption), rfl, ?_⟩ | refine .inl ⟨_, rfl, ?_⟩ | refine .inr ⟨_, rfl, ?_⟩ | refine .inl ⟨_, _, rfl, .inl (by assumption), ?_⟩ | refine ⟨(by walk_at "cond"), ?_⟩)
local macro_rules | `(tactic| walk_at "dsp") => `(tactic| repeat' (first | exact dsp_str (by decide) | exact dsp_int | exact dsp_bl | exact dsp_non | exact dsp_neg | exact dspA_nil | exact dsp_dnew | exact dsp_disp rfl | exact dsp_var rfl (by assumption) | refine dspA_cons ?_ ?_ | refine dsp_tup ?_ ?_ | refine dsp_lst' ?_ | refine n_cons ?_ ?_ | exact n_nil | exact v_c | exact v_var rfl | refine v_tup ?_ | refine dspl_lst ?_ ?_ | refine dspl_cat ?_ ?_ ?_ | exact dspl_var rfl (by assumption) (by assumption) | exact Nat.le_of_ble_eq_true rfl))
local macro_rules | `(tactic| walk_at "each") => `(tactic| repeat' (first | exact forall_nil | refine List.forall_mem_append.mpr ⟨?_, ?_⟩ | refine List.forall_mem_cons.mpr ⟨?_, ?_⟩))
section
variable {P : Program} {w : World} {K : PySem.W.Frag} {mg : Str → Option Value} {base : Heap}
def NoTown : Sp := fun vs H Q _ => ∃ (v : V) (g : Str) (hs : List Str) (ps : List (Str × Str)) (lks hds : List D), vs = [v] ∧ Rep H v (townD g hs ps lks hds) ∧ TownOk g hs ps lks hds ∧ (∀ x ∈ hs, x ≠ "nowhere") ∧ ∀ (l : Addr) (H' : Hp), BadL isTownB H' l 100 → Same H H' → Q (.ref l) H'
theorem ok_houses_spoilt (Y : Ev K mg) : FnOk P w K mg base CX0 2 Y.a__law_houses_spoilt Y.d__law_houses_spoilt p__law_houses_spoilt NoTown := by
  refine Y._law_houses_spoilt.fn.okQ c__law_houses_spoilt (fun vs H Q E h => ?_) (fun cdv A outer s H vs Q E hr h => ?_)
  · obtain ⟨v, g, hs, ps, lks, hds, rfl, _⟩ := h; rfl
  · obtain ⟨v, g, hs, ps, lks, hds, rfl, hv, T, hw, q⟩ := h
    obtain ⟨p, pr, pt, pl, pa, vt, vl, va, rfl, hp, hpr, hpt, rt, hpl, rl, hpa, ra⟩ := town_at hv
    refine ⟨_, (b_cons (s_asg (qv 0) (g_tup 5 rfl (gs_cons (g_name 1 c__law_houses_spoilt.nd) (gs_cons (g_nameC 2 c__law_houses_spoilt.nd) (gs_cons (g_nameC 3 c__law_houses_spoilt.nd) (gs_cons (g_nameC 4 c__law_houses_spoilt.nd) (gs_cons (g_nameC 5 c__law_houses_spoilt.nd) gs_nil)))))))
      (b_cons (s_set 6 c__law_houses_spoilt.nd (q_callB call_len2 Y.len bt_len (a_cons (qc 2) a_nil)))
      (b_cons (s_set 7 c__law_houses_spoilt.nd (q_callTy call_tuple_of Y.tuple bt_tuple (a_cons (q_comp (src := [none]) o__law_houses_spoilt_1 rfl rfl (i_str q_str) (fun _ _ _ _ _ => (g_name 0 o__law_houses_spoilt_1.nd)) (fun _ _ _ _ _ => f_nil) (fun _ _ _ _ _ => (q_op op_add_str q_str (qv 0)))) a_nil)))
      (b_cons (s_setcomp 8 (src := [none, some 5, some 2, some 4, some 3]) o__law_houses_spoilt_2 rfl rfl c__law_houses_spoilt.nd (i_list (q_lst (a_cons q_non (a_cons q_str (a_cons q_int (a_cons (q_tup (a_cons (qv 1) a_nil)) (a_cons q_str (a_cons (q_lst (a_cons (qv 1) a_nil)) (a_cons q_bl a_nil))))))))) (fun _ _ _ _ _ => (g_name 0 o__law_houses_spoilt_2.nd)) (fun _ _ _ _ _ => f_nil) (fun _ _ _ _ _ => (q_tup (a_cons (qv 0) (a_cons (qc 2) (a_cons (qc 4) (a_cons (qc 3) (a_cons (qc 1) a_nil))))))))
      (b_cons (s_for PassesOwn.never rfl (i_list (q_lst (a_cons (q_op op_catA (qc 2) (q_sl sl_tupA (qc 2) (o_some (q_un un_neg q_int)) o_none)) (a_cons (q_tup a_nil) (a_cons (q_callTy call_list_of Y.list bt_list (a_cons (qc 2) a_nil)) (a_cons (q_op op_catA (qc 2) (q_tup (a_cons q_str a_nil))) (a_cons (q_op op_catA (qc 2) (q_tup (a_cons q_str a_nil))) (a_cons (qv 1) (a_cons q_non a_nil))))))))) (g_name 9 c__law_houses_spoilt.nd) (b_one (s_expr (q_bm PySem.F.plainAttrs_list PySem.F.slot_list_append PySem.F.type_list_append mt_append (qv 8) (a_cons (q_tup (a_cons (qv 1) (a_cons (qv 9) (a_cons (qc 3) (a_cons (qc 4) (a_cons (qc 5) a_nil)))))) a_nil)))))
      (b_cons (s_expr (q_bm PySem.F.plainAttrs_list PySem.F.slot_list_append PySem.F.type_list_append mt_append (qv 8) (a_cons (q_tup (a_cons q_str (a_cons (qv 7) (a_cons (q_tup a_nil) (a_cons (q_op op_repT (q_tup (a_cons (q_tup a_nil) a_nil)) q_int) (a_cons (q_op op_repT (q_tup (a_cons (q_tup a_nil) a_nil)) q_int) a_nil)))))) a_nil)))
      (b_cons (s_expr (q_bm PySem.F.plainAttrs_list PySem.F.slot_list_append PySem.F.type_list_append mt_append (qv 8) (a_cons (q_tup (a_cons (qv 1) (a_cons (q_tup (a_cons (qv 1) (a_cons (qv 1) a_nil))) (a_cons (q_tup a_nil) (a_cons (q_op op_repT (q_tup (a_cons (q_tup a_nil) a_nil)) q_int) (a_cons (q_op op_repT (q_tup (a_cons (q_tup a_nil) a_nil)) q_int) a_nil)))))) a_nil)))
      (b_cons (s_expr (q_bm PySem.F.plainAttrs_list PySem.F.slot_list_append PySem.F.type_list_append mt_append (qv 8) (a_cons (q_tup (a_cons q_str (a_cons (q_tup (a_cons q_str (a_cons q_str a_nil))) (a_cons (q_tup a_nil) (a_cons (q_op op_repT (q_tup (a_cons (q_tup a_nil) a_nil)) q_int) (a_cons (q_op op_repT (q_tup (a_cons (q_tup a_nil) a_nil)) q_int) a_nil)))))) a_nil)))
      (b_cons (s_expr (q_bm PySem.F.plainAttrs_list PySem.F.slot_list_append PySem.F.type_list_append mt_append (qv 8) (a_cons (q_tup (a_cons q_str (a_cons (q_tup (a_cons q_str a_nil)) (a_cons (q_tup a_nil) (a_cons (q_tup (a_cons (q_tup a_nil) a_nil)) (a_cons (q_tup (a_cons (q_tup a_nil) a_nil)) a_nil)))))) a_nil)))
      (b_one (s_ret (q_op op_cat (qv 8) (q_lst (a_cons (q_tup (a_cons (qv 1) (a_cons (q_sl sl_tupA (qc 2) o_none (o_some (q_op op_sub (qv 6) q_int))) (a_cons (q_tup a_nil) (a_cons (qc 4) (a_cons (qc 5) a_nil)))))) (a_cons (q_tup (a_cons q_int (a_cons (q_tup (a_cons q_int a_nil)) (a_cons (q_tup a_nil) (a_cons (q_tup (a_cons (q_tup a_nil) a_nil)) (a_cons (q_tup (a_cons (q_tup a_nil) a_nil)) a_nil)))))) a_nil))))))))))))))), ?_⟩
    refine ⟨_, rfl, p, _, rfl, .inl (.inl hp), rfl, _, _, rfl, _, _, rfl, _, _, rfl, _, _, rfl, _, _, rfl, rfl, ?_⟩
    have T1 := T.one
    have T10 := T.ten
    have T10l : lks.length ≤ 10 := by rw [T.ll]; exact T10
    have T10h : hds.length ≤ 10 := by rw [T.lh]; exact T10
    have gn : isNameB g = true := T.names g T.goal
    have rg : Rep H (.str g) (.str g) := .str g (name_short gn)
    have rl1 : Rep H (.ref pl) (.tup lks) := .mkL hpl (by omega) rl
    have ra1 : Rep H (.ref pa) (.tup hds) := .mkL hpa (by omega) ra
    have rh1 : Rep H (.ref pr) (.tup (hs.map D.str)) := .mkL hpr (by rw [List.length_map]; omega) (strs_rep fun x hx => name_short (T.names x hx))
    have rt1 : Rep H (.ref pt) (.tup (ps.map pairD)) := by
      obtain ⟨p', y1, y2, y3, y4, y5, e, hp', z1, z2, z3, z4, z5⟩ := rep5 hv
      cases e
      rw [hp] at hp'
      cases hp'
      exact z3
    refine ⟨_, rfl, .inl ⟨pr, _, rfl, .inr (.inl (.inl hpr)), ?_⟩⟩
    -- eleven names
    refine ⟨_, rfl, ?_⟩
    refine comp_txt (f := fun c => "aa" ++ ⟨#[c]⟩) (σr := []) (Nat.le_of_ble_eq_true rfl) rfl (fun c => ?_) (fun c H1 Q1 h1 => ⟨_, rfl, _, _, rfl, rfl, ?_, h1⟩) fun l1 us1 ds1 H1 s1 hl1 e1 r1 n1 => ?_
    · show ("aa" ++ (⟨#[c]⟩ : Str)).cps.size ≤ 1000
      have : ("aa" ++ (⟨#[c]⟩ : Str)).cps.size = ("aa" : Str).cps.size + 1 := Array.size_append
      rw [this]
      exact Nat.le_of_ble_eq_true rfl
    · exact Nat.le_of_ble_eq_true rfl
    refine ⟨l1, us1, rfl, .inl ⟨SqL.of e1, fun p2 hp2 => ?_⟩⟩
    have n11 : ds1.length = 11 := n1
    have S2 := Same.new (o := .tup us1) hp2
    have r2 : Rep (upd H1 p2 (.tup us1)) (.ref p2) (.tup ds1) := .mkL upd_same (by omega) (r1.mono (.of S2))
    have s2 := s1.trans S2
    generalize (upd H1 p2 (HO.tup us1)) = H2 at *
    have rg2 := rg.same s2
    have rl2 := rl1.same s2
    have ra2 := ra1.same s2
    have rh2 := rh1.same s2
    have rt2 := rt1.same s2
    dsimp only [gName]
    have ob : ∀ d ∈ [.non, .str "nowhere", .int 0, .tup [.str g], .str "", .oth, .bl true], isHouseB hs d = false := by
      walk_at "each" <;> first | exact house_out hw | exact house_no (by decide +kernel) | exact house_no rfl
    refine seq_compF (ds := [.non, .str "nowhere", .int 0, .tup [.str g], .str "", .oth, .bl true]) (f := fun d => .tup [d, .tup (hs.map D.str), .tup (ps.map pairD), .tup lks, .tup hds]) (σr := [some (.ref pa), some (.ref pr), some (.ref pl), some (.ref pt)]) (by walk_at "dsp") (Nat.le_of_ble_eq_true rfl) rfl (fun x d HA sA rx hd => ?_) fun l3 us3 H3 s3 hl3 e3 r3 => ?_
    · have raA := ra2.same sA
      have rhA := rh2.same sA
      have rlA := rl2.same sA
      have rtA := rt2.same sA
      walk_at "dsp"
    have b3 : BadL isTownB H3 l3 7 := .mk e3 r3 (Nat.le_of_ble_eq_true rfl) (fun d hd => by
      obtain ⟨x, hx, rfl⟩ := List.mem_map.mp hd
      exact bad_goal (by rw [RW.strs_map]; exact ob x hx))
    have s03 := s2.trans s3
    have rg3 := rg2.same s3
    have rl3 := rl2.same s3
    have ra3 := ra2.same s3
    have rh3 := rh2.same s3
    have rt3 := rt2.same s3
    have r23 := r2.same s3
    obtain ⟨h0, z, rfl⟩ : ∃ h0 z, hs = h0 ++ [z] := ⟨hs.dropLast, hs.getLast (fun z => by rw [z] at T1; simp at T1), (List.dropLast_concat_getLast _).symm⟩
    have hm0 : (h0 ++ [z]).map D.str = h0.map D.str ++ [.str z] := List.map_append
    have rhZ := rh3
    rw [hm0] at rhZ
    have n0 : h0.length ≤ 9 := by rw [List.length_append, List.length_singleton] at T10; omega
    refine seqfor_F (ds := [.tup (((h0 ++ [z]).map D.str) ++ [.str z]), .tup [], .oth, .tup (((h0 ++ [z]).map D.str) ++ [.str "zzzzzzzzz"]), .tup (((h0 ++ [z]).map D.str) ++ [.str "Z"]), .str g, .non]) ?_ (Nat.le_of_ble_eq_true rfl) fun l4 us4 H4 s4 hl4 e4 r4 => ?_
    · refine dspA_cons (dsp_catA (dsp_var rfl rh3) (dsp_lastS rfl rhZ) (by rw [List.length_map]; simp; omega)) (dspA_cons (by walk_at "dsp") (dspA_cons (dsp_listO rfl rh3) (dspA_cons (dsp_catA (dsp_var rfl rh3) (by walk_at "dsp") (by rw [List.length_map]; simp; omega)) (dspA_cons (dsp_catA (dsp_var rfl rh3) (by walk_at "dsp") (by rw [List.length_map]; simp; omega)) (by walk_at "dsp")))))
    have nl4 : l4 ≠ l3 := fun z => by rw [z, e3] at hl4; cases hl4
    have hb : ∀ d ∈ [D.tup (((h0 ++ [z]).map D.str) ++ [.str z]), .tup [], .oth, .tup (((h0 ++ [z]).map D.str) ++ [.str "zzzzzzzzz"]), .tup (((h0 ++ [z]).map D.str) ++ [.str "Z"]), .str g, .non], areHousesB d = false := by
      walk_at "each"
      · refine houses_bad3 ?_
        rw [hm0, List.append_assoc]
        exact rising_bad (by rw [ltD_str]; exact ltS_irr z)
      · rfl
      · rfl
      · exact houses_bad1 (List.mem_append_right _ (List.mem_singleton.mpr rfl)) (by decide +kernel)
      · exact houses_bad1 (List.mem_append_right _ (List.mem_singleton.mpr rfl)) (by decide +kernel)
      · rfl
      · rfl
    refine for_app (o0 := none) (m := 7) (f := fun d => .tup [.str g, d, .tup (ps.map pairD), .tup lks, .tup hds]) rfl (fun o => rfl) e4 r4 nl4 (b3.same s4) (Nat.le_of_ble_eq_true rfl) (fun x d HA mA kA rx hd => ⟨?_, bad_houses (hb d hd)⟩) fun o4 H5 b5 k5 m5 => ?_
    · have rgA := (rg3.same s4).mono mA
      have rlA := (rl3.same s4).mono mA
      have raA := (ra3.same s4).mono mA
      have rtA := (rt3.same s4).mono mA
      walk_at "dsp"
    have m35 := (Mono.of s4).trans m5
    have rg5 := rg3.mono m35
    have rl5 := rl3.mono m35
    have ra5 := ra3.mono m35
    have rh5 := rh3.mono m35
    have r25 := r23.mono m35
    have dr : ∀ {F : PySem.W.Frag} {σ : L2.St} {H : Hp} {k : Int}, 2 ≤ k → k ≤ 1000 → Dsp (tOp (rRepT F) (tTup (tCons (tTup tNil) tNil)) (tC (.int k))) σ H (.tup (List.replicate k.toNat [D.tup []]).flatten) := fun {F σ H k} k2 kb => dsp_rep (ds := [D.tup []]) (by walk_at "dsp") (by simp) k2 kb (by rw [List.flatten_replicate_singleton, List.length_replicate]; omega) (Nat.le_of_ble_eq_true rfl)
    refine seq_app (m := 14) (d := .tup [.str "aaa", .tup ds1, .tup [], .tup (List.replicate (11 : Int).toNat [D.tup []]).flatten, .tup (List.replicate (11 : Int).toNat [D.tup []]).flatten]) rfl b5 (Nat.le_of_ble_eq_true rfl) (by
      walk_at "dsp" <;> exact dr (by decide) (by decide)) (bad_houses (houses_bad2 (by omega))) fun H6 b6 k6 m6 => ?_
    have rg6 := rg5.mono m6
    refine seq_app (m := 15) (d := .tup [.str g, .tup [.str g, .str g], .tup [], .tup (List.replicate (2 : Int).toNat [D.tup []]).flatten, .tup (List.replicate (2 : Int).toNat [D.tup []]).flatten]) rfl b6 (Nat.le_of_ble_eq_true rfl) (by
      walk_at "dsp" <;> exact dr (by decide) (by decide)) (bad_houses (houses_bad3 (rising_bad (ds := []) (by rw [ltD_str]; exact ltS_irr g)))) fun H7 b7 k7 m7 => ?_
    refine seq_app (m := 16) (d := .tup [.str "b", .tup [.str "b", .str "a"], .tup [], .tup (List.replicate (2 : Int).toNat [D.tup []]).flatten, .tup (List.replicate (2 : Int).toNat [D.tup []]).flatten]) rfl b7 (Nat.le_of_ble_eq_true rfl) (by
      walk_at "dsp" <;> exact dr (by decide) (by decide)) (bad_houses (houses_bad3 (rising_bad (ds := []) (by decide +kernel)))) fun H8 b8 k8 m8 => ?_
    refine seq_app (m := 17) (d := .tup [.str "if", .tup [.str "if"], .tup [], .tup [.tup []], .tup [.tup []]]) rfl b8 (Nat.le_of_ble_eq_true rfl) (by
      walk_at "dsp") (bad_houses (houses_bad1 (List.mem_singleton.mpr rfl) (by decide +kernel))) fun H9 b9 k9 m9 => ?_
    have m59 := ((m6.trans m7).trans m8).trans m9
    have rg9 := rg5.mono m59
    have rl9 := rl5.mono m59
    have ra9 := ra5.mono m59
    have rh9 := rh5.mono m59
    have k39 : Keep l3 H3 H9 := (Keep.of s4).trans ((((k5.trans k6).trans k7).trans k8).trans k9)
    refine ret_bad (m := 18) (es := [.tup [.str g, .tup (((h0 ++ [z]).map D.str).take h0.length), .tup [], .tup lks, .tup hds], .tup [.int 7, .tup [.int 7], .tup [], .tup [.tup []], .tup [.tup []]]]) rfl b9 (dspl_lst (dspA_cons (dsp_tup (dspA_cons (dsp_var rfl rg9) (dspA_cons ?_ (by walk_at "dsp"))) (Nat.le_of_ble_eq_true rfl)) (by walk_at "dsp")) (Nat.le_of_ble_eq_true rfl)) ?_ (Nat.le_of_ble_eq_true rfl) fun l10 HX sX bX => q l10 HX ?_ ?_
    · refine dsp_slA (lo := none) (hi := some (h0.length : Int)) rfl rh9 (fun _ _ h => part_none h) (fun _ _ h => ⟨_, rfl, _, _, rfl, rfl, _, rfl, ?_⟩) fun vs hl => ⟨0, h0.length, by rw [cut_take, List.drop_zero], by rw [List.drop_zero]⟩
      rw [List.length_map, List.length_append, List.length_singleton]
      have : (((h0.length + 1 : Nat) : Int) - 1) = (h0.length : Int) := by push_cast; omega
      rw [this]
      exact h
    · walk_at "each"
      · rw [hm0, List.take_append_of_le_length (by rw [List.length_map]; exact Nat.le_refl _), ← List.map_take, List.take_length]
        refine bad_ll (many_bad ?_)
        rw [RW.strs_map, T.ll, List.length_append, List.length_singleton]
        omega
      · exact bad_houses (houses_bad1 (List.mem_singleton.mpr rfl) rfl)
    · exact ⟨_, _, bX.choose_spec.choose_spec.1, bX.choose_spec.choose_spec.2.1, Nat.le_trans bX.choose_spec.choose_spec.2.2.1 (Nat.le_of_ble_eq_true rfl), bX.choose_spec.choose_spec.2.2.2⟩
    · exact (Keep.same_of (none_of_same s2 hl3) s03 k39).trans sX
end
end K05

set_option Elab.async false
set_option linter.all false
set_option maxRecDepth 100000
set_option maxHeartbeats 4000000
namespace K05
open PySem PySem.Spec PyProof.Rows L2 RW
local macro_rules | `(tactic| walk_at "cond") => `(tactic| first | assumption | decide | omega | exact few rfl | exact .inl ⟨by decide, by decide⟩ | exact .inr ⟨by decide, by decide⟩ | exact .inl ⟨by omega, by omega⟩ | exact .inr ⟨by omega, by omega⟩ | exact ⟨by omega, by omega⟩ | exact ⟨by assumption, by assumption⟩ | exact ⟨by decide, by decide, by decide⟩ | exact .inr ⟨by split <;> decide, by split <;> decide⟩)
local macro_rules | `(tactic| walk_at "rd") => `(tactic| first | with_reducible_and_instances refine ⟨_, rfl, ?_⟩ | refine ⟨_, rfl, ?_⟩ | refine ⟨_, _, rfl, rfl, ?_⟩ | refine ⟨_, _, _, _, rfl, rfl, SqL.of (by assumption), rfl, ?_⟩ | refine ⟨_, _, _, _, rfl, rfl, (by assumption), rfl, ?_⟩ | refine .inl ⟨_, rfl, ?_⟩ | refine .inr ⟨_, rfl, ?_⟩ | refine .inl ⟨_, _, rfl, .inl (by assumption), ?_⟩ | refine ⟨(by walk_at "cond"), ?_⟩)
local macro_rules | `(tactic| walk_at "dsp") => `(tactic| repeat' (first | exact dsp_str (by decide) | exact dsp_int | exact dsp_bl | exact dsp_non | exact dsp_neg | exact dspA_nil | exact dsp_dnew | exact dsp_disp rfl | exact dsp_var rfl (by assumption) | refine dspA_cons ?_ ?_ | refine dsp_tup ?_ ?_ | refine dsp_lst' ?_ | refine n_cons ?_ ?_ | exact n_nil | exact v_c | exact v_var rfl | refine v_tup ?_ | refine dspl_lst ?_ ?_ | refine dspl_cat ?_ ?_ ?_ | exact dspl_var rfl (by assumption) (by assumption) | exact Nat.le_of_ble_eq_true rfl))
local macro_rules | `(tactic| walk_at "each") => `(tactic| repeat' (first | exact forall_nil | refine List.forall_mem_append.mpr ⟨?_, ?_⟩ | refine List.forall_mem_cons.mpr ⟨?_, ?_⟩))
section
variable {P : Program} {w : World} {K : PySem.W.Frag} {mg : Str → Option Value} {base : Heap}
theorem ok_ties_spoilt (Y : Ev K mg) : FnOk P w K mg base CX0 2 Y.a__law_ties_spoilt Y.d__law_ties_spoilt p__law_ties_spoilt NoTown := by
  refine Y._law_ties_spoilt.fn.okQ c__law_ties_spoilt (fun vs H Q E h => ?_) (fun cdv A outer s H vs Q E hr h => ?_)
  · obtain ⟨v, g, hs, ps, lks, hds, rfl, _⟩ := h; rfl
  · obtain ⟨v, g, hs, ps, lks, hds, rfl, hv, T, hw, q⟩ := h
    obtain ⟨p, pr, pt, pl, pa, vt, vl, va, rfl, hp, hpr, hpt, rt, hpl, rl, hpa, ra⟩ := town_at hv
    refine ⟨_, (b_cons (s_asg (qv 0) (g_tup 5 rfl (gs_cons (g_nameC 1 c__law_ties_spoilt.nd) (gs_cons (g_nameC 2 c__law_ties_spoilt.nd) (gs_cons (g_name 3 c__law_ties_spoilt.nd) (gs_cons (g_nameC 4 c__law_ties_spoilt.nd) (gs_cons (g_nameC 5 c__law_ties_spoilt.nd) gs_nil)))))))
      (b_cons (s_set 6 c__law_ties_spoilt.nd (q_lst (a_cons (q_callTy call_list_of Y.list bt_list (a_cons (qv 3) a_nil)) (a_cons q_non (a_cons (q_tup (a_cons (q_tup (a_cons (qc 1) (a_cons (qc 1) a_nil))) a_nil)) (a_cons (q_tup (a_cons (q_tup (a_cons (qc 1) (a_cons q_str a_nil))) a_nil)) (a_cons (q_tup (a_cons (q_tup (a_cons (qc 1) a_nil)) a_nil)) (a_cons (q_tup (a_cons (qc 1) a_nil)) (a_cons (q_tup (a_cons (q_tup (a_cons q_non (a_cons (qc 1) a_nil))) a_nil)) (a_cons q_int a_nil))))))))))
      (b_cut (s_if (t_cmp (op_neD (hu64 hr)) (qv 3) (q_tup a_nil)) (b_cons (s_asg (q_ix ix_tup (qv 3) q_int) (g_tup 2 rfl (gs_cons (g_name 7 c__law_ties_spoilt.nd) (gs_cons (g_name 8 c__law_ties_spoilt.nd) gs_nil))))
      (b_cons (s_set 6 c__law_ties_spoilt.nd (q_op op_cat (qv 6) (q_lst (a_cons (q_op op_catA (qv 3) (q_sl sl_tupA (qv 3) (o_some (q_un un_neg q_int)) o_none)) (a_cons (q_op op_catA (q_tup (a_cons (q_tup (a_cons (qv 8) (a_cons (qv 7) a_nil))) a_nil)) (q_sl sl_tupA (qv 3) (o_some q_int) o_none)) (a_cons (q_op op_catA (q_tup (a_cons (q_tup (a_cons (qv 7) (a_cons (qv 8) (a_cons (qv 7) a_nil)))) a_nil)) (q_sl sl_tupA (qv 3) (o_some q_int) o_none)) a_nil))))))
      (b_one (s_set 6 c__law_ties_spoilt.nd (q_op op_cat (qv 6) (q_lst (a_cons (q_op op_catA (q_tup (a_cons (q_lst (a_cons (qv 7) (a_cons (qv 8) a_nil))) a_nil)) (q_sl sl_tupA (qv 3) (o_some q_int) o_none)) (a_cons (q_tup (a_cons (q_tup (a_cons (qv 7) (a_cons q_int a_nil))) a_nil)) (a_cons (q_tup (a_cons (qv 7) (a_cons (qv 8) a_nil))) a_nil))))))))) b_nil)
      (b_cut (s_if (t_cmp op_gt (q_callB call_len2 Y.len bt_len (a_cons (qv 3) a_nil)) q_int) (b_one (s_set 6 c__law_ties_spoilt.nd (q_op op_cat (qv 6) (q_lst (a_cons (q_rev (qv 3) (q_un un_neg q_int)) (a_cons (q_op op_catA (q_sl sl_tupA (qv 3) (o_some q_int) o_none) (q_sl sl_tupA (qv 3) o_none (o_some q_int))) a_nil)))))) b_nil)
      (b_one (s_ret (q_comp (src := [none, some 1, some 5, some 2, some 4]) o__law_ties_spoilt_1 rfl rfl (i_list (qv 6)) (fun _ _ _ _ _ => (g_name 0 o__law_ties_spoilt_1.nd)) (fun _ _ _ _ _ => f_nil) (fun _ _ _ _ _ => (q_tup (a_cons (qc 1) (a_cons (qc 3) (a_cons (qv 0) (a_cons (qc 4) (a_cons (qc 2) a_nil)))))))))))))), ?_⟩
    refine ⟨_, rfl, p, _, rfl, .inl (.inl hp), rfl, _, _, rfl, _, _, rfl, _, _, rfl, _, _, rfl, _, _, rfl, rfl, ?_⟩
    have T1 := T.one
    have T10 := T.ten
    have TP := T.lp
    have T10l : lks.length ≤ 10 := by rw [T.ll]; exact T10
    have T10h : hds.length ≤ 10 := by rw [T.lh]; exact T10
    have gn : isNameB g = true := T.names g T.goal
    have rg : Rep H (.str g) (.str g) := .str g (name_short gn)
    have rl1 : Rep H (.ref pl) (.tup lks) := .mkL hpl (by omega) rl
    have ra1 : Rep H (.ref pa) (.tup hds) := .mkL hpa (by omega) ra
    have rh1 : Rep H (.ref pr) (.tup (hs.map D.str)) := .mkL hpr (by rw [List.length_map]; omega) (strs_rep fun x hx => name_short (T.names x hx))
    have rt1 : Rep H (.ref pt) (.tup (ps.map RW.pairD)) := .mkL hpt (by rw [List.length_map]; omega) rt
    dsimp only [gName]
    have now : isHouseB hs (.str "nowhere") = false := house_out hw
    have b0 : ∀ d ∈ [D.oth, .non, .tup [.tup [.str g, .str g]], .tup [.tup [.str g, .str "nowhere"]], .tup [.tup [.str g]], .tup [.str g], .tup [.tup [.non, .str g]], .int 0], areTiesB hs d = false := by
      walk_at "each"
      · rfl
      · rfl
      · exact ties_bad1 (List.mem_singleton.mpr rfl) (tie_bad3 (by rw [ltD_str]; exact ltS_irr g))
      · exact ties_bad1 (List.mem_singleton.mpr rfl) (tie_bad2 now)
      · exact ties_bad1 (List.mem_singleton.mpr rfl) rfl
      · exact ties_bad1 (List.mem_singleton.mpr rfl) rfl
      · exact ties_bad1 (List.mem_singleton.mpr rfl) (tie_bad1 rfl)
      · rfl
    refine seq_L (ds := [D.oth, .non, .tup [.tup [.str g, .str g]], .tup [.tup [.str g, .str "nowhere"]], .tup [.tup [.str g]], .tup [.str g], .tup [.tup [.non, .str g]], .int 0]) (dspl_lst (dspA_cons (dsp_listO rfl rt1) (by walk_at "dsp")) (Nat.le_of_ble_eq_true rfl)) fun l1 vs1 H1 s1 e1 r1 => ?_
    have B1 : BadL (areTiesB hs) H1 l1 8 := .mk e1 r1 (Nat.le_of_ble_eq_true rfl) b0
    refine ⟨fun σ' H' => (∃ o7 o8 l, σ' = [some (.ref p), some (.str g), some (.ref pr), some (.ref pt), some (.ref pl), some (.ref pa), some (.ref l), o7, o8] ∧ BadL (areTiesB hs) H' l 14) ∧ Same H H', ?_, ?_⟩
    · refine ⟨_, rfl, few rfl, fun pe hpe => ?_⟩
      have se := Same.new (o := .tup []) hpe
      have te : Tr (upd H1 pe (.tup [])) (.ref pe) (.tuple []) := .tup upd_same rfl fun i v d z => by cases z
      refine ⟨_, _, tr_pairs ((rt1.same s1).same se) T.tn, te, Nat.le_trans (Nat.min_le_right _ _) (by decide), _, rfl, ?_⟩
      have B2 := B1.same se
      have s2 := s1.trans se
      have rt2 := (rt1.same s1).same se
      have hpt2 := se _ _ (s1 _ _ hpt)
      generalize (upd H1 pe (HO.tup [])) = H2 at *
      cases ps with
      | nil => exact ⟨⟨_, _, _, rfl, B2.le (by decide)⟩, s2⟩
      | cons p0 ps' =>
        obtain ⟨a, b⟩ := p0
        have hc : (!(PyData.tuple (((a, b) :: ps').map pairPy)).eqv (.tuple [])) = true := by simp [PyData.eqv, PyData.eqvAll]
        refine if_t hc ?_
        obtain ⟨qs, z, hz⟩ : ∃ qs z, (a, b) :: ps' = qs ++ [z] := ⟨((a, b) :: ps').dropLast, ((a, b) :: ps').getLast (by simp), (List.dropLast_concat_getLast _).symm⟩
        obtain ⟨v0, vt', rfl⟩ : ∃ v0 vt', vt = v0 :: vt' := by
          match vt, rt.1 with
          | v0 :: vt', _ => exact ⟨v0, vt', rfl⟩
        have r0 : Rep H2 v0 (RW.pairD (a, b)) := (rt.mono (.of s2)).head.1
        obtain ⟨q1, x, y, rfl, hq1, rx, ry⟩ := r0.of2
        cases rx with | str _ ha =>
        cases ry with | str _ hb =>
        obtain ⟨ta, tb, tab⟩ := T.ties (a, b) List.mem_cons_self
        have rA : Rep H2 (.str a) (.str a) := .str a ha
        have rB : Rep H2 (.str b) (.str b) := .str b hb
        refine ⟨_, rfl, pt, _, 0, _, rfl, rfl, .inl (.inl hpt2), at0, q1, _, rfl, .inl (.inl hq1), rfl, _, _, rfl, _, _, rfl, rfl, ?_⟩
        dsimp only [gName]
        have TP' : (((a, b) :: ps').map RW.pairD).length ≤ 100 := by rw [List.length_map]; exact TP
        have TP2 : (((a, b) :: ps').map RW.pairD).length ≤ 100 := TP'
        have rtZ := rt2
        have mz : ((a, b) :: ps').map RW.pairD = qs.map RW.pairD ++ [RW.pairD z] := by rw [hz, List.map_append]; rfl
        rw [mz] at rtZ
        have dl : ((((a, b) :: ps').map RW.pairD).drop 1).length ≤ 100 := by rw [List.length_drop]; omega
        obtain ⟨vs2, ds2, e2, r2, n2, g2⟩ := B2
        refine seq_more (m := 8) rfl e2 r2 g2 n2 [.tup (((a, b) :: ps').map RW.pairD ++ [RW.pairD z]), .tup ([.tup [.str b, .str a]] ++ (((a, b) :: ps').map RW.pairD).drop 1), .tup ([.tup [.str a, .str b, .str a]] ++ (((a, b) :: ps').map RW.pairD).drop 1)] (dspl_lst (dspA_cons (dsp_catA (dsp_var rfl rt2) (dsp_lastS rfl rtZ) (by rw [List.length_singleton]; omega)) (dspA_cons (dsp_catA (by walk_at "dsp") (dsp_tail rfl rt2) (by rw [List.length_singleton]; omega)) (dspA_cons (dsp_catA (by walk_at "dsp") (dsp_tail rfl rt2) (by rw [List.length_singleton]; omega)) dspA_nil))) (Nat.le_of_ble_eq_true rfl)) ?_ fun l3 vs3 ds3 H3 s3 e3 r3 g3 n3 => ?_
        · walk_at "each"
          · refine ties_bad2 ?_
            rw [mz, List.append_assoc]
            exact rising_bad (by rw [ltD_pair]; exact ltP_irr z)
          · exact ties_bad1 List.mem_cons_self (tie_bad3 (by rw [ltD_str]; exact ltS_asy tab))
          · exact ties_bad1 List.mem_cons_self rfl
        have rA3 := rA.same s3
        have rB3 := rB.same s3
        have rt3 := rt2.same s3
        have n3' : ds3.length ≤ 11 := n3
        refine ⟨_, rfl, ?_⟩
        refine dspl_go (te := tLst _) (ds := [.tup ([D.oth] ++ (((a, b) :: ps').map RW.pairD).drop 1), .tup [.tup [.str a, .int 0]], .tup [.str a, .str b]]) (dspl_lst (dspA_cons (dsp_catA (by walk_at "dsp") (dsp_tail rfl rt3) (by rw [List.length_singleton]; omega)) (by walk_at "dsp")) (Nat.le_of_ble_eq_true rfl)) fun l4 vs4 H4 s4 e4 r4 => ?_
        have n4 := r4.1
        refine ⟨l3, l4, _, _, rfl, rfl, s4 _ _ e3, e4, Nat.le_of_lt (small1000 (by have := r3.1; rw [n4]; show _ + 3 ≤ _; omega)), fun l5 hl5 => ⟨⟨_, _, _, rfl, ?_⟩, (s2.trans s3).trans (s4.trans (Same.new hl5))⟩⟩
        refine .mk upd_same (((r3.mono (.of s4)).append r4).mono (.new hl5)) (by rw [List.length_append]; show _ + 3 ≤ _; omega) (List.forall_mem_append.mpr ⟨g3, ?_⟩)
        walk_at "each"
        · exact ties_bad1 List.mem_cons_self rfl
        · exact ties_bad1 List.mem_cons_self (tie_bad2 (house_no rfl))
        · exact ties_bad1 List.mem_cons_self rfl
    · rintro σ' H2 ⟨⟨o7, o8, l2, rfl, B2⟩, s2⟩
      refine ⟨fun σ' H' => (∃ o7 o8 l, σ' = [some (.ref p), some (.str g), some (.ref pr), some (.ref pt), some (.ref pl), some (.ref pa), some (.ref l), o7, o8] ∧ BadL (areTiesB hs) H' l 16) ∧ Same H H', ?_, ?_⟩
      · refine ⟨_, rfl, .inl ⟨pt, _, rfl, .inr (.inl (.inl (s2 _ _ hpt))), _, _, rfl, rfl, _, rfl, ?_⟩⟩
        have rt2 := rt1.same s2
        obtain ⟨vs2, ds2, e2, r2, n2, g2⟩ := B2
        match ps, T, TP, rt2, rt with
        | [], _, _, _, rt => 
          have : vt = [] := List.eq_nil_of_length_eq_zero rt.1
          subst this
          exact ⟨⟨_, _, _, rfl, .mk e2 r2 (by omega) g2⟩, s2⟩
        | [p0], _, _, _, rt =>
          refine if_f (by rw [rt.1]; rfl) ?_
          exact ⟨⟨_, _, _, rfl, .mk e2 r2 (by omega) g2⟩, s2⟩
        | p0 :: p1 :: ps', T, TP, rt2, rt =>
          refine if_t (by rw [rt.1]; exact decide_eq_true (by rw [List.length_map, List.length_cons, List.length_cons]; omega)) ?_
          have TP' : ((p0 :: p1 :: ps').map RW.pairD).length ≤ 100 := by rw [List.length_map]; exact TP
          obtain ⟨qs, z, hz⟩ : ∃ qs z, p1 :: ps' = qs ++ [z] := ⟨(p1 :: ps').dropLast, (p1 :: ps').getLast (by simp), (List.dropLast_concat_getLast _).symm⟩
          have hp01 : ltP p0 p1 = true := (List.pairwise_cons.mp T.riseP).1 p1 List.mem_cons_self
          have hp0z : ltP p0 z = true := (List.pairwise_cons.mp T.riseP).1 z (by rw [hz]; exact List.mem_append_right _ (List.mem_singleton.mpr rfl))
          refine ⟨_, rfl, ?_⟩
          refine dspl_go (te := tLst _) (ds := [.tup ((p0 :: p1 :: ps').map RW.pairD).reverse, .tup (((p0 :: p1 :: ps').map RW.pairD).drop 1 ++ ((p0 :: p1 :: ps').map RW.pairD).take 1)]) (dspl_lst (dspA_cons (dsp_rev rfl rt2) (dspA_cons (dsp_catA (dsp_tail rfl rt2) (dsp_headN (n := 1) rfl rt2) (by rw [List.length_drop, List.length_take]; omega)) dspA_nil)) (Nat.le_of_ble_eq_true rfl)) fun l4 vs4 H4 s4 e4 r4 => ?_
          have n4 := r4.1
          refine ⟨l2, l4, _, _, rfl, rfl, s4 _ _ e2, e4, Nat.le_of_lt (small1000 (by have := r2.1; rw [n4]; show _ + 2 ≤ _; omega)), fun l5 hl5 => ⟨⟨_, _, _, rfl, ?_⟩, s2.trans (s4.trans (Same.new hl5))⟩⟩
          refine .mk upd_same (((r2.mono (.of s4)).append r4).mono (.new hl5)) (by rw [List.length_append]; show _ + 2 ≤ _; omega) (List.forall_mem_append.mpr ⟨g2, ?_⟩)
          walk_at "each"
          · refine ties_bad2 ?_
            rw [List.map_cons, List.map_cons, List.reverse_cons, List.reverse_cons, List.append_assoc]
            exact rising_bad (by rw [ltD_pair]; exact ltP_asy hp01)
          · refine ties_bad2 ?_
            show risingB ((p1 :: ps').map RW.pairD ++ [RW.pairD p0]) = false
            rw [hz, List.map_append, List.append_assoc]
            exact rising_bad (by rw [ltD_pair]; exact ltP_asy hp0z)
      · rintro σ' H3 ⟨⟨o7, o8, l3, rfl, B3⟩, s3⟩
        obtain ⟨vs3, ds3, e3, r3, n3, g3⟩ := B3
        refine ret_L (ds := ds3.map fun d => .tup [.str g, .tup (hs.map D.str), d, .tup lks, .tup hds]) (dspl_compE (σr := [some (.str g), some (.ref pa), some (.ref pr), some (.ref pl)]) (dspl_var rfl e3 r3) (by omega) rfl fun x d HA sA rx hd => ?_) fun l4 us4 H4 s4 e4 r4 => q l4 H4 ?_ (s3.trans s4)
        · have rgA := (rg.same s3).same sA
          have raA := (ra1.same s3).same sA
          have rhA := (rh1.same s3).same sA
          have rlA := (rl1.same s3).same sA
          walk_at "dsp"
        · refine .mk e4 r4 (by rw [List.length_map]; omega) fun d hd => ?_
          obtain ⟨x, hx, rfl⟩ := List.mem_map.mp hd
          exact bad_ties (by rw [RW.strs_map]; exact g3 x hx)
end
end K05

set_option Elab.async false
set_option linter.all false
set_option maxRecDepth 100000
set_option maxHeartbeats 4000000
namespace K05
open PySem PySem.Spec PyProof.Rows L2 RW
local macro_rules | `(tactic| walk_at "cond") => `(tactic| first | assumption | decide | omega | exact few rfl | exact .inl ⟨by decide, by decide⟩ | exact .inr ⟨by decide, by decide⟩ | exact .inl ⟨by omega, by omega⟩ | exact .inr ⟨by omega, by omega⟩ | exact ⟨by omega, by omega⟩ | exact ⟨by assumption, by assumption⟩ | exact ⟨by decide, by decide, by decide⟩ | exact .inr ⟨by split <;> decide, by split <;> decide⟩)
local macro_rules | `(tactic| walk_at "rd") => `(tactic| first | with_reducible_and_instances refine ⟨_, rfl, ?_⟩ | refine ⟨_, rfl, ?_⟩ | refine ⟨_, _, rfl, rfl, ?_⟩ | refine ⟨_, _, _, _, rfl, rfl, SqL.of (by assumption), rfl, ?_⟩ | refine ⟨_, _, _, _, rfl, rfl, (by assumption), rfl, ?_⟩ | refine .inl ⟨_, rfl, ?_⟩ | refine .inr ⟨_, rfl, ?_⟩ | refine .inl ⟨_, _, rfl, .inl (by assumption), ?_⟩ | refine ⟨(by walk_at "cond"), ?_⟩)
local macro_rules | `(tactic| walk_at "dsp") => `(tactic| repeat' (first | exact dsp_str (by decide) | exact dsp_int | exact dsp_bl | exact dsp_non | exact dsp_neg | exact dspA_nil | exact dsp_dnew | exact dsp_disp rfl | exact dsp_var rfl (by assumption) | refine dspA_cons ?_ ?_ | refine dsp_tup ?_ ?_ | refine dsp_lst' ?_ | refine n_cons ?_ ?_ | exact n_nil | exact v_c | exact v_var rfl | refine v_tup ?_ | refine dspl_lst ?_ ?_ | refine dspl_cat ?_ ?_ ?_ | exact dspl_var rfl (by assumption) (by assumption) | exact Nat.le_of_ble_eq_true rfl))
local macro_rules | `(tactic| walk_at "each") => `(tactic| repeat' (first | exact forall_nil | refine List.forall_mem_append.mpr ⟨?_, ?_⟩ | refine List.forall_mem_cons.mpr ⟨?_, ?_⟩))
section
variable {P : Program} {w : World} {K : PySem.W.Frag} {mg : Str → Option Value} {base : Heap}
def NoTownH (c : Int) : Sp := fun vs H Q _ => ∃ (a : Addr) (n : Int) (v : V) (g : Str) (hs : List Str) (ps : List (Str × Str)) (lks hds : List D), vs = [.ref a, v] ∧ Hand H a n ∧ n < 2 ^ 37 ∧ Rep H v (townD g hs ps lks hds) ∧ TownOk g hs ps lks hds ∧ ∀ (l : Addr) (H' : Hp), BadL isTownB H' l 100 → l ≠ a → Hand H' a (n + c) → Keep a H H' → Q (.ref l) H'
theorem ok_rules_spoilt (Y : Ev K mg) : FnOk P w K mg base CX0 2 Y.a__law_rules_spoilt Y.d__law_rules_spoilt p__law_rules_spoilt (NoTownH 1) := by
  have G__law_take : FnOk P w K mg base CX0 1 Y.a__law_take Y.d__law_take p__law_take spTake := ok_take Y
  refine Y._law_rules_spoilt.fn.okQ c__law_rules_spoilt (fun vs H Q E h => ?_) (fun cdv A outer s H vs Q E hr h => ?_)
  · obtain ⟨a, n, v, g, hs, ps, lks, hds, rfl, _⟩ := h; rfl
  · obtain ⟨a, n, v, g, hs, ps, lks, hds, rfl, hH, hn, hv, T, q⟩ := h
    obtain ⟨p, pr, pt, pl, pa, vt, vl, va, rfl, hp, hpr, hpt, rt, hpl, rl, hpa, ra⟩ := town_at hv
    refine ⟨_, (b_cons (s_asg (qv 1) (g_tup 5 rfl (gs_cons (g_nameC 2 c__law_rules_spoilt.nd) (gs_cons (g_nameC 3 c__law_rules_spoilt.nd) (gs_cons (g_nameC 4 c__law_rules_spoilt.nd) (gs_cons (g_nameC 5 c__law_rules_spoilt.nd) (gs_cons (g_nameC 6 c__law_rules_spoilt.nd) gs_nil)))))))
      (b_cons (s_set 7 c__law_rules_spoilt.nd (q_call G__law_take (hr.mono (by decide)) Y._law_take.mg Y._law_take.kp Y._law_take.b .nil pass0 (a_cons (qv 0) (a_cons (q_callB call_len2 Y.len bt_len (a_cons (qc 3) a_nil)) a_nil))))
      (b_cons (s_set 8 c__law_rules_spoilt.nd (q_tup (a_cons (q_tup (a_cons (q_tup (a_cons q_str (a_cons (qc 2) a_nil))) a_nil)) (a_cons q_int a_nil))))
      (b_cons (s_set 9 c__law_rules_spoilt.nd (q_tup (a_cons (q_tup (a_cons (q_tup (a_cons q_str (a_cons (qc 2) a_nil))) a_nil)) (a_cons (q_tup (a_cons q_str a_nil)) a_nil))))
      (b_cons (s_setcomp 10 (src := [none, some 2, some 6, some 3, some 4]) o__law_rules_spoilt_1 rfl rfl c__law_rules_spoilt.nd (i_list (q_lst (a_cons (q_sl sl_tupA (qc 5) (o_some q_int) o_none) (a_cons (q_op op_catA (qc 5) (q_tup (a_cons (q_tup a_nil) a_nil))) (a_cons (q_callTy call_list_of Y.list bt_list (a_cons (qc 5) a_nil)) (a_cons q_non (a_cons (q_tup a_nil) a_nil))))))) (fun _ _ _ _ _ => (g_name 0 o__law_rules_spoilt_1.nd)) (fun _ _ _ _ _ => f_nil) (fun _ _ _ _ _ => (q_tup (a_cons (qc 1) (a_cons (qc 3) (a_cons (qc 4) (a_cons (qv 0) (a_cons (qc 2) a_nil))))))))
      (b_cons (s_set 10 c__law_rules_spoilt.nd (q_op op_cat (qv 10) (q_comp (src := [none, some 2, some 3, some 5, some 4]) o__law_rules_spoilt_2 rfl rfl (i_list (q_lst (a_cons (q_sl sl_tupA (qc 6) (o_some q_int) o_none) (a_cons (q_op op_catA (qc 6) (q_tup (a_cons (q_tup a_nil) a_nil))) (a_cons (q_callTy call_list_of Y.list bt_list (a_cons (qc 6) a_nil)) (a_cons q_int (a_cons (q_tup a_nil) a_nil))))))) (fun _ _ _ _ _ => (g_name 0 o__law_rules_spoilt_2.nd)) (fun _ _ _ _ _ => f_nil) (fun _ _ _ _ _ => (q_tup (a_cons (qc 1) (a_cons (qc 2) (a_cons (qc 4) (a_cons (qc 3) (a_cons (qv 0) a_nil))))))))))
      (b_cons (s_for PassesOwn.never rfl (i_list (q_lst (a_cons (q_op op_repT (q_tup (a_cons (qv 8) a_nil)) q_int) (a_cons (q_lst (a_cons (qv 8) a_nil)) (a_cons (qv 8) (a_cons (q_tup (a_cons (qv 9) a_nil)) (a_cons (q_tup (a_cons (qv 8) (a_cons q_non a_nil))) (a_cons (q_tup (a_cons (q_tup (a_cons (q_tup (a_cons (q_tup (a_cons q_str (a_cons (qc 2) a_nil))) a_nil)) (a_cons q_int a_nil))) a_nil)) (a_cons q_non (a_cons (q_tup (a_cons (q_tup a_nil) (a_cons q_int a_nil))) a_nil)))))))))) (g_name 11 c__law_rules_spoilt.nd) (b_one (s_expr (q_bm PySem.F.plainAttrs_list PySem.F.slot_list_append PySem.F.type_list_append mt_append (qv 10) (a_cons (q_tup (a_cons (qc 2) (a_cons (qc 3) (a_cons (qc 4) (a_cons (q_op op_catA (q_op op_catA (q_sl sl_tup (qc 5) o_none (o_some (qv 7))) (q_tup (a_cons (qv 11) a_nil))) (q_sl sl_tup (qc 5) (o_some (q_op op_add (qv 7) q_int)) o_none)) (a_cons (qc 6) a_nil)))))) a_nil)))))
      (b_cons (s_for PassesOwn.never rfl (i_list (q_lst (a_cons (q_op op_repT (q_tup (a_cons (qv 9) a_nil)) q_int) (a_cons (q_lst (a_cons (qv 9) a_nil)) (a_cons (qv 9) (a_cons (q_tup (a_cons (qv 8) a_nil)) (a_cons (q_tup (a_cons (qv 9) (a_cons q_non a_nil))) (a_cons (q_tup (a_cons (q_tup (a_cons (q_tup (a_cons q_str (a_cons (qc 2) a_nil))) a_nil)) (a_cons q_str a_nil))) (a_cons q_non (a_cons q_str a_nil)))))))))) (g_name 11 c__law_rules_spoilt.nd) (b_one (s_expr (q_bm PySem.F.plainAttrs_list PySem.F.slot_list_append PySem.F.type_list_append mt_append (qv 10) (a_cons (q_tup (a_cons (qc 2) (a_cons (qc 3) (a_cons (qc 4) (a_cons (qc 5) (a_cons (q_op op_catA (q_op op_catA (q_sl sl_tup (qc 6) o_none (o_some (qv 7))) (q_tup (a_cons (qv 11) a_nil))) (q_sl sl_tup (qc 6) (o_some (q_op op_add (qv 7) q_int)) o_none)) a_nil)))))) a_nil)))))
      (b_one (s_ret (qv 10))))))))))), ?_⟩
    refine ⟨_, rfl, p, _, rfl, .inl (.inl hp), rfl, _, _, rfl, _, _, rfl, _, _, rfl, _, _, rfl, _, _, rfl, rfl, ?_⟩
    have T1 := T.one
    have T10 := T.ten
    have TP := T.lp
    have T10l : lks.length ≤ 10 := by rw [T.ll]; exact T10
    have T10h : hds.length ≤ 10 := by rw [T.lh]; exact T10
    have gn : isNameB g = true := T.names g T.goal
    refine ⟨_, rfl, _, rfl, .inl ⟨pr, _, rfl, .inr (.inl (.inl hpr)), a, _, n, rfl, hH, by omega, by rw [List.length_map]; omega, by rw [List.length_map]; omega, fun t' H1 t0 t1 hH1 k1 => ?_⟩⟩
    obtain ⟨t, rfl⟩ : ∃ t : Nat, t' = (t : Int) := ⟨t'.toNat, by omega⟩
    have ht : t < hs.length := by rw [List.length_map] at t1; omega
    have m1 : Mono H H1 := .keep k1 hH hH1
    have rg1 : Rep H1 (.str g) (.str g) := .str g (name_short gn)
    have rl1 : Rep H1 (.ref pl) (.tup lks) := .mkL (m1.tup _ _ hpl) (by omega) (rl.mono m1)
    have ra1 : Rep H1 (.ref pa) (.tup hds) := .mkL (m1.tup _ _ hpa) (by omega) (ra.mono m1)
    have rh1 : Rep H1 (.ref pr) (.tup (hs.map D.str)) := .mkL (m1.tup _ _ hpr) (by rw [List.length_map]; omega) (strs_rep fun x hx => name_short (T.names x hx))
    have rt1 : Rep H1 (.ref pt) (.tup (ps.map RW.pairD)) := .mkL (m1.tup _ _ hpt) (by rw [List.length_map]; omega) (rt.mono m1)
    dsimp only [gName]
    generalize hLK : (D.tup [.tup [.tup [.str "by", .str g]], .int 1]) = LK
    generalize hAC : (D.tup [.tup [.tup [.str "to", .str g]], .tup [.str "keep"]]) = AC
    refine seq_D (d := LK) (by rw [← hLK]; walk_at "dsp") fun v2 H2 s2 r2 => ?_
    have rg2 := rg1.same s2
    refine seq_D (d := AC) (by rw [← hAC]; walk_at "dsp") fun v3 H3 s3 r3 => ?_
    have s13 := s2.trans s3
    have r23 := r2.same s3
    have rg3 := rg1.same s13
    have rl3 := rl1.same s13
    have ra3 := ra1.same s13
    have rh3 := rh1.same s13
    have rt3 := rt1.same s13
    have nl0 : lks.drop 1 ≠ lks := fun z => by have := congrArg List.length z; rw [List.length_drop, T.ll] at this; omega
    have lb : ∀ d ∈ [D.tup (lks.drop 1), .tup (lks ++ [.tup []]), .oth, .non, .tup []], manyB d hs.length = false := by
      walk_at "each"
      · exact many_bad (by rw [List.length_drop, T.ll]; omega)
      · exact many_bad (by rw [List.length_append, List.length_singleton, T.ll]; omega)
      · rfl
      · rfl
      · exact many_bad (by show 0 ≠ _; omega)
    have ab : ∀ d ∈ [D.tup (hds.drop 1), .tup (hds ++ [.tup []]), .oth, .int 5, .tup []], manyB d hs.length = false := by
      walk_at "each"
      · exact many_bad (by rw [List.length_drop, T.lh]; omega)
      · exact many_bad (by rw [List.length_append, List.length_singleton, T.lh]; omega)
      · rfl
      · rfl
      · exact many_bad (by show 0 ≠ _; omega)
    refine seq_compF (ds := [D.tup (lks.drop 1), .tup (lks ++ [.tup []]), .oth, .non, .tup []]) (f := fun d => .tup [.str g, .tup (hs.map D.str), .tup (ps.map RW.pairD), d, .tup hds]) (σr := [some (.str g), some (.ref pa), some (.ref pr), some (.ref pt)]) (dspl_lst (dspA_cons (dsp_tail rfl rl3) (dspA_cons (dsp_catA (dsp_var rfl rl3) (by walk_at "dsp") (by rw [List.length_singleton]; omega)) (dspA_cons (dsp_listO rfl rl3) (by walk_at "dsp")))) (Nat.le_of_ble_eq_true rfl)) (Nat.le_of_ble_eq_true rfl) rfl (fun x d HA sA rx hd => ?_) fun l4 us4 H4 s4 hl4 e4 r4 => ?_
    · have rgA := rg3.same sA
      have raA := ra3.same sA
      have rhA := rh3.same sA
      have rtA := rt3.same sA
      walk_at "dsp"
    have rg4 := rg3.same s4
    have rl4 := rl3.same s4
    have ra4 := ra3.same s4
    have rh4 := rh3.same s4
    have rt4 := rt3.same s4
    refine ⟨_, rfl, ?_⟩
    refine dspl_go (te := tComp _ _ _ _ _) (ds := [D.tup (hds.drop 1), .tup (hds ++ [.tup []]), .oth, .int 5, .tup []].map fun d => .tup [.str g, .tup (hs.map D.str), .tup (ps.map RW.pairD), .tup lks, d]) (dspl_compE (σr := [some (.str g), some (.ref pr), some (.ref pl), some (.ref pt)]) (dspl_lst (dspA_cons (dsp_tail rfl ra4) (dspA_cons (dsp_catA (dsp_var rfl ra4) (by walk_at "dsp") (by rw [List.length_singleton]; omega)) (dspA_cons (dsp_listO rfl ra4) (by walk_at "dsp")))) (Nat.le_of_ble_eq_true rfl)) (Nat.le_of_ble_eq_true rfl) rfl fun x d HA sA rx hd => ?_) fun l5 us5 H5 s5 e5 r5 => ?_
    · have rgA := rg4.same sA
      have rlA := rl4.same sA
      have rhA := rh4.same sA
      have rtA := rt4.same sA
      walk_at "dsp"
    have n4 := r4.1
    have n5 := r5.1
    refine ⟨l4, l5, _, _, rfl, rfl, s5 _ _ e4, e5, Nat.le_of_lt (small1000 (by rw [n4, n5]; exact Nat.le_of_ble_eq_true rfl)), fun l6 hl6 => ?_⟩
    have S6 := Same.new (o := .lst (us4 ++ us5)) hl6
    have b6 : BadL isTownB (upd H5 l6 (.lst (us4 ++ us5))) l6 10 := by
      refine .mk upd_same (((r4.mono (.of s5)).append r5).mono (.of S6)) (Nat.le_of_ble_eq_true rfl) (List.forall_mem_append.mpr ⟨fun d hd => ?_, fun d hd => ?_⟩)
      · obtain ⟨x, hx, rfl⟩ := List.mem_map.mp hd
        exact bad_ll (by rw [RW.strs_map]; exact lb x hx)
      · obtain ⟨x, hx, rfl⟩ := List.mem_map.mp hd
        exact bad_lh (by rw [RW.strs_map]; exact ab x hx)
    have s46 := s5.trans S6
    have s16 := (s13.trans s4).trans s46
    have hH6 := hH1.same s16
    have nl6 : l6 ≠ a := (hH1.same ((s13.trans s4).trans s5)).ne hl6
    have hl6' : H1 l6 = none := none_of_same ((s13.trans s4).trans s5) hl6
    generalize (upd H5 l6 (HO.lst (us4 ++ us5))) = H6 at *
    have rg6 := rg4.same s46
    have rl6 := rl4.same s46
    have ra6 := ra4.same s46
    have rh6 := rh4.same s46
    have rt6 := rt4.same s46
    have rL6 := (r23.same s4).same s46
    have rA6 := (r3.same s4).same s46
    dsimp only [gName]
    have lt1 : t < lks.length := by rw [T.ll]; exact ht
    have lt2 : t < hds.length := by rw [T.lh]; exact ht
    have d91 : ∀ {F : PySem.W.Frag} {te : TE} {σ : L2.St} {H : Hp} {x : D}, Dsp te σ H x → Dsp (tOp (rRepT F) (tTup (tCons te tNil)) (tC (.int 91))) σ H (.tup (List.replicate (91 : Int).toNat [x]).flatten) := fun {F te σ H x} hx => dsp_rep (ds := [x]) (dsp_tup (dspA_cons hx dspA_nil) (Nat.le_of_ble_eq_true rfl)) (by simp) (by decide) (by decide) (by rw [List.flatten_replicate_singleton, List.length_replicate]; decide) (Nat.le_of_ble_eq_true rfl)
    have n91 : ∀ x : D, 90 < (List.replicate (91 : Int).toNat [x]).flatten.length := fun x => by rw [List.flatten_replicate_singleton, List.length_replicate]; decide
    have gl : ∀ d ∈ [D.tup (List.replicate (91 : Int).toNat [LK]).flatten, .oth, LK, .tup [AC], .tup [LK, .non], .tup [.tup [.tup [.tup [.str "to", .str g]], .int 1]], .non, .tup [.tup [], .int 1]], areLikingsB d = false := by
      walk_at "each"
      · exact lks_bad1 (n91 _)
      · rfl
      · rw [← hLK]; exact lks_bad2 (List.mem_cons_of_mem _ List.mem_cons_self) rfl
      · rw [← hAC]; exact lks_bad2 List.mem_cons_self (liking_bad1 rfl)
      · exact lks_bad2 (List.mem_cons_of_mem _ List.mem_cons_self) rfl
      · exact lks_bad2 List.mem_cons_self (liking_bad3 rfl)
      · rfl
      · exact lks_bad2 (List.mem_cons_of_mem _ List.mem_cons_self) rfl
    have ga : ∀ d ∈ [D.tup (List.replicate (91 : Int).toNat [AC]).flatten, .oth, AC, .tup [LK], .tup [AC, .non], .tup [.tup [.tup [.str "by", .str g]], .str "keep"], .non, .str "keep"], areHandsB d = false := by
      walk_at "each"
      · exact hds_bad1 (n91 _)
      · rfl
      · rw [← hAC]; exact hds_bad2 (List.mem_cons_of_mem _ List.mem_cons_self) rfl
      · rw [← hLK]; exact hds_bad2 List.mem_cons_self (hand_bad1 rfl)
      · exact hds_bad2 (List.mem_cons_of_mem _ List.mem_cons_self) rfl
      · exact hds_bad2 (List.mem_cons_of_mem _ List.mem_cons_self) rfl
      · rfl
      · rfl
    refine seqfor_F (ds := [D.tup (List.replicate (91 : Int).toNat [LK]).flatten, .oth, LK, .tup [AC], .tup [LK, .non], .tup [.tup [.tup [.tup [.str "to", .str g]], .int 1]], .non, .tup [.tup [], .int 1]]) (dspA_cons (d91 (dsp_var rfl rL6)) (by walk_at "dsp")) (Nat.le_of_ble_eq_true rfl) fun l7 us7 H7 s7 hl7 e7 r7 => ?_
    have nl7 : l7 ≠ l6 := fun z => by obtain ⟨_, _, e, _⟩ := b6; rw [z, e] at hl7; cases hl7
    refine for_app (o0 := none) (m := 10) (f := fun d => .tup [.str g, .tup (hs.map D.str), .tup (ps.map RW.pairD), .tup (lks.take t ++ [d] ++ lks.drop (t + 1)), .tup hds]) rfl (fun o => rfl) e7 r7 nl7 (b6.same s7) (Nat.le_of_ble_eq_true rfl) (fun x d HA mA kA rx hd => ⟨?_, bad_likes (likes_bad (List.mem_append_left _ (List.mem_append_right _ (List.mem_singleton.mpr rfl))) (gl d hd))⟩) fun o7 H8 b8 k8 m8 => ?_
    · have rgA := (rg6.same s7).mono mA
      have rlA := (rl6.same s7).mono mA
      have raA := (ra6.same s7).mono mA
      have rhA := (rh6.same s7).mono mA
      have rtA := (rt6.same s7).mono mA
      exact dsp_tup (dspA_cons (dsp_var rfl rgA) (dspA_cons (dsp_var rfl rhA) (dspA_cons (dsp_var rfl rtA) (dspA_cons (dsp_catA (dsp_catA (dsp_takeT rfl rlA rfl lt1) (by walk_at "dsp") (by rw [List.length_take, List.length_singleton]; omega)) (dsp_dropT rfl rlA rfl lt1) (by rw [List.length_append, List.length_take, List.length_singleton, List.length_drop]; omega)) (dspA_cons (dsp_var rfl raA) dspA_nil))))) (Nat.le_of_ble_eq_true rfl)
    have m68 := (Mono.of s7).trans m8
    have rg8 := rg6.mono m68
    have rl8 := rl6.mono m68
    have ra8 := ra6.mono m68
    have rh8 := rh6.mono m68
    have rt8 := rt6.mono m68
    have rL8 := rL6.mono m68
    have rA8 := rA6.mono m68
    refine seqfor_F (ds := [D.tup (List.replicate (91 : Int).toNat [AC]).flatten, .oth, AC, .tup [LK], .tup [AC, .non], .tup [.tup [.tup [.str "by", .str g]], .str "keep"], .non, .str "keep"]) (dspA_cons (d91 (dsp_var rfl rA8)) (by walk_at "dsp")) (Nat.le_of_ble_eq_true rfl) fun l9 us9 H9 s9 hl9 e9 r9 => ?_
    have nl9 : l9 ≠ l6 := fun z => by obtain ⟨_, _, e, _⟩ := b8; rw [z, e] at hl9; cases hl9
    refine for_app (o0 := o7) (m := 18) (f := fun d => .tup [.str g, .tup (hs.map D.str), .tup (ps.map RW.pairD), .tup lks, .tup (hds.take t ++ [d] ++ hds.drop (t + 1))]) rfl (fun o => rfl) e9 r9 nl9 (b8.same s9) (Nat.le_of_ble_eq_true rfl) (fun x d HA mA kA rx hd => ⟨?_, bad_hands (hands_bad (List.mem_append_left _ (List.mem_append_right _ (List.mem_singleton.mpr rfl))) (ga d hd))⟩) fun o9 H10 b10 k10 m10 => ?_
    · have rgA := (rg8.same s9).mono mA
      have rlA := (rl8.same s9).mono mA
      have raA := (ra8.same s9).mono mA
      have rhA := (rh8.same s9).mono mA
      have rtA := (rt8.same s9).mono mA
      exact dsp_tup (dspA_cons (dsp_var rfl rgA) (dspA_cons (dsp_var rfl rhA) (dspA_cons (dsp_var rfl rtA) (dspA_cons (dsp_var rfl rlA) (dspA_cons (dsp_catA (dsp_catA (dsp_takeT rfl raA rfl lt2) (by walk_at "dsp") (by rw [List.length_take, List.length_singleton]; omega)) (dsp_dropT rfl raA rfl lt2) (by rw [List.length_append, List.length_take, List.length_singleton, List.length_drop]; omega)) dspA_nil))))) (Nat.le_of_ble_eq_true rfl)
    have k610 : Keep l6 H6 H10 := (((Keep.of s7).trans k8).trans (Keep.of s9)).trans k10
    have s110 : Same H1 H10 := Keep.same_of hl6' s16 k610
    exact ⟨_, rfl, q l6 H10 (b10.le (Nat.le_of_ble_eq_true rfl)) nl6 (hH1.same s110) (k1.trans (Keep.of s110))⟩
end
end K05

set_option Elab.async false
set_option linter.all false
set_option maxRecDepth 100000
set_option maxHeartbeats 4000000
namespace K05
open PySem PySem.Spec PyProof.Rows L2 RW
local macro_rules | `(tactic| walk_at "cond") => `(tactic| first | assumption | decide | omega | exact few rfl | exact .inl ⟨by decide, by decide⟩ | exact .inr ⟨by decide, by decide⟩ | exact .inl ⟨by omega, by omega⟩ | exact .inr ⟨by omega, by omega⟩ | exact ⟨by omega, by omega⟩ | exact ⟨by assumption, by assumption⟩ | exact ⟨by decide, by decide, by decide⟩ | exact .inr ⟨by split <;> decide, by split <;> decide⟩)
local macro_rules | `(tactic| walk_at "rd") => `(tactic| first | with_reducible_and_instances refine ⟨_, rfl, ?_⟩ | refine ⟨_, rfl, ?_⟩ | refine ⟨_, _, rfl, rfl, ?_⟩ | refine ⟨_, _, _, _, rfl, rfl, SqL.of (by assumption), rfl, ?_⟩ | refine ⟨_, _, _, _, rfl, rfl, (by assumption), rfl, ?_⟩ | refine .inl ⟨_, rfl, ?_⟩ | refine .inr ⟨_, rfl, ?_⟩ | refine .inl ⟨_, _, rfl, .inl (by assumption), ?_⟩ | refine ⟨(by walk_at "cond"), ?_⟩)
local macro_rules | `(tactic| walk_at "dsp") => `(tactic| repeat' (first | exact dsp_str (by decide) | exact dsp_int | exact dsp_bl | exact dsp_non | exact dsp_neg | exact dspA_nil | exact dsp_dnew | exact dsp_disp rfl | exact dsp_var rfl (by assumption) | refine dspA_cons ?_ ?_ | refine dsp_tup ?_ ?_ | refine dsp_lst' ?_ | refine n_cons ?_ ?_ | exact n_nil | exact v_c | exact v_var rfl | refine v_tup ?_ | refine dspl_lst ?_ ?_ | refine dspl_cat ?_ ?_ ?_ | exact dspl_var rfl (by assumption) (by assumption) | exact Nat.le_of_ble_eq_true rfl))
local macro_rules | `(tactic| walk_at "each") => `(tactic| repeat' (first | exact forall_nil | refine List.forall_mem_append.mpr ⟨?_, ?_⟩ | refine List.forall_mem_cons.mpr ⟨?_, ?_⟩))
section
variable {P : Program} {w : World} {K : PySem.W.Frag} {mg : Str → Option Value} {base : Heap}
def nestD : Nat → D → D
  | 0, d => d
  | n + 1, d => .tup [nestD n d]
theorem ok_odd5 (Y : Ev K mg) : FnOk P w K mg base CX0 2 Y.a__law_odd Y.d__law_odd p__law_odd (NoTownH 1) := by
  have G__law_take : FnOk P w K mg base CX0 1 Y.a__law_take Y.d__law_take p__law_take spTake := ok_take Y
  refine Y._law_odd.fn.okQ c__law_odd (fun vs H Q E h => ?_) (fun cdv A outer s H vs Q E hr h => ?_)
  · obtain ⟨a, n, v, g, hs, ps, lks, hds, rfl, _⟩ := h; rfl
  · obtain ⟨a, n, v, g, hs, ps, lks, hds, rfl, hH, hn, hv, T, q⟩ := h
    refine ⟨_, (b_cons (s_set 2 c__law_odd.nd (qv 1))
      (b_cons (s_for PassesOwn.never rfl (i_rng1 Y.range (a_cons (q_op op_add q_int (q_call G__law_take (hr.mono (by decide)) Y._law_take.mg Y._law_take.kp Y._law_take.b .nil pass0 (a_cons (qv 0) (a_cons q_int a_nil)))) a_nil)) (g_name 3 c__law_odd.nd) (b_one (s_set 2 c__law_odd.nd (q_tup (a_cons (qv 2) a_nil)))))
      (b_cons (s_set 4 c__law_odd.nd (q_lst (a_cons q_non (a_cons q_bl (a_cons q_int (a_cons q_str (a_cons (q_tup a_nil) (a_cons (q_lst a_nil) (a_cons q_dnew (a_cons (q_callTy call_list_of Y.list bt_list (a_cons (qv 1) a_nil)) (a_cons (q_sl sl_tupA (qv 1) o_none (o_some q_int)) (a_cons (q_op op_catA (qv 1) (q_tup (a_cons (q_tup a_nil) a_nil))) (a_cons (q_tup (a_cons (qv 1) a_nil)) (a_cons (q_op op_catA (q_sl sl_tupA (qv 1) (o_some q_int) o_none) (q_sl sl_tupA (qv 1) o_none (o_some q_int))) (a_cons (qv 2) a_nil)))))))))))))))
      (b_one (s_ret (q_op op_cat (qv 4) (q_lst (a_cons (q_op op_repT (q_tup (a_cons q_non a_nil)) q_int) (a_cons (q_op op_repT (q_tup (a_cons (q_tup a_nil) a_nil)) q_int) (a_cons (q_op op_repT (q_tup (a_cons q_str a_nil)) q_int) (a_cons (q_op op_repT (q_tup (a_cons (q_tup (a_cons q_str a_nil)) a_nil)) q_int) (a_cons (q_op op_repT (q_tup (a_cons (q_lst a_nil) a_nil)) q_int) a_nil)))))))))))), ?_⟩
    refine ⟨_, rfl, _, rfl, a, 45, n, rfl, hH, by omega, by decide, by decide, fun t H1 t0 t1 hH1 k1 => ⟨_, _, rfl, rfl, _, rfl, by omega, by omega, ?_⟩⟩
    have m1 : Mono H H1 := .keep k1 hH hH1
    have hv1 := hv.mono m1
    refine for_by wk_rng (fun i σ' H' => (∃ vd o3 o4, σ' = [some (.ref a), some v, some vd, o3, o4] ∧ Rep H' vd (nestD i (townD g hs ps lks hds))) ∧ Same H1 H') ⟨⟨_, _, _, rfl, hv1⟩, Same.refl _⟩ (fun _ _ _ _ => trivial) ?_ ?_
    · rintro i y σ' H2 hi rfl ⟨⟨vd, o3, o4, rfl, rd⟩, s2⟩
      refine ⟨_, rfl, few rfl, fun p hp => ⟨⟨_, _, _, rfl, .mk1 upd_same (rd.mono (.new hp))⟩, s2.trans (Same.new hp)⟩⟩
    · rintro σ' H2 ⟨⟨vd, o3, o4, rfl, rd⟩, s2⟩
      obtain ⟨m, hm⟩ : ∃ m, (1 + t).toNat = m + 1 := ⟨t.toNat, by omega⟩
      rw [hm] at rd
      have rv2 := hv1.same s2
      have TP := T.lp
      dsimp only [gName]
      refine seq_L (ds := [.non, .bl true, .int 0, .str "town", .tup [], .oth, .oth, .oth, .tup ([D.str g, .tup (hs.map D.str), .tup (ps.map RW.pairD), .tup lks, .tup hds].take 4), .tup ([D.str g, .tup (hs.map D.str), .tup (ps.map RW.pairD), .tup lks, .tup hds] ++ [.tup []]), .tup [townD g hs ps lks hds], .tup ([D.str g, .tup (hs.map D.str), .tup (ps.map RW.pairD), .tup lks, .tup hds].drop 1 ++ [D.str g, .tup (hs.map D.str), .tup (ps.map RW.pairD), .tup lks, .tup hds].take 1), nestD (m + 1) (townD g hs ps lks hds)]) (dspl_lst (by
        refine dspA_cons (by walk_at "dsp") (dspA_cons (by walk_at "dsp") (dspA_cons (by walk_at "dsp") (dspA_cons (by walk_at "dsp") (dspA_cons (by walk_at "dsp") (dspA_cons (by walk_at "dsp") (dspA_cons (by walk_at "dsp") (dspA_cons (dsp_listO rfl rv2) (dspA_cons (dsp_headN (n := 4) rfl rv2) (dspA_cons (dsp_catA (dsp_var rfl rv2) (by walk_at "dsp") (Nat.le_of_ble_eq_true rfl)) (dspA_cons (by walk_at "dsp") (dspA_cons (dsp_catA (dsp_tail rfl rv2) (dsp_headN (n := 1) rfl rv2) (Nat.le_of_ble_eq_true rfl)) (by walk_at "dsp")))))))))))) ) (Nat.le_of_ble_eq_true rfl)) fun l3 vs3 H3 s3 e3 r3 => ?_
      have g3 : ∀ d ∈ [D.non, .bl true, .int 0, .str "town", .tup [], .oth, .oth, .oth, .tup ([D.str g, .tup (hs.map D.str), .tup (ps.map RW.pairD), .tup lks, .tup hds].take 4), .tup ([D.str g, .tup (hs.map D.str), .tup (ps.map RW.pairD), .tup lks, .tup hds] ++ [.tup []]), .tup [townD g hs ps lks hds], .tup ([D.str g, .tup (hs.map D.str), .tup (ps.map RW.pairD), .tup lks, .tup hds].drop 1 ++ [D.str g, .tup (hs.map D.str), .tup (ps.map RW.pairD), .tup lks, .tup hds].take 1), nestD (m + 1) (townD g hs ps lks hds)], isTownB d = false := by
        walk_at "each" <;> first | rfl | skip
        refine bad_houses ?_
        cases ps with
        | nil => rfl
        | cons p0 ps => exact houses_bad1 List.mem_cons_self rfl
      have d5 : ∀ {F : PySem.W.Frag} {te : TE} {σ : L2.St} {H : Hp} {x : D}, Dsp te σ H x → Dsp (tOp (rRepT F) (tTup (tCons te tNil)) (tC (.int 5))) σ H (.tup (List.replicate (5 : Int).toNat [x]).flatten) := fun {F te σ H x} hx => dsp_rep (ds := [x]) (dsp_tup (dspA_cons hx dspA_nil) (Nat.le_of_ble_eq_true rfl)) (by simp) (by decide) (by decide) (by rw [List.flatten_replicate_singleton, List.length_replicate]; decide) (Nat.le_of_ble_eq_true rfl)
      have ge : ∀ d ∈ [D.tup (List.replicate (5 : Int).toNat [D.non]).flatten, .tup (List.replicate (5 : Int).toNat [D.tup []]).flatten, .tup (List.replicate (5 : Int).toNat [D.str "a"]).flatten, .tup (List.replicate (5 : Int).toNat [D.tup [.str "a"]]).flatten, .tup (List.replicate (5 : Int).toNat [D.oth]).flatten], isTownB d = false := by
        walk_at "each"
        · exact bad_houses rfl
        · exact bad_houses rfl
        · exact bad_houses rfl
        · exact bad_goal (house_no rfl)
        · exact bad_houses rfl
      refine ret_L (dspl_cat (es := [D.tup (List.replicate (5 : Int).toNat [D.non]).flatten, .tup (List.replicate (5 : Int).toNat [D.tup []]).flatten, .tup (List.replicate (5 : Int).toNat [D.str "a"]).flatten, .tup (List.replicate (5 : Int).toNat [D.tup [.str "a"]]).flatten, .tup (List.replicate (5 : Int).toNat [D.oth]).flatten]) (dspl_var rfl e3 r3) (dspl_lst (dspA_cons (d5 (by walk_at "dsp")) (dspA_cons (d5 (by walk_at "dsp")) (dspA_cons (d5 (by walk_at "dsp")) (dspA_cons (d5 (by walk_at "dsp")) (dspA_cons (d5 (by walk_at "dsp")) dspA_nil))))) (Nat.le_of_ble_eq_true rfl)) (Nat.le_of_ble_eq_true rfl)) fun l4 vs4 H4 s4 e4 r4 => ?_
      have s14 := (s2.trans s3).trans s4
      exact q l4 H4 (.mk e4 r4 (Nat.le_of_ble_eq_true rfl) (List.forall_mem_append.mpr ⟨g3, ge⟩)) (hand_three (hH1.same s14) e4 r4 (Nat.ne_of_beq_eq_false rfl)) (hH1.same s14) (k1.trans (Keep.of s14))
end
end K05

set_option Elab.async false
set_option linter.all false
set_option maxRecDepth 100000
set_option maxHeartbeats 4000000
namespace K05
open PySem PySem.Spec PyProof.Rows L2 RW
local macro_rules | `(tactic| walk_at "cond") => `(tactic| first | assumption | decide | omega | exact few rfl | exact .inl ⟨by decide, by decide⟩ | exact .inr ⟨by decide, by decide⟩ | exact .inl ⟨by omega, by omega⟩ | exact .inr ⟨by omega, by omega⟩ | exact ⟨by omega, by omega⟩ | exact ⟨by assumption, by assumption⟩ | exact ⟨by decide, by decide, by decide⟩ | exact .inr ⟨by split <;> decide, by split <;> decide⟩)
local macro_rules | `(tactic| walk_at "rd") => `(tactic| first | with_reducible_and_instances refine ⟨_, rfl, ?_⟩ | refine ⟨_, rfl, ?_⟩ | refine ⟨_, _, rfl, rfl, ?_⟩ | refine ⟨_, _, _, _, rfl, rfl, SqL.of (by assumption), rfl, ?_⟩ | refine ⟨_, _, _, _, rfl, rfl, (by assumption), rfl, ?_⟩ | refine .inl ⟨_, rfl, ?_⟩ | refine .inr ⟨_, rfl, ?_⟩ | refine .inl ⟨_, _, rfl, .inl (by assumption), ?_⟩ | refine ⟨(by walk_at "cond"), ?_⟩)
local macro_rules | `(tactic| walk_at "dsp") => `(tactic| repeat' (first | exact dsp_str (by decide) | exact dsp_int | exact dsp_bl | exact dsp_non | exact dsp_neg | exact dspA_nil | exact dsp_dnew | exact dsp_disp rfl | exact dsp_var rfl (by assumption) | refine dspA_cons ?_ ?_ | refine dsp_tup ?_ ?_ | refine dsp_lst' ?_ | refine n_cons ?_ ?_ | exact n_nil | exact v_c | exact v_var rfl | refine v_tup ?_ | refine dspl_lst ?_ ?_ | refine dspl_cat ?_ ?_ ?_ | exact dspl_var rfl (by assumption) (by assumption) | exact Nat.le_of_ble_eq_true rfl))
local macro_rules | `(tactic| walk_at "each") => `(tactic| repeat' (first | exact forall_nil | refine List.forall_mem_append.mpr ⟨?_, ?_⟩ | refine List.forall_mem_cons.mpr ⟨?_, ?_⟩))
section
variable {P : Program} {w : World} {K : PySem.W.Frag} {mg : Str → Option Value} {base : Heap}
def spLaw (K : PySem.W.Frag) : Sp := fun vs H Q _ => ∃ (a : Addr) (ns : List Int), vs = [.ref a] ∧ SqL K H a (ns.map V.int) ∧ ns.length ≤ 63 ∧ ∀ H', Q (.bl true) H'
theorem BadL.cat {g : D → Bool} {H : Hp} {l1 l2 l3 : Addr} {m n : Nat} {Q : VK} (b1 : BadL g H l1 m) (b2 : BadL g H l2 n) (hm : m + n ≤ 900) (q : ∀ l H', H l = none → Same H H' → BadL g H' l (m + n) → Q (.ref l) H') : rCat (.ref l1) (.ref l2) H Q := by
  obtain ⟨vs, ds, e, r, k, b⟩ := b1
  obtain ⟨us, es, e', r', k', b'⟩ := b2
  have h1 := r.1
  have h2 := r'.1
  exact ⟨l1, l2, vs, us, rfl, rfl, e, e', Nat.le_of_lt (small1000 (by omega)), fun p hp => q p _ hp (Same.new hp) (.mk upd_same ((r.append r').mono (.new hp)) (by rw [List.length_append]; omega) (List.forall_mem_append.mpr ⟨b, b'⟩))⟩
theorem ok_law_of (Y : Ev K mg) {fl : Addr} {fdl : FuncData} (FL : Fun K "law" "law" s_law fl fdl) : FnOk P w K mg base CX0 9 fl fdl p_law (spLaw K) := by
  have G__law_hand : FnOk P w K mg base CX0 1 Y.a__law_hand Y.d__law_hand p__law_hand (spHand K) := ok_hand Y
  have G__law_town : FnOk P w K mg base CX0 6 Y.a__law_town Y.d__law_town p__law_town spTown := ok_town Y
  have G__law_houses_spoilt : FnOk P w K mg base CX0 2 Y.a__law_houses_spoilt Y.d__law_houses_spoilt p__law_houses_spoilt NoTown := ok_houses_spoilt Y
  have G__law_ties_spoilt : FnOk P w K mg base CX0 2 Y.a__law_ties_spoilt Y.d__law_ties_spoilt p__law_ties_spoilt NoTown := ok_ties_spoilt Y
  have G__law_rules_spoilt : FnOk P w K mg base CX0 2 Y.a__law_rules_spoilt Y.d__law_rules_spoilt p__law_rules_spoilt (NoTownH 1) := ok_rules_spoilt Y
  have G__law_odd : FnOk P w K mg base CX0 2 Y.a__law_odd Y.d__law_odd p__law_odd (NoTownH 1) := ok_odd5 Y
  have G_is_town : FnOk P w K mg base CX0 8 Y.a_is_town Y.d_is_town p_is_town (spAny isTownB) := ok_is_town Y
  refine FL.okQ c_law (fun vs H Q E h => ?_) (fun cdv A outer s H vs Q E hr h => ?_)
  · obtain ⟨a, ns, rfl, _⟩ := h; rfl
  · obtain ⟨b, ns, rfl, hS, hns, q⟩ := h
    refine ⟨_, (b_cons (s_for PassesOwn.never rfl (i_rng1 Y.range (a_cons (q_callB (call_max2 rfl) Y.max bt_max (a_cons q_int (a_cons (q_callB (call_min2 rfl) Y.min bt_min (a_cons q_int (a_cons (q_callB call_len2 Y.len bt_len (a_cons (qv 0) a_nil)) a_nil))) a_nil))) a_nil)) (g_name 1 c_law.nd) (b_cons (s_set 2 c_law.nd (q_call G__law_hand (hr.mono (by decide)) Y._law_hand.mg Y._law_hand.kp Y._law_hand.b .nil pass0 (a_cons (qv 0) (a_cons (qv 1) a_nil))))
      (b_cons (s_set 3 c_law.nd (q_call G__law_town (hr.mono (by decide)) Y._law_town.mg Y._law_town.kp Y._law_town.b .nil pass0 (a_cons (qv 2) a_nil)))
      (b_cons (s_if (t_cmp op_isnotB (q_call G_is_town (hr.mono (by decide)) Y.is_town.mg Y.is_town.kp Y.is_town.b .nil pass0 (a_cons (qv 3) a_nil)) q_bl) (b_one (s_ret q_bl)) b_nil)
      (b_cons (s_set 4 c_law.nd (q_op op_cat (q_call G__law_houses_spoilt (hr.mono (by decide)) Y._law_houses_spoilt.mg Y._law_houses_spoilt.kp Y._law_houses_spoilt.b .nil pass0 (a_cons (qv 3) a_nil)) (q_call G__law_ties_spoilt (hr.mono (by decide)) Y._law_ties_spoilt.mg Y._law_ties_spoilt.kp Y._law_ties_spoilt.b .nil pass0 (a_cons (qv 3) a_nil))))
      (b_cons (s_set 4 c_law.nd (q_op op_cat (q_op op_cat (qv 4) (q_call G__law_rules_spoilt (hr.mono (by decide)) Y._law_rules_spoilt.mg Y._law_rules_spoilt.kp Y._law_rules_spoilt.b .nil pass0 (a_cons (qv 2) (a_cons (qv 3) a_nil)))) (q_call G__law_odd (hr.mono (by decide)) Y._law_odd.mg Y._law_odd.kp Y._law_odd.b .nil pass0 (a_cons (qv 2) (a_cons (qv 3) a_nil)))))
      (b_one (s_if (t_w (w_or (t_not (t_val (q_callB (call_allB rfl) Y.all bt_all (a_cons (q_comp (src := [none]) o_law_1 rfl rfl (i_list (qv 4)) (fun _ _ _ _ _ => (g_name 0 o_law_1.nd)) (fun _ _ _ _ _ => f_nil) (fun _ _ _ _ _ => (q_cmp op_isB (q_call G_is_town (hr.mono (by decide)) Y.is_town.mg Y.is_town.kp Y.is_town.b .nil pass0 (a_cons (qv 0) a_nil)) q_bl))) a_nil)))) (w_or1 (t_cmp op_isnotB (q_call G_is_town (hr.mono (by decide)) Y.is_town.mg Y.is_town.kp Y.is_town.b .nil pass0 (a_cons (qv 3) a_nil)) q_bl)))) (b_one (s_ret q_bl)) b_nil))))))))
      (b_one (s_ret q_bl))), ?_⟩
    refine ⟨_, rfl, .inl ⟨b, _, rfl, .inl hS, _, _, rfl, _, _, rfl, _, rfl, ?_, ?_, ?_⟩⟩
    · split <;> (try split) <;> omega
    · rw [List.length_map]
      split <;> (try split) <;> omega
    refine for_by wk_rng (fun i σ' H' => (∃ o1 o2 o3 o4, σ' = [some (.ref b), o1, o2, o3, o4]) ∧ Same H H') ⟨⟨_, _, _, _, rfl⟩, Same.refl H⟩ (fun _ _ _ _ => trivial) ?_ ?_
    · rintro i y σ' H0 hi rfl ⟨⟨o1, o2, o3, o4, rfl⟩, s0⟩
      have hi' : i < 1000 := by
        refine Nat.lt_of_lt_of_le hi ?_
        rw [List.length_map]
        split <;> (try split) <;> omega
      refine ⟨_, rfl, _, rfl, b, ns, _, rfl, s0.seq hS, by omega, by omega, fun a H1 ha hH1 s1 => ?_⟩
      refine ⟨_, rfl, a, 0, rfl, hH1, by decide, fun v g hs ps lks hds H2 hv T hw hH2 k2 => ?_⟩
      refine ⟨_, rfl, v, _, rfl, hv, fun H3 s3 => ?_⟩
      rw [T.ok]
      refine ⟨_, _, rfl, rfl, _, rfl, if_f rfl ?_⟩
      have hv3 := hv.same s3
      refine ⟨_, rfl, v, g, hs, ps, lks, hds, rfl, hv3, T, hw, fun l4 H4 B4 s4 => ?_⟩
      refine ⟨_, rfl, v, g, hs, ps, lks, hds, rfl, hv3.same s4, T, hw, fun l5 H5 B5 s5 => ?_⟩
      refine BadL.cat (l3 := l5) (B4.same s5) B5 (by decide) fun l6 H6 hl6 s6 B6 => ?_
      have s26 := (s3.trans s4).trans (s5.trans s6)
      have hH6 := hH2.same s26
      have n6 : l6 ≠ a := (hH2.same ((s3.trans s4).trans s5)).ne hl6
      have hv6 := hv.same s26
      refine ⟨_, rfl, _, rfl, _, rfl, a, _, v, g, hs, ps, lks, hds, rfl, hH6, by decide, hv6, T, fun l7 H7 B7 n7 hH7 k7 => ?_⟩
      have m67 : Mono H6 H7 := .keep k7 hH6 hH7
      refine BadL.cat (l3 := l7) (B6.keep k7 n6 hH6 hH7) B7 (by decide) fun l8 H8 hl8 s8 B8 => ?_
      have hH8 := hH7.same s8
      have n8 : l8 ≠ a := hH7.ne hl8
      have hv8 := (hv6.mono m67).same s8
      refine ⟨_, rfl, _, rfl, a, _, v, g, hs, ps, lks, hds, rfl, hH8, by decide, hv8, T, fun l9 H9 B9 n9 hH9 k9 => ?_⟩
      have m89 : Mono H8 H9 := .keep k9 hH8 hH9
      refine BadL.cat (l3 := l9) (B8.keep k9 n8 hH8 hH9) B9 (by decide) fun lA HA hlA sA BA => ?_
      have hvA := (hv8.mono m89).same sA
      have kA : Keep a H1 HA := k2.trans ((Keep.of s26).trans (k7.trans ((Keep.of s8).trans (k9.trans (Keep.of sA)))))
      obtain ⟨vsA, dsA, eA, rA, nA, gA⟩ := BA
      refine ⟨_, rfl, lA, rfl, ⟨_, SqL.of eA⟩, ?_⟩
      refine comp_truths (g := fun d => isTownB d == false) (wk_list (K := K)) (fun H' s => SqL.of (s _ _ eA)) rA (by omega) rfl (fun x d HB Q1 sB rx hd q1 => ⟨_, rfl, x, d, rfl, rx, fun HC sC => ⟨_, _, rfl, rfl, q1 HC sC⟩⟩) (fun lB HB sB _ hlB => ?_)
      refine ⟨lB, _, rfl, SqL.of hlB, ?_⟩
      have eall : (dsA.map fun d => isTownB d == false).all id = true := by
        rw [List.all_map, List.all_eq_true]
        exact fun d hd => by show (isTownB d == false) = true; rw [gA d hd]; rfl
      rw [eall]
      refine ⟨_, rfl, ?_⟩
      refine if_f rfl ?_
      refine ⟨_, rfl, v, _, rfl, hvA.same sB, fun HC sC => ?_⟩
      rw [T.ok]
      refine ⟨_, _, rfl, rfl, _, rfl, if_f rfl ?_⟩
      have kF : Keep a H1 HC := kA.trans (Keep.of (sB.trans sC))
      exact ⟨⟨_, _, _, _, rfl⟩, fun c o e => kF c o (ne_of_none (s0 c o e) ha) (s1 c o (s0 c o e))⟩
    · rintro σ' H4 _
      exact q H4
end
end K05

set_option Elab.async false
set_option linter.all false
set_option maxRecDepth 100000
set_option maxHeartbeats 4000000
namespace K05
open PySem PySem.Spec PyProof.Rows L2 RW
theorem walk {l : PySem.W.OpenLaw} {q : Program} {loose : List Str} {XP : (Str → Option Value) → Heap → Prop} {YP : World → Heap → Prop} {d : DefRec} {K : Params → PySem.W.Frag} (hn : l.most = some 63) (hdf : d.params.defaults = [])
    (hY : ∀ (w : World) (h : Heap), YP w h → (K w.params).In h)
    (F : ∀ (w : World) (mg : Str → Option Value) (fa : Addr) (h : Heap), (K w.params).In h → h.Ns mainGlobals mg → mg d.name = some (.ref fa) →
      ∃ fd : FuncData, (∀ (s : Shared) (u : Value), BindsTo s fd ⟨[u], []⟩ [("_law_script", u)]) ∧ ∀ base : Heap, (K w.params).In base → base.Ns mainGlobals mg → FnOk l.prog w (K w.params) mg base CX0 9 fa fd ["_law_script"] (spLaw (K w.params))) :
    PySem.W.WalkO q loose XP YP l.row.toRowW d [] (fun f vs => PySem.call f vs) :=
  L2.walk_of (n := 63) (k := 9) (x := "_law_script") (CX := fun _ => CX0) (sp := fun w => spLaw (K w.params)) hn (by decide) hdf ⟨rfl, by decide, by decide⟩ hY F (fun _ _ a ns hl _ hS => ⟨a, ns, rfl, hS, hl, fun _ => rfl⟩) fun _ _ _ _ _ z => z

theorem all_mk {l : PySem.W.OpenLaw} {w : World} {K : PySem.W.Frag} {h : Heap} {mg : Str → Option Value} {fa : Addr} (X : K.In h) (G : h.Ns mainGlobals mg) (hfa : mg "law" = some (.ref fa))
    {f1 : Addr} {od1 an1 : Option Addr} {sl1 : Array (Option Value)} {oc1 kV1 dc1 pm1 cd1 ct1 : Value}
    (a1 : PySem.W.nsIn K mainGlobals "is_name" = some (some (.ref f1))) (l1 : K.lookup f1 = some ⟨oc1, od1, .func (PySem.W.fnOf "is_name" "is_name" (defArgs s_is_name) (defBody s_is_name) (defScope s_is_name) .none kV1 dc1 pm1 an1 cd1 ct1), sl1⟩) (c1 : PySem.W.codeIn K cd1 "is_name" = true) (k1 : PySem.W.keepIn K (.ref f1) = true)
    {f2 : Addr} {od2 an2 : Option Addr} {sl2 : Array (Option Value)} {oc2 kV2 dc2 pm2 cd2 ct2 : Value}
    (a2 : PySem.W.nsIn K mainGlobals "is_number" = some (some (.ref f2))) (l2 : K.lookup f2 = some ⟨oc2, od2, .func (PySem.W.fnOf "is_number" "is_number" (defArgs s_is_number) (defBody s_is_number) (defScope s_is_number) .none kV2 dc2 pm2 an2 cd2 ct2), sl2⟩) (c2 : PySem.W.codeIn K cd2 "is_number" = true) (k2 : PySem.W.keepIn K (.ref f2) = true)
    {f3 : Addr} {od3 an3 : Option Addr} {sl3 : Array (Option Value)} {oc3 kV3 dc3 pm3 cd3 ct3 : Value}
    (a3 : PySem.W.nsIn K mainGlobals "is_whole" = some (some (.ref f3))) (l3 : K.lookup f3 = some ⟨oc3, od3, .func (PySem.W.fnOf "is_whole" "is_whole" (defArgs s_is_whole) (defBody s_is_whole) (defScope s_is_whole) .none kV3 dc3 pm3 an3 cd3 ct3), sl3⟩) (c3 : PySem.W.codeIn K cd3 "is_whole" = true) (k3 : PySem.W.keepIn K (.ref f3) = true)
    {f4 : Addr} {od4 an4 : Option Addr} {sl4 : Array (Option Value)} {oc4 kV4 dc4 pm4 cd4 ct4 : Value}
    (a4 : PySem.W.nsIn K mainGlobals "is_row" = some (some (.ref f4))) (l4 : K.lookup f4 = some ⟨oc4, od4, .func (PySem.W.fnOf "is_row" "is_row" (defArgs s_is_row) (defBody s_is_row) (defScope s_is_row) .none kV4 dc4 pm4 an4 cd4 ct4), sl4⟩) (c4 : PySem.W.codeIn K cd4 "is_row" = true) (k4 : PySem.W.keepIn K (.ref f4) = true)
    {f5 : Addr} {od5 an5 : Option Addr} {sl5 : Array (Option Value)} {oc5 kV5 dc5 pm5 cd5 ct5 : Value}
    (a5 : PySem.W.nsIn K mainGlobals "is_rising" = some (some (.ref f5))) (l5 : K.lookup f5 = some ⟨oc5, od5, .func (PySem.W.fnOf "is_rising" "is_rising" (defArgs s_is_rising) (defBody s_is_rising) (defScope s_is_rising) .none kV5 dc5 pm5 an5 cd5 ct5), sl5⟩) (c5 : PySem.W.codeIn K cd5 "is_rising" = true) (k5 : PySem.W.keepIn K (.ref f5) = true)
    {f6 : Addr} {od6 an6 : Option Addr} {sl6 : Array (Option Value)} {oc6 kV6 dc6 pm6 cd6 ct6 : Value}
    (a6 : PySem.W.nsIn K mainGlobals "is_worded" = some (some (.ref f6))) (l6 : K.lookup f6 = some ⟨oc6, od6, .func (PySem.W.fnOf "is_worded" "is_worded" (defArgs s_is_worded) (defBody s_is_worded) (defScope s_is_worded) .none kV6 dc6 pm6 an6 cd6 ct6), sl6⟩) (c6 : PySem.W.codeIn K cd6 "is_worded" = true) (k6 : PySem.W.keepIn K (.ref f6) = true)
    {f7 : Addr} {od7 an7 : Option Addr} {sl7 : Array (Option Value)} {oc7 kV7 dc7 pm7 cd7 ct7 : Value}
    (a7 : PySem.W.nsIn K mainGlobals "is_plain_cond" = some (some (.ref f7))) (l7 : K.lookup f7 = some ⟨oc7, od7, .func (PySem.W.fnOf "is_plain_cond" "is_plain_cond" (defArgs s_is_plain_cond) (defBody s_is_plain_cond) (defScope s_is_plain_cond) .none kV7 dc7 pm7 an7 cd7 ct7), sl7⟩) (c7 : PySem.W.codeIn K cd7 "is_plain_cond" = true) (k7 : PySem.W.keepIn K (.ref f7) = true)
    {f8 : Addr} {od8 an8 : Option Addr} {sl8 : Array (Option Value)} {oc8 kV8 dc8 pm8 cd8 ct8 : Value}
    (a8 : PySem.W.nsIn K mainGlobals "is_cond" = some (some (.ref f8))) (l8 : K.lookup f8 = some ⟨oc8, od8, .func (PySem.W.fnOf "is_cond" "is_cond" (defArgs s_is_cond) (defBody s_is_cond) (defScope s_is_cond) .none kV8 dc8 pm8 an8 cd8 ct8), sl8⟩) (c8 : PySem.W.codeIn K cd8 "is_cond" = true) (k8 : PySem.W.keepIn K (.ref f8) = true)
    {f9 : Addr} {od9 an9 : Option Addr} {sl9 : Array (Option Value)} {oc9 kV9 dc9 pm9 cd9 ct9 : Value}
    (a9 : PySem.W.nsIn K mainGlobals "are_conds" = some (some (.ref f9))) (l9 : K.lookup f9 = some ⟨oc9, od9, .func (PySem.W.fnOf "are_conds" "are_conds" (defArgs s_are_conds) (defBody s_are_conds) (defScope s_are_conds) .none kV9 dc9 pm9 an9 cd9 ct9), sl9⟩) (c9 : PySem.W.codeIn K cd9 "are_conds" = true) (k9 : PySem.W.keepIn K (.ref f9) = true)
    {f10 : Addr} {od10 an10 : Option Addr} {sl10 : Array (Option Value)} {oc10 kV10 dc10 pm10 cd10 ct10 : Value}
    (a10 : PySem.W.nsIn K mainGlobals "asks_to" = some (some (.ref f10))) (l10 : K.lookup f10 = some ⟨oc10, od10, .func (PySem.W.fnOf "asks_to" "asks_to" (defArgs s_asks_to) (defBody s_asks_to) (defScope s_asks_to) .none kV10 dc10 pm10 an10 cd10 ct10), sl10⟩) (c10 : PySem.W.codeIn K cd10 "asks_to" = true) (k10 : PySem.W.keepIn K (.ref f10) = true)
    {f11 : Addr} {od11 an11 : Option Addr} {sl11 : Array (Option Value)} {oc11 kV11 dc11 pm11 cd11 ct11 : Value}
    (a11 : PySem.W.nsIn K mainGlobals "is_worth" = some (some (.ref f11))) (l11 : K.lookup f11 = some ⟨oc11, od11, .func (PySem.W.fnOf "is_worth" "is_worth" (defArgs s_is_worth) (defBody s_is_worth) (defScope s_is_worth) .none kV11 dc11 pm11 an11 cd11 ct11), sl11⟩) (c11 : PySem.W.codeIn K cd11 "is_worth" = true) (k11 : PySem.W.keepIn K (.ref f11) = true)
    {f12 : Addr} {od12 an12 : Option Addr} {sl12 : Array (Option Value)} {oc12 kV12 dc12 pm12 cd12 ct12 : Value}
    (a12 : PySem.W.nsIn K mainGlobals "is_liking" = some (some (.ref f12))) (l12 : K.lookup f12 = some ⟨oc12, od12, .func (PySem.W.fnOf "is_liking" "is_liking" (defArgs s_is_liking) (defBody s_is_liking) (defScope s_is_liking) .none kV12 dc12 pm12 an12 cd12 ct12), sl12⟩) (c12 : PySem.W.codeIn K cd12 "is_liking" = true) (k12 : PySem.W.keepIn K (.ref f12) = true)
    {f13 : Addr} {od13 an13 : Option Addr} {sl13 : Array (Option Value)} {oc13 kV13 dc13 pm13 cd13 ct13 : Value}
    (a13 : PySem.W.nsIn K mainGlobals "is_act" = some (some (.ref f13))) (l13 : K.lookup f13 = some ⟨oc13, od13, .func (PySem.W.fnOf "is_act" "is_act" (defArgs s_is_act) (defBody s_is_act) (defScope s_is_act) .none kV13 dc13 pm13 an13 cd13 ct13), sl13⟩) (c13 : PySem.W.codeIn K cd13 "is_act" = true) (k13 : PySem.W.keepIn K (.ref f13) = true)
    {f14 : Addr} {od14 an14 : Option Addr} {sl14 : Array (Option Value)} {oc14 kV14 dc14 pm14 cd14 ct14 : Value}
    (a14 : PySem.W.nsIn K mainGlobals "is_hand" = some (some (.ref f14))) (l14 : K.lookup f14 = some ⟨oc14, od14, .func (PySem.W.fnOf "is_hand" "is_hand" (defArgs s_is_hand) (defBody s_is_hand) (defScope s_is_hand) .none kV14 dc14 pm14 an14 cd14 ct14), sl14⟩) (c14 : PySem.W.codeIn K cd14 "is_hand" = true) (k14 : PySem.W.keepIn K (.ref f14) = true)
    {f15 : Addr} {od15 an15 : Option Addr} {sl15 : Array (Option Value)} {oc15 kV15 dc15 pm15 cd15 ct15 : Value}
    (a15 : PySem.W.nsIn K mainGlobals "are_houses" = some (some (.ref f15))) (l15 : K.lookup f15 = some ⟨oc15, od15, .func (PySem.W.fnOf "are_houses" "are_houses" (defArgs s_are_houses) (defBody s_are_houses) (defScope s_are_houses) .none kV15 dc15 pm15 an15 cd15 ct15), sl15⟩) (c15 : PySem.W.codeIn K cd15 "are_houses" = true) (k15 : PySem.W.keepIn K (.ref f15) = true)
    {f16 : Addr} {od16 an16 : Option Addr} {sl16 : Array (Option Value)} {oc16 kV16 dc16 pm16 cd16 ct16 : Value}
    (a16 : PySem.W.nsIn K mainGlobals "is_house" = some (some (.ref f16))) (l16 : K.lookup f16 = some ⟨oc16, od16, .func (PySem.W.fnOf "is_house" "is_house" (defArgs s_is_house) (defBody s_is_house) (defScope s_is_house) .none kV16 dc16 pm16 an16 cd16 ct16), sl16⟩) (c16 : PySem.W.codeIn K cd16 "is_house" = true) (k16 : PySem.W.keepIn K (.ref f16) = true)
    {f17 : Addr} {od17 an17 : Option Addr} {sl17 : Array (Option Value)} {oc17 kV17 dc17 pm17 cd17 ct17 : Value}
    (a17 : PySem.W.nsIn K mainGlobals "is_tie" = some (some (.ref f17))) (l17 : K.lookup f17 = some ⟨oc17, od17, .func (PySem.W.fnOf "is_tie" "is_tie" (defArgs s_is_tie) (defBody s_is_tie) (defScope s_is_tie) .none kV17 dc17 pm17 an17 cd17 ct17), sl17⟩) (c17 : PySem.W.codeIn K cd17 "is_tie" = true) (k17 : PySem.W.keepIn K (.ref f17) = true)
    {f18 : Addr} {od18 an18 : Option Addr} {sl18 : Array (Option Value)} {oc18 kV18 dc18 pm18 cd18 ct18 : Value}
    (a18 : PySem.W.nsIn K mainGlobals "are_ties" = some (some (.ref f18))) (l18 : K.lookup f18 = some ⟨oc18, od18, .func (PySem.W.fnOf "are_ties" "are_ties" (defArgs s_are_ties) (defBody s_are_ties) (defScope s_are_ties) .none kV18 dc18 pm18 an18 cd18 ct18), sl18⟩) (c18 : PySem.W.codeIn K cd18 "are_ties" = true) (k18 : PySem.W.keepIn K (.ref f18) = true)
    {f19 : Addr} {od19 an19 : Option Addr} {sl19 : Array (Option Value)} {oc19 kV19 dc19 pm19 cd19 ct19 : Value}
    (a19 : PySem.W.nsIn K mainGlobals "are_likings" = some (some (.ref f19))) (l19 : K.lookup f19 = some ⟨oc19, od19, .func (PySem.W.fnOf "are_likings" "are_likings" (defArgs s_are_likings) (defBody s_are_likings) (defScope s_are_likings) .none kV19 dc19 pm19 an19 cd19 ct19), sl19⟩) (c19 : PySem.W.codeIn K cd19 "are_likings" = true) (k19 : PySem.W.keepIn K (.ref f19) = true)
    {f20 : Addr} {od20 an20 : Option Addr} {sl20 : Array (Option Value)} {oc20 kV20 dc20 pm20 cd20 ct20 : Value}
    (a20 : PySem.W.nsIn K mainGlobals "are_hands" = some (some (.ref f20))) (l20 : K.lookup f20 = some ⟨oc20, od20, .func (PySem.W.fnOf "are_hands" "are_hands" (defArgs s_are_hands) (defBody s_are_hands) (defScope s_are_hands) .none kV20 dc20 pm20 an20 cd20 ct20), sl20⟩) (c20 : PySem.W.codeIn K cd20 "are_hands" = true) (k20 : PySem.W.keepIn K (.ref f20) = true)
    {f21 : Addr} {od21 an21 : Option Addr} {sl21 : Array (Option Value)} {oc21 kV21 dc21 pm21 cd21 ct21 : Value}
    (a21 : PySem.W.nsIn K mainGlobals "is_town" = some (some (.ref f21))) (l21 : K.lookup f21 = some ⟨oc21, od21, .func (PySem.W.fnOf "is_town" "is_town" (defArgs s_is_town) (defBody s_is_town) (defScope s_is_town) .none kV21 dc21 pm21 an21 cd21 ct21), sl21⟩) (c21 : PySem.W.codeIn K cd21 "is_town" = true) (k21 : PySem.W.keepIn K (.ref f21) = true)
    {f22 : Addr} {od22 an22 : Option Addr} {sl22 : Array (Option Value)} {oc22 kV22 dc22 pm22 cd22 ct22 : Value}
    (a22 : PySem.W.nsIn K mainGlobals "_law_hand" = some (some (.ref f22))) (l22 : K.lookup f22 = some ⟨oc22, od22, .func (PySem.W.fnOf "_law_hand" "_law_hand" (defArgs s__law_hand) (defBody s__law_hand) (defScope s__law_hand) .none kV22 dc22 pm22 an22 cd22 ct22), sl22⟩) (c22 : PySem.W.codeIn K cd22 "_law_hand" = true) (k22 : PySem.W.keepIn K (.ref f22) = true)
    {f23 : Addr} {od23 an23 : Option Addr} {sl23 : Array (Option Value)} {oc23 kV23 dc23 pm23 cd23 ct23 : Value}
    (a23 : PySem.W.nsIn K mainGlobals "_law_take" = some (some (.ref f23))) (l23 : K.lookup f23 = some ⟨oc23, od23, .func (PySem.W.fnOf "_law_take" "_law_take" (defArgs s__law_take) (defBody s__law_take) (defScope s__law_take) .none kV23 dc23 pm23 an23 cd23 ct23), sl23⟩) (c23 : PySem.W.codeIn K cd23 "_law_take" = true) (k23 : PySem.W.keepIn K (.ref f23) = true)
    {f24 : Addr} {od24 an24 : Option Addr} {sl24 : Array (Option Value)} {oc24 kV24 dc24 pm24 cd24 ct24 : Value}
    (a24 : PySem.W.nsIn K mainGlobals "_law_pick" = some (some (.ref f24))) (l24 : K.lookup f24 = some ⟨oc24, od24, .func (PySem.W.fnOf "_law_pick" "_law_pick" (defArgs s__law_pick) (defBody s__law_pick) (defScope s__law_pick) .none kV24 dc24 pm24 an24 cd24 ct24), sl24⟩) (c24 : PySem.W.codeIn K cd24 "_law_pick" = true) (k24 : PySem.W.keepIn K (.ref f24) = true)
    {f25 : Addr} {od25 an25 : Option Addr} {sl25 : Array (Option Value)} {oc25 kV25 dc25 pm25 cd25 ct25 : Value}
    (a25 : PySem.W.nsIn K mainGlobals "_law_names" = some (some (.ref f25))) (l25 : K.lookup f25 = some ⟨oc25, od25, .func (PySem.W.fnOf "_law_names" "_law_names" (defArgs s__law_names) (defBody s__law_names) (defScope s__law_names) .none kV25 dc25 pm25 an25 cd25 ct25), sl25⟩) (c25 : PySem.W.codeIn K cd25 "_law_names" = true) (k25 : PySem.W.keepIn K (.ref f25) = true)
    {f26 : Addr} {od26 an26 : Option Addr} {sl26 : Array (Option Value)} {oc26 kV26 dc26 pm26 cd26 ct26 : Value}
    (a26 : PySem.W.nsIn K mainGlobals "_law_cond" = some (some (.ref f26))) (l26 : K.lookup f26 = some ⟨oc26, od26, .func (PySem.W.fnOf "_law_cond" "_law_cond" (defArgs s__law_cond) (defBody s__law_cond) (defScope s__law_cond) .none kV26 dc26 pm26 an26 cd26 ct26), sl26⟩) (c26 : PySem.W.codeIn K cd26 "_law_cond" = true) (k26 : PySem.W.keepIn K (.ref f26) = true)
    {f27 : Addr} {od27 an27 : Option Addr} {sl27 : Array (Option Value)} {oc27 kV27 dc27 pm27 cd27 ct27 : Value}
    (a27 : PySem.W.nsIn K mainGlobals "_law_conds" = some (some (.ref f27))) (l27 : K.lookup f27 = some ⟨oc27, od27, .func (PySem.W.fnOf "_law_conds" "_law_conds" (defArgs s__law_conds) (defBody s__law_conds) (defScope s__law_conds) .none kV27 dc27 pm27 an27 cd27 ct27), sl27⟩) (c27 : PySem.W.codeIn K cd27 "_law_conds" = true) (k27 : PySem.W.keepIn K (.ref f27) = true)
    {f28 : Addr} {od28 an28 : Option Addr} {sl28 : Array (Option Value)} {oc28 kV28 dc28 pm28 cd28 ct28 : Value}
    (a28 : PySem.W.nsIn K mainGlobals "_law_likings" = some (some (.ref f28))) (l28 : K.lookup f28 = some ⟨oc28, od28, .func (PySem.W.fnOf "_law_likings" "_law_likings" (defArgs s__law_likings) (defBody s__law_likings) (defScope s__law_likings) .none kV28 dc28 pm28 an28 cd28 ct28), sl28⟩) (c28 : PySem.W.codeIn K cd28 "_law_likings" = true) (k28 : PySem.W.keepIn K (.ref f28) = true)
    {f29 : Addr} {od29 an29 : Option Addr} {sl29 : Array (Option Value)} {oc29 kV29 dc29 pm29 cd29 ct29 : Value}
    (a29 : PySem.W.nsIn K mainGlobals "_law_hands" = some (some (.ref f29))) (l29 : K.lookup f29 = some ⟨oc29, od29, .func (PySem.W.fnOf "_law_hands" "_law_hands" (defArgs s__law_hands) (defBody s__law_hands) (defScope s__law_hands) .none kV29 dc29 pm29 an29 cd29 ct29), sl29⟩) (c29 : PySem.W.codeIn K cd29 "_law_hands" = true) (k29 : PySem.W.keepIn K (.ref f29) = true)
    {f30 : Addr} {od30 an30 : Option Addr} {sl30 : Array (Option Value)} {oc30 kV30 dc30 pm30 cd30 ct30 : Value}
    (a30 : PySem.W.nsIn K mainGlobals "_law_ties" = some (some (.ref f30))) (l30 : K.lookup f30 = some ⟨oc30, od30, .func (PySem.W.fnOf "_law_ties" "_law_ties" (defArgs s__law_ties) (defBody s__law_ties) (defScope s__law_ties) .none kV30 dc30 pm30 an30 cd30 ct30), sl30⟩) (c30 : PySem.W.codeIn K cd30 "_law_ties" = true) (k30 : PySem.W.keepIn K (.ref f30) = true)
    {f31 : Addr} {od31 an31 : Option Addr} {sl31 : Array (Option Value)} {oc31 kV31 dc31 pm31 cd31 ct31 : Value}
    (a31 : PySem.W.nsIn K mainGlobals "_law_town" = some (some (.ref f31))) (l31 : K.lookup f31 = some ⟨oc31, od31, .func (PySem.W.fnOf "_law_town" "_law_town" (defArgs s__law_town) (defBody s__law_town) (defScope s__law_town) .none kV31 dc31 pm31 an31 cd31 ct31), sl31⟩) (c31 : PySem.W.codeIn K cd31 "_law_town" = true) (k31 : PySem.W.keepIn K (.ref f31) = true)
    {f32 : Addr} {od32 an32 : Option Addr} {sl32 : Array (Option Value)} {oc32 kV32 dc32 pm32 cd32 ct32 : Value}
    (a32 : PySem.W.nsIn K mainGlobals "_law_houses_spoilt" = some (some (.ref f32))) (l32 : K.lookup f32 = some ⟨oc32, od32, .func (PySem.W.fnOf "_law_houses_spoilt" "_law_houses_spoilt" (defArgs s__law_houses_spoilt) (defBody s__law_houses_spoilt) (defScope s__law_houses_spoilt) .none kV32 dc32 pm32 an32 cd32 ct32), sl32⟩) (c32 : PySem.W.codeIn K cd32 "_law_houses_spoilt" = true) (k32 : PySem.W.keepIn K (.ref f32) = true)
    {f33 : Addr} {od33 an33 : Option Addr} {sl33 : Array (Option Value)} {oc33 kV33 dc33 pm33 cd33 ct33 : Value}
    (a33 : PySem.W.nsIn K mainGlobals "_law_ties_spoilt" = some (some (.ref f33))) (l33 : K.lookup f33 = some ⟨oc33, od33, .func (PySem.W.fnOf "_law_ties_spoilt" "_law_ties_spoilt" (defArgs s__law_ties_spoilt) (defBody s__law_ties_spoilt) (defScope s__law_ties_spoilt) .none kV33 dc33 pm33 an33 cd33 ct33), sl33⟩) (c33 : PySem.W.codeIn K cd33 "_law_ties_spoilt" = true) (k33 : PySem.W.keepIn K (.ref f33) = true)
    {f34 : Addr} {od34 an34 : Option Addr} {sl34 : Array (Option Value)} {oc34 kV34 dc34 pm34 cd34 ct34 : Value}
    (a34 : PySem.W.nsIn K mainGlobals "_law_rules_spoilt" = some (some (.ref f34))) (l34 : K.lookup f34 = some ⟨oc34, od34, .func (PySem.W.fnOf "_law_rules_spoilt" "_law_rules_spoilt" (defArgs s__law_rules_spoilt) (defBody s__law_rules_spoilt) (defScope s__law_rules_spoilt) .none kV34 dc34 pm34 an34 cd34 ct34), sl34⟩) (c34 : PySem.W.codeIn K cd34 "_law_rules_spoilt" = true) (k34 : PySem.W.keepIn K (.ref f34) = true)
    {f35 : Addr} {od35 an35 : Option Addr} {sl35 : Array (Option Value)} {oc35 kV35 dc35 pm35 cd35 ct35 : Value}
    (a35 : PySem.W.nsIn K mainGlobals "_law_odd" = some (some (.ref f35))) (l35 : K.lookup f35 = some ⟨oc35, od35, .func (PySem.W.fnOf "_law_odd" "_law_odd" (defArgs s__law_odd) (defBody s__law_odd) (defScope s__law_odd) .none kV35 dc35 pm35 an35 cd35 ct35), sl35⟩) (c35 : PySem.W.codeIn K cd35 "_law_odd" = true) (k35 : PySem.W.keepIn K (.ref f35) = true)
    {f36 : Addr} {od36 an36 : Option Addr} {sl36 : Array (Option Value)} {oc36 kV36 dc36 pm36 cd36 ct36 : Value}
    (a36 : PySem.W.nsIn K mainGlobals "law" = some (some (.ref f36))) (l36 : K.lookup f36 = some ⟨oc36, od36, .func (PySem.W.fnOf "law" "law" (defArgs s_law) (defBody s_law) (defScope s_law) .none kV36 dc36 pm36 an36 cd36 ct36), sl36⟩) (c36 : PySem.W.codeIn K cd36 "law" = true) (k36 : PySem.W.keepIn K (.ref f36) = true)
    {tk_LONGEST : Tok} (g_LONGEST : PySem.W.nsIn K mainGlobals "LONGEST" = some (some (.int 8 tk_LONGEST)))
    {tk_MOST_CONDS : Tok} (g_MOST_CONDS : PySem.W.nsIn K mainGlobals "MOST_CONDS" = some (some (.int 4 tk_MOST_CONDS)))
    {tk_LONGEST_ASKED : Tok} (g_LONGEST_ASKED : PySem.W.nsIn K mainGlobals "LONGEST_ASKED" = some (some (.int 99 tk_LONGEST_ASKED)))
    {tk_GREATEST_WORTH : Tok} (g_GREATEST_WORTH : PySem.W.nsIn K mainGlobals "GREATEST_WORTH" = some (some (.int 999 tk_GREATEST_WORTH)))
    {tk_MOST_HOUSES : Tok} (g_MOST_HOUSES : PySem.W.nsIn K mainGlobals "MOST_HOUSES" = some (some (.int 10 tk_MOST_HOUSES)))
    {tk_MOST_RULES : Tok} (g_MOST_RULES : PySem.W.nsIn K mainGlobals "MOST_RULES" = some (some (.int 90 tk_MOST_RULES)))
    {aT_TAKEN : Addr} {odT_TAKEN : Option Addr} {slT_TAKEN : Array (Option Value)} {nT_TAKEN : Nat} {t0_TAKEN t1_TAKEN t2_TAKEN t3_TAKEN : Tok} (g_TAKEN : PySem.W.nsIn K mainGlobals "TAKEN" = some (some (.ref aT_TAKEN))) (l_TAKEN : K.lookup aT_TAKEN = some ⟨.type "tuple", odT_TAKEN, .seq #[.str "if" t0_TAKEN, .str "and" t1_TAKEN, .str "not" t2_TAKEN, .str "never" t3_TAKEN] nT_TAKEN, slT_TAKEN⟩)
    {aT_NAMING : Addr} {odT_NAMING : Option Addr} {slT_NAMING : Array (Option Value)} {nT_NAMING : Nat} {t0_NAMING t1_NAMING t2_NAMING t3_NAMING : Tok} (g_NAMING : PySem.W.nsIn K mainGlobals "NAMING" = some (some (.ref aT_NAMING))) (l_NAMING : K.lookup aT_NAMING = some ⟨.type "tuple", odT_NAMING, .seq #[.str "by" t0_NAMING, .str "from" t1_NAMING, .str "to" t2_NAMING, .str "mark" t3_NAMING] nT_NAMING, slT_NAMING⟩)
    (z_isinstance : PySem.W.nsIn K mainGlobals "isinstance" = some none)
    (z_str : PySem.W.nsIn K mainGlobals "str" = some none)
    (z_len : PySem.W.nsIn K mainGlobals "len" = some none)
    (z_all : PySem.W.nsIn K mainGlobals "all" = some none)
    (z_any : PySem.W.nsIn K mainGlobals "any" = some none)
    (z_int : PySem.W.nsIn K mainGlobals "int" = some none)
    (z_bool : PySem.W.nsIn K mainGlobals "bool" = some none)
    (z_tuple : PySem.W.nsIn K mainGlobals "tuple" = some none)
    (z_range : PySem.W.nsIn K mainGlobals "range" = some none)
    (z_max : PySem.W.nsIn K mainGlobals "max" = some none)
    (z_min : PySem.W.nsIn K mainGlobals "min" = some none)
    (z_sorted : PySem.W.nsIn K mainGlobals "sorted" = some none)
    (z_list : PySem.W.nsIn K mainGlobals "list" = some none)
    : ∃ fd : FuncData, (∀ (s : Shared) (v : Value), BindsTo s fd ⟨[v], []⟩ [("_law_script", v)]) ∧ ∀ base : Heap, K.In base → base.Ns mainGlobals mg → FnOk l.prog w K mg base CX0 9 fa fd ["_law_script"] (spLaw K) := by
  have e := hfa.symm.trans (PySem.W.mg_of X G a36)
  cases e
  have F1 := fun_mk (st := s_is_name) l1 c1 k1
  have F2 := fun_mk (st := s_is_number) l2 c2 k2
  have F3 := fun_mk (st := s_is_whole) l3 c3 k3
  have F4 := fun_mk (st := s_is_row) l4 c4 k4
  have F5 := fun_mk (st := s_is_rising) l5 c5 k5
  have F6 := fun_mk (st := s_is_worded) l6 c6 k6
  have F7 := fun_mk (st := s_is_plain_cond) l7 c7 k7
  have F8 := fun_mk (st := s_is_cond) l8 c8 k8
  have F9 := fun_mk (st := s_are_conds) l9 c9 k9
  have F10 := fun_mk (st := s_asks_to) l10 c10 k10
  have F11 := fun_mk (st := s_is_worth) l11 c11 k11
  have F12 := fun_mk (st := s_is_liking) l12 c12 k12
  have F13 := fun_mk (st := s_is_act) l13 c13 k13
  have F14 := fun_mk (st := s_is_hand) l14 c14 k14
  have F15 := fun_mk (st := s_are_houses) l15 c15 k15
  have F16 := fun_mk (st := s_is_house) l16 c16 k16
  have F17 := fun_mk (st := s_is_tie) l17 c17 k17
  have F18 := fun_mk (st := s_are_ties) l18 c18 k18
  have F19 := fun_mk (st := s_are_likings) l19 c19 k19
  have F20 := fun_mk (st := s_are_hands) l20 c20 k20
  have F21 := fun_mk (st := s_is_town) l21 c21 k21
  have F22 := fun_mk (st := s__law_hand) l22 c22 k22
  have F23 := fun_mk (st := s__law_take) l23 c23 k23
  have F24 := fun_mk (st := s__law_pick) l24 c24 k24
  have F25 := fun_mk (st := s__law_names) l25 c25 k25
  have F26 := fun_mk (st := s__law_cond) l26 c26 k26
  have F27 := fun_mk (st := s__law_conds) l27 c27 k27
  have F28 := fun_mk (st := s__law_likings) l28 c28 k28
  have F29 := fun_mk (st := s__law_hands) l29 c29 k29
  have F30 := fun_mk (st := s__law_ties) l30 c30 k30
  have F31 := fun_mk (st := s__law_town) l31 c31 k31
  have F32 := fun_mk (st := s__law_houses_spoilt) l32 c32 k32
  have F33 := fun_mk (st := s__law_ties_spoilt) l33 c33 k33
  have F34 := fun_mk (st := s__law_rules_spoilt) l34 c34 k34
  have F35 := fun_mk (st := s__law_odd) l35 c35 k35
  have F36 := fun_mk (st := s_law) l36 c36 k36
  have b1 := F1.binds (ps := p_is_name) fun _ _ _ _ _ _ us hl => match us, hl with | [_], _ => rfl
  have b2 := F2.binds (ps := p_is_number) fun _ _ _ _ _ _ us hl => match us, hl with | [_], _ => rfl
  have b3 := F3.binds (ps := p_is_whole) fun _ _ _ _ _ _ us hl => match us, hl with | [_, _, _], _ => rfl
  have b4 := F4.binds (ps := p_is_row) fun _ _ _ _ _ _ us hl => match us, hl with | [_, _, _], _ => rfl
  have b5 := F5.binds (ps := p_is_rising) fun _ _ _ _ _ _ us hl => match us, hl with | [_], _ => rfl
  have b6 := F6.binds (ps := p_is_worded) fun _ _ _ _ _ _ us hl => match us, hl with | [_, _], _ => rfl
  have b7 := F7.binds (ps := p_is_plain_cond) fun _ _ _ _ _ _ us hl => match us, hl with | [_], _ => rfl
  have b8 := F8.binds (ps := p_is_cond) fun _ _ _ _ _ _ us hl => match us, hl with | [_], _ => rfl
  have b9 := F9.binds (ps := p_are_conds) fun _ _ _ _ _ _ us hl => match us, hl with | [_], _ => rfl
  have b10 := F10.binds (ps := p_asks_to) fun _ _ _ _ _ _ us hl => match us, hl with | [_], _ => rfl
  have b11 := F11.binds (ps := p_is_worth) fun _ _ _ _ _ _ us hl => match us, hl with | [_], _ => rfl
  have b12 := F12.binds (ps := p_is_liking) fun _ _ _ _ _ _ us hl => match us, hl with | [_], _ => rfl
  have b13 := F13.binds (ps := p_is_act) fun _ _ _ _ _ _ us hl => match us, hl with | [_], _ => rfl
  have b14 := F14.binds (ps := p_is_hand) fun _ _ _ _ _ _ us hl => match us, hl with | [_], _ => rfl
  have b15 := F15.binds (ps := p_are_houses) fun _ _ _ _ _ _ us hl => match us, hl with | [_], _ => rfl
  have b16 := F16.binds (ps := p_is_house) fun _ _ _ _ _ _ us hl => match us, hl with | [_, _], _ => rfl
  have b17 := F17.binds (ps := p_is_tie) fun _ _ _ _ _ _ us hl => match us, hl with | [_, _], _ => rfl
  have b18 := F18.binds (ps := p_are_ties) fun _ _ _ _ _ _ us hl => match us, hl with | [_, _], _ => rfl
  have b19 := F19.binds (ps := p_are_likings) fun _ _ _ _ _ _ us hl => match us, hl with | [_], _ => rfl
  have b20 := F20.binds (ps := p_are_hands) fun _ _ _ _ _ _ us hl => match us, hl with | [_], _ => rfl
  have b21 := F21.binds (ps := p_is_town) fun _ _ _ _ _ _ us hl => match us, hl with | [_], _ => rfl
  have b22 := F22.binds (ps := p__law_hand) fun _ _ _ _ _ _ us hl => match us, hl with | [_, _], _ => rfl
  have b23 := F23.binds (ps := p__law_take) fun _ _ _ _ _ _ us hl => match us, hl with | [_, _], _ => rfl
  have b24 := F24.binds (ps := p__law_pick) fun _ _ _ _ _ _ us hl => match us, hl with | [_, _], _ => rfl
  have b25 := F25.binds (ps := p__law_names) fun _ _ _ _ _ _ us hl => match us, hl with | [_, _], _ => rfl
  have b26 := F26.binds (ps := p__law_cond) fun _ _ _ _ _ _ us hl => match us, hl with | [_, _, _, _], _ => rfl
  have b27 := F27.binds (ps := p__law_conds) fun _ _ _ _ _ _ us hl => match us, hl with | [_, _, _, _], _ => rfl
  have b28 := F28.binds (ps := p__law_likings) fun _ _ _ _ _ _ us hl => match us, hl with | [_, _, _], _ => rfl
  have b29 := F29.binds (ps := p__law_hands) fun _ _ _ _ _ _ us hl => match us, hl with | [_, _, _], _ => rfl
  have b30 := F30.binds (ps := p__law_ties) fun _ _ _ _ _ _ us hl => match us, hl with | [_, _, _], _ => rfl
  have b31 := F31.binds (ps := p__law_town) fun _ _ _ _ _ _ us hl => match us, hl with | [_], _ => rfl
  have b32 := F32.binds (ps := p__law_houses_spoilt) fun _ _ _ _ _ _ us hl => match us, hl with | [_], _ => rfl
  have b33 := F33.binds (ps := p__law_ties_spoilt) fun _ _ _ _ _ _ us hl => match us, hl with | [_], _ => rfl
  have b34 := F34.binds (ps := p__law_rules_spoilt) fun _ _ _ _ _ _ us hl => match us, hl with | [_, _], _ => rfl
  have b35 := F35.binds (ps := p__law_odd) fun _ _ _ _ _ _ us hl => match us, hl with | [_, _], _ => rfl
  have b36 := F36.binds (ps := p_law) fun _ _ _ _ _ _ us hl => match us, hl with | [_], _ => rfl
  have Y : Ev K mg := {
    a_is_name := f1, d_is_name := _, is_name := ⟨F1, b1, PySem.W.mg_of X G a1, k1⟩,
    a_is_number := f2, d_is_number := _, is_number := ⟨F2, b2, PySem.W.mg_of X G a2, k2⟩,
    a_is_whole := f3, d_is_whole := _, is_whole := ⟨F3, b3, PySem.W.mg_of X G a3, k3⟩,
    a_is_row := f4, d_is_row := _, is_row := ⟨F4, b4, PySem.W.mg_of X G a4, k4⟩,
    a_is_rising := f5, d_is_rising := _, is_rising := ⟨F5, b5, PySem.W.mg_of X G a5, k5⟩,
    a_is_worded := f6, d_is_worded := _, is_worded := ⟨F6, b6, PySem.W.mg_of X G a6, k6⟩,
    a_is_plain_cond := f7, d_is_plain_cond := _, is_plain_cond := ⟨F7, b7, PySem.W.mg_of X G a7, k7⟩,
    a_is_cond := f8, d_is_cond := _, is_cond := ⟨F8, b8, PySem.W.mg_of X G a8, k8⟩,
    a_are_conds := f9, d_are_conds := _, are_conds := ⟨F9, b9, PySem.W.mg_of X G a9, k9⟩,
    a_asks_to := f10, d_asks_to := _, asks_to := ⟨F10, b10, PySem.W.mg_of X G a10, k10⟩,
    a_is_worth := f11, d_is_worth := _, is_worth := ⟨F11, b11, PySem.W.mg_of X G a11, k11⟩,
    a_is_liking := f12, d_is_liking := _, is_liking := ⟨F12, b12, PySem.W.mg_of X G a12, k12⟩,
    a_is_act := f13, d_is_act := _, is_act := ⟨F13, b13, PySem.W.mg_of X G a13, k13⟩,
    a_is_hand := f14, d_is_hand := _, is_hand := ⟨F14, b14, PySem.W.mg_of X G a14, k14⟩,
    a_are_houses := f15, d_are_houses := _, are_houses := ⟨F15, b15, PySem.W.mg_of X G a15, k15⟩,
    a_is_house := f16, d_is_house := _, is_house := ⟨F16, b16, PySem.W.mg_of X G a16, k16⟩,
    a_is_tie := f17, d_is_tie := _, is_tie := ⟨F17, b17, PySem.W.mg_of X G a17, k17⟩,
    a_are_ties := f18, d_are_ties := _, are_ties := ⟨F18, b18, PySem.W.mg_of X G a18, k18⟩,
    a_are_likings := f19, d_are_likings := _, are_likings := ⟨F19, b19, PySem.W.mg_of X G a19, k19⟩,
    a_are_hands := f20, d_are_hands := _, are_hands := ⟨F20, b20, PySem.W.mg_of X G a20, k20⟩,
    a_is_town := f21, d_is_town := _, is_town := ⟨F21, b21, PySem.W.mg_of X G a21, k21⟩,
    a__law_hand := f22, d__law_hand := _, _law_hand := ⟨F22, b22, PySem.W.mg_of X G a22, k22⟩,
    a__law_take := f23, d__law_take := _, _law_take := ⟨F23, b23, PySem.W.mg_of X G a23, k23⟩,
    a__law_pick := f24, d__law_pick := _, _law_pick := ⟨F24, b24, PySem.W.mg_of X G a24, k24⟩,
    a__law_names := f25, d__law_names := _, _law_names := ⟨F25, b25, PySem.W.mg_of X G a25, k25⟩,
    a__law_cond := f26, d__law_cond := _, _law_cond := ⟨F26, b26, PySem.W.mg_of X G a26, k26⟩,
    a__law_conds := f27, d__law_conds := _, _law_conds := ⟨F27, b27, PySem.W.mg_of X G a27, k27⟩,
    a__law_likings := f28, d__law_likings := _, _law_likings := ⟨F28, b28, PySem.W.mg_of X G a28, k28⟩,
    a__law_hands := f29, d__law_hands := _, _law_hands := ⟨F29, b29, PySem.W.mg_of X G a29, k29⟩,
    a__law_ties := f30, d__law_ties := _, _law_ties := ⟨F30, b30, PySem.W.mg_of X G a30, k30⟩,
    a__law_town := f31, d__law_town := _, _law_town := ⟨F31, b31, PySem.W.mg_of X G a31, k31⟩,
    a__law_houses_spoilt := f32, d__law_houses_spoilt := _, _law_houses_spoilt := ⟨F32, b32, PySem.W.mg_of X G a32, k32⟩,
    a__law_ties_spoilt := f33, d__law_ties_spoilt := _, _law_ties_spoilt := ⟨F33, b33, PySem.W.mg_of X G a33, k33⟩,
    a__law_rules_spoilt := f34, d__law_rules_spoilt := _, _law_rules_spoilt := ⟨F34, b34, PySem.W.mg_of X G a34, k34⟩,
    a__law_odd := f35, d__law_odd := _, _law_odd := ⟨F35, b35, PySem.W.mg_of X G a35, k35⟩,
    a_law := fa, d_law := _, law := ⟨F36, b36, PySem.W.mg_of X G a36, k36⟩,
    v_LONGEST := _, m_LONGEST := PySem.W.mg_of X G g_LONGEST, r_LONGEST := ⟨tk_LONGEST, rfl⟩,
    v_MOST_CONDS := _, m_MOST_CONDS := PySem.W.mg_of X G g_MOST_CONDS, r_MOST_CONDS := ⟨tk_MOST_CONDS, rfl⟩,
    v_LONGEST_ASKED := _, m_LONGEST_ASKED := PySem.W.mg_of X G g_LONGEST_ASKED, r_LONGEST_ASKED := ⟨tk_LONGEST_ASKED, rfl⟩,
    v_GREATEST_WORTH := _, m_GREATEST_WORTH := PySem.W.mg_of X G g_GREATEST_WORTH, r_GREATEST_WORTH := ⟨tk_GREATEST_WORTH, rfl⟩,
    v_MOST_HOUSES := _, m_MOST_HOUSES := PySem.W.mg_of X G g_MOST_HOUSES, r_MOST_HOUSES := ⟨tk_MOST_HOUSES, rfl⟩,
    v_MOST_RULES := _, m_MOST_RULES := PySem.W.mg_of X G g_MOST_RULES, r_MOST_RULES := ⟨tk_MOST_RULES, rfl⟩,
    a_TAKEN := _, m_TAKEN := PySem.W.mg_of X G g_TAKEN, t_TAKEN := fun H => .inr ⟨_, _, nT_TAKEN, l_TAKEN, rfl, rfl, by show 4 ≤ sizeLine; decide, (.cons ⟨t0_TAKEN, rfl⟩ (.cons ⟨t1_TAKEN, rfl⟩ (.cons ⟨t2_TAKEN, rfl⟩ (.cons ⟨t3_TAKEN, rfl⟩ .nil))))⟩,
    a_NAMING := _, m_NAMING := PySem.W.mg_of X G g_NAMING, t_NAMING := fun H => .inr ⟨_, _, nT_NAMING, l_NAMING, rfl, rfl, by show 4 ≤ sizeLine; decide, (.cons ⟨t0_NAMING, rfl⟩ (.cons ⟨t1_NAMING, rfl⟩ (.cons ⟨t2_NAMING, rfl⟩ (.cons ⟨t3_NAMING, rfl⟩ .nil))))⟩,
    isinstance := PySem.W.mg_none_of X G z_isinstance,
    str := PySem.W.mg_none_of X G z_str,
    len := PySem.W.mg_none_of X G z_len,
    all := PySem.W.mg_none_of X G z_all,
    any := PySem.W.mg_none_of X G z_any,
    int := PySem.W.mg_none_of X G z_int,
    bool := PySem.W.mg_none_of X G z_bool,
    tuple := PySem.W.mg_none_of X G z_tuple,
    range := PySem.W.mg_none_of X G z_range,
    max := PySem.W.mg_none_of X G z_max,
    min := PySem.W.mg_none_of X G z_min,
    sorted := PySem.W.mg_none_of X G z_sorted,
    list := PySem.W.mg_none_of X G z_list }
  exact ⟨PySem.W.fnOf "law" "law" (defArgs s_law) (defBody s_law) (defScope s_law) .none kV36 dc36 pm36 an36 cd36 ct36, fun s v => .of_eq rfl, fun base _ _ => ok_law_of Y F36⟩
end K05
open PySem PySem.W PyProof.Rows
set_option maxRecDepth 100000 in
set_option maxHeartbeats 0 in
theorem PySem.Challenge.cw_restways_k05_towns_that_are_none_holds : PySem.Challenge.rw_restways_k05_towns_that_are_none.Holds := by
  w_on; o_law; k_head; (case hw => w_witness2)
  k_fill
  refine K05.walk (l := PySem.Challenge.rw_restways_k05_towns_that_are_none) rfl rfl (fun w h Y => PySem.W.kIn_of Y) ?F
  case F =>
    intro w mg fa h KX G hmg
    refine' K05.all_mk KX G hmg ?a1 ?l1 ?c1 ?k1 ?a2 ?l2 ?c2 ?k2 ?a3 ?l3 ?c3 ?k3 ?a4 ?l4 ?c4 ?k4 ?a5 ?l5 ?c5 ?k5 ?a6 ?l6 ?c6 ?k6 ?a7 ?l7 ?c7 ?k7 ?a8 ?l8 ?c8 ?k8 ?a9 ?l9 ?c9 ?k9 ?a10 ?l10 ?c10 ?k10 ?a11 ?l11 ?c11 ?k11 ?a12 ?l12 ?c12 ?k12 ?a13 ?l13 ?c13 ?k13 ?a14 ?l14 ?c14 ?k14 ?a15 ?l15 ?c15 ?k15 ?a16 ?l16 ?c16 ?k16 ?a17 ?l17 ?c17 ?k17 ?a18 ?l18 ?c18 ?k18 ?a19 ?l19 ?c19 ?k19 ?a20 ?l20 ?c20 ?k20 ?a21 ?l21 ?c21 ?k21 ?a22 ?l22 ?c22 ?k22 ?a23 ?l23 ?c23 ?k23 ?a24 ?l24 ?c24 ?k24 ?a25 ?l25 ?c25 ?k25 ?a26 ?l26 ?c26 ?k26 ?a27 ?l27 ?c27 ?k27 ?a28 ?l28 ?c28 ?k28 ?a29 ?l29 ?c29 ?k29 ?a30 ?l30 ?c30 ?k30 ?a31 ?l31 ?c31 ?k31 ?a32 ?l32 ?c32 ?k32 ?a33 ?l33 ?c33 ?k33 ?a34 ?l34 ?c34 ?k34 ?a35 ?l35 ?c35 ?k35 ?a36 ?l36 ?c36 ?k36 ?g_LONGEST ?g_MOST_CONDS ?g_LONGEST_ASKED ?g_GREATEST_WORTH ?g_MOST_HOUSES ?g_MOST_RULES ?g_TAKEN ?l_TAKEN ?g_NAMING ?l_NAMING ?z_isinstance ?z_str ?z_len ?z_all ?z_any ?z_int ?z_bool ?z_tuple ?z_range ?z_max ?z_min ?z_sorted ?z_list
    (case a1 => k_is)
    (case l1 => k_is)
    (case c1 => k_is)
    (case k1 => k_is)
    (case a2 => k_is)
    (case l2 => k_is)
    (case c2 => k_is)
    (case k2 => k_is)
    (case a3 => k_is)
    (case l3 => k_is)
    (case c3 => k_is)
    (case k3 => k_is)
    (case a4 => k_is)
    (case l4 => k_is)
    (case c4 => k_is)
    (case k4 => k_is)
    (case a5 => k_is)
    (case l5 => k_is)
    (case c5 => k_is)
    (case k5 => k_is)
    (case a6 => k_is)
    (case l6 => k_is)
    (case c6 => k_is)
    (case k6 => k_is)
    (case a7 => k_is)
    (case l7 => k_is)
    (case c7 => k_is)
    (case k7 => k_is)
    (case a8 => k_is)
    (case l8 => k_is)
    (case c8 => k_is)
    (case k8 => k_is)
    (case a9 => k_is)
    (case l9 => k_is)
    (case c9 => k_is)
    (case k9 => k_is)
    (case a10 => k_is)
    (case l10 => k_is)
    (case c10 => k_is)
    (case k10 => k_is)
    (case a11 => k_is)
    (case l11 => k_is)
    (case c11 => k_is)
    (case k11 => k_is)
    (case a12 => k_is)
    (case l12 => k_is)
    (case c12 => k_is)
    (case k12 => k_is)
    (case a13 => k_is)
    (case l13 => k_is)
    (case c13 => k_is)
    (case k13 => k_is)
    (case a14 => k_is)
    (case l14 => k_is)
    (case c14 => k_is)
    (case k14 => k_is)
    (case a15 => k_is)
    (case l15 => k_is)
    (case c15 => k_is)
    (case k15 => k_is)
    (case a16 => k_is)
    (case l16 => k_is)
    (case c16 => k_is)
    (case k16 => k_is)
    (case a17 => k_is)
    (case l17 => k_is)
    (case c17 => k_is)
    (case k17 => k_is)
    (case a18 => k_is)
    (case l18 => k_is)
    (case c18 => k_is)
    (case k18 => k_is)
    (case a19 => k_is)
    (case l19 => k_is)
    (case c19 => k_is)
    (case k19 => k_is)
    (case a20 => k_is)
    (case l20 => k_is)
    (case c20 => k_is)
    (case k20 => k_is)
    (case a21 => k_is)
    (case l21 => k_is)
    (case c21 => k_is)
    (case k21 => k_is)
    (case a22 => k_is)
    (case l22 => k_is)
    (case c22 => k_is)
    (case k22 => k_is)
    (case a23 => k_is)
    (case l23 => k_is)
    (case c23 => k_is)
    (case k23 => k_is)
    (case a24 => k_is)
    (case l24 => k_is)
    (case c24 => k_is)
    (case k24 => k_is)
    (case a25 => k_is)
    (case l25 => k_is)
    (case c25 => k_is)
    (case k25 => k_is)
    (case a26 => k_is)
    (case l26 => k_is)
    (case c26 => k_is)
    (case k26 => k_is)
    (case a27 => k_is)
    (case l27 => k_is)
    (case c27 => k_is)
    (case k27 => k_is)
    (case a28 => k_is)
    (case l28 => k_is)
    (case c28 => k_is)
    (case k28 => k_is)
    (case a29 => k_is)
    (case l29 => k_is)
    (case c29 => k_is)
    (case k29 => k_is)
    (case a30 => k_is)
    (case l30 => k_is)
    (case c30 => k_is)
    (case k30 => k_is)
    (case a31 => k_is)
    (case l31 => k_is)
    (case c31 => k_is)
    (case k31 => k_is)
    (case a32 => k_is)
    (case l32 => k_is)
    (case c32 => k_is)
    (case k32 => k_is)
    (case a33 => k_is)
    (case l33 => k_is)
    (case c33 => k_is)
    (case k33 => k_is)
    (case a34 => k_is)
    (case l34 => k_is)
    (case c34 => k_is)
    (case k34 => k_is)
    (case a35 => k_is)
    (case l35 => k_is)
    (case c35 => k_is)
    (case k35 => k_is)
    (case a36 => k_is)
    (case l36 => k_is)
    (case c36 => k_is)
    (case k36 => k_is)
    (case g_LONGEST => k_is)
    (case g_MOST_CONDS => k_is)
    (case g_LONGEST_ASKED => k_is)
    (case g_GREATEST_WORTH => k_is)
    (case g_MOST_HOUSES => k_is)
    (case g_MOST_RULES => k_is)
    (case g_TAKEN => k_is)
    (case l_TAKEN => k_is)
    (case g_NAMING => k_is)
    (case l_NAMING => k_is)
    (case z_isinstance => k_is)
    (case z_str => k_is)
    (case z_len => k_is)
    (case z_all => k_is)
    (case z_any => k_is)
    (case z_int => k_is)
    (case z_bool => k_is)
    (case z_tuple => k_is)
    (case z_range => k_is)
    (case z_max => k_is)
    (case z_min => k_is)
    (case z_sorted => k_is)
    (case z_list => k_is)
