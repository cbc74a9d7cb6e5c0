import PyProof.Rows.All
import Wide.All
import OpenK.AllK
import Wide.FinOn
import Lean
import PyProof.EqAt
import PyProof.EqKinds
import PyProof.TupleCall
import KE.KSortTup
import KE.KDictSum
import PyProof.Rows.SortStr
import PyProof.AutoSeq1
import PyProof.ZipIter
import PyProof.Rows.FStr
import PyProof.Rows.FStrParts
import PyProof.AttrMissHeap
import KE.KDictOf
import PyProof.StrCalls
import KE.KStrOpen
import KE.KRevIter
import PyProof.WalkInts
import KE.KDictList
import PyProof.Rows.SetFrom
import PyProof.SetRoads
import PyProof.DictCompW
import PySem.Challenge.RW_restways_k38_houses_begin
set_option Elab.async false
set_option linter.all false
set_option maxRecDepth 100000
/-! THE HAND LAYER, for ints, bools, texts, own classes, LISTS and tuples (index, slices, in, append, pop ..), calls, loops. Paste it whole ahead of your own text; what your proof does not reach may be deleted. -/
namespace L2
open PySem PySem.Spec PyProof.Rows

/-- a key: an int or a str -/
abbrev Key := Sum Int Str
def keyIs : Key → Value → Bool
  | .inl k, v => Value.isInt k v
  | .inr x, v => Value.isStrOf x v
def keyH (w : World) : Key → Int
  | .inl k => hashInt k
  | .inr x => hashStr w x
theorem keyIs_shape : ∀ {k : Key} {v : Value}, keyIs k v = true → (∃ i t, k = Sum.inl i ∧ v = Value.int i t) ∨ (∃ x t, k = Sum.inr x ∧ v = Value.str x t)
  | .inl i, v, h => by
    obtain ⟨t, e⟩ := Value.isInt_shape (k := i) (v := v) h
    exact .inl ⟨i, t, rfl, e⟩
  | .inr x, v, h => by
    obtain ⟨t, e⟩ := Value.isStrOf_shape (x := x) (v := v) h
    exact .inr ⟨x, t, rfl, e⟩
theorem keyIs_int (i : Int) (t : Tok) : keyIs (.inl i) (.int i t) = true := by simp [keyIs, Value.isInt]
theorem keyIs_str (x : Str) (t : Tok) : keyIs (.inr x) (.str x t) = true := by simp [keyIs, Value.isStrOf]
theorem key_ll (a b : Int) : decide ((Sum.inl a : Key) = Sum.inl b) = (a == b) := by
  by_cases e : a = b
  · subst e; simp
  · have h : ¬ (Sum.inl a : Key) = Sum.inl b := fun q => e (Sum.inl.inj q)
    rw [decide_eq_false h]
    exact (beq_eq_false_iff_ne.mpr e).symm
theorem key_rr (a b : Str) : decide ((Sum.inr a : Key) = Sum.inr b) = decide (a = b) := by
  by_cases e : a = b
  · subst e; simp
  · have h : ¬ (Sum.inr a : Key) = Sum.inr b := fun q => e (Sum.inr.inj q)
    rw [decide_eq_false h, decide_eq_false e]
theorem key_lr (a : Int) (b : Str) : decide ((Sum.inl a : Key) = Sum.inr b) = false := decide_eq_false (fun q => nomatch q)
theorem key_rl (a : Str) (b : Int) : decide ((Sum.inr a : Key) = Sum.inl b) = false := decide_eq_false (fun q => nomatch q)

def mixKind (prog : Program) (w : World) : PySem.KeyKind prog w Key where
  is := keyIs
  hash := keyH w
  inj := fun v a b ha hb => by
    rcases keyIs_shape ha with ⟨i, t, rfl, rfl⟩ | ⟨x, t, rfl, rfl⟩
    · rcases keyIs_shape hb with ⟨j, u, rfl, e⟩ | ⟨y, u, rfl, e⟩
      · injection e with e1 _; rw [e1]
      · exact nomatch e
    · rcases keyIs_shape hb with ⟨j, u, rfl, e⟩ | ⟨y, u, rfl, e⟩
      · exact nomatch e
      · injection e with e1 _; rw [e1]
  byValue := fun k v h => by
    rcases keyIs_shape h with ⟨i, t, rfl, rfl⟩ | ⟨x, t, rfl, rfl⟩ <;> rfl
  pyHash := fun hv h => by
    rcases keyIs_shape hv with ⟨i, t, rfl, rfl⟩ | ⟨x, t, rfl, rfl⟩
    · exact wpAny_pyHash_int h
    · exact wpAny_pyHash_str h
  eqBool := fun hu hv h => by
    rcases keyIs_shape hu with ⟨i, t, rfl, rfl⟩ | ⟨x, t, rfl, rfl⟩
    · rcases keyIs_shape hv with ⟨j, u, rfl, rfl⟩ | ⟨y, u, rfl, rfl⟩
      · rw [key_ll] at h; exact wpAny_eqBool_int h
      · rw [key_lr] at h; exact SeqAt.EqAt.int_str i t y u _ _ _ _ h
    · rcases keyIs_shape hv with ⟨j, u, rfl, rfl⟩ | ⟨y, u, rfl, rfl⟩
      · rw [key_rl] at h; exact SeqAt.EqAt.str_int x t j u _ _ _ _ h
      · rw [key_rr] at h; exact wpAny_eqBool_str h
  «strs» := fun k x t v h => by
    rcases keyIs_shape h with ⟨i, u, rfl, e⟩ | ⟨y, u, rfl, e⟩
    · exact nomatch e
    · injection e with e1 _
      subst e1
      cases v <;> rfl

theorem mixKind_int (prog : Program) (w : World) (i : Int) (t : Tok) : (mixKind prog w).is (.inl i) (.int i t) = true := keyIs_int i t
theorem mixKind_str (prog : Program) (w : World) (x : Str) (t : Tok) : (mixKind prog w).is (.inr x) (.str x t) = true := keyIs_str x t
end L2

namespace L2
open PySem PySem.Spec PyProof.Rows

/-- a value, without the heap -/
inductive V where
  | non | bl (b : Bool) | int (i : Int) | str (x : Str) | byt (b : Array UInt8) | flt (b : UInt64) | ref (a : Addr) | ty (n : String)
  deriving DecidableEq

def RelV : V → Value → Prop
  | .non, u => u = Value.none
  | .bl b, u => u = Value.bool b
  | .int i, u => ∃ t, u = Value.int i t
  | .str x, u => ∃ t, u = Value.str x t
  | .byt b, u => ∃ t, u = Value.bytes b t
  | .flt b, u => ∃ t, u = Value.float b t
  | .ref a, u => u = Value.ref a
  | .ty n, u => u = Value.type n

abbrev Vals : List V → List Value → Prop := Paired RelV
theorem Vals.length {xs : List V} {us : List Value} (r : Vals xs us) : xs.length = us.length := Paired.length r
theorem Vals.get : ∀ {xs : List V} {us : List Value} {i : Nat} {x : V}, Vals xs us → xs[i]? = some x → ∃ u, us[i]? = some u ∧ RelV x u
  | _, _, _, _, .nil, e => by simp at e
  | _, _, 0, _, .cons r _, e => by simp at e; subst e; exact ⟨_, rfl, r⟩
  | _, _, i + 1, x, .cons _ t, e => by
    obtain ⟨u, h1, h2⟩ := Vals.get (i := i) (x := x) t (by simpa using e)
    exact ⟨u, by simpa using h1, h2⟩
theorem Vals.set {x : V} {u : Value} (r : RelV x u) : ∀ {xs : List V} {us : List Value} (i : Nat), Vals xs us → Vals (xs.set i x) (us.set i u)
  | _, _, _, .nil => .nil
  | _, _, 0, .cons _ t => .cons r t
  | _, _, i + 1, .cons q t => .cons q (Vals.set r i t)
theorem Vals.append : ∀ {xs ys : List V} {us ws : List Value}, Vals xs us → Vals ys ws → Vals (xs ++ ys) (us ++ ws)
  | _, _, _, _, .nil, s => s
  | _, _, _, _, .cons r t, s => .cons r (Vals.append t s)
theorem Vals.take : ∀ {xs : List V} {us : List Value} (n : Nat), Vals xs us → Vals (xs.take n) (us.take n)
  | _, _, 0, _ => .nil
  | _, _, _ + 1, .nil => .nil
  | _, _, n + 1, .cons r t => .cons r (Vals.take n t)
theorem Vals.drop : ∀ {xs : List V} {us : List Value} (n : Nat), Vals xs us → Vals (xs.drop n) (us.drop n)
  | _, _, 0, r => r
  | _, _, _ + 1, .nil => .nil
  | _, _, n + 1, .cons _ t => Vals.drop n t

def RelO : Option V → Option Value → Prop
  | some v, some u => RelV v u
  | none, none => True
  | _, _ => False
def KV {κ : Type} : List (κ × V) → List (κ × Value) → Prop := Paired fun (p : κ × V) (q : κ × Value) => p.1 = q.1 ∧ RelV p.2 q.2

/-- a key of a dict (00_mix): an int or a text -/
def kV : Key → V
  | .inl i => .int i
  | .inr x => .str x

/-- what stands at a tracked address -/
inductive HO where
  /-- a list -/
  | lst (xs : List V)
  /-- a tuple (never changes) -/
  | tup (xs : List V)
  /-- a dict whose keys are ints and texts; one whose keys are tuples of ints and texts (the empty one is both) -/
  | dK (kvs : List (Key × V)) | dT (kvs : List (List Key × V))
  /-- a set of ints: its members, its size -/
  | set (S : Int → Bool) (n : Nat)
  /-- an instance of the class at C, its dict at dx, its attributes -/
  | ins (C dx : Addr) (fs : List (Str × V))
  /-- the dict of the instance at x -/
  | own (x : Addr)
  /-- the dict of an exception -/
  | xd (fs : List (Str × V))
  /-- a bound method, f of x -/
  | met (f x : Addr)
  /-- a range object lo, lo + 1, .. below hi -/
  | rng (lo hi : Int)
  /-- a thing that is known to the object (the script; a dict while a loop walks it): read, never written while it is so -/
  | frz (o : Obj) (u : HO)
  /-- a code object's table -/
  | tbl (ps : Array Value)
  /-- any other thing, by what is true of its one object (a def of one's own: SetO a S n := HO.ext fun h => ..) -/
  | ext (φ : Heap → Prop)

abbrev Hp := Addr → Option HO
def upd (H : Hp) (a : Addr) (o : HO) : Hp := fun b => if b = a then some o else H b
theorem upd_same {H : Hp} {a : Addr} {o : HO} : upd H a o a = some o := by unfold upd; rw [if_pos rfl]
theorem upd_ne {H : Hp} {a b : Addr} {o : HO} (h : b ≠ a) : upd H a o b = H b := by unfold upd; rw [if_neg h]
theorem upd_upd {H : Hp} {a : Addr} {o u : HO} : upd (upd H a o) a u = upd H a u := by
  funext b; unfold upd; split <;> rfl
/-- two objects of different content stand apart -/
theorem ne_of {H : Hp} {a b : Addr} {o u : HO} (h : H a = some o) (h' : H b = some u) (d : o ≠ u) : a ≠ b := by
  intro e; subst e; rw [h] at h'; exact d (Option.some.inj h')
theorem ne_of_none {H : Hp} {a b : Addr} {o : HO} (h : H a = some o) (h' : H b = none) : a ≠ b := by
  intro e; subst e; rw [h] at h'; cases h'

section
variable (P : Program) (w : World)
/-- nothing hangs at it -/
def NoDict (h : Heap) (a : Addr) : Prop := ∀ o, h.get? a = some o → o.dict = none
theorem NoDict.new {h : Heap} {o : Obj} (e : o.dict = none) (f : (h.push o).get? h.objs.size = some o) : NoDict (h.push o) h.objs.size := fun o' z => by rw [f] at z; cases z; exact e
def ObjOk (H : Hp) (h : Heap) (a : Addr) : HO → Prop
  | .lst xs => xs.length ≤ sizeLine ∧ ∃ (its : List Value) (n : Nat), Vals xs its ∧ h.get? a = some { cls := .type "list", data := .seq its.toArray n }
  | .tup xs => xs.length ≤ sizeLine ∧ ∃ its : List Value, Vals xs its ∧ IsTup h a its.toArray ∧ NoDict h a
  | .dK kvs => kvs.length ≤ sizeLine ∧ (a == sysModules) = false ∧ ∃ vs, KV kvs vs ∧ h.DictOf (mixKind P w) a vs
  | .dT kvs => kvs.length ≤ sizeLine ∧ (a == sysModules) = false ∧ ∃ xs : List (List Key × Addr × Value),
      Paired (fun (p : List Key × V) (q : List Key × Addr × Value) => p.1 = q.1 ∧ H q.2.1 = some (.tup (p.1.map kV)) ∧ RelV p.2 q.2.2) kvs xs ∧
      ∃ o es ep, h.get? a = some o ∧ o.ExactDict ∧ o.data = .dict es ep ∧ es.toList = xs.map (entryOfKey (tupleKind (mixKind P w))) ∧ (xs.map (·.1)).Nodup
  | .set S n => h.SetOf (intKind P w) a S n
  | .ins C dx fs => H dx = some (.own a) ∧ fs.length ≤ 1000 ∧ dx ≠ a ∧ h.get? a = some (PySem.W.instObj C dx) ∧
      ∃ mA, h.Ns1 dx mA ∧ (∀ f, RelO (fs.lookup f) (mA f)) ∧ PySem.Within mA (fs.map (·.1))
  | .own _ => ∃ o, h.get? a = some o
  | .xd fs => ∃ mA, h.Ns1 a mA ∧ ∀ f, RelO (fs.lookup f) (mA f)
  | .rng lo hi => ∃ t u v, h.get? a = some { cls := .type "range", data := .fields #[.int lo t, .int hi u, .int 1 v] }
  | .frz o u => h.get? a = some o ∧ ObjOk H h a u
  | .tbl ps => h.get? a = some { cls := .none, data := .fields ps }
  | .met f x => h.get? a = some (PySem.W.methodObj (.ref f) (.ref x))
  | .ext φ => φ h ∧ (∃ o, h.get? a = some o) ∧ ∀ h1 h2 : Heap, φ h1 → (∀ o, h1.get? a = some o → h2.get? a = some o) → φ h2
/-- the abstract heap is held -/
def HOk (H : Hp) (h : Heap) : Prop := ∀ a o, H a = some o → ObjOk P w H h a o
end

section
variable {P : Program} {w : World} {H H' : Hp} {h h' : Heap} {a : Addr} {o : HO}
theorem ObjOk.lt (x : ObjOk P w H h a o) : a < h.objs.size := by
  cases o with
  | lst xs => obtain ⟨_, _, _, _, e⟩ := x; exact Heap.lt_size e
  | tup xs => obtain ⟨_, _, _, p, _⟩ := x; exact p.lt
  | dK kvs => obtain ⟨_, _, _, _, o, _, _, e, _⟩ := x; exact Heap.lt_size e
  | dT kvs => obtain ⟨_, _, _, _, o, _, _, e, _⟩ := x; exact Heap.lt_size e
  | set S n => obtain ⟨o, _, _, _, e, _⟩ := x; exact Heap.lt_size e
  | ins C dx fs => obtain ⟨_, _, _, e, _⟩ := x; exact Heap.lt_size e
  | own y => obtain ⟨_, e⟩ := x; exact Heap.lt_size e
  | xd fs => obtain ⟨_, ⟨_, _, _, e, _⟩, _⟩ := x; exact Heap.lt_size e
  | rng lo hi => obtain ⟨_, _, _, e⟩ := x; exact Heap.lt_size e
  | frz ob u => obtain ⟨e, _⟩ := x; exact Heap.lt_size e
  | tbl ps => exact Heap.lt_size (show h.get? a = some _ from x)
  | met f y => exact Heap.lt_size (show h.get? a = some _ from x)
  | ext φ => obtain ⟨_, ⟨_, e⟩, _⟩ := x; exact Heap.lt_size e
theorem Paired.mapP {α β : Type} {F G : α → β → Prop} : ∀ {l₁ : List α} {l₂ : List β}, Paired F l₁ l₂ → (∀ a b, F a b → G a b) → Paired G l₁ l₂
  | _, _, .nil, _ => .nil
  | _, _, .cons r t, f => .cons (f _ _ r) (Paired.mapP t f)
/-- what an object's description leans on: its own object, its own dict, the tuples -/
theorem ObjOk.stay (x : ObjOk P w H h a o) (k : ∀ b u, (b = a ∨ H b = some (.own a)) → h.get? b = some u → h'.get? b = some u)
    (ho : ∀ b, H b = some (.own a) → H' b = some (.own a)) (ht : ∀ b xs, H b = some (.tup xs) → H' b = some (.tup xs)) : ObjOk P w H' h' a o := by
  induction o with
  | lst xs => obtain ⟨z, its, n, r, e⟩ := x; exact ⟨z, its, n, r, k _ _ (.inl rfl) e⟩
  | tup xs => obtain ⟨z, its, r, ⟨ob, e, c⟩, nd⟩ := x; exact ⟨z, its, r, ⟨ob, k _ _ (.inl rfl) e, c⟩, fun o q => by rw [k _ _ (.inl rfl) e] at q; cases q; exact nd _ e⟩
  | dK kvs => obtain ⟨z, y, vs, r, ob, es, ep, e, c⟩ := x; exact ⟨z, y, vs, r, ob, es, ep, k _ _ (.inl rfl) e, c⟩
  | dT kvs =>
    obtain ⟨z, y, xs, r, ob, es, ep, e, c⟩ := x
    exact ⟨z, y, xs, Paired.mapP r fun p q z => ⟨z.1, ht _ _ z.2.1, z.2.2⟩, ob, es, ep, k _ _ (.inl rfl) e, c⟩
  | set S n => obtain ⟨ob, es, ep, t, e, c⟩ := x; exact ⟨ob, es, ep, t, k _ _ (.inl rfl) e, c⟩
  | ins C dx fs =>
    obtain ⟨d, z, ne, e, mA, ⟨od, es, ep, e2, c⟩, r⟩ := x
    exact ⟨ho _ d, z, ne, k _ _ (.inl rfl) e, mA, ⟨od, es, ep, k _ _ (.inr d) e2, c⟩, r⟩
  | own y => obtain ⟨ob, e⟩ := x; exact ⟨ob, k _ _ (.inl rfl) e⟩
  | xd fs => obtain ⟨mA, ⟨od, es, ep, e, c⟩, r⟩ := x; exact ⟨mA, ⟨od, es, ep, k _ _ (.inl rfl) e, c⟩, r⟩
  | rng lo hi => obtain ⟨t, u, v, e⟩ := x; exact ⟨t, u, v, k _ _ (.inl rfl) e⟩
  | frz ob u ih => obtain ⟨e, q⟩ := x; exact ⟨k _ _ (.inl rfl) e, ih q⟩
  | tbl ps =>
    have e : h.get? a = some { cls := .none, data := .fields ps } := x
    show h'.get? a = some { cls := .none, data := .fields ps }
    exact k a _ (.inl rfl) e
  | met f y =>
    have e : h.get? a = some (PySem.W.methodObj (.ref f) (.ref y)) := x
    show h'.get? a = some (PySem.W.methodObj (.ref f) (.ref y))
    exact k a _ (.inl rfl) e
  | ext φ => obtain ⟨p, ⟨o, e⟩, st⟩ := x; exact ⟨st _ _ p fun o q => k _ _ (.inl rfl) q, ⟨o, k _ _ (.inl rfl) e⟩, st⟩
theorem HOk.lt (x : HOk P w H h) (e : H a = some o) : a < h.objs.size := (x a o e).lt
theorem HOk.fresh (x : HOk P w H h) (e : h.objs.size ≤ a) : H a = none := by
  cases q : H a with
  | none => rfl
  | some u => exact absurd (Nat.lt_of_lt_of_le (x.lt q) e) (Nat.lt_irrefl _)
/-- every object of the heap is kept -/
theorem HOk.kept (x : HOk P w H h) (k : ∀ b u, h.get? b = some u → h'.get? b = some u) : HOk P w H h' := fun a o e =>
  (x a o e).stay (fun b u _ q => k b u q) (fun _ q => q) fun _ _ q => q
/-- a new object is laid and tracked -/
theorem HOk.laid (x : HOk P w H h) (k : ∀ b u, h.get? b = some u → h'.get? b = some u) (hp : h.objs.size ≤ a) (new : ObjOk P w (upd H a o) h' a o) : HOk P w (upd H a o) h' := fun b u e => by
  have hn := x.fresh hp
  by_cases hb : b = a
  · subst hb; rw [upd_same] at e; cases e; exact new
  · rw [upd_ne hb] at e
    exact (x b u e).stay (fun c v _ q => k c v q) (fun c q => by rw [upd_ne (ne_of_none q hn)]; exact q) fun c xs q => by rw [upd_ne (ne_of_none q hn)]; exact q
end

/-- what may be read as u: it is u, or a known u -/
def Rd (H : Hp) (a : Addr) (u : HO) : Prop := H a = some u ∨ ∃ o, H a = some (.frz o u)
theorem Rd.ok {P : Program} {w : World} {H : Hp} {h : Heap} {a : Addr} {u : HO} (r : Rd H a u) (x : HOk P w H h) : ObjOk P w H h a u := by
  rcases r with r | ⟨o, r⟩
  · exact x a u r
  · obtain ⟨_, q⟩ := x a _ r
    exact q
/-- what may be written -/
def Mut : Option HO → Prop
  | some (.lst _) => True
  | some (.dK _) => True
  | some (.dT _) => True
  | some (.set _ _) => True
  | some (.ins _ _ _) => True
  | some (.ext _) => True
  | _ => False
section
variable {P : Program} {w : World} {H : Hp} {h h' : Heap} {x e : Addr} {o' : HO}
/-- the object at e is changed: x itself, or the dict of the instance x -/
theorem HOk.write (ok : HOk P w H h) (mu : Mut (H x)) (he : e = x ∨ H e = some (.own x)) (k : ∀ b u, b ≠ e → h.get? b = some u → h'.get? b = some u) (heo : ∃ u, h'.get? e = some u)
    (new : ObjOk P w (upd H x o') h' x o') : HOk P w (upd H x o') h' := fun b u q => by
  have nown : ∀ c y, H c = some (.own y) → c ≠ x := fun c y r z => by subst z; rw [r] at mu; exact mu
  have ntup : ∀ c xs, H c = some (.tup xs) → c ≠ x := fun c xs r z => by subst z; rw [r] at mu; exact mu
  by_cases hb : b = x
  · subst hb; rw [upd_same] at q; cases q; exact new
  · rw [upd_ne hb] at q
    by_cases hbe : b = e
    · have q' : H b = some (.own x) := by
        rcases he with z | z
        · exact absurd (hbe.trans z) hb
        · rw [hbe]; exact z
      rw [q] at q'; cases q'
      obtain ⟨v, hv⟩ := heo
      exact ⟨v, by rw [hbe]; exact hv⟩
    · refine (ok b u q).stay (fun c v hc r => k c v ?_ r) (fun c r => by rw [upd_ne (nown c b r)]; exact r) fun c xs r => by rw [upd_ne (ntup c xs r)]; exact r
      rcases hc with rfl | hc
      · exact hbe
      · rintro rfl
        rcases he with z | z
        · exact nown c b hc z
        · rw [hc] at z; cases z; exact hb rfl
end

/-! ### kept unless tracked; of the frames at fs (the callers') the slots may change (an exception that passes writes there); of the records at ex (iterators) nothing is said -/
structure Un (fs ex : List Addr) (H H' : Hp) (h h' : Heap) : Prop where
  keep : ∀ b o, h.get? b = some o → H b = none → b ∉ fs → b ∉ ex → h'.get? b = some o
  slot : ∀ b o, h.get? b = some o → H b = none → b ∈ fs → b ∉ ex → ∃ sl, h'.get? b = some { o with slots := sl }
  free : ∀ b o, h.get? b = some o → H b = none → b ∉ ex → H' b = none
  there : ∀ b o, h.get? b = some o → b ∉ ex → ∃ o', h'.get? b = some o'
  tups : ∀ b xs, H b = some (.tup xs) → H' b = some (.tup xs)
  frzs : ∀ b o u, H b = some (.frz o u) → H' b = some (.frz o u)
  tbls : ∀ b ps, H b = some (.tbl ps) → ∃ more, H' b = some (.tbl (ps ++ more))
section
variable {fs fs' ex ex' : List Addr} {H H1 H2 : Hp} {h h1 h2 h' : Heap} {a x e : Addr} {o : HO}
theorem Un.any (u : Un fs ex H H1 h h1) {b : Addr} {ob : Obj} (q : h.get? b = some ob) (n : H b = none) (hx : b ∉ ex) : ∃ sl, h1.get? b = some { ob with slots := sl } := by
  by_cases hb : b ∈ fs
  · exact u.slot b ob q n hb hx
  · exact ⟨ob.slots, u.keep b ob q n hb hx⟩
theorem Un.kept (k : ∀ b u, h.get? b = some u → h'.get? b = some u) : Un fs ex H H h h' :=
  ⟨fun b ob q _ _ _ => k b ob q, fun b ob q _ _ _ => ⟨ob.slots, k b ob q⟩, fun _ _ _ n _ => n, fun b ob q _ => ⟨ob, k b ob q⟩, fun _ _ q => q, fun _ _ _ q => q, fun _ ps q => ⟨#[], by rw [q]; simp⟩⟩
theorem Un.refl : Un fs ex H H h h := Un.kept fun _ _ q => q
theorem Un.laid (k : ∀ b u, h.get? b = some u → h'.get? b = some u) (hp : h.objs.size ≤ a) (hn : H a = none) : Un fs ex H (upd H a o) h h' where
  keep := fun b u q _ _ _ => k b u q
  slot := fun b u q _ _ _ => ⟨u.slots, k b u q⟩
  free := fun b u q n _ => by rw [upd_ne (Nat.ne_of_lt (Nat.lt_of_lt_of_le (Heap.lt_size q) hp))]; exact n
  there := fun b u q _ => ⟨u, k b u q⟩
  tups := fun b xs q => by rw [upd_ne (ne_of_none q hn)]; exact q
  frzs := fun b u xs q => by rw [upd_ne (ne_of_none q hn)]; exact q
  tbls := fun b ps q => ⟨#[], by rw [upd_ne (ne_of_none q hn), q]; simp⟩
theorem Un.write (mu : Mut (H x)) (he : e = x ∨ H e = some (.own x)) (k : ∀ b u, b ≠ e → h.get? b = some u → h'.get? b = some u) (heo : ∃ u, h'.get? e = some u) : Un fs ex H (upd H x o) h h' := by
  have hx : ∀ b, H b = none → b ≠ x := fun b n z => by subst z; rw [n] at mu; exact mu
  have hb : ∀ b, H b = none → b ≠ e := fun b n z => by
    subst z
    rcases he with r | r
    · exact hx b n r
    · rw [n] at r; cases r
  have hm : ∀ b u, H b = some u → ¬ Mut (some u) → b ≠ x := fun b u q nm z => by subst z; rw [q] at mu; exact nm mu
  refine ⟨fun b u q n _ _ => k b u (hb b n) q, fun b u q n _ _ => ⟨u.slots, k b u (hb b n) q⟩, fun b u q n _ => by rw [upd_ne (hx b n)]; exact n, fun b u q _ => ?_,
    fun b xs q => by rw [upd_ne (hm b _ q fun z => z)]; exact q, fun b u xs q => by rw [upd_ne (hm b _ q fun z => z)]; exact q, fun b ps q => ⟨#[], by rw [upd_ne (hm b _ q fun z => z), q]; simp⟩⟩
  by_cases hbe : b = e
  · subst hbe; exact heo
  · exact ⟨u, k b u hbe q⟩
end

/-! ### the heap without what is tracked -/
def trk (h : Heap) (H : Hp) : List Addr := (List.range h.objs.size).filter fun a => (H a).isSome
def hidT (h : Heap) (H : Hp) : Heap := PySem.W.hideAll h (trk h H)
theorem hidT_size (h : Heap) (H : Hp) : (hidT h H).objs.size = h.objs.size := PySem.W.hideAll_size _ _
theorem hidT_get {h : Heap} {H : Hp} {b : Addr} {o : Obj} (e : h.get? b = some o) (n : H b = none) : (hidT h H).get? b = some o :=
  PySem.W.hideAll_get _ e fun hm => by
    have q : (H b).isSome = true := (List.mem_filter.mp hm).2
    rw [n] at q; simp at q
theorem of_hidT {h : Heap} {H : Hp} {b : Addr} {o : Obj} (e : (hidT h H).get? b = some o) : h.get? b = some o ∧ H b = none := by
  have e' : h.get? b = some o := PySem.W.of_hideAll (trk h H) e
  refine ⟨e', ?_⟩
  cases q : H b with
  | none => rfl
  | some x =>
    have hm : b ∈ trk h H := List.mem_filter.mpr ⟨List.mem_range.mpr (Heap.lt_size e'), by simp [q]⟩
    have z : (hidT h H).get? b = none := PySem.W.hideAll_none (trk h H) hm
    rw [z] at e; cases e

/-! ### OpenK's ledger, filled with every new object but one -/
end L2

namespace L2
open PySem PySem.Spec PyProof.Rows

/-- the module's facts, over the base: the heap at the law's entry without what is tracked there -/
structure Mod (K : PySem.W.Frag) (mg : Str → Option Value) (base : Heap) : Prop where
  kin : K.In base
  glob : base.Ns mainGlobals mg
  blt : ∃ mb, base.Ns builtinsNs mb ∧ ∀ x : Str, x ≠ "__name__" → mb x = bootBuiltins x
  nolimit : base.NoLimit

/-- the context: a def's body (or a comprehension's block) running. base: fixed through the whole law; s₀, H₀: the entry; outer: the frames whose slots others may change (a def's callers); stack: all frames that run;
   ex: iterators that were made ahead of the entry and are walked here (a comprehension's); fn: the names whose cells were made at the entry (a def: all; a comprehension's block: its own); calm: not within an except suite; pn: pins that every state bears; xe: what is wanted of an exception that leaves the code -/
structure Cx where
  prog : Program
  w : World
  K : PySem.W.Frag
  mg : Str → Option Value
  base : Heap
  A : Around
  N : List Str
  s₀ : Shared
  H₀ : Hp
  env : Env
  outer : List Env
  stack : List Env
  ex : List Addr
  fn : Str → Bool
  calm : Bool
  pn : List (Addr × Obj)
  xe : Value → Shared → Prop
/-- the callers' frames -/
def frs (l : List Env) : List Addr := l.filterMap (·.frame)
abbrev Cx.fs (X : Cx) : List Addr := frs X.outer

def Vis (sc : Scope) (x : Str) : Prop := sc.names.lookup x = some .local ∨ sc.names.lookup x = some .cell ∨ sc.names.lookup x = some .free
def Loc (sc : Scope) (x : Str) : Prop := sc.names.lookup x = some .local ∨ sc.names.lookup x = some .cell
def Look (env : Env) (h : Heap) (m : Str → Option Value) (x : Str) (u : Value) : Prop :=
  (env.kindOf x = some .local ∧ m x = some u) ∨ ((env.kindOf x = some .cell ∨ env.kindOf x = some .free) ∧ ∃ c, env.cells.lookup x = some c ∧ h.IsCell c (some u))

structure Cx.Ok (X : Cx) : Prop where
  mod : Mod X.K X.mg X.base
  kind : X.env.scope.kind = .function
  glob : X.env.globals = mainGlobals
  blt : X.env.builtins = builtinsNs
  above : X.s₀.heap.objs.size ≤ X.env.locals
  inj : ∀ x y c, X.env.cells.lookup x = some c → X.env.cells.lookup y = some c → x = y
  has : ∀ x, (X.env.kindOf x = some .cell ∨ X.env.kindOf x = some .free) → ∃ c, X.env.cells.lookup x = some c
  cab : ∀ x c, X.fn x = true → X.env.cells.lookup x = some c → X.s₀.heap.objs.size ≤ c
  hd : X.calm = true → X.A.handled = none
  frames : X.A.frames = some X.stack
  stk : X.stack = X.outer ∨ (X.stack = X.env :: X.outer ∧ X.env.frame = some X.env.locals)
  exf : ∀ b ∈ X.ex, b ≠ X.env.locals ∧ ∀ x c, X.env.cells.lookup x = some c → c ≠ b
  bs : ∀ b o, X.base.get? b = some o → X.s₀.heap.get? b = some o ∧ X.H₀ b = none
  bsz : X.base.objs.size ≤ X.s₀.heap.objs.size
  noex : ∀ b o, X.base.get? b = some o → b ∉ X.ex
  exfs : ∀ b ∈ X.ex, b ∉ X.fs
  funs : X.s₀.heap.FunFrames X.base X.outer
  frf : ∀ b ∈ X.fs, X.H₀ b = none

structure Inv (X : Cx) (pins : List (Addr × Obj)) (σ : List (Option V)) (H : Hp) (s : Shared) : Prop where
  ok : X.Ok
  os : s.os = X.s₀.os
  bare : AllBare s.gens
  base : Un X.fs X.ex X.H₀ H X.s₀.heap s.heap
  loc : ∃ m, s.heap.Ns X.env.locals m ∧ ∀ (i : Nat) (x : Str) (v : V), X.N[i]? = some x → σ[i]? = some (some v) → Vis X.env.scope x → ∃ u, RelV v u ∧ Look X.env s.heap m x u
  cell : ∀ x c, X.env.cells.lookup x = some c → ∃ v, s.heap.IsCell c v
  free : H X.env.locals = none
  freeC : ∀ x c, X.env.cells.lookup x = some c → H c = none
  pin : ∀ p ∈ X.pn ++ pins, s.heap.get? p.1 = some p.2 ∧ H p.1 = none ∧ p.1 ≠ X.env.locals ∧ p.1 ∉ X.fs ∧ ∀ v, p.2.data ≠ .cell v
  hok : HOk X.prog X.w H s.heap
  len : σ.length = X.N.length

section
variable {X : Cx} {pins : List (Addr × Obj)} {σ : List (Option V)} {H H' : Hp} {s : Shared} {h' : Heap}

theorem Cx.Ok.nofr (ok : X.Ok) {b : Addr} {o : Obj} (e : X.base.get? b = some o) : b ∉ X.fs := fun hb => by
  have := (ok.funs.mem hb).1
  rw [e] at this; cases this
theorem Inv.bs (I : Inv X pins σ H s) : ∀ b o, X.base.get? b = some o → s.heap.get? b = some o ∧ H b = none := fun b o e =>
  ⟨I.base.keep b o (I.ok.bs b o e).1 (I.ok.bs b o e).2 (I.ok.nofr e) (I.ok.noex b o e), I.base.free b o (I.ok.bs b o e).1 (I.ok.bs b o e).2 (I.ok.noex b o e)⟩
theorem Inv.bk (I : Inv X pins σ H s) : ∀ b o, X.base.get? b = some o → s.heap.get? b = some o := fun b o e => (I.bs b o e).1
theorem Inv.mod (I : Inv X pins σ H s) : Mod X.K X.mg X.base := I.ok.mod
theorem Inv.kIn (I : Inv X pins σ H s) : X.K.In s.heap := I.ok.mod.kin.keeps I.bk
theorem Inv.lt (I : Inv X pins σ H s) : X.env.locals < s.heap.objs.size := let ⟨_, hn, _⟩ := I.loc; hn.lt
theorem Inv.sz (I : Inv X pins σ H s) : X.s₀.heap.objs.size ≤ s.heap.objs.size := Nat.le_trans I.ok.above (Nat.le_of_lt I.lt)
theorem Inv.nofs (I : Inv X pins σ H s) {a : Addr} (h : s.heap.objs.size ≤ a) : a ∉ X.fs := fun hb => by
  obtain ⟨_, o, ho, _⟩ := I.ok.funs.mem hb
  exact absurd (Nat.lt_of_lt_of_le (Heap.lt_size ho) (Nat.le_trans I.sz h)) (Nat.lt_irrefl _)
theorem Inv.cne (I : Inv X pins σ H s) : ∀ x c, X.env.cells.lookup x = some c → c ≠ X.env.locals := fun x c e z => by
  obtain ⟨v, o, ho, hd⟩ := I.cell x c e
  obtain ⟨m, ⟨o', es, ep, ho', hd', _⟩, _⟩ := I.loc
  rw [z, ho'] at ho; cases ho; rw [hd'] at hd; cases hd
theorem Inv.funs (I : Inv X pins σ H s) : s.heap.FunFrames X.base X.outer := by
  have all : ∀ (l : List Env), (∀ b ∈ frs l, b ∈ X.fs) → X.s₀.heap.FunFrames X.base l → s.heap.FunFrames X.base l := by
    intro l
    induction l with
    | nil => intro _ _; trivial
    | cons env r ih =>
      intro hs hl
      obtain ⟨hk, ⟨L, o, hf, hn, ho, hd⟩, hr⟩ := hl
      have hL : L ∈ X.fs := hs L (by unfold frs; rw [List.filterMap_cons, hf]; exact List.mem_cons_self)
      obtain ⟨sl, e⟩ := I.base.slot L o ho (I.ok.frf L hL) hL fun z => I.ok.exfs L z hL
      exact ⟨hk, ⟨L, _, hf, hn, e, hd⟩, ih (fun b hb => hs b (by unfold frs; rw [List.filterMap_cons, hf]; exact List.mem_cons_of_mem _ hb)) hr⟩
  exact all X.outer (fun _ hb => hb) I.ok.funs

/-- the frames that run, for a call -/
theorem Inv.stack (I : Inv X pins σ H s) : s.heap.FunFrames X.base X.stack := by
  rcases I.ok.stk with e | ⟨e, hf⟩
  · rw [e]; exact I.funs
  · rw [e]
    obtain ⟨m, hn, _⟩ := I.loc
    refine .cons (by rw [I.ok.kind]; decide) hf hn ?_ I.funs
    exact Heap.get?_none_of_le (Nat.le_trans I.ok.bsz I.ok.above)
theorem Inv.stkSub (I : Inv X pins σ H s) : ∀ b ∈ frs X.stack, b ∈ X.env.locals :: X.fs := fun b hb => by
  rcases I.ok.stk with e | ⟨e, hf⟩
  · rw [e] at hb; exact List.mem_cons_of_mem _ hb
  · rw [e] at hb
    unfold frs at hb
    rw [List.filterMap_cons, hf] at hb
    exact hb
theorem Inv.stkFree (I : Inv X pins σ H s) : ∀ b ∈ frs X.stack, H b = none := fun b hb => by
  rcases List.mem_cons.mp (I.stkSub b hb) with e | hb
  · rw [e]; exact I.free
  · obtain ⟨_, o, ho, _⟩ := I.ok.funs.mem hb
    exact I.base.free b o ho (I.ok.frf b hb) fun z => I.ok.exfs b z hb

/-- THE STEP: the untracked objects but the frame and the records at ch are kept (the callers' frames up to slots), the frame's map is kept, the new abstract heap is held -/
theorem Inv.step {g' : Array GenState} {t' : Nat} {d' : Drawn} {ch : List Addr} (I : Inv X pins σ H s)
    (hch : ∀ b ∈ ch, (b ∈ X.ex ∨ X.s₀.heap.objs.size ≤ b) ∧ b ≠ X.env.locals ∧ (∀ x c, X.env.cells.lookup x = some c → c ≠ b) ∧ ∀ p ∈ X.pn ++ pins, p.1 ≠ b)
    (keep : ∀ b o, b ≠ X.env.locals → b ∉ X.fs → b ∉ ch → s.heap.get? b = some o → H b = none → h'.get? b = some o)
    (slot : ∀ b o, b ≠ X.env.locals → b ∈ X.fs → b ∉ ch → s.heap.get? b = some o → H b = none → ∃ sl, h'.get? b = some { o with slots := sl }) (free : ∀ b o, b ∉ ch → s.heap.get? b = some o → H b = none → H' b = none)
    (there : ∀ b o, b ∉ ch → s.heap.get? b = some o → ∃ o', h'.get? b = some o')
    (tups : ∀ b xs, H b = some (.tup xs) → H' b = some (.tup xs)) (frzs : ∀ b o u, H b = some (.frz o u) → H' b = some (.frz o u)) (tbls : ∀ b ps, H b = some (.tbl ps) → ∃ more, H' b = some (.tbl (ps ++ more)))
    (ns : ∀ m, s.heap.Ns X.env.locals m → h'.Ns X.env.locals m) (hok : HOk X.prog X.w H' h') (hg : AllBare g') :
    Inv X pins σ H' { s with heap := h', gens := g', drawn := d', toks := t' } := by
  have neL : ∀ b o, X.s₀.heap.get? b = some o → b ≠ X.env.locals := fun b o e => Nat.ne_of_lt (Nat.lt_of_lt_of_le (Heap.lt_size e) I.ok.above)
  have neC : ∀ b o, X.s₀.heap.get? b = some o → b ∉ X.ex → b ∉ ch := fun b o e hx hb => by
    rcases (hch b hb).1 with z | z
    · exact hx z
    · exact absurd (Nat.lt_of_lt_of_le (Heap.lt_size e) z) (Nat.lt_irrefl _)
  have cellK : ∀ x c, X.env.cells.lookup x = some c → ∀ v, s.heap.IsCell c v → h'.IsCell c v := fun x c e v ⟨o, ho, hd⟩ => by
    have nch : c ∉ ch := fun z => (hch c z).2.2.1 x c e rfl
    by_cases hc : c ∈ X.fs
    · obtain ⟨sl, q⟩ := slot c o (I.cne x c e) hc nch ho (I.freeC x c e)
      exact ⟨_, q, hd⟩
    · exact ⟨o, keep c o (I.cne x c e) hc nch ho (I.freeC x c e), hd⟩
  refine ⟨I.ok, I.os, hg, ⟨fun b o e n hb hx => ?_, fun b o e n hb hx => ?_, fun b o e n hx => ?_, fun b o e hx => ?_, fun b xs e => tups b xs (I.base.tups b xs e), fun b o xs e => frzs b o xs (I.base.frzs b o xs e), fun b ps e => ?_⟩, ?_, fun x c e => ?_, ?_, fun x c e => ?_, fun p hp => ?_, hok, I.len⟩
  · exact keep b o (neL b o e) hb (neC b o e hx) (I.base.keep b o e n hb hx) (I.base.free b o e n hx)
  · obtain ⟨sl, e1⟩ := I.base.slot b o e n hb hx
    obtain ⟨sl', e2⟩ := slot b _ (neL b o e) hb (neC b o e hx) e1 (I.base.free b o e n hx)
    exact ⟨sl', e2⟩
  · obtain ⟨o', e1⟩ := I.base.there b o e hx
    exact free b o' (neC b o e hx) e1 (I.base.free b o e n hx)
  · obtain ⟨o', e1⟩ := I.base.there b o e hx
    exact there b o' (neC b o e hx) e1
  · obtain ⟨m1, e1⟩ := I.base.tbls b ps e
    obtain ⟨m2, e2⟩ := tbls b _ e1
    exact ⟨m1 ++ m2, by rw [e2, Array.append_assoc]⟩
  · obtain ⟨m, hn, hl⟩ := I.loc
    refine ⟨m, ns m hn, fun i x v e1 e2 e3 => ?_⟩
    obtain ⟨u, r, l⟩ := hl i x v e1 e2 e3
    refine ⟨u, r, ?_⟩
    rcases l with l | ⟨k, c, e, z⟩
    · exact .inl l
    · exact .inr ⟨k, c, e, cellK x c e _ z⟩
  · obtain ⟨v, z⟩ := I.cell x c e
    exact ⟨v, cellK x c e v z⟩
  · obtain ⟨m, ⟨o, _, _, ho, _⟩, _⟩ := I.loc
    exact free _ o (fun z => (hch _ z).2.1 rfl) ho I.free
  · obtain ⟨v, o, ho, hd⟩ := I.cell x c e
    exact free c o (fun z => (hch c z).2.2.1 x c e rfl) ho (I.freeC x c e)
  · obtain ⟨e, n, ne, nf, d⟩ := I.pin p hp
    have nch : p.1 ∉ ch := fun z => (hch p.1 z).2.2.2 p hp rfl
    exact ⟨keep p.1 p.2 ne nf nch e n, free p.1 p.2 nch e n, ne, nf, d⟩
/-- .. where the frame's own object is kept too -/
theorem Inv.un {t' : Nat} (I : Inv X pins σ H s) (u : Un X.fs [] H H' s.heap h') (hok : HOk X.prog X.w H' h') : Inv X pins σ H' { s with heap := h', toks := t' } := by
  obtain ⟨m, ⟨o, es, ep, ho, r⟩, _⟩ := id I.loc
  obtain ⟨sl, hL⟩ := u.any ho I.free (by simp)
  exact I.step (g' := s.gens) (d' := s.drawn) (ch := []) (fun _ z => nomatch z) (fun b o _ hb _ e n => u.keep b o e n hb (by simp)) (fun b o _ hb _ e n => u.slot b o e n hb (by simp)) (fun b o _ e n => u.free b o e n (by simp)) (fun b o _ e => u.there b o e (by simp)) u.tups u.frzs u.tbls (fun m' hm => by
    obtain ⟨o', es', ep', ho', r'⟩ := hm
    rw [ho] at ho'; cases ho'
    exact ⟨_, es', ep', hL, r'⟩) hok I.bare
/-- behind a call (or a comprehension's block): the slots of this frame may have changed too, the records at ch may have turned -/
theorem Inv.call {g' : Array GenState} {t' : Nat} {d' : Drawn} {ch : List Addr} (I : Inv X pins σ H s) (u : Un (frs X.stack) ch H H' s.heap h') (hok : HOk X.prog X.w H' h') (hg : AllBare g')
    (hch : ∀ b ∈ ch, (b ∈ X.ex ∨ X.s₀.heap.objs.size ≤ b) ∧ b ≠ X.env.locals ∧ (∀ x c, X.env.cells.lookup x = some c → c ≠ b) ∧ ∀ p ∈ X.pn ++ pins, p.1 ≠ b) :
    Inv X pins σ H' { s with heap := h', gens := g', drawn := d', toks := t' } := by
  obtain ⟨m, ⟨o, es, ep, ho, r⟩, _⟩ := id I.loc
  obtain ⟨sl, hL⟩ := u.any ho I.free fun z => (hch _ z).2.1 rfl
  exact I.step (ch := ch) hch (fun b o hL hb hc e n => u.keep b o e n (fun z => (List.mem_cons.mp (I.stkSub b z)).elim hL hb) hc) (fun b o _ _ hc e n => u.any e n hc) (fun b o hc e n => u.free b o e n hc) (fun b o hc e => u.there b o e hc) u.tups u.frzs u.tbls (fun m' hm => by
    obtain ⟨o', es', ep', ho', r'⟩ := hm
    rw [ho] at ho'; cases ho'
    exact ⟨_, es', ep', hL, r'⟩) hok hg
/-- an untracked record of ours (an iterator) has turned -/
theorem Inv.turned {t' : Nat} {it : Addr} (I : Inv X pins σ H s) (k : ∀ b o, b ≠ it → s.heap.get? b = some o → h'.get? b = some o) (hn : H it = none) (hL : it ≠ X.env.locals)
    (h1 : it ∈ X.ex ∨ X.s₀.heap.objs.size ≤ it) (h2 : ∀ x c, X.env.cells.lookup x = some c → c ≠ it) (h3 : ∀ p ∈ X.pn ++ pins, p.1 ≠ it) : Inv X pins σ H { s with heap := h', toks := t' } := by
  have nit : ∀ b u, H b = some u → b ≠ it := fun b u e z => by rw [z, hn] at e; cases e
  refine I.step (g' := s.gens) (d' := s.drawn) (ch := [it]) (fun b hb => ?_) (fun b o _ _ hc e _ => k b o (fun z => hc (by simp [z])) e) (fun b o _ _ hc e _ => ⟨o.slots, k b o (fun z => hc (by simp [z])) e⟩) (fun _ _ _ _ n => n)
    (fun b o hc e => ⟨o, k b o (fun z => hc (by simp [z])) e⟩) (fun _ _ e => e) (fun _ _ _ e => e) (fun b ps e => ⟨#[], by rw [e]; simp⟩) (fun m hm => ?_) (fun b u e => ?_) I.bare
  · have e : b = it := by simpa using hb
    subst e
    exact ⟨h1, hL, h2, h3⟩
  · obtain ⟨o, es, ep, ho, r⟩ := hm
    exact ⟨o, es, ep, k _ o (Ne.symm hL) ho, r⟩
  · refine (I.hok b u e).stay (fun c v hc q => k c v ?_ q) (fun _ q => q) fun _ _ q => q
    rcases hc with z | z
    · rw [z]; exact nit b u e
    · exact nit c _ z
theorem Inv.tok (I : Inv X pins σ H s) (t : Nat) : Inv X pins σ H { s with toks := t } := I.un (h' := s.heap) (t' := t) Un.refl I.hok
/-- all objects kept -/
theorem Inv.kept {t' : Nat} (I : Inv X pins σ H s) (k : ∀ b u, s.heap.get? b = some u → h'.get? b = some u) : Inv X pins σ H { s with heap := h', toks := t' } := I.un (Un.kept k) (I.hok.kept k)
/-- a new object laid and tracked -/
theorem Inv.laid {a : Addr} {o : HO} {t' : Nat} (I : Inv X pins σ H s) (k : ∀ b u, s.heap.get? b = some u → h'.get? b = some u) (hp : s.heap.objs.size ≤ a) (new : ObjOk X.prog X.w (upd H a o) h' a o) :
    Inv X pins σ (upd H a o) { s with heap := h', toks := t' } := I.un (Un.laid k hp (I.hok.fresh hp)) (I.hok.laid k hp new)
/-- an object written -/
theorem Inv.write {x e : Addr} {o : HO} {t' : Nat} (I : Inv X pins σ H s) (mu : Mut (H x)) (he : e = x ∨ H e = some (.own x)) (k : ∀ b u, b ≠ e → s.heap.get? b = some u → h'.get? b = some u) (heo : ∃ u, h'.get? e = some u)
    (new : ObjOk X.prog X.w (upd H x o) h' x o) : Inv X pins σ (upd H x o) { s with heap := h', toks := t' } := I.un (Un.write mu he k heo) (I.hok.write mu he k heo new)
theorem Inv.pins_of {pins' : List (Addr × Obj)} (I : Inv X pins σ H s) (h : ∀ p ∈ pins', s.heap.get? p.1 = some p.2 ∧ H p.1 = none ∧ p.1 ≠ X.env.locals ∧ p.1 ∉ X.fs ∧ ∀ v, p.2.data ≠ .cell v) : Inv X pins' σ H s :=
  ⟨I.ok, I.os, I.bare, I.base, I.loc, I.cell, I.free, I.freeC, fun p hp => (List.mem_append.mp hp).elim (fun z => I.pin p (List.mem_append_left _ z)) (h p), I.hok, I.len⟩

theorem nodup_ix {N : List Str} (hN : N.Nodup) {i j : Nat} {x : Str} (a : N[i]? = some x) (b : N[j]? = some x) : i = j := by
  obtain ⟨h1, e1⟩ := List.getElem?_eq_some_iff.mp a
  obtain ⟨h2, e2⟩ := List.getElem?_eq_some_iff.mp b
  exact (List.getElem_inj hN).mp (e1.trans e2.symm)

/-- a name is stored; what changed -/
theorem store_ok2 {M : Model} {A : Around} {E : Value → Shared → Prop} {i : Nat} {x : Str} {v : V} {u : Value} {Q : Unit → Shared → Prop} (I : Inv X pins σ H s) (hN : X.N.Nodup) (hi : X.N[i]? = some x) (hx : Loc X.env.scope x) (r : RelV v u)
    (h : ∀ s', Inv X pins (σ.set i (some v)) H s' → (∃ a, Heap.SameBut a s.heap s'.heap ∧ (a = X.env.locals ∨ X.env.cells.lookup x = some a)) → Q () s') (hf : X.fn x = true ∨ X.env.scope.names.lookup x = some .local := by first | exact .inl rfl | exact .inr rfl | assumption) : wpAny M A (storeName X.env x u) Q E s := by
  obtain ⟨m, hn, hl⟩ := id I.loc
  have hcls : (X.env.scope.kind == .class || (X.env.scope.kind == .module && X.env.locals != X.env.globals)) = false := by rw [I.ok.kind]; rfl
  have hiσ : i < σ.length := by rw [I.len]; exact (List.getElem?_eq_some_iff.mp hi).1
  have cne := I.cne
  have tracked : ∀ {a : Addr} {h' : Heap}, (∃ o, s.heap.get? a = some o ∧ H a = none) → Heap.SameBut a s.heap h' → HOk X.prog X.w H h' := fun {a h'} ha hs b ob e => by
    obtain ⟨_, _, hfree⟩ := ha
    refine (I.hok b ob e).stay (fun c w' hc q => (hs.2 c ?_).trans q) (fun _ q => q) fun _ _ q => q
    rintro rfl
    rcases hc with rfl | hc
    · rw [hfree] at e; cases e
    · rw [hfree] at hc; cases hc
  rcases hx with hk | hk
  · refine wpAny_storeName_local hk hn (fun h' hn' hs => ?_) hcls
    obtain ⟨oL, _, _, hoL, _⟩ := id hn
    refine h _ ⟨I.ok, I.os, I.bare, ⟨fun b o e n hb hx => ?_, fun b o e n hb hx => ?_, I.base.free, fun b o e hx => ?_, I.base.tups, I.base.frzs, I.base.tbls⟩, ⟨_, hn', fun j y v' e1 e2 e3 => ?_⟩, fun y c e => ?_, I.free, I.freeC, fun p hp => ?_, tracked ⟨oL, hoL, I.free⟩ hs, by simpa using I.len⟩ ⟨_, hs, .inl rfl⟩
    · exact (hs.2 b (Nat.ne_of_lt (Nat.lt_of_lt_of_le (Heap.lt_size e) I.ok.above))).trans (I.base.keep b o e n hb hx)
    · obtain ⟨sl, e1⟩ := I.base.slot b o e n hb hx
      exact ⟨sl, (hs.2 b (Nat.ne_of_lt (Nat.lt_of_lt_of_le (Heap.lt_size e) I.ok.above))).trans e1⟩
    · obtain ⟨o', e1⟩ := I.base.there b o e hx
      exact ⟨o', (hs.2 b (Nat.ne_of_lt (Nat.lt_of_lt_of_le (Heap.lt_size e) I.ok.above))).trans e1⟩
    · by_cases hj : j = i
      · subst hj
        rw [hi] at e1; cases e1
        rw [List.getElem?_set_self hiσ] at e2
        cases e2
        exact ⟨u, r, .inl ⟨hk, by simp⟩⟩
      · rw [List.getElem?_set_ne (Ne.symm hj)] at e2
        obtain ⟨u', r', q⟩ := hl j y v' e1 e2 e3
        refine ⟨u', r', ?_⟩
        rcases q with ⟨k, e⟩ | ⟨k, c, e, z⟩
        · refine .inl ⟨k, ?_⟩
          have : y ≠ x := fun e => hj (nodup_ix hN e1 (e ▸ hi))
          simp [this, e]
        · exact .inr ⟨k, c, e, z.sameBut hs (cne y c e)⟩
    · obtain ⟨w', z⟩ := I.cell y c e
      exact ⟨w', z.sameBut hs (cne y c e)⟩
    · obtain ⟨e, n, ne, nf, d⟩ := I.pin p hp
      exact ⟨(hs.2 p.1 ne).trans e, n, ne, nf, d⟩
  · have hfn : X.fn x = true := by
      rcases hf with z | z
      · exact z
      · rw [z] at hk; cases hk
    obtain ⟨c, hc⟩ := I.ok.has x (.inl hk)
    obtain ⟨w', z⟩ := I.cell x c hc
    refine wpAny_storeName_cell I.ok.kind hk hc z (fun h' hc' hs => ?_)
    obtain ⟨oc, hoc, hocd⟩ := id z
    refine h { s with heap := h' } ⟨I.ok, I.os, I.bare, ⟨fun b o e n hb hx => ?_, fun b o e n hb hx => ?_, I.base.free, fun b o e hx => ?_, I.base.tups, I.base.frzs, I.base.tbls⟩, ⟨m, hn.sameBut hs (Ne.symm (cne x c hc)), fun j y v' e1 e2 e3 => ?_⟩, fun y c' e => ?_, I.free, I.freeC, fun p hp => ?_, tracked ⟨oc, hoc, I.freeC x c hc⟩ hs, by simpa using I.len⟩ ⟨c, hs, .inr hc⟩
    · exact (hs.2 b (Nat.ne_of_lt (Nat.lt_of_lt_of_le (Heap.lt_size e) (I.ok.cab x c hfn hc)))).trans (I.base.keep b o e n hb hx)
    · obtain ⟨sl, e1⟩ := I.base.slot b o e n hb hx
      exact ⟨sl, (hs.2 b (Nat.ne_of_lt (Nat.lt_of_lt_of_le (Heap.lt_size e) (I.ok.cab x c hfn hc)))).trans e1⟩
    · obtain ⟨o', e1⟩ := I.base.there b o e hx
      exact ⟨o', (hs.2 b (Nat.ne_of_lt (Nat.lt_of_lt_of_le (Heap.lt_size e) (I.ok.cab x c hfn hc)))).trans e1⟩
    · by_cases hj : j = i
      · subst hj
        rw [hi] at e1; cases e1
        rw [List.getElem?_set_self hiσ] at e2
        cases e2
        exact ⟨u, r, .inr ⟨.inl hk, c, hc, hc'⟩⟩
      · rw [List.getElem?_set_ne (Ne.symm hj)] at e2
        obtain ⟨u', r', q⟩ := hl j y v' e1 e2 e3
        refine ⟨u', r', ?_⟩
        rcases q with q | ⟨k, c', e, z'⟩
        · exact .inl q
        · refine .inr ⟨k, c', e, z'.sameBut hs ?_⟩
          rintro rfl
          exact hj (nodup_ix hN e1 (I.ok.inj _ _ _ e hc ▸ hi))
    · by_cases hcc : c' = c
      · subst hcc; exact ⟨_, hc'⟩
      · obtain ⟨w2, z2⟩ := I.cell y c' e
        exact ⟨w2, z2.sameBut hs hcc⟩
    · obtain ⟨e, n, ne, nf, d⟩ := I.pin p hp
      refine ⟨(hs.2 p.1 ?_).trans e, n, ne, nf, d⟩
      intro q
      rw [q, hoc] at e
      have q' : oc = p.2 := Option.some.inj e
      exact d w' (by rw [← q']; exact hocd)
theorem store_ok {M : Model} {A : Around} {E : Value → Shared → Prop} {i : Nat} {x : Str} {v : V} {u : Value} {Q : Unit → Shared → Prop} (I : Inv X pins σ H s) (hN : X.N.Nodup) (hi : X.N[i]? = some x) (hx : Loc X.env.scope x) (r : RelV v u)
    (h : ∀ s', Inv X pins (σ.set i (some v)) H s' → Q () s') (hf : X.fn x = true ∨ X.env.scope.names.lookup x = some .local := by first | exact .inl rfl | exact .inr rfl | assumption) : wpAny M A (storeName X.env x u) Q E s :=
  store_ok2 I hN hi hx r (fun s' I' _ => h s' I') hf
/-- behind a call or a block, the state as it is -/
theorem Inv.call' {s' : Shared} {ch : List Addr} (I : Inv X pins σ H s) (ho : s'.os = s.os) (u : Un (frs X.stack) ch H H' s.heap s'.heap) (hok : HOk X.prog X.w H' s'.heap) (hg : AllBare s'.gens)
    (hch : ∀ b ∈ ch, (b ∈ X.ex ∨ X.s₀.heap.objs.size ≤ b) ∧ b ≠ X.env.locals ∧ (∀ x c, X.env.cells.lookup x = some c → c ≠ b) ∧ ∀ p ∈ X.pn ++ pins, p.1 ≠ b) : Inv X pins σ H' s' := by
  obtain ⟨h', g', d', t', o'⟩ := s'
  have e : o' = s.os := ho
  subst e
  exact I.call (g' := g') (t' := t') (d' := d') u hok hg hch
end

/-! ### the judgements -/
/-- an exception: its class, its own dict's address (where it has one), the abstract heap behind it -/
abbrev XK := Value → Option Addr → Hp → Prop
abbrev St := List (Option V)
abbrev VK := V → Hp → Prop
/-- an expression's reading; a test's; an argument list's -/
abbrev TE := St → Hp → VK → Prop
abbrev TT := St → Hp → (Bool → Hp → Prop) → Prop
abbrev TA := St → Hp → (List V → Hp → Prop) → Prop
/-- what is wanted behind a statement -/
structure Ends where
  nx : St → Hp → Prop
  rt : VK
  bk : St → Hp → Prop := fun _ _ => False
  ct : St → Hp → Prop := fun _ _ => False
abbrev TS := Ends → St → Hp → Prop

def EP (X : Cx) (pins : List (Addr × Obj)) (σ : St) (Q : VK) (u : Value) (s' : Shared) : Prop := ∃ v H', Inv X pins σ H' s' ∧ RelV v u ∧ Q v H'
def TP (X : Cx) (pins : List (Addr × Obj)) (σ : St) (Q : Bool → Hp → Prop) (b : Bool) (s' : Shared) : Prop := ∃ H', Inv X pins σ H' s' ∧ Q b H'
def AP (X : Cx) (pins : List (Addr × Obj)) (σ : St) (Q : List V → Hp → Prop) (us : List Value) (s' : Shared) : Prop := ∃ vs H', Inv X pins σ H' s' ∧ Vals vs us ∧ Q vs H'
def SP (X : Cx) (pins : List (Addr × Obj)) (D : Ends) (f : Flow) (s' : Shared) : Prop :=
  match f with
  | .next => ∃ σ' H', Inv X pins σ' H' s' ∧ D.nx σ' H'
  | .brk => ∃ σ' H', Inv X pins σ' H' s' ∧ D.bk σ' H'
  | .cont => ∃ σ' H', Inv X pins σ' H' s' ∧ D.ct σ' H'
  | .ret u => ∃ v σ' H', Inv X pins σ' H' s' ∧ RelV v u ∧ D.rt v H'

def PE (X : Cx) (e : Expr) (t : TE) : Prop :=
  ∀ (pins : List (Addr × Obj)) (s : Shared) (σ : St) (H : Hp) (Q : VK), Inv X pins σ H s → t σ H Q → wpAny (model X.prog X.w) X.A (eval e X.env) (EP X pins σ Q) X.xe s
def PT (X : Cx) (e : Expr) (t : TT) : Prop :=
  ∀ (pins : List (Addr × Obj)) (s : Shared) (σ : St) (H : Hp) (Q : Bool → Hp → Prop), Inv X pins σ H s → t σ H Q → wpAny (model X.prog X.w) X.A (isTrue e X.env (eval e X.env)) (TP X pins σ Q) X.xe s
/-- a test whatever its 'whole' is (and, or) -/
def PW (X : Cx) (e : Expr) (t : TT) : Prop :=
  ∀ (whole : Sem Value) (pins : List (Addr × Obj)) (s : Shared) (σ : St) (H : Hp) (Q : Bool → Hp → Prop), Inv X pins σ H s → t σ H Q → wpAny (model X.prog X.w) X.A (isTrue e X.env whole) (TP X pins σ Q) X.xe s
theorem PW.pt {X : Cx} {e : Expr} {t : TT} (h : PW X e t) : PT X e t := h _
/-- an argument list (no star), from the left -/
def PA (X : Cx) (es : List Expr) (t : TA) : Prop :=
  ∀ (pos : Pos) (pins : List (Addr × Obj)) (s : Shared) (σ : St) (H : Hp) (Q : List V → Hp → Prop), Inv X pins σ H s → t σ H Q → wpAny (model X.prog X.w) X.A (spliced (backTo pos (starEach es X.env))) (AP X pins σ Q) X.xe s
def PS (X : Cx) (st : Stmt) (t : TS) : Prop :=
  ∀ (pins : List (Addr × Obj)) (s : Shared) (σ : St) (H : Hp) (D : Ends), Inv X pins σ H s → t D σ H → wpAny (model X.prog X.w) X.A (exec st X.env) (SP X pins D) X.xe s
def PSs (X : Cx) (st : List Stmt) (t : TS) : Prop :=
  ∀ (pins : List (Addr × Obj)) (s : Shared) (σ : St) (H : Hp) (D : Ends), Inv X pins σ H s → t D σ H → wpAny (model X.prog X.w) X.A (execs st X.env) (SP X pins D) X.xe s
/-- weaken the end -/
theorem thn {α : Type} {t : Sem α} {Q Q' : α → Shared → Prop} {M : Model} {A : Around} {E : Value → Shared → Prop} {s : Shared} (h : wpAny M A t Q E s) (hQ : ∀ a s, Q a s → Q' a s) : wpAny M A t Q' E s := wpAny_mono h hQ fun _ _ x => x
end L2

namespace L2
open PySem PySem.Spec PyProof.Rows
section
variable {X : Cx}

/-- two expressions in a row -/
theorem bin {a b : Expr} {ta tb : TE} (ha : PE X a ta) (hb : PE X b tb) {pins : List (Addr × Obj)} {s : Shared} {σ : St} {H : Hp} {R : V → V → Hp → Prop} (I : Inv X pins σ H s) (h : ta σ H fun x H1 => tb σ H1 fun y H2 => R x y H2)
    {α : Type} {Q : α → Shared → Prop} {f : Value → Value → Sem α}
    (hf : ∀ v u s2 x y H2, Inv X pins σ H2 s2 → RelV x v → RelV y u → R x y H2 → wpAny (model X.prog X.w) X.A (f v u) Q X.xe s2) :
    wpAny (model X.prog X.w) X.A (eval a X.env) (fun v s₁ => wpAny (model X.prog X.w) X.A (eval b X.env) (fun u s₂ => wpAny (model X.prog X.w) X.A (f v u) Q X.xe s₂) X.xe s₁) X.xe s := by
  refine thn (ha pins s σ H _ I h) fun v s1 ⟨x, H1, I1, r1, q1⟩ => ?_
  refine thn (hb pins s1 σ H1 _ I1 q1) fun u s2 ⟨y, H2, I2, r2, q2⟩ => ?_
  exact hf v u s2 x y H2 I2 r1 r2 q2

/-! ### names and constants -/
def tVar (i : Nat) : TE := fun σ H Q => ∃ v, σ[i]? = some (some v) ∧ Q v H
def tC (v : V) : TE := fun _ H Q => Q v H
theorem pe_var {i : Nat} {x : Str} {pos : Pos} (hN : X.N[i]? = some x) (hv : Vis X.env.scope x) (hd : (x == ("__debug__" : Str)) = false := by decide) (hcd : (x == ("__classdict__" : Str)) = false := by decide) : PE X (.Name x pos) (tVar i) := by
  intro pins s σ H Q I h
  obtain ⟨v, e, h⟩ := h
  obtain ⟨m, hn, hl⟩ := I.loc
  obtain ⟨u, r, l⟩ := hl i x v hN e hv
  have fin : EP X pins σ Q u s := ⟨v, H, I, r, h⟩
  rcases l with ⟨hk, hm⟩ | ⟨hk, c, hc, hcell⟩
  · exact wpAny_Name (wpAny_loadName_local I.ok.kind hk hn hm fin) hd
  · rcases hk with hk | hk
    · exact wpAny_Name (wpAny_loadName_cell I.ok.kind hk hc hcell fin) hd
    · exact wpAny_Name (wpAny_loadName_free I.ok.kind hk hc hcell fin hcd) hd
theorem pe_int {i j pos} : PE X (.Constant (.int i) j pos) (tC (.int i)) := fun _ _ _ H _ I h => wpAny_Constant_int ⟨.int i, H, I.tok _, ⟨_, rfl⟩, h⟩
theorem pe_bl {b j pos} : PE X (.Constant (.bool b) j pos) (tC (.bl b)) := fun _ _ _ H _ I h => Constant_bool ⟨.bl b, H, I, rfl, h⟩
theorem pe_non {j pos} : PE X (.Constant .none j pos) (tC .non) := fun _ _ _ H _ I h => Constant_none ⟨.non, H, I, rfl, h⟩
theorem pe_str {x j pos} : PE X (.Constant (.str x) j pos) (tC (.str x)) := fun _ _ _ H _ I h => Calls.Constant_str ⟨.str x, H, I.tok _, ⟨_, rfl⟩, h⟩

/-- a global name of the def -/
def Gl (X : Cx) (x : Str) : Prop := X.env.kindOf x = some .globalImplicit
theorem ld_glob {E : Value → Shared → Prop} {pins : List (Addr × Obj)} {s : Shared} {σ : St} {H : Hp} {x : Str} {u : Value} {pos : Pos} {Q : Value → Shared → Prop} (I : Inv X pins σ H s) (hg : Gl X x) (hm : X.mg x = some u) (h : Q u s)
    (hd : (x == ("__debug__" : Str)) = false := by decide) : wpAny (model X.prog X.w) X.A (eval (.Name x pos) X.env) Q E s :=
  Calls.Name_function_global I.ok.kind hg (Calls.loadGlobal_global (by rw [I.ok.glob]; exact I.mod.glob.keeps I.bk) hm h) hd
theorem ld_blt {E : Value → Shared → Prop} {pins : List (Addr × Obj)} {s : Shared} {σ : St} {H : Hp} {x : Str} {u : Value} {pos : Pos} {Q : Value → Shared → Prop} (I : Inv X pins σ H s) (hg : Gl X x) (hm : X.mg x = none) (hv : bootBuiltins x = some u) (h : Q u s)
    (hn : x ≠ "__name__" := by decide) (hd : (x == ("__debug__" : Str)) = false := by decide) : wpAny (model X.prog X.w) X.A (eval (.Name x pos) X.env) Q E s := by
  obtain ⟨mb, h1, h2⟩ := I.mod.blt
  exact Calls.Name_function_global I.ok.kind hg (Calls.loadGlobal_builtin (by rw [I.ok.glob]; exact I.mod.glob.keeps I.bk) hm (by rw [I.ok.blt]; exact h1.keeps I.bk) ((h2 x hn).trans hv) h) hd
/-- a module's constant, a class, a function, as a value -/
theorem pe_glob {x : Str} {v : V} {u : Value} {pos : Pos} (hg : Gl X x) (hm : X.mg x = some u) (r : RelV v u) (hd : (x == ("__debug__" : Str)) = false := by decide) : PE X (.Name x pos) (tC v) :=
  fun _ _ _ H _ I h => ld_glob I hg hm ⟨v, H, I, r, h⟩ hd
theorem pe_bltn {x : Str} {v : V} {u : Value} {pos : Pos} (hg : Gl X x) (hm : X.mg x = none) (hv : bootBuiltins x = some u) (r : RelV v u) (hn : x ≠ "__name__" := by decide) (hd : (x == ("__debug__" : Str)) = false := by decide) : PE X (.Name x pos) (tC v) :=
  fun _ _ _ H _ I h => ld_blt I hg hm hv ⟨v, H, I, r, h⟩ hn hd

/-! ### arithmetic -/
variable {a b : Expr} {ta tb : TE} {pos : Pos}

/-! ### comparisons -/
def PC (X : Cx) (op : CmpOp) (a b : Expr) (t : TE) : Prop :=
  ∀ (pins : List (Addr × Obj)) (s : Shared) (σ : St) (H : Hp) (Q : VK), Inv X pins σ H s → t σ H Q →
    wpAny (model X.prog X.w) X.A (eval a X.env) (fun v s₁ => wpAny (model X.prog X.w) X.A (eval b X.env) (fun u s₂ => wpAny (model X.prog X.w) X.A (compareOp op v u) (EP X pins σ Q) X.xe s₂) X.xe s₁) X.xe s
/-- a comparison as a value, as a test -/
def tB (t : TE) : TT := fun σ H Q => t σ H fun x H1 => ∃ c, x = .bl c ∧ Q c H1
theorem pt_cmp {op : CmpOp} {t : TE} (h : PC X op a b t) (h1 : behindInMarks op b = false := by first | exact nobehind _ (by decide) (by decide) | rfl) : PT X (.Compare a [op] [b] pos) (tB t) := by
  intro pins s σ H Q I hw
  refine wpAny_isTrue_Compare1 (thn (h pins s σ H _ I hw) fun v s1 h1 => thn h1 fun u s2 h2 => thn h2 fun c s3 ⟨x, H1, I1, r1, q1⟩ => ?_) h1
  obtain ⟨d, rfl, q⟩ := q1
  cases r1
  exact wpAny_truthy_bool ⟨H1, I1, q⟩
/-- an expression whose value is a bool, as a test -/
theorem pt_val {e : Expr} {t : TE} (h : PE X e t) (he : ∀ whole, isTrue e X.env whole = (do let v ← whole; standAt e.pos; holding [v] (truthy v)) := by intro _; rfl) : PT X e (tB t) := by
  intro pins s σ H Q I hw
  refine isTrue_plain (thn (h pins s σ H _ I hw) fun v s1 ⟨x, H1, I1, r1, q1⟩ => ?_) (he _)
  obtain ⟨d, rfl, q⟩ := q1
  cases r1
  exact wpAny_truthy_bool ⟨H1, I1, q⟩

/-! ### and, or, not -/
variable {tA tB' : TT} {rest : List Expr}
def tOr (t u : TT) : TT := fun σ H Q => t σ H fun c H1 => if c = true then Q true H1 else u σ H1 Q
def tNot (t : TT) : TT := fun σ H Q => t σ H fun c H1 => Q (!c) H1
theorem pw_or1 (ha : PT X a tA) : PW X (.BoolOp .Or [a] pos) tA := by
  intro wh pins s σ H Q I h
  refine isTrue_or (thn (ha pins s σ H Q I h) fun c s1 e => ?_)
  cases c with
  | false => exact isTrue_or_nil e
  | true => exact e
theorem pw_or (ha : PT X a tA) (hb : PW X (.BoolOp .Or (b :: rest) pos) tB') : PW X (.BoolOp .Or (a :: b :: rest) pos) (tOr tA tB') := by
  intro wh pins s σ H Q I h
  refine isTrue_or (thn (ha pins s σ H _ I h) fun c s1 ⟨H1, I1, q1⟩ => ?_)
  cases c with
  | true => exact ⟨H1, I1, q1⟩
  | false => exact hb wh pins s1 σ H1 Q I1 q1
theorem pt_not (ha : PT X a tA) : PT X (.UnaryOp .Not a pos) (tNot tA) := by
  intro pins s σ H Q I h
  exact isTrue_not (ha pins s σ H (fun c H1 => Q (!c) H1) I h)
/-- .. as values (bools) -/
def tAndV (ta tb : TE) : TE := fun σ H Q => ta σ H fun x H1 => ∃ c, x = .bl c ∧ if c = true then tb σ H1 Q else Q (.bl false) H1
def tNotV (ta : TE) : TE := fun σ H Q => ta σ H fun x H1 => ∃ c, x = .bl c ∧ Q (.bl (!c)) H1
theorem pe_one {op} {t : TE} (h : PE X a t) : PE X (.BoolOp op [a] pos) t := fun pins s σ H Q I hw => BoolOp_one (h pins s σ H Q I hw)
theorem pe_and (ha : PE X a ta) (hb : PE X (.BoolOp .And (b :: rest) pos) tb) : PE X (.BoolOp .And (a :: b :: rest) pos) (tAndV ta tb) := by
  intro pins s σ H Q I h
  refine BoolOp_and (thn (ha pins s σ H _ I h) fun v s1 ⟨x, H1, I1, r1, q1⟩ => ?_)
  obtain ⟨c, rfl, q1⟩ := q1
  cases r1
  refine wpAny_truthy_bool ?_
  cases c with
  | true => exact hb pins s1 σ H1 Q I1 q1
  | false => exact ⟨.bl false, H1, I1, rfl, q1⟩
theorem pe_not (ha : PE X a ta) : PE X (.UnaryOp .Not a pos) (tNotV ta) := by
  intro pins s σ H Q I h
  refine UnaryOp_ (thn (ha pins s σ H _ I h) fun v s1 ⟨x, H1, I1, r1, q1⟩ => ?_)
  obtain ⟨c, rfl, q1⟩ := q1
  cases r1
  exact not_of (wpAny_truthy_bool ⟨.bl (!c), H1, I1, rfl, q1⟩)
/-- a if t else b -/
def tIf (t : TT) (ta tb : TE) : TE := fun σ H Q => t σ H fun c H1 => if c = true then ta σ H1 Q else tb σ H1 Q
theorem pe_ifExp {c : Expr} (hc : PT X c tA) (ha : PE X a ta) (hb : PE X b tb) : PE X (.IfExp c a b pos) (tIf tA ta tb) := by
  intro pins s σ H Q I h
  refine wpAny_IfExp (thn (hc pins s σ H _ I h) fun d s1 ⟨H1, I1, q1⟩ => ?_)
  cases d with
  | true => exact ha pins s1 σ H1 Q I1 q1
  | false => exact hb pins s1 σ H1 Q I1 q1
end
end L2

namespace L2
open PySem PySem.Spec PyProof.Rows

/-! ### a list, a tuple that is read: tracked, frozen, or an object of the module -/
def SqL (K : PySem.W.Frag) (H : Hp) (a : Addr) (xs : List V) : Prop :=
  Rd H a (.lst xs) ∨
    ∃ (o : Obj) (its : Array Value) (n : Nat), K.lookup a = some o ∧ o.cls = .type "list" ∧ o.dict = none ∧ o.data = .seq its n ∧ its.size ≤ sizeLine ∧ Vals xs its.toList
def SqT (K : PySem.W.Frag) (H : Hp) (a : Addr) (xs : List V) : Prop :=
  Rd H a (.tup xs) ∨
    ∃ (o : Obj) (its : Array Value) (n : Nat), K.lookup a = some o ∧ o.cls = .type "tuple" ∧ o.data = .seq its n ∧ its.size ≤ sizeLine ∧ Vals xs its.toList
def absV : Value → Option V
  | .none => some .non
  | .bool b => some (.bl b)
  | .int i _ => some (.int i)
  | .str x _ => some (.str x)
  | .bytes b _ => some (.byt b)
  | .float b _ => some (.flt b)
  | .ref a => some (.ref a)
  | .type n => some (.ty n)
  | _ => none
theorem RelV.abs {x : V} {u : Value} (r : RelV x u) : absV u = some x := by
  cases x with
  | non => cases r; rfl
  | bl _ => cases r; rfl
  | int _ => obtain ⟨t, rfl⟩ := r; rfl
  | str _ => obtain ⟨t, rfl⟩ := r; rfl
  | byt _ => obtain ⟨t, rfl⟩ := r; rfl
  | flt _ => obtain ⟨t, rfl⟩ := r; rfl
  | ref _ => cases r; rfl
  | ty _ => cases r; rfl
theorem RelV.inj {x y : V} {u : Value} (r : RelV x u) (q : RelV y u) : x = y := Option.some.inj (r.abs.symm.trans q.abs)
theorem Vals.inj : ∀ {xs ys : List V} {us : List Value}, Vals xs us → Vals ys us → xs = ys
  | _, _, _, .nil, .nil => rfl
  | _, _, _, .cons r t, .cons r' t' => by rw [r.inj r', Vals.inj t t']
section
variable {X : Cx} {pins : List (Addr × Obj)} {σ : St} {H : Hp} {s : Shared} {a : Addr} {xs ys : List V}
theorem SqL.of {K : PySem.W.Frag} (h : H a = some (.lst xs)) : SqL K H a xs := .inl (.inl h)
theorem SqT.of {K : PySem.W.Frag} (h : H a = some (.tup xs)) : SqT K H a xs := .inl (.inl h)
theorem Inv.list (I : Inv X pins σ H s) (h : SqL X.K H a xs) : ∃ its : List Value, Vals xs its ∧ PlainL s.heap a its.toArray ∧ xs.length ≤ sizeLine := by
  rcases h with h | ⟨o, its, n, hk, hc, hd, hs, hz, r⟩
  · obtain ⟨z, its, n, r, e⟩ := h.ok I.hok
    exact ⟨its, r, ⟨_, n, e, rfl, rfl, rfl⟩, z⟩
  · refine ⟨its.toList, r, ⟨o, n, I.kIn a o hk, hc, hd, by simpa using hs⟩, ?_⟩
    have e := r.length
    simp only [Array.length_toList] at e
    omega
theorem Inv.tuple (I : Inv X pins σ H s) (h : SqT X.K H a xs) : ∃ its : List Value, Vals xs its ∧ IsTup s.heap a its.toArray ∧ xs.length ≤ sizeLine := by
  rcases h with h | ⟨o, its, n, hk, hc, hs, hz, r⟩
  · obtain ⟨z, its, r, p, _⟩ := h.ok I.hok
    exact ⟨its, r, p, z⟩
  · refine ⟨its.toList, r, ⟨o, I.kIn a o hk, hc, n, by simpa using hs⟩, ?_⟩
    have e := r.length
    simp only [Array.length_toList] at e
    omega
theorem Inv.list_inj (I : Inv X pins σ H s) (h : SqL X.K H a xs) (h' : SqL X.K H a ys) : xs = ys := by
  obtain ⟨its, r, ⟨o, n, e, _, _, d⟩, _⟩ := I.list h
  obtain ⟨its', r', ⟨o', n', e', _, _, d'⟩, _⟩ := I.list h'
  rw [e] at e'; cases e'
  rw [d] at d'
  injection d' with d1 _
  have : its = its' := by simpa using congrArg Array.toList d1
  subst this
  exact r.inj r'
theorem Inv.tuple_inj (I : Inv X pins σ H s) (h : SqT X.K H a xs) (h' : SqT X.K H a ys) : xs = ys := by
  obtain ⟨its, r, ⟨o, e, _, n, d⟩, _⟩ := I.tuple h
  obtain ⟨its', r', ⟨o', e', _, n', d'⟩, _⟩ := I.tuple h'
  rw [e] at e'; cases e'
  rw [d] at d'
  injection d' with d1 _
  have : its = its' := by simpa using congrArg Array.toList d1
  subst this
  exact r.inj r'
end

/-! ### another wish about exceptions -/
abbrev Cx.wish (X : Cx) (E : Value → Shared → Prop) : Cx := { X with xe := E }
/-- no exception leaves -/
abbrev Cx.nox (X : Cx) : Cx := X.wish fun _ _ => False
theorem Cx.Ok.wish {X : Cx} (ok : X.Ok) (E : Value → Shared → Prop) : (X.wish E).Ok :=
  ⟨ok.mod, ok.kind, ok.glob, ok.blt, ok.above, ok.inj, ok.has, ok.cab, ok.hd, ok.frames, ok.stk, ok.exf, ok.bs, ok.bsz, ok.noex, ok.exfs, ok.funs, ok.frf⟩
theorem Cx.Ok.unwish {X : Cx} {E : Value → Shared → Prop} (ok : (X.wish E).Ok) : X.Ok :=
  ⟨ok.mod, ok.kind, ok.glob, ok.blt, ok.above, ok.inj, ok.has, ok.cab, ok.hd, ok.frames, ok.stk, ok.exf, ok.bs, ok.bsz, ok.noex, ok.exfs, ok.funs, ok.frf⟩
section
variable {X : Cx} {pins : List (Addr × Obj)} {σ : St} {H : Hp} {s : Shared} {E : Value → Shared → Prop}
theorem Inv.wish (I : Inv X pins σ H s) (E : Value → Shared → Prop) : Inv (X.wish E) pins σ H s := ⟨I.ok.wish E, I.os, I.bare, I.base, I.loc, I.cell, I.free, I.freeC, I.pin, I.hok, I.len⟩
theorem Inv.unwish (I : Inv (X.wish E) pins σ H s) : Inv X pins σ H s := ⟨I.ok.unwish, I.os, I.bare, I.base, I.loc, I.cell, I.free, I.freeC, I.pin, I.hok, I.len⟩
theorem SP.unwish {D : Ends} {f : Flow} {s' : Shared} (h : SP (X.wish E) pins D f s') : SP X pins D f s' := by
  cases f with
  | next => obtain ⟨σ', H', I, q⟩ := h; exact ⟨σ', H', I.unwish, q⟩
  | brk => obtain ⟨σ', H', I, q⟩ := h; exact ⟨σ', H', I.unwish, q⟩
  | cont => obtain ⟨σ', H', I, q⟩ := h; exact ⟨σ', H', I.unwish, q⟩
  | ret u => obtain ⟨v, σ', H', I, r, q⟩ := h; exact ⟨v, σ', H', I.unwish, r, q⟩
theorem PSs.nox {st : List Stmt} {t : TS} (h : PSs X.nox st t) : PSs X st t := fun pins s σ H D I hw =>
  wpAny_mono (h pins s σ H D (I.wish _) hw) (fun _ _ q => q.unwish) fun _ _ z => False.elim z
end

/-! ### blocks and small statements -/
section
variable {X : Cx} {st : Stmt} {rest : List Stmt} {t u : TS} {e : Expr} {te : TE} {pos : Pos}
def tNext : TS := fun D σ H => D.nx σ H
def tSeq (t u : TS) : TS := fun D σ H => t { D with nx := u D } σ H
theorem pss_nil : PSs X [] tNext := fun _ _ σ H _ I h => wpAny_execs_nil ⟨σ, H, I, h⟩
theorem pss_cons (h1 : PS X st t) (h2 : PSs X rest u) : PSs X (st :: rest) (tSeq t u) := by
  intro pins s σ H D I h
  refine wpAny_execs_cons (thn (h1 pins s σ H { D with nx := u D } I h) fun f s1 q => ?_)
  cases f with
  | next =>
    obtain ⟨σ', H', I', q⟩ := q
    exact h2 pins s1 σ' H' D I' q
  | ret v => exact q
  | brk => exact q
  | cont => exact q
theorem pss_one (h1 : PS X st t) : PSs X [st] t := by
  intro pins s σ H D I h
  refine wpAny_execs_cons (thn (h1 pins s σ H D I h) fun f s1 q => ?_)
  cases f with
  | next => exact wpAny_execs_nil q
  | ret v => exact q
  | brk => exact q
  | cont => exact q
def tCont : TS := fun D σ H => D.ct σ H
theorem ps_continue : PS X (.Continue pos) tCont := fun _ _ σ H _ I h => wpAny_Continue ⟨σ, H, I, h⟩
/-- in a def's body nothing is shown -/
theorem Inv.quiet {pins : List (Addr × Obj)} {σ : St} {H : Hp} {s : Shared} (I : Inv X pins σ H s) : interactive X.env = false := by simp [interactive, I.ok.kind]
/-- an expression whose value is dropped -/
def tDrop (te : TE) : TS := fun D σ H => te σ H fun _ H1 => D.nx σ H1
theorem ps_expr (he : PE X e te) (hs : swapsWith e none pos.line X.env = pure false := by rfl) : PS X (.Expr e pos) (tDrop te) := by
  intro pins s σ H D I h
  exact wpAny_Expr_any (thn (he pins s σ H _ I h) fun v s1 ⟨x, H1, I1, r1, q1⟩ => ⟨σ, H1, I1, q1⟩) I.quiet hs
def tRet (te : TE) : TS := fun D σ H => te σ H D.rt
theorem ps_ret (he : PE X e te) : PS X (.Return (some e) pos) (tRet te) := by
  intro pins s σ H D I h
  exact wpAny_Return_some (thn (he pins s σ H _ I h) fun v s1 ⟨x, H1, I1, r1, q1⟩ => ⟨x, σ, H1, I1, r1, q1⟩)
def tIfS (c : TT) (t u : TS) : TS := fun D σ H => c σ H fun b H1 => if b = true then t D σ H1 else u D σ H1
theorem ps_if {c : Expr} {a b : List Stmt} {tc : TT} (hc : PT X c tc) (ha : PSs X a t) (hb : PSs X b u) : PS X (.If c a b pos) (tIfS tc t u) := by
  intro pins s σ H D I h
  refine wpAny_If (thn (hc pins s σ H _ I h) fun d s1 ⟨H1, I1, q1⟩ => ?_)
  cases d with
  | true => exact ha pins s1 σ H1 D I1 q1
  | false => exact hb pins s1 σ H1 D I1 q1
end

/-! ### targets -/
abbrev TG := V → St → Hp → (St → Hp → Prop) → Prop
abbrev TGs := List V → St → Hp → (St → Hp → Prop) → Prop
def PG (X : Cx) (target : Expr) (t : TG) : Prop :=
  ∀ (pins : List (Addr × Obj)) (s : Shared) (σ : St) (H : Hp) (v : V) (u : Value) (Q : St → Hp → Prop), Inv X pins σ H s → RelV v u → t v σ H Q →
    wpAny (model X.prog X.w) X.A (assign target X.env u) (fun _ s' => ∃ σ' H', Inv X pins σ' H' s' ∧ Q σ' H') X.xe s
/-- several targets, one after another -/
def PGs (X : Cx) (ts : List Expr) (t : TGs) : Prop :=
  ∀ (pins : List (Addr × Obj)) (s : Shared) (σ : St) (H : Hp) (vs : List V) (us : List Value) (Q : St → Hp → Prop), Inv X pins σ H s → Vals vs us → t vs σ H Q →
    wpAny (model X.prog X.w) X.A (assignInOrder ((assignEach ts X.env).map (·.2)) us) (fun _ s' => ∃ σ' H', Inv X pins σ' H' s' ∧ Q σ' H') X.xe s
/-- o[i] = v, by values -/
abbrev TSet := V → V → V → Hp → (Hp → Prop) → Prop
def PSet (X : Cx) (t : TSet) : Prop :=
  ∀ (pins : List (Addr × Obj)) (s : Shared) (σ : St) (H : Hp) (o i v : V) (ov iv u : Value) (Q : Hp → Prop), Inv X pins σ H s → RelV o ov → RelV i iv → RelV v u → t o i v H Q →
    wpAny (model X.prog X.w) X.A (setItem ov iv u) (fun _ s' => ∃ H', Inv X pins σ H' s' ∧ Q H') X.xe s
section
variable {X : Cx} {pos : Pos}
def gName (i : Nat) : TG := fun v σ H Q => Q (σ.set i (some v)) H
theorem pg_name {i : Nat} {x : Str} (hN : X.N.Nodup) (hi : X.N[i]? = some x) (hx : Loc X.env.scope x) (hf : X.fn x = true ∨ X.env.scope.names.lookup x = some .local := by first | exact .inl rfl | exact .inr rfl | assumption) : PG X (.Name x pos) (gName i) := by
  intro pins s σ H v u Q I r h
  exact wpAny_assign_Name (store_ok I hN hi hx r (fun s' I' => ⟨_, H, I', h⟩) hf)
def gNil : TGs := fun vs σ H Q => vs = [] ∧ Q σ H
def gCons (t : TG) (u : TGs) : TGs := fun vs σ H Q => ∃ v r, vs = v :: r ∧ t v σ H fun σ' H' => u r σ' H' Q
theorem pgs_nil : PGs X [] gNil := by
  intro pins s σ H vs us Q I r h
  obtain ⟨e, h⟩ := h
  subst e
  cases r
  exact assignInOrder_nil ⟨σ, H, I, h⟩
theorem pgs_cons {e : Expr} {es : List Expr} {t : TG} {u : TGs} (h1 : PG X e t) (h2 : PGs X es u)
    (hs : (assignEach (e :: es) X.env).map (·.2) = assign e X.env :: (assignEach es X.env).map (·.2) := by rfl) : PGs X (e :: es) (gCons t u) := by
  intro pins s σ H vs us Q I r h
  obtain ⟨v, vr, e1, h⟩ := h
  subst e1
  cases r with
  | cons r rr =>
    rw [hs]
    refine assignInOrder_cons (thn (h1 pins s σ H _ _ _ I r h) fun _ s1 ⟨σ1, H1, I1, q1⟩ => ?_)
    exact h2 pins s1 σ1 H1 _ _ Q I1 rr q1
/-- (a, b, ..) = a tuple of that length -/
def gTup (K : PySem.W.Frag) (n : Nat) (t : TGs) : TG := fun v σ H Q => ∃ a xs, v = .ref a ∧ SqT K H a xs ∧ xs.length = n ∧ t xs σ H Q
theorem pg_tup {es : List Expr} {k : Nat} {t : TGs} {n : Nat} (hc : X.calm = true) (h : PGs X es t)
    (hn : (assignEach es X.env).length = n := by rfl) (hst : (assignEach es X.env).findIdx? (·.1) = none := by rfl) : PG X (.Tuple es k pos) (gTup X.K n t) := by
  intro pins s σ H v u Q I r hw
  obtain ⟨a, xs, e1, hq, hl, hw⟩ := hw
  subst e1
  cases r
  obtain ⟨its, rv, ht, hz⟩ := I.tuple hq
  refine assign_Tuple_tuple (I.ok.hd hc) ht (by simp [hn, ← hl, rv.length]) hst fun h' hx => ?_
  have I1 : Inv X pins σ H { s with heap := h' } := I.kept (t' := s.toks) fun b o e => hx b o (Nat.ne_of_lt (Heap.lt_size e)) e
  exact h pins _ σ H xs _ Q I1 (by simpa using rv) hw
/-- o[i] = .. -/
def gSub (to ti : TE) (t : TSet) : TG := fun v σ H Q => to σ H fun o H1 => ti σ H1 fun i H2 => t o i v H2 fun H3 => Q σ H3
theorem pg_sub {o i : Expr} {to ti : TE} {t : TSet} (ho : PE X o to) (hi : PE X i ti) (hs : PSet X t)
    (ha : ∀ v, assign (.Subscript o i pos) X.env v = (do
      let ov ← holding [v] (eval o X.env)
      let iv ← holding [v, ov] (eval i X.env)
      standAt pos
      holding [v, ov, iv] (setItem ov iv v)
      release [v, ov, iv] []) := by intro _; rfl) : PG X (.Subscript o i pos) (gSub to ti t) := by
  intro pins s σ H v u Q I r h
  rw [ha]
  refine wpAny_bind (wpAny_holding (thn (ho pins s σ H _ I h) fun ov s1 ⟨x, H1, I1, r1, q1⟩ => ?_))
  refine wpAny_bind (wpAny_holding (thn (hi pins s1 σ H1 _ I1 q1) fun iv s2 ⟨y, H2, I2, r2, q2⟩ => ?_))
  refine wpAny_bind (wpAny_standAt (wpAny_bind (wpAny_holding (thn (hs pins s2 σ H2 x y v ov iv u _ I2 r1 r2 r q2) fun _ s3 ⟨H3, I3, q3⟩ => ?_))))
  exact wpAny_release ⟨σ, H3, I3, q3⟩
/-- target = value -/
def tAsg (te : TE) (g : TG) : TS := fun D σ H => te σ H fun x H1 => g x σ H1 D.nx
theorem ps_asg {tg e : Expr} {te : TE} {g : TG} (he : PE X e te) (hg : PG X tg g) (hs : swapsWithSole [tg] e pos.line X.env = pure false := by rfl) (hw : swappedStores [tg] e X.env = pure none := by rfl)
    (h1 : (assignEach [tg] X.env).map (·.2) = [assign tg X.env] := by rfl) : PS X (.Assign [tg] e pos) (tAsg te g) := by
  intro pins s σ H D I h
  refine wpAny_Assign_stores (thn (he pins s σ H _ I h) fun v s1 ⟨x, H1, I1, r1, q1⟩ => ?_) hs hw
  rw [h1]
  exact thn (hg pins s1 σ H1 x v _ I1 r1 q1) fun _ s2 q => q
/-- name = value -/
theorem ps_set {i : Nat} {x : Str} {e : Expr} {te : TE} {pos' : Pos} (hN : X.N.Nodup) (hi : X.N[i]? = some x) (hx : Loc X.env.scope x) (he : PE X e te) (hs : swapsWith e (some (.Name x pos')) pos.line X.env = pure false := by rfl) (hf : X.fn x = true ∨ X.env.scope.names.lookup x = some .local := by first | exact .inl rfl | exact .inr rfl | assumption) :
    PS X (.Assign [.Name x pos'] e pos) (tAsg te (gName i)) := by
  intro pins s σ H D I h
  refine wpAny_Assign_Name (thn (he pins s σ H _ I h) fun v s1 ⟨y, H1, I1, r1, q1⟩ => ?_) hs
  exact store_ok I1 hN hi hx r1 (fun s2 I2 => ⟨_, H1, I2, q1⟩) hf
/-- a, b = x, y with plain local names: stored from the right; the pair itself is not tracked (the opening rows as in PyProof/Rows/TupAssign.lean:23) -/
def tPar (i j : Nat) (ta : TA) : TS := fun D σ H => ta σ H fun vs H1 => ∃ v w, vs = [v, w] ∧ D.nx ((σ.set i (some v)).set j (some w)) H1
theorem ps_par {i j : Nat} {x y : Str} {a b : Expr} {ta : TA} {px py pt : Pos} {kt k2 pt2} (hc : X.calm = true) (hN : X.N.Nodup) (hi : X.N[i]? = some x) (hj : X.N[j]? = some y) (hij : i ≠ j)
    (hx : X.env.scope.names.lookup x = some .local) (hy : X.env.scope.names.lookup y = some .local) (ha : PA X [a, b] ta)
    (hw : swappedStores [.Tuple [.Name x px, .Name y py] kt pt] (.Tuple [a, b] k2 pt2) X.env = pure (some [x, y]))
    (hs : swapsWithSole [.Tuple [.Name x px, .Name y py] kt pt] (.Tuple [a, b] k2 pt2) pos.line X.env = pure false := by rfl) :
    PS X (.Assign [.Tuple [.Name x px, .Name y py] kt pt] (.Tuple [a, b] k2 pt2) pos) (tPar i j ta) := by
  intro pins s σ H D I h
  rw [exec_Assign_arm]
  refine wpAny_bind (wpAny_standAt ?_)
  rw [hs]
  refine wpAny_bind (wpAny_pure ?_)
  rw [if_neg (by decide)]
  refine wpAny_bind (Tuple_ (thn (ha _ pins s σ H _ I h) fun us s1 ⟨vs, H1, I1, r1, q1⟩ => ?_))
  obtain ⟨v, w, e1, q1⟩ := q1
  subst e1
  obtain ⟨u1, u2, rfl, rv, rw'⟩ : ∃ u1 u2, us = [u1, u2] ∧ RelV v u1 ∧ RelV w u2 := by
    cases r1 with
    | cons p q =>
      cases q with
      | cons p' q' =>
        cases q'
        exact ⟨_, _, rfl, p, p'⟩
  refine wpAny_newObj_type ?_ (by show 2 ≤ sizeLine; decide)
  have I2 : Inv X pins σ H1 { s1 with heap := s1.heap.push { cls := .type "tuple", data := .seq [u1, u2].toArray } } := I1.kept (t' := s1.toks) fun b o e => Heap.get?_push_of_some _ e
  rw [hw]
  refine wpAny_bind (wpAny_pure ?_)
  show wpAny (model X.prog X.w) X.A (do rule "assign.swapped-stores"; let items ← unpackItems (.ref s1.heap.objs.size) 2 none; assignInOrder [fun v => bindName X.env y v, fun v => bindName X.env x v] items.reverse; pure Flow.next) _ _ _
  refine wpAny_bind (wpAny_rule (wpAny_bind (unpackItems_tuple (items := #[u1, u2]) (I.ok.hd hc) (IsTup.new s1.heap _) fun h' hx' => ?_)))
  have I3 := I2.kept (h' := h') (t' := s1.toks) fun b o e => hx' b o (Nat.ne_of_lt (Heap.lt_size e)) e
  show wpAny _ _ (assignInOrder [fun v => bindName X.env y v, fun v => bindName X.env x v] [u2, u1] >>= fun _ => pure Flow.next) _ _ _
  refine wpAny_bind (assignInOrder_cons (wpAny_bindName (store_ok I3 hN hj (.inl hy) rw' (fun s2 I4 => ?_) (.inr hy))))
  refine assignInOrder_cons (wpAny_bindName (store_ok I4 hN hi (.inl hx) rv (fun s3 I5 => assignInOrder_nil (wpAny_pure ?_)) (.inr hx)))
  rw [List.set_comm _ _ (Ne.symm hij)] at I5
  exact ⟨_, H1, I5, q1⟩
end

/-! ### while -/
section
variable {X : Cx} {pos : Pos}
end

/-! ### what a loop or a comprehension walks -/
/-- at turn i: it yields x (the heap may grow), or it stops -/
structure It where
  go : Nat → Hp → Prop
  yld : Nat → Hp → V → Hp → Prop
  stop : Nat → Hp → Prop
/-- the iterator's own objects may turn: they are not the frame's, not pinned, younger than the entry (or a comprehension's own) -/
def FpOk (X : Cx) (pins : List (Addr × Obj)) (H : Hp) (b : Addr) : Prop :=
  H b = none ∧ b ≠ X.env.locals ∧ b ∉ X.fs ∧ (b ∈ X.ex ∨ X.s₀.heap.objs.size ≤ b) ∧ (∀ x c, X.env.cells.lookup x = some c → c ≠ b) ∧ ∀ p ∈ X.pn ++ pins, p.1 ≠ b
theorem Inv.fpOk {X : Cx} {pins : List (Addr × Obj)} {σ : St} {H H' : Hp} {s : Shared} {b : Addr} (I : Inv X pins σ H s) (hb : s.heap.objs.size ≤ b) (hn : H' b = none) : FpOk X pins H' b := by
  refine ⟨hn, Nat.ne_of_gt (Nat.lt_of_lt_of_le I.lt hb), I.nofs hb, .inr (Nat.le_trans I.sz hb), fun x c e z => ?_, fun p hp z => ?_⟩
  · obtain ⟨v, q⟩ := I.cell x c e
    exact absurd (Nat.lt_of_lt_of_le q.lt (by rw [z]; exact hb)) (Nat.lt_irrefl _)
  · exact absurd (Nat.lt_of_lt_of_le (Heap.lt_size (I.pin p hp).1) (by rw [z]; exact hb)) (Nat.lt_irrefl _)
structure Turn (P : Program) (w : World) (K : PySem.W.Frag) (tg : Expr) (J : It) (fp : List Addr) (it : Addr) (tn : Nat → Heap → Prop) : Prop where
  mem : it ∈ fp
  obj : ∀ i h, tn i h → ∀ b ∈ fp, ∃ o, h.get? b = some o ∧ ∀ v, o.data ≠ .cell v
  keep : ∀ i h h', tn i h → (∀ b ∈ fp, ∀ o, h.get? b = some o → h'.get? b = some o) → tn i h'
  item : ∀ (X : Cx), X.prog = P → X.w = w → X.K = K → X.calm = true → ∀ (i : Nat) (pins : List (Addr × Obj)) (s : Shared) (σ : St) (H : Hp) (E : Value → Shared → Prop), Inv X pins σ H s → (∀ b ∈ fp, FpOk X pins H b) → tn i s.heap → J.go i H →
    wpAny (model P w) X.A (pyNext (.ref it)) (fun r s1 => ∃ u, r = some u ∧
      wpAny (model P w) X.A (letOwnedTupleGo tg (.ref it) u) (fun _ s2 => ∃ x H', Inv X pins σ H' s2 ∧ RelV x u ∧ J.yld i H x H' ∧ tn (i + 1) s2.heap ∧ ∀ b ∈ fp, H' b = none) E s1) E s
  done : ∀ (X : Cx), X.prog = P → X.w = w → X.K = K → X.calm = true → ∀ (i : Nat) (pins : List (Addr × Obj)) (s : Shared) (σ : St) (H : Hp) (E : Value → Shared → Prop), Inv X pins σ H s → (∀ b ∈ fp, FpOk X pins H b) → tn i s.heap → J.stop i H →
    wpAny (model P w) X.A (pyNext (.ref it)) (fun r s1 => r = none ∧ Inv X pins σ H s1) E s
  self : ∀ (A : Around) (i : Nat) (s : Shared) (Q : Value → Shared → Prop) (E : Value → Shared → Prop), tn i s.heap → Q (.ref it) s → wpAny (model P w) A (pyIter (.ref it)) Q E s
abbrev TI := St → Hp → (It → Hp → Prop) → Prop
/-- an iterator has come -/
def PIE (X : Cx) (pins : List (Addr × Obj)) (σ : St) (tg : Expr) (R : It → Hp → Prop) (itv : Value) (s2 : Shared) : Prop :=
  ∃ (it : Addr) (fp : List Addr) (tn : Nat → Heap → Prop) (J : It) (H' : Hp), itv = .ref it ∧ Inv X pins σ H' s2 ∧ Turn X.prog X.w X.K tg J fp it tn ∧ tn 0 s2.heap ∧ (∀ b ∈ fp, FpOk X pins H' b) ∧ R J H'
def PI (X : Cx) (tg iter : Expr) (wi : TI) : Prop :=
  ∀ (pins : List (Addr × Obj)) (s : Shared) (σ : St) (H : Hp) (R : It → Hp → Prop), Inv X pins σ H s → wi σ H R →
    wpAny (model X.prog X.w) X.A (eval iter X.env) (fun v s1 => wpAny (model X.prog X.w) X.A (pyIter v) (PIE X pins σ tg R) X.xe s1) X.xe s

/-- the step ahead of the store is nothing for an iterator that keeps no tuple -/
theorem go_of {M : Model} {A : Around} {E : Value → Shared → Prop} {s : Shared} {tg : Expr} {it : Addr} {u : Value} {o : Obj} {n : String} {vs : Array Value} {Q : Unit → Shared → Prop} (ho : s.heap.get? it = some o) (hc : o.cls = .type n) (hd : o.data = .fields vs)
    (hn : ["enumerate", "zip", "dict_itemiterator", "dict_reverseitemiterator", "odict_iterator", "itertools.zip_longest", "itertools.pairwise"].contains n = false) (hQ : Q () s) : wpAny M A (letOwnedTupleGo tg (.ref it) u) Q E s := by
  unfold letOwnedTupleGo
  cases tg <;> first
    | exact wpAny_pure hQ
    | (cases u <;> first
        | exact wpAny_pure hQ
        | (refine wpAny_bind (wpAny_load ho ?_)
           rw [hc, hd]
           show wpAny M A (if (["enumerate", "zip", "dict_itemiterator", "dict_reverseitemiterator", "odict_iterator", "itertools.zip_longest", "itertools.pairwise"].contains n && vs[0]? == some (rawInt _)) = true then _ else _) Q E s
           rw [if_neg (by intro h; rw [hn, Bool.false_and] at h; cases h)]
           exact wpAny_pure hQ))

/-- the list at a, as it stands at each turn (a loop may append to it) -/
def Itl (K : PySem.W.Frag) (a : Addr) : It :=
  ⟨fun i H => ∃ xs x, SqL K H a xs ∧ xs[i]? = some x, fun i H x H' => H' = H ∧ ∀ xs, SqL K H a xs → xs[i]? = some x, fun i H => ∃ xs, SqL K H a xs ∧ xs.length ≤ i⟩
def Itt (K : PySem.W.Frag) (a : Addr) : It :=
  ⟨fun i H => ∃ xs x, SqT K H a xs ∧ xs[i]? = some x, fun i H x H' => H' = H ∧ ∀ xs, SqT K H a xs → xs[i]? = some x, fun i H => ∃ xs, SqT K H a xs ∧ xs.length ≤ i⟩
/-- lo, lo + 1, .. (n of them) -/
def Itr (lo : Int) (n : Nat) : It := ⟨fun i _ => i < n, fun i H x H' => H' = H ∧ x = .int (lo + i), fun i _ => n ≤ i⟩
theorem turn_list {P : Program} {w : World} {K : PySem.W.Frag} {tg : Expr} (a it : Addr) : Turn P w K tg (Itl K a) [it] it (fun i h => h.IsListIter it a i) where
  mem := by simp
  obj := fun i h st b hb => by
    have e : b = it := by simpa using hb
    subst e
    obtain ⟨o, e, c, d⟩ := st
    exact ⟨o, e, fun v z => by rw [d] at z; cases z⟩
  keep := fun i h h' st k => st.at fun o e => k it (by simp) o e
  item := by
    intro X hP hw hK hc i pins s σ H E I hf st hg
    subst hP hw hK
    obtain ⟨xs, x, hq, hx⟩ := hg
    obtain ⟨its, rv, p, hz⟩ := I.list hq
    obtain ⟨u, hu, ru⟩ := rv.get hx
    obtain ⟨f0, f1, f2, f3, f4, f5⟩ := hf it (by simp)
    refine wpAny_pyNext_list_item st p.isList (x := u) (by simpa using hu) fun h' st' sb => ?_
    have I1 : Inv X pins σ H { s with heap := h' } := I.turned (t' := s.toks) (fun b o hb e => (sb.2 b hb).trans e) f0 f1 f3 f4 f5
    obtain ⟨o, e, c, d⟩ := id st'
    exact ⟨u, rfl, go_of (s := { s with heap := h' }) e c d (by decide) ⟨x, H, I1, ru, ⟨rfl, fun ys hy => by rw [I.list_inj hy hq]; exact hx⟩, st', fun b hb => (hf b hb).1⟩⟩
  done := by
    intro X hP hw hK hc i pins s σ H E I hf st hg
    subst hP hw hK
    obtain ⟨xs, hq, hx⟩ := hg
    obtain ⟨its, rv, p, hz⟩ := I.list hq
    obtain ⟨f0, f1, f2, f3, f4, f5⟩ := hf it (by simp)
    have hl := rv.length
    exact wpAny_pyNext_list_end (I.ok.hd hc) st p.isList (by simp; omega) fun h' eb => ⟨rfl, I.turned (t' := s.toks) (fun b o hb e => eb b o hb e) f0 f1 f3 f4 f5⟩
  self := fun _ _ _ _ _ st h => wpAny_pyIter_listiter st h
theorem turn_tuple {P : Program} {w : World} {K : PySem.W.Frag} {tg : Expr} (a it : Addr) : Turn P w K tg (Itt K a) [it] it (fun i h => h.IsTupleIter it a i) where
  mem := by simp
  obj := fun i h st b hb => by
    have e : b = it := by simpa using hb
    subst e
    obtain ⟨o, e, c, d⟩ := st
    exact ⟨o, e, fun v z => by rw [d] at z; cases z⟩
  keep := fun i h h' st k => st.at fun o e => k it (by simp) o e
  item := by
    intro X hP hw hK hc i pins s σ H E I hf st hg
    subst hP hw hK
    obtain ⟨xs, x, hq, hx⟩ := hg
    obtain ⟨its, rv, p, hz⟩ := I.tuple hq
    obtain ⟨u, hu, ru⟩ := rv.get hx
    obtain ⟨f0, f1, f2, f3, f4, f5⟩ := hf it (by simp)
    refine wpAny_pyNext_tuple_item st (show s.heap.IsTuple a its.toArray from p) (x := u) (by simpa using hu) fun h' st' sb => ?_
    have I1 : Inv X pins σ H { s with heap := h' } := I.turned (t' := s.toks) (fun b o hb e => (sb.2 b hb).trans e) f0 f1 f3 f4 f5
    obtain ⟨o, e, c, d⟩ := id st'
    exact ⟨u, rfl, go_of (s := { s with heap := h' }) e c d (by decide) ⟨x, H, I1, ru, ⟨rfl, fun ys hy => by rw [I.tuple_inj hy hq]; exact hx⟩, st', fun b hb => (hf b hb).1⟩⟩
  done := by
    intro X hP hw hK hc i pins s σ H E I hf st hg
    subst hP hw hK
    obtain ⟨xs, hq, hx⟩ := hg
    obtain ⟨its, rv, p, hz⟩ := I.tuple hq
    obtain ⟨f0, f1, f2, f3, f4, f5⟩ := hf it (by simp)
    have hl := rv.length
    exact wpAny_pyNext_tuple_end (I.ok.hd hc) st (show s.heap.IsTuple a its.toArray from p) (by simp; omega) fun h' eb => ⟨rfl, I.turned (t' := s.toks) (fun b o hb e => eb b o hb e) f0 f1 f3 f4 f5⟩
  self := fun _ _ _ _ _ st h => wpAny_pyIter_tupleiter st h
theorem turn_range {P : Program} {w : World} {K : PySem.W.Frag} {tg : Expr} (it : Addr) (lo : Int) (n : Nat) : Turn P w K tg (Itr lo n) [it] it (fun i h => IsRangeIter h it (lo + (i : Nat) * 1) ((n : Int) - (i : Nat)) 1) where
  mem := by simp
  obj := fun i h st b hb => by
    have e : b = it := by simpa using hb
    subst e
    exact ⟨_, st, fun v z => by
      have z' : Data.fields _ = Data.cell v := z
      cases z'⟩
  keep := fun i h h' st k => k it (by simp) _ st
  item := by
    intro X hP hw hK hc i pins s σ H E I hf st hg
    subst hP hw hK
    obtain ⟨f0, f1, f2, f3, f4, f5⟩ := hf it (by simp)
    have W := Walks.range (prog := X.prog) (w := X.w) (I.ok.hd hc) it lo 1 n
    refine W.item i s _ _ hg st fun v h' tk hv st' kk => ?_
    obtain ⟨t, rfl⟩ := hv
    have I1 : Inv X pins σ H { s with heap := h', toks := tk } := I.turned (fun b o hb e => kk b o (by simpa using hb) e) f0 f1 f3 f4 f5
    refine ⟨_, rfl, go_of (s := { s with heap := h', toks := tk }) (n := "range_iterator") st' rfl rfl (by decide) ⟨.int (lo + i), H, I1, ⟨t, ?_⟩, ⟨rfl, rfl⟩, st', fun b hb => (hf b hb).1⟩⟩
    rw [Int.mul_one]
  done := by
    intro X hP hw hK hc i pins s σ H E I hf st hg
    subst hP hw hK
    obtain ⟨f0, f1, f2, f3, f4, f5⟩ := hf it (by simp)
    exact wpAny_pyNext_range_end (I.ok.hd hc) st (by have : n ≤ i := hg; omega) fun h' eb => ⟨rfl, I.turned (t' := s.toks) (fun b o hb e => eb b o hb e) f0 f1 f3 f4 f5⟩
  self := fun _ _ _ _ _ st h => wpAny_pyIter_rangeiter st h
end L2

namespace L2
open PySem PySem.Spec PyProof.Rows
section
variable {X : Cx} {tg : Expr}
def iList (K : PySem.W.Frag) (tl : TE) : TI := fun σ H R => tl σ H fun x H1 => ∃ a, x = .ref a ∧ (∃ xs, SqL K H1 a xs) ∧ R (Itl K a) H1
def iTup (K : PySem.W.Frag) (tl : TE) : TI := fun σ H R => tl σ H fun x H1 => ∃ a, x = .ref a ∧ (∃ xs, SqT K H1 a xs) ∧ R (Itt K a) H1
theorem pi_list {l : Expr} {tl : TE} (hl : PE X l tl) : PI X tg l (iList X.K tl) := by
  intro pins s σ H R I h
  refine thn (hl pins s σ H _ I h) fun v s1 ⟨x, H1, I1, r1, q1⟩ => ?_
  obtain ⟨a, e, ⟨xs, hq⟩, q⟩ := q1
  subst e
  cases r1
  obtain ⟨its, rv, p, hz⟩ := I1.list hq
  refine wpAny_pyIter_list p.isList ?_
  refine ⟨s1.heap.objs.size, [s1.heap.objs.size], _, _, H1, rfl, I1.kept (t' := s1.toks) fun b o e => Heap.get?_push_of_some _ e, turn_list a _, ⟨_, Heap.get?_push_size _ rfl, rfl, rfl⟩, fun b hb => ?_, q⟩
  have e : b = s1.heap.objs.size := by simpa using hb
  subst e
  exact I1.fpOk (Nat.le_refl _) (I1.hok.fresh (Nat.le_refl _))
theorem pi_tup {l : Expr} {tl : TE} (hl : PE X l tl) : PI X tg l (iTup X.K tl) := by
  intro pins s σ H R I h
  refine thn (hl pins s σ H _ I h) fun v s1 ⟨x, H1, I1, r1, q1⟩ => ?_
  obtain ⟨a, e, ⟨xs, hq⟩, q⟩ := q1
  subst e
  cases r1
  obtain ⟨its, rv, p, hz⟩ := I1.tuple hq
  refine wpAny_pyIter_tuple (show s1.heap.IsTuple a its.toArray from p) ?_
  refine ⟨s1.heap.objs.size, [s1.heap.objs.size], _, _, H1, rfl, I1.kept (t' := s1.toks) fun b o e => Heap.get?_push_of_some _ e, turn_tuple a _, ⟨_, Heap.get?_push_size _ rfl, rfl, rfl⟩, fun b hb => ?_, q⟩
  have e : b = s1.heap.objs.size := by simpa using hb
  subst e
  exact I1.fpOk (Nat.le_refl _) (I1.hok.fresh (Nat.le_refl _))
/-- a range object just made, walked -/
theorem range_it {pins : List (Addr × Obj)} {σ : St} {H : Hp} {s : Shared} {R : It → Hp → Prop} {E : Value → Shared → Prop} {lo hi : Int} {t u v : Tok} {tk : Nat} (I : Inv X pins σ H s) (h1 : -(2 ^ 62) ≤ lo) (h2 : lo < 2 ^ 62) (h3 : -(2 ^ 62) ≤ hi) (h4 : hi < 2 ^ 62)
    (q : R (Itr lo (hi - lo).toNat) H) : wpAny (model X.prog X.w) X.A (pyIter (.ref s.heap.objs.size)) (PIE X pins σ tg R) E { s with heap := s.heap.push { cls := .type "range", data := .fields #[.int lo t, .int hi u, .int 1 v] }, toks := tk } := by
  refine wpAny_pyIter_range (IsRange.new ..) (small_one h1 h2 h3 h4) ?_
  have I1 : Inv X pins σ H { s with heap := s.heap.push { cls := .type "range", data := .fields #[.int lo t, .int hi u, .int 1 v] }, toks := tk } := I.kept fun b o e => Heap.get?_push_of_some _ e
  refine ⟨(s.heap.push { cls := .type "range", data := .fields #[.int lo t, .int hi u, .int 1 v] }).objs.size, [(s.heap.push { cls := .type "range", data := .fields #[.int lo t, .int hi u, .int 1 v] }).objs.size], _, _, H, rfl,
    I1.kept (t' := tk) fun b o e => Heap.get?_push_of_some _ e, turn_range _ lo (hi - lo).toNat, ?_, fun b hb => ?_, q⟩
  · have e1 : lo + ((0 : Nat) : Int) * 1 = lo := by simp
    have e2 : (((hi - lo).toNat : Nat) : Int) - ((0 : Nat) : Int) = Builtin.Range.rangeSize lo hi 1 := by rw [rangeSize_one]; split <;> omega
    show IsRangeIter _ _ (lo + ((0 : Nat) : Int) * 1) ((((hi - lo).toNat : Nat) : Int) - ((0 : Nat) : Int)) 1
    rw [e1, e2]
    exact Heap.get?_push_size _ rfl
  · have e : b = (s.heap.push { cls := .type "range", data := .fields #[.int lo t, .int hi u, .int 1 v] }).objs.size := by simpa using hb
    subst e
    exact I1.fpOk (Nat.le_refl _) (I1.hok.fresh (Nat.le_refl _))
def iRng1 (ta : TA) : TI := fun σ H R => ta σ H fun vs H1 => ∃ j : Int, vs = [.int j] ∧ -(2 ^ 62) ≤ j ∧ j < 2 ^ 62 ∧ R (Itr 0 j.toNat) H1
def iRng2 (ta : TA) : TI := fun σ H R => ta σ H fun vs H1 => ∃ i j : Int, vs = [.int i, .int j] ∧ (-(2 ^ 62) ≤ i ∧ i < 2 ^ 62 ∧ -(2 ^ 62) ≤ j ∧ j < 2 ^ 62) ∧ R (Itr i (j - i).toNat) H1
theorem pi_range1 {a : Expr} {ta : TA} {p pos : Pos} (hg : Gl X "range") (hm : X.mg "range" = none) (ha : PA X [a] ta) (hs : starEach [a] X.env = [(false, eval a X.env)] := by rfl) : PI X tg (.Call (.Name "range" p) [a] [] pos) (iRng1 ta) := by
  intro pins s σ H R I h
  refine Call_ (ld_blt I hg hm boot_range (PyProof.Rows.callWith_type1 (thn (ha pos pins s σ H _ I h) fun us s1 ⟨vs, H1, I1, r1, q1⟩ => ?_) hs rfl))
  obtain ⟨j, e, q1, q2, q⟩ := q1
  subst e
  cases r1 with
  | cons r rr =>
    cases rr
    obtain ⟨t, rfl⟩ := r
    exact call_range_1 (range_it I1 (by omega) (by omega) q1 q2 (by simpa using q))
theorem pi_range2 {a b : Expr} {ta : TA} {p pos : Pos} (hg : Gl X "range") (hm : X.mg "range" = none) (ha : PA X [a, b] ta) (hs : starEach [a, b] X.env = [(false, eval a X.env), (false, eval b X.env)] := by rfl) (hs2 : starEach [b] X.env = [(false, eval b X.env)] := by rfl) :
    PI X tg (.Call (.Name "range" p) [a, b] [] pos) (iRng2 ta) := by
  intro pins s σ H R I h
  refine Call_ (ld_blt I hg hm boot_range (PyProof.Rows.callWith_type1 (thn (ha pos pins s σ H _ I h) fun us s1 ⟨vs, H1, I1, r1, q1⟩ => ?_) (by rw [hs, hs2]) (by rw [hs2]; rfl)))
  obtain ⟨i, j, e, ⟨q1, q2, q3, q4⟩, q⟩ := q1
  subst e
  cases r1 with
  | cons r rr =>
    cases rr with
    | cons r' rr =>
      cases rr
      obtain ⟨t, rfl⟩ := r
      obtain ⟨t', rfl⟩ := r'
      exact call_range_2 (range_it I1 q1 q2 q3 q4 q)

/-! ### for -/
/-- W: the invariant by the turn and a measure; N: what the body is to reach -/
def tFor (wi : TI) (g : TG) (tb : TS) : TS := fun D σ H => wi σ H fun J H1 => ∃ W : Nat → Nat → St → Hp → Prop, (∃ m, W 0 m σ H1) ∧ ∀ i m σ H, W i m σ H →
  (J.stop i H ∧ D.nx σ H) ∨ (J.go i H ∧ ∃ N : St → Hp → Prop, (∀ σ' H', N σ' H' → ∃ m', m' < m ∧ W (i + 1) m' σ' H') ∧ ∀ x H', J.yld i H x H' → g x σ H' fun σ2 H2 => tb { D with nx := N, ct := N, bk := D.nx } σ2 H2)
/-- the records at fp as they stand -/
def pinsAt (fp : List Addr) (h : Heap) : List (Addr × Obj) := fp.filterMap fun b => (h.get? b).map fun o => (b, o)
theorem mem_pinsAt {fp : List Addr} {h : Heap} {b : Addr} {o : Obj} (hb : b ∈ fp) (e : h.get? b = some o) : (b, o) ∈ pinsAt fp h := List.mem_filterMap.mpr ⟨b, hb, by rw [e]; rfl⟩
theorem of_pinsAt {fp : List Addr} {h : Heap} {p : Addr × Obj} (hp : p ∈ pinsAt fp h) : p.1 ∈ fp ∧ h.get? p.1 = some p.2 := by
  obtain ⟨b, hb, e⟩ := List.mem_filterMap.mp hp
  cases q : h.get? b with
  | none => rw [q] at e; cases e
  | some o =>
    rw [q] at e
    have e' : (b, o) = p := Option.some.inj e
    subst e'
    exact ⟨hb, q⟩
theorem Inv.pinned {pins : List (Addr × Obj)} {σ : St} {H : Hp} {s : Shared} {fp : List Addr} (I : Inv X pins σ H s) (hf : ∀ b ∈ fp, FpOk X pins H b) (ho : ∀ b ∈ fp, ∃ o, s.heap.get? b = some o ∧ ∀ v, o.data ≠ .cell v) : Inv X (pins ++ pinsAt fp s.heap) σ H s :=
  I.pins_of fun p hp => (List.mem_append.mp hp).elim (fun z => I.pin p (List.mem_append_right _ z)) fun z => by
    obtain ⟨hb, e⟩ := of_pinsAt z
    obtain ⟨f0, f1, f2, _⟩ := hf p.1 hb
    obtain ⟨o, e', d⟩ := ho p.1 hb
    rw [e] at e'; cases e'
    exact ⟨e, f0, f1, f2, d⟩
theorem Inv.unpinned {pins pl : List (Addr × Obj)} {σ : St} {H : Hp} {s : Shared} (I : Inv X (pins ++ pl) σ H s) : Inv X pins σ H s := I.pins_of fun p hp => I.pin p (List.mem_append_right _ (List.mem_append_left _ hp))
theorem ps_for {iter : Expr} {body : List Stmt} {wi : TI} {g : TG} {tb : TS} {pos : Pos} (hp : PassesOwn (model X.prog X.w) X.A X.env X.xe) (hc : X.calm = true) (hi : PI X tg iter wi) (hg : PG X tg g) (hb : PSs X body tb)
    (hs : ∀ x, foldedSetIterable iter X.env x = pure x := by intro _; rfl) : PS X (.For tg iter body [] pos) (tFor wi g tb) := by
  intro pins s σ H D I h
  refine wpAny_For (thn (hi pins s σ H _ I h) fun v s1 h1 => thn h1 fun itv s2 h2 => ?_) hs
  obtain ⟨it, fp, tn, J, H2, e, I2, T, st2, f2, W, ⟨m0, w0⟩, turn⟩ := h2
  subst e
  -- what stays true of the iterator's objects through the loop
  have stat : ∀ {H' : Hp}, (∀ b ∈ fp, H' b = none) → ∀ b ∈ fp, FpOk X pins H' b := fun hn b hb => ⟨hn b hb, (f2 b hb).2⟩
  refine codeAny_forLoop_any (fun n s' => ∃ i σ' H', Inv X pins σ' H' s' ∧ tn i s'.heap ∧ (∀ b ∈ fp, H' b = none) ∧ W i n σ' H') ?_ m0 ⟨0, σ, H2, I2, st2, fun b hb => (f2 b hb).1, w0⟩
  rintro n s3 ⟨i, σ3, H3, I3, st3, fr3, w3⟩
  rcases turn i n σ3 H3 w3 with ⟨stop, qn⟩ | ⟨go, N, hN, step⟩
  · refine wpAny_passesOwn hp (thn (T.done X rfl rfl rfl hc i pins s3 σ3 H3 X.xe I3 (stat fr3) st3 stop) fun r s4 ⟨hr, I4⟩ => ?_)
    subst hr
    exact wpAny_execs_nil ⟨σ3, H3, I4, qn⟩
  · refine wpAny_passesOwn hp (thn (T.item X rfl rfl rfl hc i pins s3 σ3 H3 X.xe I3 (stat fr3) st3 go) fun r s4 ⟨u, hr, h4⟩ => ?_)
    subst hr
    refine wpAny_passesOwn hp (thn h4 fun _ s5 ⟨x, H5, I5, r5, y5, st5, fr5⟩ => ?_)
    have I5' := I5.pinned (stat fr5) (T.obj _ _ st5)
    refine wpAny_passesOwn hp (thn (hg _ s5 σ3 H5 x u _ I5' r5 (step x H5 y5)) fun _ s6 ⟨σ6, H6, I6, q6⟩ => ?_)
    refine wpAny_passesOwn hp (thn (hb _ s6 σ6 H6 _ I6 q6) fun f s7 q7 => ?_)
    have again : ∀ {σ7 : St} {H7 : Hp}, Inv X (pins ++ pinsAt fp s5.heap) σ7 H7 s7 → N σ7 H7 → ∃ m, m < n ∧ ∃ i σ' H', Inv X pins σ' H' s7 ∧ tn i s7.heap ∧ (∀ b ∈ fp, H' b = none) ∧ W i m σ' H' := fun {σ7 H7} I7 n7 => by
      obtain ⟨m', hm, w7⟩ := hN σ7 H7 n7
      refine ⟨m', hm, i + 1, σ7, H7, I7.unpinned, T.keep _ _ _ st5 fun b hb o e => (I7.pin (b, o) (List.mem_append_right _ (List.mem_append_right _ (mem_pinsAt hb e)))).1, fun b hb => ?_, w7⟩
      obtain ⟨o, e, d⟩ := T.obj _ _ st5 b hb
      exact (I7.pin (b, o) (List.mem_append_right _ (List.mem_append_right _ (mem_pinsAt hb e)))).2.1
    cases f with
    | next => obtain ⟨σ7, H7, I7, n7⟩ := q7; exact again I7 n7
    | cont => obtain ⟨σ7, H7, I7, n7⟩ := q7; exact again I7 n7
    | brk => obtain ⟨σ7, H7, I7, q7⟩ := q7; exact ⟨σ7, H7, I7.unpinned, q7⟩
    | ret v => obtain ⟨x7, σ7, H7, I7, r7, q7⟩ := q7; exact ⟨x7, σ7, H7, I7.unpinned, r7, q7⟩
end

/-! ### the forms one uses -/
end L2

namespace L2
open PySem PySem.Spec PyProof.Rows

abbrev R2 := V → V → Hp → VK → Prop
/-- a two-place operation on values: f is binaryOp op, inplaceOp op or compareOp op -/
def OpR (X : Cx) (f : Value → Value → Sem Value) (r : R2) : Prop :=
  ∀ (pins : List (Addr × Obj)) (s : Shared) (σ : St) (H : Hp) (x y : V) (v u : Value) (Q : VK), Inv X pins σ H s → RelV x v → RelV y u → r x y H Q →
    wpAny (model X.prog X.w) X.A (f v u) (EP X pins σ Q) X.xe s
/-- a one-place operation -/
def UnR (X : Cx) (f : Value → Sem Value) (r : V → Hp → VK → Prop) : Prop :=
  ∀ (pins : List (Addr × Obj)) (s : Shared) (σ : St) (H : Hp) (x : V) (v : Value) (Q : VK), Inv X pins σ H s → RelV x v → r x H Q →
    wpAny (model X.prog X.w) X.A (f v) (EP X pins σ Q) X.xe s
/-- a call of a value that is known (a builtin, a type) with values -/
def CallR (X : Cx) (f : Value) (r : List V → Hp → VK → Prop) : Prop :=
  ∀ (pins : List (Addr × Obj)) (s : Shared) (σ : St) (H : Hp) (xs : List V) (us : List Value) (Q : VK), Inv X pins σ H s → Vals xs us → r xs H Q →
    wpAny (model X.prog X.w) X.A (call f us) (EP X pins σ Q) X.xe s

def tOp (r : R2) (ta tb : TE) : TE := fun σ H Q => ta σ H fun x H1 => tb σ H1 fun y H2 => r x y H2 Q
def tUn (r : V → Hp → VK → Prop) (ta : TE) : TE := fun σ H Q => ta σ H fun x H1 => r x H1 Q
/-- ints in, under C, and a value out -/
def rI (C : Int → Int → Prop) (g : Int → Int → V) : R2 := fun x y H Q => ∃ i j, x = .int i ∧ y = .int j ∧ C i j ∧ Q (g i j) H
def rI0 (g : Int → Int → V) : R2 := fun x y H Q => ∃ i j, x = .int i ∧ y = .int j ∧ Q (g i j) H
def rU (g : Int → V) : V → Hp → VK → Prop := fun x H Q => ∃ i, x = .int i ∧ Q (g i) H

section
variable {X : Cx} {a b c : Expr} {ta tb tc : TE} {pos : Pos}

theorem binT (ha : PE X a ta) (hb : PE X b tb) {pins : List (Addr × Obj)} {s : Shared} {σ : St} {H : Hp} {R : V → V → Hp → Prop} (I : Inv X pins σ H s)
    (h : ta σ H fun x H1 => tb σ H1 fun y H2 => R x y H2) {Q : Value → Shared → Prop} {f : Value → Value → Sem Value}
    (hf : ∀ v u s2 x y H2, Inv X pins σ H2 s2 → RelV x v → RelV y u → R x y H2 → wpAny (model X.prog X.w) X.A (f v u) Q X.xe s2) :
    wpAny (model X.prog X.w) X.A (eval a X.env) (fun v s₁ => wpAny (model X.prog X.w) X.A (eval b X.env) (fun u s₂ => wpAny (model X.prog X.w) X.A (f v u) Q X.xe s₂) X.xe s₁) X.xe s := by
  refine thn (ha pins s σ H _ I h) fun v s1 ⟨x, H1, I1, r1, q1⟩ => ?_
  refine thn (hb pins s1 σ H1 _ I1 q1) fun u s2 ⟨y, H2, I2, r2, q2⟩ => ?_
  exact hf v u s2 x y H2 I2 r1 r2 q2

theorem pe_op {op : Operator} {r : R2} (ho : OpR X (binaryOp op) r) (ha : PE X a ta) (hb : PE X b tb) : PE X (.BinOp a op b pos) (tOp r ta tb) := by
  intro pins s σ H Q I h
  exact wpAny_BinOp (binT ha hb I h fun v u s2 x y H2 I2 rx ry q => ho pins s2 σ H2 x y v u Q I2 rx ry q)
theorem pe_un {op : UnaryOp} {r : V → Hp → VK → Prop} (ho : UnR X (unaryOp op) r) (ha : PE X a ta) : PE X (.UnaryOp op a pos) (tUn r ta) := by
  intro pins s σ H Q I h
  exact UnaryOp_ (thn (ha pins s σ H _ I h) fun v s1 ⟨x, H1, I1, r1, q1⟩ => ho pins s1 σ H1 x v Q I1 r1 q1)

/-! ### ints -/
theorem opI {f : Value → Value → Sem Value} {C : Int → Int → Prop} {g : Int → Int → Int}
    (rule : ∀ (i j : Int) (t u : Tok) (s : Shared) (Q : Value → Shared → Prop) (E : Value → Shared → Prop), C i j → Q (.int (g i j) s.toks) { s with toks := s.toks + 1 } → wpAny (model X.prog X.w) X.A (f (.int i t) (.int j u)) Q E s) :
    OpR X f (rI C fun i j => .int (g i j)) := by
  intro pins s σ H x y v u Q I rx ry h
  obtain ⟨i, j, rfl, rfl, hc, q⟩ := h
  obtain ⟨t, rfl⟩ := rx
  obtain ⟨t', rfl⟩ := ry
  exact rule i j t t' s _ _ hc ⟨.int (g i j), H, I.tok _, ⟨_, rfl⟩, q⟩
theorem opI0 {f : Value → Value → Sem Value} {g : Int → Int → Int}
    (rule : ∀ (i j : Int) (t u : Tok) (s : Shared) (Q : Value → Shared → Prop) (E : Value → Shared → Prop), Q (.int (g i j) s.toks) { s with toks := s.toks + 1 } → wpAny (model X.prog X.w) X.A (f (.int i t) (.int j u)) Q E s) :
    OpR X f (rI0 fun i j => .int (g i j)) := by
  intro pins s σ H x y v u Q I rx ry h
  obtain ⟨i, j, rfl, rfl, q⟩ := h
  obtain ⟨t, rfl⟩ := rx
  obtain ⟨t', rfl⟩ := ry
  exact rule i j t t' s _ _ ⟨.int (g i j), H, I.tok _, ⟨_, rfl⟩, q⟩
theorem opB0 {f : Value → Value → Sem Value} {g : Int → Int → Bool}
    (rule : ∀ (i j : Int) (t u : Tok) (s : Shared) (Q : Value → Shared → Prop) (E : Value → Shared → Prop), Q (.bool (g i j)) s → wpAny (model X.prog X.w) X.A (f (.int i t) (.int j u)) Q E s) :
    OpR X f (rI0 fun i j => .bl (g i j)) := by
  intro pins s σ H x y v u Q I rx ry h
  obtain ⟨i, j, rfl, rfl, q⟩ := h
  obtain ⟨t, rfl⟩ := rx
  obtain ⟨t', rfl⟩ := ry
  exact rule i j t t' s _ _ ⟨.bl (g i j), H, I, rfl, q⟩

def CDiv (i j : Int) : Prop := 0 < j ∧ j < 1073741824
def CPow (i j : Int) : Prop := 0 ≤ j ∧ j ≤ 1000000 ∧ i.natAbs < 2 ^ 64
def CMul (i j : Int) : Prop := (-(2 ^ 64) < i ∧ i < 2 ^ 64) ∨ (-(2 ^ 64) < j ∧ j < 2 ^ 64)
theorem CMul.ok {i j : Int} (h : CMul i j) : IntMulOk i j := by
  rcases h with ⟨h1, h2⟩ | ⟨h1, h2⟩
  · exact .of_left (intBits_le_64 h1 h2)
  · exact .of_right (intBits_le_64 h1 h2)
theorem two_pow_nn (k : Nat) : (0 : Int) ≤ 2 ^ k := by
  rw [two_pow_cast]
  exact Int.natCast_nonneg _

theorem op_add : OpR X (binaryOp .Add) (rI0 fun i j => .int (i + j)) := opI0 fun _ _ _ _ _ _ _ q => add_int q
theorem op_sub : OpR X (binaryOp .Sub) (rI0 fun i j => .int (i - j)) := opI0 fun _ _ _ _ _ _ _ q => sub_int q
theorem op_mul : OpR X (binaryOp .Mult) (rI CMul fun i j => .int (i * j)) := opI fun _ _ _ _ _ _ _ hc q => mul_int q hc.ok
/-- // by a positive divisor -/
theorem op_fdiv : OpR X (binaryOp .FloorDiv) (rI CDiv fun i j => .int (i / j)) := opI fun i j _ _ _ _ _ hc q => by
  have h1 : (0 : Int) < j := hc.1
  have h2 : j < 1073741824 := hc.2
  exact floordiv_int (by omega) (by rw [Int.fdiv_eq_ediv_of_nonneg i (by omega)]; exact q) (.inl (PyProof.noPylong_small (by omega)))
/-- % by a positive divisor of any size -/
theorem op_mod : OpR X (binaryOp .Mod) (rI (fun _ j => 0 < j) fun i j => .int (i % j)) := opI fun i j _ _ _ _ _ hc q => by
  have h1 : (0 : Int) < j := hc
  exact mod_int' (by omega) (by rw [Int.fmod_eq_emod_of_nonneg i (by omega)]; exact q)
theorem op_pow : OpR X (binaryOp .Pow) (rI CPow fun i j => .int (i ^ j.toNat)) := opI fun _ _ _ _ _ _ _ hc q => pow_int_small hc.1 hc.2.1 hc.2.2 q


theorem unI {f : Value → Sem Value} {g : Int → Int}
    (rule : ∀ (i : Int) (t : Tok) (s : Shared) (Q : Value → Shared → Prop) (E : Value → Shared → Prop), Q (.int (g i) s.toks) { s with toks := s.toks + 1 } → wpAny (model X.prog X.w) X.A (f (.int i t)) Q E s) :
    UnR X f (rU fun i => .int (g i)) := by
  intro pins s σ H x v Q I rx h
  obtain ⟨i, rfl, q⟩ := h
  obtain ⟨t, rfl⟩ := rx
  exact rule i t s _ _ ⟨.int (g i), H, I.tok _, ⟨_, rfl⟩, q⟩
theorem un_neg : UnR X (unaryOp .USub) (rU fun i => .int (-i)) := unI fun _ _ _ _ _ q => neg_int q

/-! ### bools among ints: n += (a < b) -/
end

/-! ### comparisons -/
/-- the scalars that == tells apart as data does -/
def scal : V → V → Bool
  | .non, .non => true | .non, .int _ => true | .int _, .non => true | .non, .bl _ => true | .bl _, .non => true | .non, .str _ => true | .str _, .non => true
  | .int _, .int _ => true | .bl _, .bl _ => true | .str _, .str _ => true | .byt _, .byt _ => true
  | .int _, .str _ => true | .str _, .int _ => true | .bl _, .str _ => true | .str _, .bl _ => true
  | _, _ => false
def rEq : R2 := fun x y H Q => scal x y = true ∧ Q (.bl (decide (x = y))) H
def rNe : R2 := fun x y H Q => scal x y = true ∧ Q (.bl (!decide (x = y))) H

theorem dec_int {i j : Int} : decide (V.int i = V.int j) = (i == j) := by
  rw [Bool.eq_iff_iff]
  simp
theorem dec_bl {i j : Bool} : decide (V.bl i = V.bl j) = (i == j) := by
  rw [Bool.eq_iff_iff]
  simp
theorem dec_str {i j : Str} : decide (V.str i = V.str j) = (i == j) := by
  rw [Bool.eq_iff_iff]
  simp
theorem dec_byt {i j : Array UInt8} : decide (V.byt i = V.byt j) = (i.toList == j.toList) := by
  rw [Bool.eq_iff_iff]
  cases i
  cases j
  simp

section
variable {X : Cx} {a b c : Expr} {ta tb tc : TE} {pos : Pos}
theorem fin_bl {pins : List (Addr × Obj)} {σ : St} {H : Hp} {s : Shared} {Q : VK} {k k' : Bool} (I : Inv X pins σ H s) (q : Q (.bl k) H) (e : k = k') : EP X pins σ Q (.bool k') s := by
  subst e
  exact ⟨.bl k, H, I, rfl, q⟩
theorem op_eq : OpR X (compareOp .Eq) rEq := by
  intro pins s σ H x y v u Q I rx ry h
  obtain ⟨hs, q⟩ := h
  cases x with
  | non =>
    cases rx
    cases y with
    | non => cases ry; exact PySem.EqNone.eq_none_none (fin_bl I q (by simp))
    | bl j => cases ry; exact PySem.EqNone.eq_none_bool (fin_bl I q (by simp))
    | int j => obtain ⟨t', rfl⟩ := ry; exact PySem.EqNone.eq_none_int (fin_bl I q (by simp))
    | str j => obtain ⟨t', rfl⟩ := ry; exact PySem.EqNone.eq_none_str (fin_bl I q (by simp))
    | _ => exact absurd (show false = true from hs) Bool.false_ne_true
  | bl i =>
    cases rx
    cases y with
    | non => cases ry; exact PySem.EqNone.eq_bool_none (fin_bl I q (by simp))
    | bl j => cases ry; exact eq_bool (fin_bl I q dec_bl)
    | str j => obtain ⟨t', rfl⟩ := ry; exact PySem.EqMixed.eq_bool_str (fin_bl I q (by simp))
    | _ => exact absurd (show false = true from hs) Bool.false_ne_true
  | int i =>
    obtain ⟨t, rfl⟩ := rx
    cases y with
    | non => cases ry; exact PySem.EqNone.eq_int_none (fin_bl I q (by simp))
    | int j => obtain ⟨t', rfl⟩ := ry; exact eq_int (fin_bl I q dec_int)
    | str j => obtain ⟨t', rfl⟩ := ry; exact PySem.EqMixed.eq_int_str (fin_bl I q (by simp))
    | _ => exact absurd (show false = true from hs) Bool.false_ne_true
  | str i =>
    obtain ⟨t, rfl⟩ := rx
    cases y with
    | non => cases ry; exact PySem.EqNone.eq_str_none (fin_bl I q (by simp))
    | bl j => cases ry; exact PySem.EqMixed.eq_str_bool (fin_bl I q (by simp))
    | int j => obtain ⟨t', rfl⟩ := ry; exact PySem.EqMixed.eq_str_int (fin_bl I q (by simp))
    | str j => obtain ⟨t', rfl⟩ := ry; exact eq_str (fin_bl I q dec_str)
    | _ => exact absurd (show false = true from hs) Bool.false_ne_true
  | byt i =>
    obtain ⟨t, rfl⟩ := rx
    cases y with
    | byt j => obtain ⟨t', rfl⟩ := ry; exact PySem.W.eq_bytes (fin_bl I q dec_byt)
    | _ => exact absurd (show false = true from hs) Bool.false_ne_true
  | _ => cases y <;> exact absurd (show false = true from hs) Bool.false_ne_true
theorem op_ne : OpR X (compareOp .NotEq) rNe := by
  intro pins s σ H x y v u Q I rx ry h
  obtain ⟨hs, q⟩ := h
  cases x with
  | non =>
    cases rx
    cases y with
    | non => cases ry; exact PySem.EqNone.ne_none_none (fin_bl I q (by simp))
    | bl j => cases ry; exact PySem.EqNone.ne_none_bool (fin_bl I q (by simp))
    | int j => obtain ⟨t', rfl⟩ := ry; exact PySem.EqNone.ne_none_int (fin_bl I q (by simp))
    | str j => obtain ⟨t', rfl⟩ := ry; exact PySem.EqNone.ne_none_str (fin_bl I q (by simp))
    | _ => exact absurd (show false = true from hs) Bool.false_ne_true
  | bl i =>
    cases rx
    cases y with
    | non => cases ry; exact PySem.EqNone.ne_bool_none (fin_bl I q (by simp))
    | bl j => cases ry; exact ne_bool (fin_bl I q (congrArg not dec_bl))
    | str j => obtain ⟨t', rfl⟩ := ry; exact PySem.EqMixed.ne_bool_str (fin_bl I q (by simp))
    | _ => exact absurd (show false = true from hs) Bool.false_ne_true
  | int i =>
    obtain ⟨t, rfl⟩ := rx
    cases y with
    | non => cases ry; exact PySem.EqNone.ne_int_none (fin_bl I q (by simp))
    | int j => obtain ⟨t', rfl⟩ := ry; exact ne_int (fin_bl I q (congrArg not dec_int))
    | str j => obtain ⟨t', rfl⟩ := ry; exact PySem.EqMixed.ne_int_str (fin_bl I q (by simp))
    | _ => exact absurd (show false = true from hs) Bool.false_ne_true
  | str i =>
    obtain ⟨t, rfl⟩ := rx
    cases y with
    | non => cases ry; exact PySem.EqNone.ne_str_none (fin_bl I q (by simp))
    | bl j => cases ry; exact PySem.EqMixed.ne_str_bool (fin_bl I q (by simp))
    | int j => obtain ⟨t', rfl⟩ := ry; exact PySem.EqMixed.ne_str_int (fin_bl I q (by simp))
    | str j => obtain ⟨t', rfl⟩ := ry; exact ne_str (fin_bl I q (congrArg not dec_str))
    | _ => exact absurd (show false = true from hs) Bool.false_ne_true
  | byt i =>
    obtain ⟨t, rfl⟩ := rx
    cases y with
    | byt j => obtain ⟨t', rfl⟩ := ry; exact PySem.W.ne_bytes (fin_bl I q (congrArg not dec_byt))
    | _ => exact absurd (show false = true from hs) Bool.false_ne_true
  | _ => cases y <;> exact absurd (show false = true from hs) Bool.false_ne_true

theorem op_lt : OpR X (compareOp .Lt) (rI0 fun i j => .bl (decide (i < j))) := opB0 fun _ _ _ _ _ _ _ q => lt_int q
theorem op_gt : OpR X (compareOp .Gt) (rI0 fun i j => .bl (decide (j < i))) := opB0 fun _ _ _ _ _ _ _ q => gt_int q
theorem op_ge : OpR X (compareOp .GtE) (rI0 fun i j => .bl (decide (j ≤ i))) := opB0 fun _ _ _ _ _ _ _ q => ge_int q

/-- is None, is not None: the right side a value none -/
theorem op_isN : OpR X (compareOp .Is) (fun x y H Q => y = .non ∧ Q (.bl (decide (x = .non))) H) := by
  intro pins s σ H x y v u Q I rx ry h
  obtain ⟨rfl, q⟩ := h
  cases ry
  refine is_none_gen (fin_bl I q ?_)
  cases x <;> first
    | (cases rx; rfl)
    | (obtain ⟨t, rfl⟩ := rx; rfl)
theorem op_notN : OpR X (compareOp .IsNot) (fun x y H Q => y = .non ∧ Q (.bl (!decide (x = .non))) H) := by
  intro pins s σ H x y v u Q I rx ry h
  obtain ⟨rfl, q⟩ := h
  cases ry
  refine isnot_none_gen (fin_bl I q ?_)
  cases x <;> first
    | (cases rx; rfl)
    | (obtain ⟨t, rfl⟩ := rx; rfl)



/-- a comparison as a value; hm: nomark b, or (for in, not in) by with_unfolding_all rfl -/
theorem pe_cmpR {op : CmpOp} {r : R2} (ho : OpR X (compareOp op) r) (ha : PE X a ta) (hb : PE X b tb) (hm : behindInMarks op b = false) : PE X (.Compare a [op] [b] pos) (tOp r ta tb) := by
  intro pins s σ H Q I h
  exact wpAny_Compare1 (binT ha hb I h fun v u s2 x y H2 I2 rx ry q => ho pins s2 σ H2 x y v u Q I2 rx ry q) hm
/-- a reading of a value as a test -/
def tTest (t : TE) : TT := fun σ H Q => t σ H fun x H' => ∃ k, x = .bl k ∧ Q k H'
theorem pt_cmpR {op : CmpOp} {r : R2} (ho : OpR X (compareOp op) r) (ha : PE X a ta) (hb : PE X b tb) (hm : behindInMarks op b = false) : PT X (.Compare a [op] [b] pos) (tTest (tOp r ta tb)) := by
  intro pins s σ H Q I h
  refine wpAny_isTrue_Compare1 (thn (ha pins s σ H _ I h) fun v s1 ⟨x, H1, I1, r1, q1⟩ => thn (hb pins s1 σ H1 _ I1 q1) fun u s2 ⟨y, H2, I2, r2, q2⟩ =>
    thn (ho pins s2 σ H2 x y v u _ I2 r1 r2 q2) fun c s3 ⟨z, H3, I3, r3, k, e, q3⟩ => ?_) hm
  subst e
  cases r3
  exact wpAny_truthy_bool ⟨H3, I3, q3⟩

/-! ### truth -/
theorem line63 : (sizeLine : Nat) < 2 ^ 63 := by rw [sizeLine_eq]; decide

/-! ### strs and bytes -/


/-! ### scalar builtins, by CallR -/
theorem vals1 {x : V} {us : List Value} (r : Vals [x] us) : ∃ u, us = [u] ∧ RelV x u := by
  cases r with
  | cons r1 r2 => cases r2; exact ⟨_, rfl, r1⟩
theorem vals2 {x y : V} {us : List Value} (r : Vals [x, y] us) : ∃ u w', us = [u, w'] ∧ RelV x u ∧ RelV y w' := by
  cases r with
  | cons r1 r2 =>
    cases r2 with
    | cons r3 r4 => cases r4; exact ⟨_, _, rfl, r1, r3⟩
theorem call_min2 (hc : X.calm = true) : CallR X (.builtin "min") (fun xs H Q => ∃ i j, xs = [.int i, .int j] ∧ Q (.int (if j < i then j else i)) H) := by
  intro pins s σ H xs us Q I r h
  obtain ⟨i, j, rfl, q⟩ := h
  obtain ⟨u, w', rfl, ⟨t, rfl⟩, ⟨t', rfl⟩⟩ := vals2 r
  refine min_two_ints (I.ok.hd hc) fun h' tk k => ⟨_, H, I.kept k, ?_, q⟩
  by_cases hj : j < i
  · rw [if_pos hj, if_pos hj]; exact ⟨_, rfl⟩
  · rw [if_neg hj, if_neg hj]; exact ⟨_, rfl⟩
theorem call_int1 : CallR X (.type "int") (fun xs H Q => (∃ i, xs = [.int i] ∧ Q (.int i) H) ∨ ∃ k, xs = [.bl k] ∧ Q (.int (if k then 1 else 0)) H) := by
  intro pins s σ H xs us Q I r h
  rcases h with ⟨i, rfl, q⟩ | ⟨k, rfl, q⟩
  · obtain ⟨u, rfl, t, rfl⟩ := vals1 r
    exact call_int_int ⟨.int i, H, I, ⟨_, rfl⟩, q⟩
  · obtain ⟨u, rfl, r1⟩ := vals1 r
    cases r1
    exact call_int_bool ⟨.int (if k then 1 else 0), H, I.tok _, ⟨_, rfl⟩, q⟩
end
end L2

namespace L2
open PySem PySem.Spec PyProof.Rows

/-! ### an instance, its attributes a map -/
structure ObjM (h : Heap) (x dx C : Addr) (mA : Str → Option Value) : Prop where
  obj : h.get? x = some (PySem.W.instObj C dx)
  ns : h.Ns1 dx mA
  ne : dx ≠ x

theorem lookIn_ns {h : Heap} {dx : Addr} {mA : Str → Option Value} (n : h.Ns1 dx mA) : ∃ od, h.get? dx = some od ∧ ∀ name, PySem.W.lookIn name od = some (mA name) := by
  obtain ⟨o, es, ep, ho, hd, hk, _, hm⟩ := n
  refine ⟨o, ho, fun name => ?_⟩
  have e := hm name
  unfold nsFind findBy at e
  rw [← Array.find?_toList] at e
  unfold PySem.W.lookIn
  rw [hd]
  dsimp only
  split
  · rename_i y q
    rw [q] at e
    exact congrArg some e
  · rename_i q
    rw [q] at e
    have a : es.toList.any (·.refKey) = false := by
      rw [List.any_eq_false]
      intro y hy
      obtain ⟨z, t, hkey⟩ := hk y (Array.mem_toList_iff.mp hy)
      simp [DictEntry.refKey, hkey]
    have a' : ¬ es.toList.any (·.refKey) = true := by rw [a]; exact Bool.false_ne_true
    rw [if_neg a']
    exact congrArg some e

theorem ObjM.look {h : Heap} {x dx C : Addr} {mA : Str → Option Value} (I : ObjM h x dx C mA) : ∃ od, PySem.W.InstAt h x (PySem.W.instObj C dx) C (some od) ∧ ∀ name, PySem.W.lookIn name od = some (mA name) :=
  let ⟨od, ho, hl⟩ := lookIn_ns I.ns
  ⟨od, ⟨I.obj, rfl, rfl, ho⟩, hl⟩

section
variable {prog : Program} {w : World} {A : Around} {E : Value → Shared → Prop} {s : Shared} {K : PySem.W.Frag} {x dx C f : Addr} {mA : Str → Option Value} {name : Str} {v : Value}

theorem get_map {expr : Bool} {Q : Value → Shared → Prop} (X : K.In s.heap) (I : ObjM s.heap x dx C mA) (hg : PySem.W.plainGet K C name = true) (hh : PySem.W.hasDictIn K C = true)
    (ha : PySem.W.findIn K (.ref C) name = some none) (hv : mA name = some v) (hv' : PySem.W.handedIn v = true) (h : Q v { s with toks := s.toks + 1 }) :
    wpAny (model prog w) A (getAttr (.ref x) name expr) Q E s := by
  obtain ⟨od, J, hl⟩ := I.look
  exact PySem.W.get_value X J (PySem.W.plainGet_of hg).1 (PySem.W.findObj_own hh ha rfl (by rw [hl, hv])) hv' h


theorem get_meth {pl : Sem Bool} {Q : Value × List Value → Shared → Prop} (X : K.In s.heap) (I : ObjM s.heap x dx C mA) (hg : PySem.W.plainGet K C name = true)
    (hf : PySem.W.findIn K (.ref C) name = some (some (.ref f))) (ht : PySem.W.isFn K (.ref f) = true) (hv : mA name = none) (h : Q (.ref f, [.ref x]) s) :
    wpAny (model prog w) A (getMethod (.ref x) name pl) Q E s := by
  obtain ⟨od, J, hl⟩ := I.look
  exact PySem.W.method_fn X J (PySem.W.plainGet_of hg).1 (PySem.W.plainGet_of hg).2 hf (beq_iff_eq.mp ht) (by show (PySem.W.lookIn name od).map (·.isSome) = some false; rw [hl, hv]; rfl) h

theorem set_map {ns : List Str} {Q : Unit → Shared → Prop} (X : K.In s.heap) (I : ObjM s.heap x dx C mA)
    (hs : PySem.W.findIn K (.ref C) "__setattr__" = some (some (.builtin "object.__setattr__"))) (hp : PySem.W.plainOver K C = true) (ht : PySem.W.takerIn K C name = some none) (hh : PySem.W.hasDictIn K C = true)
    (hw : PySem.Within mA ns) (hsz : ns.length ≤ sizeLine)
    (h : ∀ h', ObjM h' x dx C (fun y => if y = name then some v else mA y) → Heap.SameBut dx s.heap h' → Q () { s with heap := h', toks := s.toks + 2 }) :
    wpAny (model prog w) A (setAttr (.ref x) name v) Q E s := by
  obtain ⟨od, J, hl⟩ := I.look
  refine PySem.W.set_plain X J hs (PySem.W.osa_open (s := { s with toks := s.toks + 1 }) (r := none) X J hp ht fun b => ?_)
  obtain ⟨cd, hc, hd'⟩ := PySem.W.any_some hh
  have hx : s.heap.get? x = some ⟨.ref C, some dx, .plain, #[]⟩ := I.obj
  refine wpAny_bind (wpAny_pure (wpAny_bind (wpAny_bind (wpAny_loadPart hx (wpAny_bind (PySem.W.Looks.here (s := { s with toks := s.toks + 1 }) (PySem.W.looks_clsIn X hc) ?_))))))
  rw [hd']
  refine wpAny_pure (a := some dx) (wpAny_bind (wpAny_pure (wpAny_bind ?_)))
  refine wpAny_nsSet1 (s := { s with toks := s.toks + 1 }) I.ns fun h' hn2 hs2 => ?_
  obtain ⟨oD, esD, epD, hoD, hdD, hcD⟩ := hn2.count (PySem.Within.cons name v hw)
  refine wpAny_bind (wpAny_lookBehind hoD (by rw [hdD]; exact pastItsLine_dict (Nat.le_trans hcD (by rw [List.length_cons]; omega))) ?_)
  exact wpAny_pure (h _ ⟨(hs2.2 _ (Ne.symm I.ne)).trans I.obj, hn2, I.ne⟩ hs2)

/-- C(..): the dict at the heap's end, the instance behind it; then its __init__ -/
theorem make_map {R : Result → Shared → Prop} {vs : List Value} {kw : List (Str × Value)} (X : K.In s.heap) (hm : PySem.W.makesIn K C = true)
    (hi : PySem.W.findIn K (.ref C) "__init__" = some (some (.ref f))) (hf : PySem.W.typeIn K (.ref f) = some (.type "function"))
    (h : codeAny (model prog w) (A.under (.builtin "type.__call__" ⟨.ref C :: vs, kw⟩)) (.call (.ref f) ⟨.ref (s.heap.objs.size + 1) :: vs, kw⟩) (PySem.W.InitBack (s.heap.objs.size + 1) R)
      { s with heap := (s.heap.push PySem.W.emptyDict).push (PySem.W.instObj C s.heap.objs.size) }) :
    codeAny (model prog w) A (.call (.ref C) ⟨vs, kw⟩) R s := by
  obtain ⟨hh, g, d, t, os⟩ := s
  exact PySem.W.make_core (PySem.W.makes_of X hm) (PySem.W.looks_findIn X hi) (fun self => PySem.W.bind_fn X self hf) (.inl rfl) h
end

/-! ### the attributes as a list of pairs -/
def putF (f : Str) (v : V) : List (Str × V) → List (Str × V)
  | [] => [(f, v)]
  | (g, x) :: r => if g = f then (g, v) :: r else (g, x) :: putF f v r
theorem lookup_putF (f g : Str) (v : V) : ∀ fs : List (Str × V), (putF f v fs).lookup g = if g = f then some v else fs.lookup g
  | [] => by
    show List.lookup g [(f, v)] = _
    by_cases h : g = f
    · have hb : (g == f) = true := beq_iff_eq.mpr h
      simp only [List.lookup, hb, if_pos h]
    · have hb : (g == f) = false := beq_eq_false_iff_ne.mpr h
      simp only [List.lookup, hb, if_neg h]
  | (k, x) :: r => by
    have ih := lookup_putF f g v r
    rw [show putF f v ((k, x) :: r) = (if k = f then (k, v) :: r else (k, x) :: putF f v r) from rfl]
    by_cases hk : k = f
    · rw [if_pos hk]
      by_cases h : g = k
      · have hb : (g == k) = true := beq_iff_eq.mpr h
        simp only [List.lookup, hb, if_pos (h.trans hk)]
      · have hb : (g == k) = false := beq_eq_false_iff_ne.mpr h
        simp only [List.lookup, hb, if_neg (fun e : g = f => h (e.trans hk.symm))]
    · rw [if_neg hk]
      by_cases h : g = k
      · have hb : (g == k) = true := beq_iff_eq.mpr h
        simp only [List.lookup, hb, if_neg (fun e : g = f => hk (h.symm.trans e))]
      · have hb : (g == k) = false := beq_eq_false_iff_ne.mpr h
        simp only [List.lookup, hb]
        exact ih
theorem keys_putF (f : Str) (v : V) : ∀ fs : List (Str × V), f ∈ (putF f v fs).map (·.1) ∧ ∀ g, g ∈ fs.map (·.1) → g ∈ (putF f v fs).map (·.1)
  | [] => ⟨by simp [putF], fun g h => by simp at h⟩
  | (k, x) :: r => by
    obtain ⟨i1, i2⟩ := keys_putF f v r
    rw [show putF f v ((k, x) :: r) = (if k = f then (k, v) :: r else (k, x) :: putF f v r) from rfl]
    by_cases hk : k = f
    · rw [if_pos hk]
      subst hk
      exact ⟨by simp, fun g h => by simpa using h⟩
    · rw [if_neg hk]
      refine ⟨?_, fun g h => ?_⟩
      · rw [List.map_cons]
        exact List.mem_cons_of_mem _ i1
      · rw [List.map_cons] at h ⊢
        rcases List.mem_cons.mp h with e | e
        · exact List.mem_cons.mpr (.inl e)
        · exact List.mem_cons_of_mem _ (i2 g e)
theorem length_putF (f : Str) (v : V) : ∀ fs : List (Str × V), (putF f v fs).length ≤ fs.length + 1
  | [] => by simp [putF]
  | (k, x) :: r => by
    have ih := length_putF f v r
    rw [show putF f v ((k, x) :: r) = (if k = f then (k, v) :: r else (k, x) :: putF f v r) from rfl]
    by_cases hk : k = f
    · rw [if_pos hk, List.length_cons, List.length_cons]; omega
    · rw [if_neg hk, List.length_cons, List.length_cons]; omega

theorem RelO.some_of {v : V} {o : Option Value} (r : RelO (some v) o) : ∃ u, o = some u ∧ RelV v u := by
  cases o with
  | none => exact (show False from r).elim
  | some u => exact ⟨u, rfl, r⟩
theorem RelO.none_of {o : Option Value} (r : RelO none o) : o = none := by
  cases o with
  | none => rfl
  | some u => exact (show False from r).elim
theorem handed_of {v : V} {u : Value} (r : RelV v u) : PySem.W.handedIn u = true := by
  cases v with
  | non => cases (show u = Value.none from r); rfl
  | bl b => cases (show u = Value.bool b from r); rfl
  | int i => obtain ⟨t, e⟩ := (show ∃ t, u = Value.int i t from r); cases e; rfl
  | str x => obtain ⟨t, e⟩ := (show ∃ t, u = Value.str x t from r); cases e; rfl
  | byt b => obtain ⟨t, e⟩ := (show ∃ t, u = Value.bytes b t from r); cases e; rfl
  | flt b => obtain ⟨t, e⟩ := (show ∃ t, u = Value.float b t from r); cases e; rfl
  | ref a => cases (show u = Value.ref a from r); rfl
  | ty n => cases (show u = Value.type n from r); rfl

section
variable {P : Program} {w : World} {H H' : Hp} {h h' : Heap} {a C dx : Addr} {fs fs' : List (Str × V)}
theorem ins_get (hok : HOk P w H h) (e : H a = some (.ins C dx fs)) : ∃ mA, ObjM h a dx C mA ∧ (∀ f, RelO (fs.lookup f) (mA f)) ∧ PySem.Within mA (fs.map (·.1)) ∧ fs.length ≤ 1000 ∧ H dx = some (.own a) := by
  obtain ⟨d, z, ne, ob, mA, n, r, q⟩ := (show ObjOk P w H h a (.ins C dx fs) from hok a _ e)
  exact ⟨mA, ⟨ob, n, ne⟩, r, q, z, d⟩
end

/-! ### what of the text a class must have -/
structure Cls (K : PySem.W.Frag) (C : Addr) : Prop where
  pg : PySem.W.plainGet K C Str.empty = true
  hd : PySem.W.hasDictIn K C = true
  po : PySem.W.plainOver K C = true
  sa : PySem.W.findIn K (.ref C) "__setattr__" = some (some (.builtin "object.__setattr__"))
theorem Cls.get {K : PySem.W.Frag} {C : Addr} (c : Cls K C) (f : Str) : PySem.W.plainGet K C f = true := c.pg
/-- no class of it has the name -/
def NoAttr (K : PySem.W.Frag) (C : Addr) (f : Str) : Prop := PySem.W.findIn K (.ref C) f = some none
theorem NoAttr.taker {K : PySem.W.Frag} {C : Addr} {f : Str} (n : NoAttr K C f) : PySem.W.takerIn K C f = some none := by
  unfold PySem.W.takerIn
  rw [show PySem.W.findIn K (.ref C) f = some none from n]
  rfl
/-- a constant of the class -/
structure Con (K : PySem.W.Frag) (C : Addr) (f : Str) (v : V) (u : Value) : Prop where
  at_ : PySem.W.findIn K (.ref C) f = some (some u)
  rel : RelV v u
  get : PySem.W.specialIn K u "__get__" = some none
  cp : PySem.W.copiedNames.contains f = false
/-- a method: a plain def of the class or of one above it -/
structure Meth (K : PySem.W.Frag) (C : Addr) (m : Str) (f : Addr) : Prop where
  at_ : PySem.W.findIn K (.ref C) m = some (some (.ref f))
  fn : PySem.W.isFn K (.ref f) = true
  kp : PySem.W.keepIn K (.ref f) = true

section
variable {X : Cx} {pins : List (Addr × Obj)} {σ : St} {H : Hp} {s : Shared} {a C dx : Addr} {fs : List (Str × V)} {f : Str} {v : V} {A : Around} {E : Value → Shared → Prop}

theorem getattr_ok {b : Bool} {Q : Value → Shared → Prop} (I : Inv X pins σ H s) (e : H a = some (.ins C dx fs)) (c : Cls X.K C) (n : NoAttr X.K C f) (l : fs.lookup f = some v)
    (h : ∀ u s', Inv X pins σ H s' → RelV v u → Q u s') : wpAny (model X.prog X.w) A (getAttr (.ref a) f b) Q E s := by
  obtain ⟨mA, O, r, _, _, _⟩ := ins_get I.hok e
  obtain ⟨u, hu, ru⟩ := RelO.some_of (v := v) (o := mA f) (by rw [← l]; exact r f)
  exact get_map I.kIn O (c.get f) c.hd n hu (handed_of ru) (h u _ (I.tok _) ru)


theorem getmeth_ok {m : Str} {g : Addr} {pl : Sem Bool} {Q : Value × List Value → Shared → Prop} (I : Inv X pins σ H s) (e : H a = some (.ins C dx fs)) (c : Cls X.K C) (k : Meth X.K C m g) (l : fs.lookup m = none)
    (h : Q (.ref g, [.ref a]) s) : wpAny (model X.prog X.w) A (getMethod (.ref a) m pl) Q E s := by
  obtain ⟨mA, O, r, _, _, _⟩ := ins_get I.hok e
  have hn : mA m = none := RelO.none_of (by rw [← l]; exact r m)
  exact get_meth I.kIn O (c.get m) k.at_ k.fn hn h

theorem setattr_ok {y : V} {u : Value} {Q : Unit → Shared → Prop} (I : Inv X pins σ H s) (e : H a = some (.ins C dx fs)) (c : Cls X.K C) (n : NoAttr X.K C f) (hl : fs.length < 1000) (ry : RelV y u)
    (h : ∀ s', Inv X pins σ (upd H a (.ins C dx (putF f y fs))) s' → Q () s') : wpAny (model X.prog X.w) A (setAttr (.ref a) f u) Q E s := by
  obtain ⟨mA, O, r, wi, _, ho⟩ := ins_get I.hok e
  have hz : (fs.map (·.1)).length ≤ sizeLine := by rw [List.length_map, sizeLine_eq]; omega
  refine set_map I.kIn O c.sa c.po n.taker c.hd wi hz fun h' O' sb => h _ ?_
  have hd : ∃ o, h'.get? dx = some o := let ⟨o, _, _, e', _⟩ := O'.ns; ⟨o, e'⟩
  refine I.write (x := a) (e := dx) (by rw [e]; exact True.intro) (.inr ho) (fun b q hb z => (sb.2 b hb).trans z) hd ?_
  refine ⟨by rw [upd_ne O.ne]; exact ho, ?_, O.ne, O'.obj, _, O'.ns, fun g => ?_, fun g hg => ?_⟩
  · have := length_putF f y fs; omega
  · show RelO ((putF f y fs).lookup g) (if g = f then some u else mA g)
    rw [lookup_putF]
    by_cases q : g = f
    · rw [if_pos q, if_pos q]; exact ry
    · rw [if_neg q, if_neg q]; exact r g
  · by_cases q : g = f
    · rw [q]; exact (keys_putF f y fs).1
    · refine (keys_putF f y fs).2 g (wi g fun z => hg ?_)
      show (if g = f then some u else mA g) = none
      rw [if_neg q]; exact z

/-- a new instance, tracked, without attributes -/
theorem Inv.made (I : Inv X pins σ H s) : Inv X pins σ (upd (upd H s.heap.objs.size (.own (s.heap.objs.size + 1))) (s.heap.objs.size + 1) (.ins C s.heap.objs.size []))
    { s with heap := (s.heap.push PySem.W.emptyDict).push (PySem.W.instObj C s.heap.objs.size) } := by
  have e1 : (s.heap.push PySem.W.emptyDict).get? s.heap.objs.size = some PySem.W.emptyDict := Heap.get?_push_size s.heap rfl
  have e2 : ((s.heap.push PySem.W.emptyDict).push (PySem.W.instObj C s.heap.objs.size)).get? (s.heap.objs.size + 1) = some (PySem.W.instObj C s.heap.objs.size) := by
    have := Heap.get?_push_size (s.heap.push PySem.W.emptyDict) (o := PySem.W.instObj C s.heap.objs.size) rfl
    rwa [Heap.size_push] at this
  have e3 : (s.heap.push PySem.W.emptyDict).Ns s.heap.objs.size (fun _ => none) := ⟨PySem.W.emptyDict, #[], _, e1, rfl, (fun e he => absurd he (by simp)), fun _ => rfl⟩
  have I1 := I.laid (a := s.heap.objs.size) (o := .own (s.heap.objs.size + 1)) (h' := s.heap.push PySem.W.emptyDict) (t' := s.toks) (fun b u q => Heap.get?_push_of_some _ q) (Nat.le_refl _) ⟨_, e1⟩
  refine I1.laid (a := s.heap.objs.size + 1) (o := .ins C s.heap.objs.size []) (t' := s.toks) (fun b u q => Heap.get?_push_of_some _ q) (Nat.le_of_eq (Heap.size_push _ _)) ?_
  have ne : s.heap.objs.size ≠ s.heap.objs.size + 1 := Nat.ne_of_lt (Nat.lt_succ_self _)
  refine ⟨by rw [upd_ne ne, upd_same], Nat.zero_le _, ne, e2, fun _ => none, (Heap.Ns1.of_empty e3).at fun o q => Heap.get?_push_of_some _ q, fun _ => True.intro, fun y hy => absurd rfl hy⟩

/-- e.f where nothing but the object is asked: through attributeBase (super) and the last hold -/
theorem attr_of {prog : Program} {w : World} {env : Env} {e : Expr} {f : Str} {pos : Pos} {s : Shared} {Q : Value → Shared → Prop} (hb : attributeBase e f env (eval e env) = eval e env)
    (h : wpAny (model prog w) A (eval e env) (fun o s₁ => wpAny (model prog w) A (getAttr o f true) Q E s₁) E s) : wpAny (model prog w) A (eval (.Attribute e f pos) env) Q E s :=
  Attribute_any_ h (by rw [arm_eval_Attribute, hb])
end

/-! ### readings and rules -/
/-- e.f, an attribute of the instance -/
def tFld (K : PySem.W.Frag) (ta : TE) (f : Str) : TE := fun σ H Q => ta σ H fun x H1 => ∃ a C dx fs v, x = .ref a ∧ H1 a = some (.ins C dx fs) ∧ Cls K C ∧ NoAttr K C f ∧ fs.lookup f = some v ∧ Q v H1
/-- e.f = value -/
def sFld (K : PySem.W.Frag) (ta tv : TE) (f : Str) : TS := fun D σ H => tv σ H fun y H1 => ta σ H1 fun x H2 => ∃ a C dx fs, x = .ref a ∧ H2 a = some (.ins C dx fs) ∧ Cls K C ∧ NoAttr K C f ∧ fs.length < 1000 ∧
  D.nx σ (upd H2 a (.ins C dx (putF f y fs)))
/-- an augmented operator on two values -/
def InOp (X : Cx) (op : Operator) (rd : V → V → Hp → VK → Prop) : Prop :=
  ∀ (pins : List (Addr × Obj)) (s : Shared) (σ : St) (H : Hp) (x y : V) (u v : Value) (Q : VK), Inv X pins σ H s → RelV x u → RelV y v → rd x y H Q → wpAny (model X.prog X.w) X.A (inplaceOp op u v) (EP X pins σ Q) X.xe s
/-- e.f op= value -/
def sFldAug (K : PySem.W.Frag) (ta tv : TE) (rd : V → V → Hp → VK → Prop) (f : Str) : TS := fun D σ H => ta σ H fun x H1 => ∃ a C dx fs v, x = .ref a ∧ H1 a = some (.ins C dx fs) ∧ Cls K C ∧ NoAttr K C f ∧ fs.lookup f = some v ∧
  tv σ H1 fun y H2 => rd v y H2 fun z H3 => ∃ dx' fs', H3 a = some (.ins C dx' fs') ∧ fs'.length < 1000 ∧ D.nx σ (upd H3 a (.ins C dx' (putF f z fs')))

section
variable {X : Cx} {o e value : Expr} {f : Str} {pos pos' tpos : Pos} {ta tv : TE}
theorem pe_fld (he : PE X e ta) (hb : attributeBase e f X.env (eval e X.env) = eval e X.env) : PE X (.Attribute e f pos) (tFld X.K ta f) := by
  intro pins s σ H Q I h
  refine attr_of hb (thn (he pins s σ H _ I h) fun u s1 ⟨x, H1, I1, rx, a, C, dx, fs, v, ex, ea, c, n, l, q⟩ => ?_)
  subst ex
  obtain rfl : u = Value.ref a := rx
  exact getattr_ok I1 ea c n l fun u' s2 I2 ru => ⟨v, H1, I2, ru, q⟩
theorem ps_fld (ha : PE X o ta) (hv : PE X value tv) (hs : swapsWith value (some (.Attribute o f pos')) pos.line X.env = pure false) : PS X (.Assign [.Attribute o f pos'] value pos) (sFld X.K ta tv f) := by
  intro pins s σ H D I h
  refine plainObj_wpAny_Assign_Attribute (thn (hv pins s σ H _ I h) fun u s1 ⟨y, H1, I1, ry, q⟩ => thn (ha pins s1 σ H1 _ I1 q) fun ov s2 ⟨x, H2, I2, rx, a, C, dx, fs, ex, ea, c, n, l, q2⟩ => ?_) hs
  subst ex
  obtain rfl : ov = Value.ref a := rx
  exact setattr_ok I2 ea c n l ry fun s3 I3 => ⟨σ, _, I3, q2⟩
theorem ps_fldaug {op : Operator} {rd : V → V → Hp → VK → Prop} (ha : PE X o ta) (hv : PE X value tv) (hop : InOp X op rd) : PS X (.AugAssign (.Attribute o f tpos) op value pos) (sFldAug X.K ta tv rd f) := by
  intro pins s σ H D I h
  refine wpAny_AugAssign_AttributeAny (thn (ha pins s σ H _ I h) fun ov s1 ⟨x, H1, I1, rx, a, C, dx, fs, v, ex, ea, c, n, l, q⟩ => ?_)
  subst ex
  obtain rfl : ov = Value.ref a := rx
  refine getattr_ok I1 ea c n l fun u s2 I2 ru => thn (hv pins s2 σ H1 _ I2 q) fun w3 s3 ⟨y, H2, I3, ry, q3⟩ => thn (hop pins s3 σ H2 v y u w3 _ I3 ru ry q3) fun w4 s4 ⟨z, H3, I4, rz, dx', fs', ea', l', q4⟩ => ?_
  exact setattr_ok I4 ea' c n l' rz fun s5 I5 => ⟨σ, _, I5, q4⟩
def rAdd : V → V → Hp → VK → Prop := fun x y H Q => ∃ i j, x = .int i ∧ y = .int j ∧ Q (.int (i + j)) H
theorem in_add : InOp X .Add rAdd := by
  rintro pins s σ H x y u v Q I rx ry ⟨i, j, rfl, rfl, q⟩
  obtain ⟨t, rfl⟩ := (show ∃ t, u = Value.int i t from rx)
  obtain ⟨t', rfl⟩ := (show ∃ t', v = Value.int j t' from ry)
  exact PyProof.Rows.iadd_int ⟨.int (i + j), H, I.tok _, ⟨_, rfl⟩, q⟩

/-- what is between an instance and its method: the tree of a method call -/
theorem methcall_of {pl : Sem Bool} {m : Str} {apos : Pos} {args : List Expr} {pins : List (Addr × Obj)} {s : Shared} {σ : St} {H : Hp} {Q : Value → Shared → Prop} {te : TE} (he : PE X e te) (I : Inv X pins σ H s)
    (h : te σ H fun x H1 => ∃ a C dx fs g, x = .ref a ∧ H1 a = some (.ins C dx fs) ∧ Cls X.K C ∧ Meth X.K C m g ∧ fs.lookup m = none ∧
      ∀ s1, Inv X pins σ H1 s1 → wpAny (model X.prog X.w) X.A (callWith pos (.ref g) [.ref a] (backTo pos (starEach args X.env)) (backToKw pos (keywordEach [] X.env))) Q X.xe s1)
    (ht : eval (.Call (.Attribute e m apos) args [] pos) X.env = (do
      let ov ← eval e X.env
      standAt apos.atName
      let (f, first) ← holding [ov] (getMethod ov m pl)
      callWith pos f first (backTo pos (starEach args X.env)) (backToKw pos (keywordEach [] X.env)))) :
    wpAny (model X.prog X.w) X.A (eval (.Call (.Attribute e m apos) args [] pos) X.env) Q X.xe s := by
  refine PySem.W.methodCall_KW (pl := pl) (thn (he pins s σ H _ I h) fun u s1 ⟨x, H1, I1, rx, a, C, dx, fs, g, ex, ea, c, k, l, q⟩ => ?_) ht
  subst ex
  obtain rfl : u = Value.ref a := rx
  exact getmeth_ok I1 ea c k l (q s1 I1)
end

/-! ### isinstance -/
section
variable {X : Cx} {pins : List (Addr × Obj)} {σ : St} {H : Hp} {s : Shared} {A : Around} {E : Value → Shared → Prop} {Q : Value → Shared → Prop} {c : Value} {b : Bool}
/-- the type of a value, as the fragment's deciders take it; for an instance its class -/
inductive TyOf (K : PySem.W.Frag) (H : Hp) : V → Value → Prop where
  | non : TyOf K H .non (.type "NoneType")
  | bl (x : Bool) : TyOf K H (.bl x) (.type "bool")
  | int (i : Int) : TyOf K H (.int i) (.type "int")
  | str (x : Str) : TyOf K H (.str x) (.type "str")
  | flt (x : UInt64) : TyOf K H (.flt x) (.type "float")
  | lst {a : Addr} {xs : List V} (e : H a = some (.lst xs)) : TyOf K H (.ref a) (.type "list")
  | frz {a : Addr} {o : Obj} {xs : List V} (e : H a = some (.frz o (.lst xs))) : TyOf K H (.ref a) (.type "list")
  | tup {a : Addr} {xs : List V} (e : H a = some (.tup xs)) : TyOf K H (.ref a) (.type "tuple")
  | dK {a : Addr} {kvs : List (Key × V)} (e : H a = some (.dK kvs)) : TyOf K H (.ref a) (.type "dict")
  | dT {a : Addr} {kvs : List (List Key × V)} (e : H a = some (.dT kvs)) : TyOf K H (.ref a) (.type "dict")
  | ins {a C dx : Addr} {fs : List (Str × V)} (e : H a = some (.ins C dx fs)) (cl : Cls K C) (ha : PySem.W.findIn K (.ref C) "__class__" = some (some (.builtin "object.__class__")))
      (hn : PySem.W.specialIn K (.builtin "object.__class__") "__get__" = some (some (.builtin "getset_descriptor.__get__"))) (htk : PySem.W.takesIn K (.builtin "object.__class__") = some true)
      (hm : PySem.W.mroIn K C (.type "object") = some true) : TyOf K H (.ref a) (.ref C)
/-- isinstance(x, c) for one class c, a built-in or an own one: kitOne's answer -/
theorem isinst_ok {x : V} {u t : Value} (I : Inv X pins σ H s) (rx : RelV x u) (ty : TyOf X.K H x t) (e : PySem.W.kitOne X.K t c = some b) (h : ∀ tk, Q (.bool b) { s with toks := tk }) :
    wpAny (model X.prog X.w) A (call (.builtin "isinstance") [u, c]) Q E s := by
  cases ty with
  | non => cases (show u = Value.none from rx); exact PySem.W.kia_one PySem.W.kitx_none I.kIn True.intro e (fun z => nomatch z) h
  | bl y => cases (show u = Value.bool y from rx); exact PySem.W.kia_one PySem.W.kitx_bool I.kIn True.intro e (fun z => nomatch z) h
  | int i => obtain ⟨t, q⟩ := (show ∃ t, u = Value.int i t from rx); cases q; exact PySem.W.kia_one PySem.W.kitx_int I.kIn True.intro e (fun z => nomatch z) h
  | str y => obtain ⟨t, q⟩ := (show ∃ t, u = Value.str y t from rx); cases q; exact PySem.W.kia_one PySem.W.kitx_str I.kIn True.intro e (fun z => nomatch z) h
  | flt y => obtain ⟨t, q⟩ := (show ∃ t, u = Value.float y t from rx); cases q; exact PySem.W.kia_one PySem.W.kitx_float I.kIn True.intro e (fun z => nomatch z) h
  | @lst a xs ea =>
    cases (show u = Value.ref a from rx)
    obtain ⟨_, _, n, _, h1⟩ := (show ObjOk X.prog X.w H s.heap a (.lst xs) from I.hok a _ ea)
    exact PySem.W.kia_one PySem.W.kitx_list I.kIn ⟨_, h1, rfl⟩ e (fun z => nomatch z) h
  | @frz a ob xs ea =>
    cases (show u = Value.ref a from rx)
    obtain ⟨_, _, _, n, _, h1⟩ := (show ObjOk X.prog X.w H s.heap a (.frz ob (.lst xs)) from I.hok a _ ea)
    exact PySem.W.kia_one PySem.W.kitx_list I.kIn ⟨_, h1, rfl⟩ e (fun z => nomatch z) h
  | @tup a xs ea =>
    cases (show u = Value.ref a from rx)
    obtain ⟨_, _, _, p, _⟩ := (show ObjOk X.prog X.w H s.heap a (.tup xs) from I.hok a _ ea)
    obtain ⟨o, h1, h2, _⟩ := p
    exact PySem.W.kia_one PySem.W.kitx_tuple I.kIn ⟨o, h1, h2⟩ e (fun z => nomatch z) h
  | @dK a kvs ea =>
    cases (show u = Value.ref a from rx)
    obtain ⟨_, _, vs, _, p⟩ := (show ObjOk X.prog X.w H s.heap a (.dK kvs) from I.hok a _ ea)
    obtain ⟨o, es, ep, h1, h2, _⟩ := p
    exact PySem.W.kia_one PySem.W.kitx_dict I.kIn ⟨o, h1, h2.1⟩ e (fun z => nomatch z) h
  | @dT a kvs ea =>
    cases (show u = Value.ref a from rx)
    obtain ⟨_, _, xs, _, o, es, ep, h1, h2, _⟩ := (show ObjOk X.prog X.w H s.heap a (.dT kvs) from I.hok a _ ea)
    exact PySem.W.kia_one PySem.W.kitx_dict I.kIn ⟨o, h1, h2.1⟩ e (fun z => nomatch z) h
  | @ins a C dx fs ea cl ha hn htk hm =>
    cases (show u = Value.ref a from rx)
    obtain ⟨mA, O, _⟩ := ins_get I.hok ea
    obtain ⟨od, J, _⟩ := O.look
    exact PySem.W.kia_one (PySem.W.kitx_own (cl.get _) cl.hd ha hn htk hm) I.kIn J e (fun z => nomatch z) h
end
end L2

namespace L2
open PySem PySem.Spec PyProof.Rows

/-! ### room -/
structure Room (k : Nat) (A : Around) : Prop where
  hd : A.handled = none
  dp : A.depth + 3 * k + 5 < recursionLimit
  un : A.units + 16 * k + 200 < cLine
  gd : A.guards = some []
theorem Room.mono {j k : Nat} {A : Around} (r : Room k A) (h : j ≤ k) : Room j A := ⟨r.hd, by have := r.dp; omega, by have := r.un; omega, r.gd⟩
theorem Room.deeper {k : Nat} {A : Around} (r : Room (k + 1) A) (env : Env) : Room k (A.deeper env) :=
  ⟨r.hd, by have := r.dp; show A.depth + 1 + 3 * k + 5 < _; omega, by have := r.un; show A.units + 3 + 16 * k + 200 < _; omega, r.gd⟩
theorem make_depth {A : Around} {C : Addr} {us : List Value} {kw : List (Str × Value)} : (A.under (.builtin "type.__call__" ⟨.ref C :: us, kw⟩)).depth = A.depth + 1 := by
  first | rfl | simp [Around.under, Code.weight, Code.isCreation, Code.isGuard, Code.isCaller, Code.frames, Code.isFrame, guardIds]
theorem make_units {A : Around} {C : Addr} {us : List Value} {kw : List (Str × Value)} : (A.under (.builtin "type.__call__" ⟨.ref C :: us, kw⟩)).units = A.units + 1 := by
  first | rfl | simp [Around.under, Code.cUnits, Code.frames, Code.isFrame]
theorem Room.make {k : Nat} {A : Around} (r : Room (k + 1) A) (C : Addr) (us : List Value) (kw : List (Str × Value)) : Room k (A.under (.builtin "type.__call__" ⟨.ref C :: us, kw⟩)) :=
  ⟨r.hd, by have := r.dp; rw [make_depth]; omega, by have := r.un; rw [make_units]; omega, (show (_ : Option _) = some [] from r.gd)⟩
theorem Room.depth {k : Nat} {A : Around} (r : Room k A) : A.depth < recursionLimit := by have := r.dp; omega
theorem Room.units {k : Nat} {A : Around} (r : Room k A) : A.units + 64 < cLine := by have := r.un; omega

/-! ### argument lists and displays -/
def tNil : TA := fun _ H Q => Q [] H
def tCons (ta : TE) (tr : TA) : TA := fun σ H Q => ta σ H fun x H1 => tr σ H1 fun xs H2 => Q (x :: xs) H2
section
variable {X : Cx} {e : Expr} {es : List Expr} {te : TE} {t : TA} {pos : Pos}
theorem pa_nil : PA X [] tNil := fun _ _ _ _ H Q I h => Calls.spliced_nil ⟨[], H, I, .nil, h⟩
theorem pa_cons (ha : PE X e te) (hr : PA X es t) (hs : starEach (e :: es) X.env = (false, eval e X.env) :: starEach es X.env := by rfl) : PA X (e :: es) (tCons te t) := by
  intro pos pins s σ H Q I h
  rw [hs]
  show wpAny _ _ (spliced ((false, eval e X.env) :: backTo pos (starEach es X.env))) _ _ s
  refine Calls.spliced_cons (thn (ha pins s σ H _ I h) fun u s1 ⟨x, H1, I1, r1, q1⟩ => ?_)
  exact thn (hr pos pins s1 σ H1 _ I1 q1) fun us s2 ⟨xs, H2, I2, r2, q2⟩ => ⟨x :: xs, H2, I2, .cons r1 r2, q2⟩

/-- a tuple, a list of written items -/
def tTup (t : TA) : TE := fun σ H Q => t σ H fun xs H1 => xs.length ≤ sizeLine ∧ ∀ p, H1 p = none → Q (.ref p) (upd H1 p (.tup xs))
def tLst (t : TA) : TE := fun σ H Q => t σ H fun xs H1 => xs.length ≤ sizeLine ∧ ∀ p, H1 p = none → Q (.ref p) (upd H1 p (.lst xs))
theorem pe_tup {x1} (h : PA X es t) : PE X (.Tuple es x1 pos) (tTup t) := by
  intro pins s σ H Q I hq
  refine wpAny_Tuple_spliced (thn (h pos pins s σ H _ I hq) fun us s1 ⟨xs, H1, I1, r, z, q⟩ => ⟨by rw [← r.length]; exact z, ?_⟩)
  have hf : H1 s1.heap.objs.size = none := I1.hok.fresh (Nat.le_refl _)
  refine ⟨.ref s1.heap.objs.size, upd H1 s1.heap.objs.size (.tup xs), I1.laid (t' := s1.toks) (fun b u e => Heap.get?_push_of_some _ e) (Nat.le_refl _) ?_, rfl, q _ hf⟩
  exact ⟨z, us, r, ⟨_, Heap.get?_push_size _ rfl, rfl, _, rfl⟩, NoDict.new rfl (Heap.get?_push_size _ rfl)⟩
theorem pe_lst (h : PA X es t) : PE X (.List es pos) (tLst t) := by
  intro pins s σ H Q I hq
  refine wpAny_List_spliced (thn (h pos pins s σ H _ I hq) fun us s1 ⟨xs, H1, I1, r, z, q⟩ => ⟨by rw [← r.length]; exact z, ?_⟩)
  have hf : H1 s1.heap.objs.size = none := I1.hok.fresh (Nat.le_refl _)
  refine ⟨.ref s1.heap.objs.size, upd H1 s1.heap.objs.size (.lst xs), I1.laid (t' := s1.toks) (fun b u e => Heap.get?_push_of_some _ e) (Nat.le_refl _) ?_, rfl, q _ hf⟩
  exact ⟨z, us, 0, r, Heap.get?_push_size _ rfl⟩
end

/-! ### what a def promises -/
/-- a def's promise: the bound arguments in the parameters' order, the heap, the wanted end, the wanted exception -/
abbrev Sp := List V → Hp → VK → XK → Prop
/-- how an exception lies behind a call (file 08 gives it): the callers' frames, abstract heap and state ahead of the call, the wish, the exception, the state -/
abbrev CXT := List Env → Hp → Shared → XK → Value → Shared → Prop

/-- the state at a call -/
structure Env0 (P : Program) (w : World) (K : PySem.W.Frag) (mg : Str → Option Value) (base : Heap) (A : Around) (outer : List Env) (s : Shared) (H : Hp) : Prop where
  frames : A.frames = some outer
  mod : Mod K mg base
  bs : ∀ b o, base.get? b = some o → s.heap.get? b = some o ∧ H b = none
  bsz : base.objs.size ≤ s.heap.objs.size
  funs : s.heap.FunFrames base outer
  frf : ∀ b ∈ frs outer, H b = none
  hok : HOk P w H s.heap
  bare : AllBare s.gens
/-- a call's end -/
def CE (outer : List Env) (P : Program) (w : World) (H : Hp) (s : Shared) (Q : VK) (u : Value) (s' : Shared) : Prop :=
  ∃ v H', s'.os = s.os ∧ AllBare s'.gens ∧ Un (frs outer) [] H H' s.heap s'.heap ∧ HOk P w H' s'.heap ∧ RelV v u ∧ Q v H'
def CR (CX : CXT) (outer : List Env) (P : Program) (w : World) (H : Hp) (s : Shared) (Q : VK) (E : XK) (r : Result) (s' : Shared) : Prop :=
  match r with
  | .ok (.ret u) => CE outer P w H s Q u s'
  | .ok _ => False
  | .error e => CX outer H s E e s'
structure FnOk (P : Program) (w : World) (K : PySem.W.Frag) (mg : Str → Option Value) (base : Heap) (CX : CXT) (k : Nat) (f : Addr) (fd : FuncData) (ps : List Str) (sp : Sp) : Prop where
  len : ∀ vs H Q E, sp vs H Q E → vs.length = ps.length
  run : ∀ (A : Around) (outer : List Env) (s : Shared) (H : Hp) (args : Args) (us : List Value) (vs : List V) (Q : VK) (E : XK), Room k A → Env0 P w K mg base A outer s H → BindsTo s fd args (ps.zip us) → Vals vs us → sp vs H Q E →
    codeAny (model P w) A (.call (.ref f) args) (CR CX outer P w H s Q E) s

theorem Env0.make {P : Program} {w : World} {K : PySem.W.Frag} {mg : Str → Option Value} {base : Heap} {A : Around} {outer : List Env} {s : Shared} {H : Hp} (e : Env0 P w K mg base A outer s H) (C : Addr) (us : List Value) (kw : List (Str × Value)) :
    Env0 P w K mg base (A.under (.builtin "type.__call__" ⟨.ref C :: us, kw⟩)) outer s H := ⟨by first | exact e.frames | (simpa [Around.under, Code.envs, Code.isFrame, pushEnvs] using e.frames), e.mod, e.bs, e.bsz, e.funs, e.frf, e.hok, e.bare⟩

section
variable {X : Cx} {pins : List (Addr × Obj)} {σ : St} {H : Hp} {s s' : Shared}
/-- from a body: what a callee wants -/
theorem Inv.env0 (I : Inv X pins σ H s) : Env0 X.prog X.w X.K X.mg X.base X.A X.stack s H :=
  ⟨I.ok.frames, I.ok.mod, I.bs, Nat.le_trans I.ok.bsz I.sz, I.stack, I.stkFree, I.hok, I.bare⟩
/-- behind a call -/
theorem Inv.after {Q : VK} {u : Value} (I : Inv X pins σ H s) (h : CE X.stack X.prog X.w H s Q u s') : EP X pins σ Q u s' := by
  obtain ⟨v, H', os, bare, un, hok, r, q⟩ := h
  obtain ⟨hh, g, d, t, os'⟩ := s'
  obtain rfl : os' = s.os := os
  exact ⟨v, H', I.call (h' := hh) (g' := g) (d' := d) (t' := t) (ch := []) un hok bare (fun b z => absurd z (by simp)), r, q⟩
end

/-! ### calls -/
/-- f(..): the written arguments, then the defaults dvs; E: what is wanted of an exception -/
def tCall (sp : Sp) (dvs : List V) (E : XK) (t : TA) : TE := fun σ H Q => t σ H fun vs H1 => sp (vs ++ dvs) H1 Q E
/-- o.m(..) of an instance of the class at C -/
def tMeth (C : Addr) (m : Str) (sp : Sp) (dvs : List V) (E : XK) (ta : TE) (t : TA) : TE := fun σ H Q => ta σ H fun x H1 => ∃ a dx fs, x = .ref a ∧ H1 a = some (.ins C dx fs) ∧ fs.lookup m = none ∧
  t σ H1 fun vs H2 => sp (x :: (vs ++ dvs)) H2 Q E
/-- C(..): a new instance and its dict, then __init__ -/
def tMake (C : Addr) (sp : Sp) (dvs : List V) (E : XK) (t : TA) : TE := fun σ H Q => t σ H fun vs H1 => ∀ x dx, H1 x = none → H1 dx = none → dx ≠ x →
  sp (.ref x :: (vs ++ dvs)) (upd (upd H1 dx (.own x)) x (.ins C dx [])) (fun v H2 => v = .non ∧ Q (.ref x) H2) E

/-- how the parameters are bound: us the positional arguments, kw the keywords' values by name, ds the defaults that fill up -/
def Binds (K : PySem.W.Frag) (fd : FuncData) (ps : List Str) (ds : List Value) : Prop :=
  ∀ (s : Shared) (us : List Value), K.In s.heap → (us ++ ds).length = ps.length → BindsTo s fd ⟨us, []⟩ (ps.zip (us ++ ds))
/-- every parameter is given -/
theorem Binds.all {K : PySem.W.Frag} {fd : FuncData} {ps : List Str} (h : ∀ us : List Value, us.length = ps.length → bindArgs fd ⟨us, []⟩ = pure (ps.zip us)) : Binds K fd ps [] := fun s us _ hl => by
  rw [List.append_nil] at hl ⊢
  exact .of_eq (h us hl)

/-- an exception of a callee reaches what this body wants of exceptions -/
def Passes (CX : CXT) (X : Cx) (E : XK) : Prop := ∀ (pins : List (Addr × Obj)) (σ : St) (H : Hp) (s : Shared) (e : Value) (s' : Shared), Inv X pins σ H s → CX X.stack H s E e s' → X.xe e s'

section
variable {X : Cx} {CX : CXT} {k : Nat} {f C : Addr} {fd : FuncData} {ps : List Str} {sp : Sp} {dvs : List V} {ds : List Value} {E : XK} {x m : Str} {p pos apos : Pos} {e o : Expr} {es : List Expr} {ta : TE} {t : TA}

/-- the callee runs -/
theorem run_fn {pins : List (Addr × Obj)} {σ : St} {H : Hp} {s : Shared} {Q : VK} {us : List Value} {vs : List V} (F : FnOk X.prog X.w X.K X.mg X.base CX k f fd ps sp) (hr : Room k X.A) (hb : Binds X.K fd ps ds) (hd : Vals dvs ds) (hx : Passes CX X E)
    (I : Inv X pins σ H s) (r : Vals vs us) (h : sp (vs ++ dvs) H Q E) : wpAny (model X.prog X.w) X.A (call (.ref f) us) (EP X pins σ Q) X.xe s := by
  have r2 : Vals (vs ++ dvs) (us ++ ds) := r.append hd
  have hl : (us ++ ds).length = ps.length := by rw [← r2.length]; exact F.len _ _ _ _ h
  refine wpAny_call (codeAny_mono (F.run X.A X.stack s H ⟨us, []⟩ (us ++ ds) (vs ++ dvs) Q E hr I.env0 (hb s us I.kIn hl) r2 h) fun r s' hq => ?_)
  cases r with
  | error e => exact hx pins σ H s e s' I hq
  | ok fl =>
    cases fl with
    | ret u => exact I.after hq
    | next => exact False.elim hq
    | brk => exact False.elim hq
    | cont => exact False.elim hq

theorem pe_call (F : FnOk X.prog X.w X.K X.mg X.base CX k f fd ps sp) (hr : Room k X.A) (hg : Gl X x) (hm : X.mg x = some (.ref f)) (hk : PySem.W.keepIn X.K (.ref f) = true) (hb : Binds X.K fd ps ds) (hd : Vals dvs ds) (hx : Passes CX X E)
    (ha : PA X (e :: es) t) (hdb : (x == ("__debug__" : Str)) = false := by decide) (he : starEach (e :: es) X.env = (false, eval e X.env) :: starEach es X.env := by rfl) (hpl : (backTo pos (starEach es X.env)).any (·.1) = false := by rfl) :
    PE X (.Call (.Name x p) (e :: es) [] pos) (tCall sp dvs E t) := by
  intro pins s σ H Q I h
  refine wpAny_Call_Name_kw (ld_glob I hg hm ?_ hdb)
  refine PySem.W.callWith_K (h₀ := X.base) I.ok.mod.kin hk (thn (ha pos pins s σ H _ I h) fun us s1 ⟨vs, H1, I1, r, q⟩ => ⟨I1.kIn, ?_⟩) he hpl
  exact run_fn F hr hb hd hx I1 r q

/-- o.m(e, ..) -/
theorem pe_meth {pl : Sem Bool} (he : PE X o ta) (c : Cls X.K C) (hm : Meth X.K C m f) (F : FnOk X.prog X.w X.K X.mg X.base CX k f fd ps sp) (hr : Room k X.A) (hb : Binds X.K fd ps ds) (hd : Vals dvs ds) (hx : Passes CX X E) (ha : PA X (e :: es) t)
    (hst : starEach (e :: es) X.env = (false, eval e X.env) :: starEach es X.env := by rfl) (hpl : (backTo pos (starEach es X.env)).any (·.1) = false := by rfl)
    (ht : eval (.Call (.Attribute o m apos) (e :: es) [] pos) X.env = (do
      let ov ← eval o X.env
      standAt apos.atName
      let (f, first) ← holding [ov] (getMethod ov m pl)
      callWith pos f first (backTo pos (starEach (e :: es) X.env)) (backToKw pos (keywordEach [] X.env))) := by rfl) :
    PE X (.Call (.Attribute o m apos) (e :: es) [] pos) (tMeth C m sp dvs E ta t) := by
  intro pins s σ H Q I h
  refine PySem.W.methodCall_KW (pl := pl) (thn (he pins s σ H _ I h) fun u s1 ⟨x, H1, I1, rx, a, dx, fs, ex, ea, l, q⟩ => ?_) ht
  subst ex
  obtain rfl : u = Value.ref a := rx
  refine getmeth_ok I1 ea c hm l ?_
  refine PySem.W.callWith_K (first := [.ref a]) (h₀ := X.base) I.ok.mod.kin hm.kp (thn (ha pos pins s1 σ H1 _ I1 q) fun us s2 ⟨vs, H2, I2, r, q2⟩ => ⟨I2.kIn, ?_⟩) hst hpl
  exact run_fn (us := .ref a :: us) (vs := .ref a :: vs) F hr hb hd hx I2 (.cons rfl r) q2
/-- o.m() -/
theorem pe_meth0 {pl : Sem Bool} (he : PE X o ta) (c : Cls X.K C) (hm : Meth X.K C m f) (F : FnOk X.prog X.w X.K X.mg X.base CX k f fd ps sp) (hr : Room k X.A) (hb : Binds X.K fd ps ds) (hd : Vals dvs ds) (hx : Passes CX X E)
    (ht : eval (.Call (.Attribute o m apos) [] [] pos) X.env = (do
      let ov ← eval o X.env
      standAt apos.atName
      let (f, first) ← holding [ov] (getMethod ov m pl)
      callWith pos f first (backTo pos (starEach [] X.env)) (backToKw pos (keywordEach [] X.env))) := by rfl) :
    PE X (.Call (.Attribute o m apos) [] [] pos) (tMeth C m sp dvs E ta tNil) := by
  intro pins s σ H Q I h
  refine PySem.W.methodCall_KW (pl := pl) (thn (he pins s σ H _ I h) fun u s1 ⟨x, H1, I1, rx, a, dx, fs, ex, ea, l, q⟩ => ?_) ht
  subst ex
  obtain rfl : u = Value.ref a := rx
  refine getmeth_ok I1 ea c hm l ?_
  exact PySem.W.callWith_K0 (first := [.ref a]) I1.kIn hm.kp (run_fn (us := [.ref a]) (vs := [.ref a]) F hr hb hd hx I1 (.cons rfl .nil) q)

/-- what a class must have to be made -/
structure Mk (K : PySem.W.Frag) (C f : Addr) : Prop where
  makes : PySem.W.makesIn K C = true
  init : PySem.W.findIn K (.ref C) "__init__" = some (some (.ref f))
  fn : PySem.W.isFn K (.ref f) = true
  kp : PySem.W.keepIn K (.ref C) = true

theorem run_make {pins : List (Addr × Obj)} {σ : St} {H : Hp} {s : Shared} {Q : VK} {us : List Value} {vs : List V} (M : Mk X.K C f) (F : FnOk X.prog X.w X.K X.mg X.base CX k f fd ps sp) (hr : Room (k + 1) X.A) (hb : Binds X.K fd ps ds) (hd : Vals dvs ds)
    (hx : Passes CX X E) (I : Inv X pins σ H s) (r : Vals vs us)
    (h : ∀ x dx, H x = none → H dx = none → dx ≠ x → sp (.ref x :: (vs ++ dvs)) (upd (upd H dx (.own x)) x (.ins C dx [])) (fun v H2 => v = .non ∧ Q (.ref x) H2) E) :
    wpAny (model X.prog X.w) X.A (call (.ref C) us) (EP X pins σ Q) X.xe s := by
  have hq := h (s.heap.objs.size + 1) s.heap.objs.size (I.hok.fresh (Nat.le_succ _)) (I.hok.fresh (Nat.le_refl _)) (Nat.ne_of_lt (Nat.lt_succ_self _))
  have I2 := Inv.made (C := C) I
  have r2 : Vals (V.ref (s.heap.objs.size + 1) :: (vs ++ dvs)) (Value.ref (s.heap.objs.size + 1) :: (us ++ ds)) := .cons rfl (r.append hd)
  have hl : (Value.ref (s.heap.objs.size + 1) :: us ++ ds).length = ps.length := by
    have e := r2.length
    rw [F.len _ _ _ _ hq] at e
    exact e.symm
  refine wpAny_call (make_map (f := f) I.kIn M.makes M.init (beq_iff_eq.mp M.fn) (codeAny_mono (F.run _ X.stack _ _ ⟨Value.ref (s.heap.objs.size + 1) :: us, []⟩ (Value.ref (s.heap.objs.size + 1) :: (us ++ ds)) _ _ E (hr.make C us [])
    (I2.env0.make C us []) (hb _ (Value.ref (s.heap.objs.size + 1) :: us) I2.kIn hl) r2 hq) fun r s' hq' => ?_))
  cases r with
  | error e => exact hx pins σ _ _ e s' I2 hq'
  | ok fl =>
    cases fl with
    | ret u =>
      obtain ⟨v, H', I3, rv, ev, q3⟩ := I2.after hq'
      subst ev
      exact ⟨rv, ⟨V.ref (s.heap.objs.size + 1), H', I3, rfl, q3⟩⟩
    | next => exact False.elim hq'
    | brk => exact False.elim hq'
    | cont => exact False.elim hq'
theorem pe_make (M : Mk X.K C f) (F : FnOk X.prog X.w X.K X.mg X.base CX k f fd ps sp) (hr : Room (k + 1) X.A) (hg : Gl X x) (hm : X.mg x = some (.ref C)) (hb : Binds X.K fd ps ds) (hd : Vals dvs ds) (hx : Passes CX X E)
    (ha : PA X (e :: es) t) (hdb : (x == ("__debug__" : Str)) = false := by decide) (he : starEach (e :: es) X.env = (false, eval e X.env) :: starEach es X.env := by rfl) (hpl : (backTo pos (starEach es X.env)).any (·.1) = false := by rfl) :
    PE X (.Call (.Name x p) (e :: es) [] pos) (tMake C sp dvs E t) := by
  intro pins s σ H Q I h
  refine wpAny_Call_Name_kw (ld_glob I hg hm ?_ hdb)
  refine PySem.W.callWith_K (h₀ := X.base) I.ok.mod.kin M.kp (thn (ha pos pins s σ H _ I h) fun us s1 ⟨vs, H1, I1, r, q⟩ => ⟨I1.kIn, ?_⟩) he hpl
  exact run_make M F hr hb hd hx I1 r q
end

/-! ### keywords -/
section
variable {X : Cx} {CX : CXT} {k : Nat} {f C : Addr} {fd : FuncData} {ps ks : List Str} {sp : Sp} {E : XK} {x m : Str} {p pos apos kpos : Pos} {e o : Expr} {es : List Expr} {kws : List Keyword} {te ta : TE} {t tk : TA} {nm : Option Str}

/-- how a call with keywords binds: g puts the positional values us and the keywords' values ws (names ks) in the parameters' order, defaults among them -/
structure KBinds (K : PySem.W.Frag) (fd : FuncData) (ps ks : List Str) (g : List Value → List Value → List Value) (gV : List V → List V → List V) : Prop where
  to : ∀ (s : Shared) (us ws : List Value), K.In s.heap → (g us ws).length = ps.length → BindsTo s fd ⟨us, ks.zip ws⟩ (ps.zip (g us ws))
  rel : ∀ {vs : List V} {us : List Value} {zs : List V} {ws : List Value}, Vals vs us → Vals zs ws → Vals (gV vs zs) (g us ws)
variable {g : List Value → List Value → List Value} {gV : List V → List V → List V}
end

/-! ### a def's body keeps its promise -/
/-- names: the parameters first -/
structure FnScope (N P : List Str) (sc : Scope) : Prop where
  kind : sc.kind = .function
  co : sc.isCoroutine = false
  gen : sc.isGenerator = false
  nd : N.Nodup
  pre : N.take P.length = P
  par : ∀ x ∈ P, sc.names.lookup x = some .local ∨ sc.names.lookup x = some .cell
  nofree : ∀ y ∈ sc.names, y.2 ≠ .free

theorem bindL_out {kindOf : Str → Option NameKind} {x : Str} : ∀ {binds : List (Str × Value)} {m : Str → Option Value}, (∀ v, (x, v) ∉ binds) → bindL kindOf binds m x = m x
  | [], _, _ => rfl
  | (n, v) :: r, m, h => by
    unfold bindL
    rw [bindL_out fun w hw => h w (List.mem_cons_of_mem _ hw)]
    split
    · have : x ≠ n := by rintro rfl; exact h v List.mem_cons_self
      simp [this]
    · rfl
theorem bindC_out {kindOf : Str → Option NameKind} {x : Str} : ∀ {binds : List (Str × Value)} {m : Str → Option Value}, (∀ v, (x, v) ∉ binds) → bindC kindOf binds m x = m x
  | [], _, _ => rfl
  | (n, v) :: r, m, h => by
    unfold bindC
    rw [bindC_out fun w hw => h w (List.mem_cons_of_mem _ hw)]
    split
    · rfl
    · have : x ≠ n := by rintro rfl; exact h v List.mem_cons_self
      simp [this]
theorem bindL_get {kindOf : Str → Option NameKind} {x : Str} {v : Value} : ∀ {P : List Str} {vs : List Value} {i : Nat} {m : Str → Option Value}, P.Nodup → P[i]? = some x → vs[i]? = some v → kindOf x = some .local →
    bindL kindOf (P.zip vs) m x = some v
  | [], _, _, _, _, h, _, _ => by simp at h
  | _ :: _, [], _, _, _, _, h, _ => by simp at h
  | p :: P, w :: vs, 0, m, nd, h1, h2, hk => by
    simp at h1 h2; subst h1; subst h2
    show bindL kindOf ((p, w) :: P.zip vs) m p = _
    unfold bindL
    rw [bindL_out fun v hv => (List.nodup_cons.mp nd).1 (List.of_mem_zip hv).1, if_pos hk]
    simp
  | p :: P, w :: vs, i + 1, m, nd, h1, h2, hk => by
    show bindL kindOf ((p, w) :: P.zip vs) m x = _
    unfold bindL
    exact bindL_get (i := i) (List.nodup_cons.mp nd).2 (by simpa using h1) (by simpa using h2) hk
theorem bindC_get {kindOf : Str → Option NameKind} {x : Str} {v : Value} : ∀ {P : List Str} {vs : List Value} {i : Nat} {m : Str → Option Value}, P.Nodup → P[i]? = some x → vs[i]? = some v → kindOf x ≠ some .local →
    bindC kindOf (P.zip vs) m x = some v
  | [], _, _, _, _, h, _, _ => by simp at h
  | _ :: _, [], _, _, _, _, h, _ => by simp at h
  | p :: P, w :: vs, 0, m, nd, h1, h2, hk => by
    simp at h1 h2; subst h1; subst h2
    show bindC kindOf ((p, w) :: P.zip vs) m p = _
    unfold bindC
    rw [bindC_out fun v hv => (List.nodup_cons.mp nd).1 (List.of_mem_zip hv).1, if_neg hk]
    simp
  | p :: P, w :: vs, i + 1, m, nd, h1, h2, hk => by
    show bindC kindOf ((p, w) :: P.zip vs) m x = _
    unfold bindC
    exact bindC_get (i := i) (List.nodup_cons.mp nd).2 (by simpa using h1) (by simpa using h2) hk

/-- the names' values at the entry -/
def start (N : List Str) (vs : List V) : St := vs.map some ++ List.replicate (N.length - vs.length) none

/-- the context of a def's body, at its entry; an exception leaves the frame, then lies as CX says -/
def cxOf (CX : CXT) (P : Program) (w : World) (K : PySem.W.Frag) (mg : Str → Option Value) (base : Heap) (N : List Str) (qual : Str) (scope : Scope) (f : Addr) (cd : Value) (A : Around) (outer : List Env) (s : Shared) (H : Hp) (E : XK) : Cx where
  prog := P
  w := w
  K := K
  mg := mg
  base := base
  A := A.deeper (envOfC qual scope s.heap.objs.size f cd)
  N := N
  s₀ := s
  H₀ := H
  env := envOfC qual scope s.heap.objs.size f cd
  outer := outer
  stack := envOfC qual scope s.heap.objs.size f cd :: outer
  ex := []
  calm := true
  fn := fun _ => true
  pn := []
  xe := fun e s' => wpAny (model P w) (A.deeper (envOfC qual scope s.heap.objs.size f cd)) (leaving (envOfC qual scope s.heap.objs.size f cd) e) (fun _ s'' => CX outer H s E e s'') (fun e' s'' => CX outer H s E e' s'') s'

theorem cell_has {sc : Scope} {n : Nat} {x : Str} (h : sc.names.lookup x = some .cell) : ∃ c, (cellsFrom n sc.names []).lookup x = some c := by
  have q := PySem.W.cellsFrom_some sc.names n [] (.inl h)
  exact Option.isSome_iff_exists.mp q

theorem inv_start {CX : CXT} {P : Program} {w : World} {K : PySem.W.Frag} {mg : Str → Option Value} {base : Heap} {N ps : List Str} {qual : Str} {scope : Scope} {f : Addr} {cd : Value} {A : Around} {outer : List Env} {s s1 : Shared} {H : Hp} {E : XK} {us : List Value} {vs : List V}
    (S : FnScope N ps scope) (hd : A.handled = none) (e0 : Env0 P w K mg base A outer s H) (hl : vs.length = ps.length) (r : Vals vs us)
    (x : InCallC s s.heap.objs.size (bindL (envOfC qual scope s.heap.objs.size f cd).kindOf (ps.zip us) fun _ => none) (cellsFrom (s.heap.objs.size + 1) scope.names []) (bindC (envOfC qual scope s.heap.objs.size f cd).kindOf (ps.zip us) fun _ => none) s1) :
    Inv (cxOf CX P w K mg base N qual scope f cd A outer s H E) [] (start N vs) H s1 := by
  have hpl : ps.length ≤ N.length := by have := congrArg List.length S.pre; rw [List.length_take] at this; omega
  obtain ⟨h1, tk, rfl, hk⟩ := x.done
  have noA : ∀ b : Addr, b ∉ (cxOf CX P w K mg base N qual scope f cd A outer s H E).ex := fun b z => absurd (show b ∈ ([] : List Addr) from z) (by simp)
  refine ⟨⟨e0.mod, S.kind, rfl, rfl, Nat.le_refl _, fun y z c h1 h2 => ?_, fun y hy => ?_, fun y c _ h => ?_, fun _ => hd, Around.frames_deeper e0.frames, .inr ⟨rfl, rfl⟩, fun b z => absurd z (noA b), e0.bs, e0.bsz, fun b _ _ => noA b, fun b z => absurd z (noA b), e0.funs, e0.frf⟩,
    rfl, e0.bare, Un.kept hk, ⟨_, x.toInCall.ns, fun i y v h1 h2 h3 => ?_⟩, fun y c h => ⟨_, x.cell y c h⟩, e0.hok.fresh (Nat.le_refl _), fun y c h => ?_, fun p hp => absurd (show p ∈ ([] : List (Addr × Obj)) from hp) (by simp), e0.hok.kept hk, ?_⟩
  · exact name_of_addr x.apart (PySem.mem_of_lookup h1) (PySem.mem_of_lookup h2)
  · have hy : scope.names.lookup y = some .cell ∨ scope.names.lookup y = some .free := hy
    rcases hy with hy | hy
    · exact cell_has hy
    · exact absurd rfl (S.nofree _ (PySem.mem_of_lookup hy))
  · exact Nat.le_of_lt (x.above y c (PySem.mem_of_lookup h))
  · have hi : i < vs.length := by
      unfold start at h2
      by_cases hi : i < vs.length
      · exact hi
      · rw [List.getElem?_append_right (by simpa using hi)] at h2
        rw [List.getElem?_replicate] at h2
        split at h2 <;> cases h2
    have ha : vs[i]? = some v := by
      unfold start at h2
      rw [List.getElem?_append_left (by simpa using hi), List.getElem?_map] at h2
      cases e : vs[i]? with
      | none => rw [e] at h2; cases h2
      | some a => rw [e] at h2; cases h2; rfl
    obtain ⟨u, hu, rv⟩ := r.get ha
    have hp : ps[i]? = some y := by
      rw [← S.pre, List.getElem?_take_of_lt (by omega)]; exact h1
    have ndP : ps.Nodup := by rw [← S.pre]; exact S.nd.sublist (List.take_sublist _ _)
    refine ⟨u, rv, ?_⟩
    rcases S.par y (List.mem_of_getElem? hp) with k | k
    · exact .inl ⟨k, bindL_get ndP hp hu k⟩
    · obtain ⟨c, e⟩ := cell_has (n := s.heap.objs.size + 1) k
      refine .inr ⟨.inl k, c, e, ?_⟩
      have q := x.cell y c e
      rw [bindC_get ndP hp hu (by show scope.names.lookup y ≠ _; rw [k]; decide)] at q
      exact q
  · exact e0.hok.fresh (Nat.le_of_lt (x.above y c (PySem.mem_of_lookup h)))
  · unfold start
    show _ = N.length
    rw [List.length_append, List.length_map, List.length_replicate]
    omega

/-- THE RULE: a def (or a method) of the text, by its body. The body's reading t is chosen for each entry; it is run at the parameters' values -/
theorem fn_of {CX : CXT} {P : Program} {w : World} {K : PySem.W.Frag} {mg : Str → Option Value} {base : Heap} {k : Nat} {f : Addr} {name qual : Str} {params : Arguments} {body : List Stmt} {scope : Scope} {dV kV doc pm cdv ct oc : Value} {an od : Option Addr}
    {osl : Array (Option Value)} {N ps : List Str} {sp : Sp} (lk : K.lookup f = some ⟨oc, od, .func (PySem.W.fnOf name qual params body scope dV kV doc pm an cdv ct), osl⟩) (hcd : PySem.W.codeIn K cdv qual = true) (S : FnScope N ps scope)
    (len : ∀ vs H Q E, sp vs H Q E → vs.length = ps.length)
    (hbody : ∀ (A : Around) (outer : List Env) (s : Shared) (H : Hp) (vs : List V) (Q : VK) (E : XK), Room k (A.deeper (envOfC qual scope s.heap.objs.size f cdv)) → sp vs H Q E →
      ∃ t, PSs (cxOf CX P w K mg base N qual scope f cdv A outer s H E) body t ∧ t { nx := fun _ H' => Q .non H', rt := Q } (start N vs) H) :
    FnOk P w K mg base CX (k + 1) f (PySem.W.fnOf name qual params body scope dV kV doc pm an cdv ct) ps sp := by
  refine ⟨len, fun A outer s H args us vs Q E hr e0 hb r hsp => ?_⟩
  have hl := len _ _ _ _ hsp
  have KX : K.In s.heap := e0.mod.kin.keeps fun b o e => (e0.bs b o e).1
  have lim : s.heap.NoLimit := e0.mod.nolimit.keeps fun b o e => (e0.bs b o e).1
  have hkind : ∀ y ∈ ps.zip us, scope.names.lookup y.1 = some .local ∨ (scope.names.lookup y.1 = some .cell ∧ ((cellsFrom (s.heap.objs.size + 1) scope.names []).lookup y.1).isSome = true) := fun ⟨n, v⟩ hy => by
    rcases S.par n (List.of_mem_zip hy).1 with q | q
    · exact .inl q
    · exact .inr ⟨q, PySem.W.cellsFrom_some _ _ _ (.inl q)⟩
  refine codeAny_call_function hr.depth (KX _ _ lk) rfl S.co S.gen rfl (PySem.W.codeRec_of KX hcd) (hb _ _ _ _ ?_)
  refine wpAny_newFunctionEnv_cells S.kind hkind fun env he s1 x => ?_
  subst he
  refine ⟨lim.keeps x.toInCall.keep, codeAny_func ?_⟩
  obtain ⟨t, ht, hq⟩ := hbody A outer s H vs Q E (hr.deeper _) hsp
  have I : Inv (cxOf CX P w K mg base N qual scope f cdv A outer s H E) [] (start N vs) H s1 := inv_start S hr.hd e0 hl r x
  refine wpAny_mono (ht [] s1 (start N vs) H _ I hq) (fun fl s' hs => ?_) fun e s' hs => hs
  have fin : ∀ {σ' : St} {H' : Hp} {v : V} {u : Value}, Inv (cxOf CX P w K mg base N qual scope f cdv A outer s H E) [] σ' H' s' → RelV v u → Q v H' → CE outer P w H s Q u s' :=
    fun {σ' H' v u} J rv q => ⟨v, H', J.os, J.bare, J.base, J.hok, rv, q⟩
  cases fl with
  | ret u =>
    obtain ⟨v, σ', H', J, rv, q⟩ := hs
    exact fin J rv q
  | next =>
    obtain ⟨σ', H', J, q⟩ := hs
    exact fin (v := V.non) (u := Value.none) J rfl q
  | brk =>
    obtain ⟨_, _, _, q⟩ := hs
    exact False.elim q
  | cont =>
    obtain ⟨_, _, _, q⟩ := hs
    exact False.elim q
end L2

namespace L2
open PySem PySem.Spec PyProof.Rows
section
variable {X : Cx} {x : Str} {p pos : Pos} {e : Expr} {es : List Expr} {t : TA} {id T : String} {r : List V → Hp → VK → Prop}

def tCB (r : List V → Hp → VK → Prop) (t : TA) : TE := fun σ H Q => t σ H fun vs H1 => r vs H1 Q
/-- f(e, ..), f a built-in function -/
theorem pe_callB (hc : CallR X (.builtin id) r) (hg : Gl X x) (hm : X.mg x = none) (hv : bootBuiltins x = some (.builtin id)) (ha : PA X (e :: es) t) (hn : x ≠ "__name__" := by decide) (hdb : (x == ("__debug__" : Str)) = false := by decide)
    (he : starEach (e :: es) X.env = (false, eval e X.env) :: starEach es X.env := by rfl) (hpl : (backTo pos (starEach es X.env)).any (·.1) = false := by rfl) : PE X (.Call (.Name x p) (e :: es) [] pos) (tCB r t) := by
  intro pins s σ H Q I h
  refine wpAny_Call_Name_kw (ld_blt I hg hm hv ?_ hn hdb)
  exact PyProof.Rows.callWith_builtin1 (thn (ha pos pins s σ H _ I h) fun us s1 ⟨vs, H1, I1, r1, q1⟩ => hc pins s1 σ H1 vs us Q I1 r1 q1) he hpl
/-- T(e, ..), T a built-in type -/
theorem pe_callTy (hc : CallR X (.type T) r) (hg : Gl X x) (hm : X.mg x = none) (hv : bootBuiltins x = some (.type T)) (ha : PA X (e :: es) t) (hn : x ≠ "__name__" := by decide) (hdb : (x == ("__debug__" : Str)) = false := by decide)
    (he : starEach (e :: es) X.env = (false, eval e X.env) :: starEach es X.env := by rfl) (hpl : (backTo pos (starEach es X.env)).any (·.1) = false := by rfl) : PE X (.Call (.Name x p) (e :: es) [] pos) (tCB r t) := by
  intro pins s σ H Q I h
  refine wpAny_Call_Name_kw (ld_blt I hg hm hv ?_ hn hdb)
  exact PyProof.Rows.callWith_type1 (thn (ha pos pins s σ H _ I h) fun us s1 ⟨vs, H1, I1, r1, q1⟩ => hc pins s1 σ H1 vs us Q I1 r1 q1) he hpl
end
end L2

namespace HT
open PySem PyProof.Rows



section
open PySem.SeqAt
open PySem.AutoSeq1 (wpAny_loadPart')
open PySem.MeetsSeq PySem.MeetsSeq2 PySem.MeetsSeq3

end

section
variable {prog : Program} {w : World} {A : Around} {E : Value → Shared → Prop} {s : Shared}


/-- t + u, t not empty -/
theorem cat_tup {t b : Addr} {vs ws : List Value} {Q : Value → Shared → Prop} (ht : IsTup s.heap t vs.toArray) (hb : IsTup s.heap b ws.toArray) (hv : vs ≠ [])
    (h1 : ws = [] → Q (.ref t) s) (h2 : ws ≠ [] → Q (.ref s.heap.objs.size) { s with heap := s.heap.push { cls := .type "tuple", data := .seq (vs ++ ws).toArray } })
    (hsz : vs.length + ws.length ≤ sizeLine) : wpAny (model prog w) A (binaryOp .Add (.ref t) (.ref b)) Q E s := by
  obtain ⟨⟨cls, dd, data, sl⟩, ho, hc, n, hd⟩ := id ht
  obtain ⟨⟨cls2, dd2, data2, sl2⟩, ho2, hc2, n2, hd2⟩ := id hb
  simp only at hc hd hc2 hd2
  subst hc hd hc2 hd2
  have e : vs.toArray ++ ws.toArray = (vs ++ ws).toArray := by simp
  by_cases hw : ws = []
  · exact concat_meets ⟨_, ho, rfl⟩ ⟨_, ho2, rfl⟩ noFill_tuple_add seq_tuple_add PySem.F.slot_tuple_add PySem.F.entry_tuple_add (PySem.F.args_tuple_add_2 _ _)
      (tuple_addW1 t b vs.toArray ws.toArray n n2 dd dd2 sl sl2 (by simpa using hv) (by simp [hw])) ⟨ho, ho2, h1 hw⟩
  · refine concat_meets ⟨_, ho, rfl⟩ ⟨_, ho2, rfl⟩ noFill_tuple_add seq_tuple_add PySem.F.slot_tuple_add PySem.F.entry_tuple_add (PySem.F.args_tuple_add_2 _ _)
      (tuple_addW2 t b vs.toArray ws.toArray n n2 dd dd2 sl sl2 (by simpa using hv) (by simpa using hw) (by rw [List.size_toArray, List.size_toArray]; exact hsz)) ⟨ho, ho2, ?_⟩
    rw [e]
    exact h2 hw

/-! ### t[a:b], not the whole -/
/-- a slice's bound as a place among n (d where it is left out) -/
def sIx (n d : Nat) : Option Int → Nat
  | none => d
  | some v => if v < 0 then (v + (n : Int)).toNat else min v.toNat n

end
end HT

namespace L2
open PySem PySem.Spec PyProof.Rows

/-! ### the parts of a slice -/
abbrev TO := St → Hp → (Option Int → Hp → Prop) → Prop
/-- a slice's part (left out, or an int) -/
def PO (X : Cx) (e : Option Expr) (t : TO) : Prop :=
  ∀ (pins : List (Addr × Obj)) (s : Shared) (σ : St) (H : Hp) (Q : Option Int → Hp → Prop), Inv X pins σ H s → t σ H Q →
    wpAny (model X.prog X.w) X.A (evalPart e X.env) (fun u s' => ∃ o H', Inv X pins σ H' s' ∧ IsPart u o ∧ Q o H') X.xe s
def tNoPart : TO := fun _ H Q => Q none H
def tPart (t : TE) : TO := fun σ H Q => t σ H fun x H1 => ∃ i, x = .int i ∧ Q (some i) H1


section
variable {X : Cx} {e : Expr} {te : TE} {lo hi : Option Expr} {tl th : TO} {pos p2 : Pos}

theorem po_none : PO X none tNoPart := by
  intro pins s σ H Q I h
  rw [evalPart_none]
  exact wpAny_pure ⟨none, H, I, .none, h⟩
theorem po_some (h : PE X e te) : PO X (some e) (tPart te) := by
  intro pins s σ H Q I hw
  rw [evalPart_some]
  refine thn (h pins s σ H _ I hw) fun u s1 ⟨x, H1, I1, r1, q1⟩ => ?_
  obtain ⟨i, rfl, q⟩ := q1
  obtain ⟨t, rfl⟩ := r1
  exact ⟨some i, H1, I1, .int i t, q⟩

/-- what a slice of a value is, by values: the slice object stands at sl -/
def SlR (X : Cx) (r : V → Option Int → Option Int → Hp → VK → Prop) : Prop :=
  ∀ (pins : List (Addr × Obj)) (s : Shared) (σ : St) (H : Hp) (x : V) (v vl vu : Value) (lo hi : Option Int) (sl : Addr) (Q : VK), Inv X pins σ H s → RelV x v → s.heap.IsSliceOf sl vl vu .none → IsPart vl lo → IsPart vu hi → r x lo hi H Q →
    ∃ T id, typeLookup (.type T) "__getitem__" = pure (some (.builtin id)) ∧ s.TypeIs v T ∧ wpAny (model X.prog X.w) X.A (getItem v (.ref sl)) (EP X pins σ Q) X.xe s
def tSl (r : V → Option Int → Option Int → Hp → VK → Prop) (te : TE) (tl th : TO) : TE := fun σ H Q => te σ H fun x H1 => tl σ H1 fun l H2 => th σ H2 fun u H3 => r x l u H3 Q
/-- a[lo:hi], any a -/
theorem pe_slice {r : V → Option Int → Option Int → Hp → VK → Prop} (hr : SlR X r) (he : PE X e te) (hl : PO X lo tl) (hu : PO X hi th) : PE X (.Subscript e (.Slice lo hi none p2) pos) (tSl r te tl th) := by
  intro pins s σ H Q I h
  refine Subscript_ (thn (he pins s σ H _ I h) fun v s1 ⟨x, H1, I1, r1, q1⟩ => ?_)
  refine wpAny_Slice (thn (hl pins s1 σ H1 _ I1 q1) fun vl s2 ⟨l, H2, I2, pl, q2⟩ => thn (hu pins s2 σ H2 _ I2 q2) fun vu s3 ⟨u, H3, I3, pu, q3⟩ => ?_)
  rw [evalPart_none]
  refine wpAny_pure ?_
  have I4 : Inv X pins σ H3 { s3 with heap := s3.heap.push { cls := .type "slice", data := .fields #[vl, vu, .none] } } := I3.kept (t' := s3.toks) fun b ob q => Heap.get?_push_of_some _ q
  obtain ⟨T, id, hT, ht, hg⟩ := hr pins { s3 with heap := s3.heap.push { cls := .type "slice", data := .fields #[vl, vu, .none] } } σ H3 x v vl vu l u s3.heap.objs.size Q I4 r1 (Heap.IsSliceOf.new ..) pl pu q3
  show wpAny (model X.prog X.w) X.A (subscriptTail e (.Slice lo hi none p2) v (.ref s3.heap.objs.size)) (EP X pins σ Q) X.xe { s3 with heap := s3.heap.push { cls := .type "slice", data := .fields #[vl, vu, .none] } }
  exact tail_any (ops := [.ref s3.heap.objs.size, v]) ht hT hg (by with_unfolding_all rfl)

/-- the items of xs[lo:hi] -/
def cutV (xs : List V) (lo hi : Option Int) : List V := (xs.drop (HT.sIx xs.length 0 lo)).take (HT.sIx xs.length xs.length hi - HT.sIx xs.length 0 lo)
theorem cutV_length (xs : List V) (lo hi : Option Int) : (cutV xs lo hi).length ≤ xs.length := by
  unfold cutV
  rw [List.length_take, List.length_drop]
  omega

/-! ### t < u, t + u -/
/-- t + u, t not empty: u empty gives t itself -/
def rCatT (K : PySem.W.Frag) : R2 := fun x y H Q => ∃ a b xs ys, x = .ref a ∧ y = .ref b ∧ SqT K H a xs ∧ SqT K H b ys ∧ xs ≠ [] ∧ xs.length + ys.length ≤ sizeLine ∧
  (ys = [] → Q (.ref a) H) ∧ (ys ≠ [] → ∀ p, H p = none → Q (.ref p) (upd H p (.tup (xs ++ ys))))
theorem Vals.nil_iff {xs : List V} {us : List Value} (r : Vals xs us) : us = [] ↔ xs = [] := by
  cases r with
  | nil => simp
  | cons _ _ => simp
theorem op_catT : OpR X (binaryOp .Add) (rCatT X.K) := by
  intro pins s σ H x y v u Q I rx ry h
  obtain ⟨a, b, xs, ys, rfl, rfl, ha, hb, hx, hz, q1, q2⟩ := h
  cases rx
  cases ry
  obtain ⟨its, r1, p1, _⟩ := I.tuple ha
  obtain ⟨its2, r2, p2, _⟩ := I.tuple hb
  refine HT.cat_tup p1 p2 (fun z => hx (r1.nil_iff.mp z)) (fun z => ⟨.ref a, H, I, rfl, q1 (r2.nil_iff.mp z)⟩) (fun z => ?_) (by rw [← r1.length, ← r2.length]; exact hz)
  refine ⟨.ref s.heap.objs.size, _, I.laid (t' := s.toks) (o := .tup (xs ++ ys)) (fun b ob q => Heap.get?_push_of_some _ q) (Nat.le_refl _) ?_, rfl, q2 (fun w => z (r2.nil_iff.mpr w)) _ (I.hok.fresh (Nat.le_refl _))⟩
  exact ⟨by rw [List.length_append]; exact hz, _, r1.append r2, IsTup.new _ _, NoDict.new rfl (Heap.get?_push_size _ rfl)⟩
end
end L2

namespace L2
open PySem PySem.Spec PyProof.Rows

/-! ### places -/
/-- the place that an index of any sign means -/
def ixN (n : Nat) (i : Int) : Option Nat := if 0 ≤ i then (if i < n then some i.toNat else none) else if -(n : Int) ≤ i then some (i + n).toNat else none
def atI {α : Type} (xs : List α) (i : Int) : Option α := (ixN xs.length i).bind fun j => xs[j]?
theorem ixN_seq {n : Nat} {i : Int} {j : Nat} (h : ixN n i = some j) : seqIndex? i n = some j ∧ j < n ∧ -(n : Int) ≤ i ∧ i < n := by
  unfold ixN at h
  by_cases h0 : 0 ≤ i
  · rw [if_pos h0] at h
    by_cases h1 : i < n
    · rw [if_pos h1] at h
      have e : i.toNat = j := Option.some.inj h
      exact ⟨by rw [seqIndex_of h0 h1, e], by omega, by omega, h1⟩
    · rw [if_neg h1] at h; cases h
  · rw [if_neg h0] at h
    by_cases h1 : -(n : Int) ≤ i
    · rw [if_pos h1] at h
      have e : (i + n).toNat = j := Option.some.inj h
      exact ⟨by rw [seqIndex_neg (by omega) h1, e], by omega, h1, by omega⟩
    · rw [if_neg h1] at h; cases h
theorem atI_get {α : Type} {xs : List α} {i : Int} {v : α} (h : atI xs i = some v) : ∃ j, seqIndex? i xs.length = some j ∧ xs[j]? = some v ∧ j < xs.length ∧ -(xs.length : Int) ≤ i ∧ i < xs.length := by
  unfold atI at h
  cases e : ixN xs.length i with
  | none => rw [e] at h; cases h
  | some j =>
    rw [e] at h
    obtain ⟨h1, h2, h3, h4⟩ := ixN_seq e
    exact ⟨j, h1, h, h2, h3, h4⟩
theorem atI_nat {α : Type} {xs : List α} {j : Nat} {v : α} (h : xs[j]? = some v) : atI xs (j : Int) = some v := by
  have hj : j < xs.length := (List.getElem?_eq_some_iff.mp h).1
  have e : ixN xs.length (j : Int) = some j := by
    unfold ixN
    rw [if_pos (by omega), if_pos (by omega)]; simp
  unfold atI; rw [e]; exact h

/-! ### what may be subscripted -/
/-- what stands as an index of a plain subscript -/
def PlainIx (b : Expr) : Prop := ∀ o i, subscripted b false o i = operate [o, i] (getItem o i)
/-- a subscript by values -/
def IxR (X : Cx) (r : R2) : Prop :=
  ∀ (value slice : Expr) (pins : List (Addr × Obj)) (s : Shared) (σ : St) (H : Hp) (x y : V) (v u : Value) (Q : VK), Inv X pins σ H s → RelV x v → RelV y u → r x y H Q →
    subscripted slice false v u = operate [v, u] (getItem v u) → wpAny (model X.prog X.w) X.A (subscriptTail value slice v u) (EP X pins σ Q) X.xe s
/-- a call of a builtin's method by values: the receiver, the arguments -/
def MtR (X : Cx) (id : String) (r : V → List V → Hp → VK → Prop) : Prop :=
  ∀ (pins : List (Addr × Obj)) (s : Shared) (σ : St) (H : Hp) (x : V) (xs : List V) (v : Value) (us : List Value) (Q : VK), Inv X pins σ H s → RelV x v → Vals xs us → r x xs H Q →
    wpAny (model X.prog X.w) X.A (call (.builtin id) (v :: us)) (EP X pins σ Q) X.xe s
section
variable {X : Cx} {a b : Expr} {ta tb : TE} {pos : Pos}
theorem IxR.or {r r' : R2} (h : IxR X r) (h' : IxR X r') : IxR X (fun x y H Q => r x y H Q ∨ r' x y H Q) := by
  intro value slice pins s σ H x y v u Q I rx ry q hs
  rcases q with q | q
  · exact h value slice pins s σ H x y v u Q I rx ry q hs
  · exact h' value slice pins s σ H x y v u Q I rx ry q hs
/-- a[b] -/
theorem pe_ix {r : R2} (hr : IxR X r) (ha : PE X a ta) (hb : PE X b tb) (hs : PlainIx b) : PE X (.Subscript a b pos) (tOp r ta tb) := by
  intro pins s σ H Q I h
  exact Subscript_ (binT ha hb I h fun v u s2 x y H2 I2 rx ry q => hr a b pins s2 σ H2 x y v u Q I2 rx ry q (hs _ _))

def rIxL (K : PySem.W.Frag) : R2 := fun x y H Q => ∃ p xs i v, x = .ref p ∧ y = .int i ∧ SqL K H p xs ∧ atI xs i = some v ∧ Q v H
def rIxT (K : PySem.W.Frag) : R2 := fun x y H Q => ∃ p xs i v, x = .ref p ∧ y = .int i ∧ SqT K H p xs ∧ atI xs i = some v ∧ Q v H
def rIxS : R2 := fun x y H Q => ∃ z i c, x = .str z ∧ y = .int i ∧ z.length ≤ sizeLine ∧ atI z.cps.toList i = some c ∧ Q (.str ⟨#[c]⟩) H
theorem ix_list : IxR X (rIxL X.K) := by
  intro value slice pins s σ H x y v u Q I rx ry h hs
  obtain ⟨p, xs, i, z, rfl, rfl, hq, he, q⟩ := h
  cases rx
  obtain ⟨t, rfl⟩ := ry
  obtain ⟨its, r, pl, hz⟩ := I.list hq
  obtain ⟨j, h1, h2, h3, h4, h5⟩ := atI_get he
  obtain ⟨w, ew, rw'⟩ := r.get h2
  have hl := r.length
  have hn := line63
  have fin : EP X pins σ Q w s := ⟨z, H, I, rw', q⟩
  by_cases h0 : 0 ≤ i
  · have hj : i.toNat = j := by
      rw [seqIndex_of h0 h5] at h1
      exact Option.some.inj h1
    exact item_listR pl.isList h0 (by omega) (by rw [hj]; simpa using ew) fin hs
  · have hj : (i + (its.toArray.size : Int)).toNat = j := by
      rw [seqIndex_neg (by omega) h4] at h1
      rw [List.size_toArray, ← hl]
      exact Option.some.inj h1
    exact subscriptTail_builtinR (x := w) pl.isList.typeIs slot_list_getitem.lookup
      (wpAny_getItem_list_neg (Q := fun r s' => r = w ∧ EP X pins σ Q r s') pl.isList (by omega) (by rw [List.size_toArray] <;> omega) (by omega) (by rw [hj]; simpa using ew) ⟨rfl, fin⟩) hs
theorem ix_tup : IxR X (rIxT X.K) := by
  intro value slice pins s σ H x y v u Q I rx ry h hs
  obtain ⟨p, xs, i, z, rfl, rfl, hq, he, q⟩ := h
  cases rx
  obtain ⟨t, rfl⟩ := ry
  obtain ⟨its, r, pl, hz⟩ := I.tuple hq
  obtain ⟨j, h1, h2, h3, h4, h5⟩ := atI_get he
  obtain ⟨w, ew, rw'⟩ := r.get h2
  have hl := r.length
  have hn := line63
  have fin : EP X pins σ Q w s := ⟨z, H, I, rw', q⟩
  exact subscriptTail_builtinR (x := w) pl.typeIs slot_tuple_getitem.lookup
    (getItem_tuple (j := j) (Q := fun r s' => r = w ∧ EP X pins σ Q r s') pl (by omega) (by omega) (by rw [List.size_toArray, ← hl]; exact h1) (by simpa using ew) ⟨rfl, fin⟩) hs
theorem ix_str : IxR X rIxS := by
  intro value slice pins s σ H x y v u Q I rx ry h hs
  obtain ⟨z, i, c, rfl, rfl, hz, he, q⟩ := h
  obtain ⟨t, rfl⟩ := rx
  obtain ⟨t', rfl⟩ := ry
  obtain ⟨j, h1, h2, h3, h4, h5⟩ := atI_get he
  have hl : z.cps.toList.length = z.length := by simp [Str.length]
  rw [hl] at h1 h4 h5
  have hn := line63
  exact tail_any (typeIs_str s z t) slot_str_getitem.lookup (getItem_str (c := c) (by
    have e1 : decide (i < -(2 ^ 63 : Int)) = false := decide_eq_false (by omega)
    have e2 : decide (i ≥ 2 ^ 63) = false := decide_eq_false (by omega)
    rw [e1, e2, Bool.or_false]) (by rw [h1]; simpa using h2) ⟨.str ⟨#[c]⟩, H, I.tok _, ⟨_, rfl⟩, q⟩) hs
/-- list, tuple or str -/
def rIx (K : PySem.W.Frag) : R2 := fun x y H Q => rIxL K x y H Q ∨ rIxT K x y H Q ∨ rIxS x y H Q
theorem ix_seq : IxR X (rIx X.K) := ix_list.or (ix_tup.or ix_str)

/-! ### xs[i] = v, any sign -/
/-- the list's object behind a store -/
theorem mapSeq_set (its : List Value) (n j : Nat) (u : Value) : Obj.mapSeq (·.setIfInBounds j u) { cls := .type "list", data := .seq its.toArray n } = { cls := .type "list", data := .seq (its.set j u).toArray n } := by
  simp [Obj.mapSeq]
theorem Inv.lst {pins : List (Addr × Obj)} {σ : St} {H : Hp} {s : Shared} {p : Addr} {xs : List V} (I : Inv X pins σ H s) (h : H p = some (.lst xs)) :
    ∃ (its : List Value) (n : Nat), Vals xs its ∧ s.heap.get? p = some { cls := .type "list", data := .seq its.toArray n } ∧ xs.length ≤ sizeLine := by
  obtain ⟨z, its, n, r, e⟩ := I.hok p _ h
  exact ⟨its, n, r, e, z⟩
/-- the list at p is written by an update of its object -/
theorem Inv.lstUpd {pins : List (Addr × Obj)} {σ : St} {H : Hp} {s : Shared} {p : Addr} {xs ys : List V} {its its' : List Value} {n n' : Nat} {f : Obj → Obj} (I : Inv X pins σ H s) (h : H p = some (.lst xs))
    (ho : s.heap.get? p = some { cls := .type "list", data := .seq its.toArray n }) (hf : f { cls := .type "list", data := .seq its.toArray n } = { cls := .type "list", data := .seq its'.toArray n' }) (r : Vals ys its') (hz : ys.length ≤ sizeLine) (t : Nat) :
    Inv X pins σ (upd H p (.lst ys)) { s with heap := s.heap.update p f, toks := t } := by
  have e : (s.heap.update p f).get? p = some { cls := .type "list", data := .seq its'.toArray n' } := by
    rw [Heap.get?_update_self f ho (by rw [hf] <;> rfl), hf]
  refine I.write (x := p) (e := p) (by rw [h]; trivial) (.inl rfl) (fun b u hb q => (Heap.get?_update_other _ _ (Ne.symm hb)).trans q) ⟨_, e⟩ ?_
  exact ⟨hz, its', n', r, e⟩
def rSetL : V → V → V → Hp → (Hp → Prop) → Prop := fun o i v H Q => ∃ p xs k j, o = .ref p ∧ i = .int k ∧ H p = some (.lst xs) ∧ ixN xs.length k = some j ∧ Q (upd H p (.lst (xs.set j v)))
theorem set_list : PSet X rSetL := by
  intro pins s σ H o i v ov iv u Q I ro ri rv h
  obtain ⟨p, xs, k, j, rfl, rfl, hp, hj, q⟩ := h
  cases ro
  obtain ⟨t, rfl⟩ := ri
  obtain ⟨its, n, r, ho, hz⟩ := I.lst hp
  obtain ⟨h1, h2, h3, h4⟩ := ixN_seq hj
  have hl := r.length
  have hn := line63
  have I' : Inv X pins σ (upd H p (.lst (xs.set j v))) { s with heap := s.heap.update p (Obj.mapSeq (·.setIfInBounds j u)) } :=
    I.lstUpd hp ho (mapSeq_set its n j u) (r.set rv j) (by rw [List.length_set]; exact hz) s.toks
  by_cases h0 : 0 ≤ k
  · have hk : k.toNat = j := by
      rw [seqIndex_of h0 h4] at h1
      exact Option.some.inj h1
    exact PySem.W.ki_setAt ho h0 (by omega) (by rw [List.size_toArray, ← hl]; exact h4) (by rw [hk]; exact ⟨_, I', q⟩)
  · have hk : (k + (its.toArray.size : Int)).toNat = j := by
      rw [seqIndex_neg (by omega) h3] at h1
      rw [List.size_toArray, ← hl]
      exact Option.some.inj h1
    exact PySem.W.ki_setBack ho (by omega) (by rw [List.size_toArray, ← hl]; exact h3) (by omega) (by rw [hk]; exact ⟨_, I', q⟩)

/-! ### slices -/
theorem slice_bounds (lo hi : Option Int) (n : Nat) : (sliceBounds lo hi none n).1 = ((HT.sIx n 0 lo : Nat) : Int) ∧ (sliceBounds lo hi none n).2.1 = ((HT.sIx n n hi : Nat) : Int) ∧ (sliceBounds lo hi none n).2.2 = 1 := by
  refine ⟨?_, ?_, rfl⟩
  · cases lo with
    | none => simp [sliceBounds, HT.sIx]
    | some i =>
      simp only [sliceBounds, HT.sIx, Option.getD_none, show (1 : Int) > 0 by decide, if_true]
      by_cases h : i < 0
      · simp only [h, if_true] <;> omega
      · simp only [h, if_false] <;> omega
  · cases hi with
    | none => simp [sliceBounds, HT.sIx]
    | some i =>
      simp only [sliceBounds, HT.sIx, Option.getD_none, show (1 : Int) > 0 by decide, if_true]
      by_cases h : i < 0
      · simp only [h, if_true] <;> omega
      · simp only [h, if_false] <;> omega
theorem slicePick_cut (its : List Value) (lo hi : Option Int) : slicePick its.toArray lo hi none = ((its.drop (HT.sIx its.length 0 lo)).take (HT.sIx its.length its.length hi - HT.sIx its.length 0 lo)).toArray := by
  obtain ⟨h1, h2, h3⟩ := slice_bounds lo hi its.toArray.size
  unfold slicePick
  rw [h1, h2, h3]
  simp only [sliceRange_one, pick_run, List.size_toArray] <;> rfl
/-- xs[lo:hi] of a list: a new list -/
def rSlL (K : PySem.W.Frag) : V → Option Int → Option Int → Hp → VK → Prop := fun x lo hi H Q => ∃ a xs, x = .ref a ∧ SqL K H a xs ∧ ∀ p, H p = none → Q (.ref p) (upd H p (.lst (cutV xs lo hi)))
theorem sl_list : SlR X (rSlL X.K) := by
  intro pins s σ H x v vl vu lo hi sl Q I rx hs pl pu h
  obtain ⟨a, xs, rfl, hx, q⟩ := h
  cases rx
  obtain ⟨its, r, ht, hz⟩ := I.list hx
  have hlen := r.length
  refine ⟨"list", _, slot_list_getitem.lookup, ht.isList.typeIs, ?_⟩
  refine wpAny_getItem_list_slice ht.isList hs pl pu .none (by simp) ?_ (by rw [List.size_toArray] <;> omega)
  rw [slicePick_cut, ← hlen]
  refine ⟨.ref s.heap.objs.size, _, I.laid (t' := s.toks) (o := .lst (cutV xs lo hi)) (fun b ob q => Heap.get?_push_of_some _ q) (Nat.le_refl _) ?_, rfl, q _ (I.hok.fresh (Nat.le_refl _))⟩
  exact ⟨Nat.le_trans (cutV_length xs lo hi) hz, _, 0, (r.drop (HT.sIx xs.length 0 lo)).take (HT.sIx xs.length xs.length hi - HT.sIx xs.length 0 lo), Heap.get?_push_size _ rfl⟩

/-! ### in, not in: flat items -/
def flatV : V → Bool
  | .non => true
  | .bl _ => true
  | .int _ => true
  | .str _ => true
  | _ => false
/-- == of flat values -/
def eqV : V → V → Bool
  | .non, .non => true
  | .bl a, .bl b => a == b
  | .bl a, .int b => (if a then 1 else 0) == b
  | .int a, .bl b => a == (if b then 1 else 0)
  | .int a, .int b => a == b
  | .str a, .str b => a == b
  | _, _ => false
theorem eqAt_V {A : Around} {s : Shared} {y x : V} {u v : Value} (ry : RelV y u) (rx : RelV x v) (fy : flatV y = true) (fx : flatV x = true) : SeqAt.EqAt A s u v (eqV y x) := by
  cases y with
  | non =>
    cases ry
    cases x with
    | non => cases rx; exact SeqAt.EqAt.same _
    | bl b => cases rx; exact SeqAt.EqAt.none_bool b
    | int b => obtain ⟨t, rfl⟩ := rx; exact SeqAt.EqAt.none_int b t
    | str b => obtain ⟨t, rfl⟩ := rx; exact SeqAt.EqAt.none_str b t
    | _ => exact absurd (show false = true from fx) Bool.false_ne_true
  | bl a =>
    cases ry
    cases x with
    | non => cases rx; exact SeqAt.EqAt.bool_none a
    | bl b => cases rx; exact SeqAt.EqAt.bool_bool a b
    | int b => obtain ⟨t, rfl⟩ := rx; exact SeqAt.EqAt.bool_int a b t
    | str b => obtain ⟨t, rfl⟩ := rx; exact SeqAt.EqAt.bool_str a b t
    | _ => exact absurd (show false = true from fx) Bool.false_ne_true
  | int a =>
    obtain ⟨t', rfl⟩ := ry
    cases x with
    | non => cases rx; exact SeqAt.EqAt.int_none a t'
    | bl b => cases rx; exact SeqAt.EqAt.int_bool a t' b
    | int b => obtain ⟨t, rfl⟩ := rx; exact SeqAt.EqAt.int_int a t' b t
    | str b => obtain ⟨t, rfl⟩ := rx; exact SeqAt.EqAt.int_str a t' b t
    | _ => exact absurd (show false = true from fx) Bool.false_ne_true
  | str a =>
    obtain ⟨t', rfl⟩ := ry
    cases x with
    | non => cases rx; exact SeqAt.EqAt.str_none a t'
    | bl b => cases rx; exact SeqAt.EqAt.str_bool a t' b
    | int b => obtain ⟨t, rfl⟩ := rx; exact SeqAt.EqAt.str_int a t' b t
    | str b => obtain ⟨t, rfl⟩ := rx; exact SeqAt.EqAt.str_str a t' b t
    | _ => exact absurd (show false = true from fx) Bool.false_ne_true
  | _ => exact absurd (show false = true from fy) Bool.false_ne_true
/-- the items' answers, read off the values (a value's own answer does not lean on its token) -/
def eqU (x : V) (u : Value) : Bool := match u with
  | .none => eqV .non x
  | .bool b => eqV (.bl b) x
  | .int i _ => eqV (.int i) x
  | .str z _ => eqV (.str z) x
  | _ => false
theorem eqU_of {x y : V} {u : Value} (r : RelV y u) (f : flatV y = true) : eqU x u = eqV y x := by
  cases y with
  | non => cases r; rfl
  | bl b => cases r; rfl
  | int i => obtain ⟨t, rfl⟩ := r; rfl
  | str z => obtain ⟨t, rfl⟩ := r; rfl
  | _ => exact absurd (show false = true from f) Bool.false_ne_true
theorem any_eqU {x : V} : ∀ {xs : List V} {us : List Value}, Vals xs us → xs.all flatV = true → us.any (eqU x) = xs.any fun y => eqV y x
  | _, _, .nil, _ => rfl
  | y :: xs, u :: us, .cons r t, f => by
    rw [List.all_cons, Bool.and_eq_true] at f
    rw [List.any_cons, List.any_cons, eqU_of r f.1, any_eqU t f.2]
theorem mem_eqAt {A : Around} {s : Shared} {x : V} {v : Value} (rx : RelV x v) (fx : flatV x = true) : ∀ {xs : List V} {us : List Value}, Vals xs us → xs.all flatV = true → ∀ u ∈ us, SeqAt.EqAt A s u v (eqU x u)
  | _, _, .nil, _ => fun u hu => by cases hu
  | y :: xs, u :: us, .cons r t, f => fun u' hu => by
    rw [List.all_cons, Bool.and_eq_true] at f
    rcases List.mem_cons.mp hu with rfl | hu
    · rw [eqU_of r f.1]; exact eqAt_V r rx f.1 fx
    · exact mem_eqAt rx fx t f.2 u' hu
def inV (x : V) (xs : List V) : Bool := xs.any fun y => eqV y x
/-- x in a list or tuple of flat items -/
def rIn (K : PySem.W.Frag) (neg : Bool) : R2 := fun x y H Q => ∃ p xs, y = .ref p ∧ (SqL K H p xs ∨ SqT K H p xs) ∧ flatV x = true ∧ xs.all flatV = true ∧ Q (.bl (if neg then !inV x xs else inV x xs)) H
theorem op_in_seq : OpR X (compareOp .In) (rIn X.K false) := by
  intro pins s σ H x y v u Q I rx ry h
  obtain ⟨p, xs, rfl, hq, fx, fs, q⟩ := h
  cases ry
  rcases hq with hq | hq
  · obtain ⟨its, r, pl, hz⟩ := I.list hq
    refine SeqAt.in_listAt (eqU x) pl.isList (fun w hw => mem_eqAt rx fx r fs w (by simpa using hw)) ⟨.bl _, H, I, rfl, ?_⟩
    rw [show its.toArray.any (eqU x) = its.any (eqU x) by simp, any_eqU r fs]
    exact q
  · obtain ⟨its, r, pl, hz⟩ := I.tuple hq
    refine SeqAt.in_tupleAt (eqU x) pl (fun w hw => mem_eqAt rx fx r fs w (by simpa using hw)) ⟨.bl _, H, I, rfl, ?_⟩
    rw [show its.toArray.any (eqU x) = its.any (eqU x) by simp, any_eqU r fs]
    exact q

/-! ### len, list(x), tuple(x) of any list or tuple that is read -/
theorem call_len_seq : CallR X (.builtin "len") (fun xs H Q => ∃ p ys, xs = [.ref p] ∧ (SqL X.K H p ys ∨ SqT X.K H p ys) ∧ Q (.int ys.length) H) := by
  intro pins s σ H xs us Q I r h
  obtain ⟨p, ys, rfl, hq, q⟩ := h
  obtain ⟨u, rfl, rx⟩ := vals1 r
  cases rx
  have hn := line63
  rcases hq with hq | hq
  · obtain ⟨its, r', pl, hz⟩ := I.list hq
    have hlen := r'.length
    exact Calls.call_len_list pl.isList (by simp only [List.size_toArray] <;> omega) ⟨.int ys.length, H, I.tok _, ⟨s.toks + 1, by rw [List.size_toArray, hlen]⟩, q⟩
  · obtain ⟨its, r', pl, hz⟩ := I.tuple hq
    have hlen := r'.length
    exact len_tuple pl (by simp only [List.size_toArray] <;> omega) ⟨.int ys.length, H, I.tok _, ⟨s.toks + 1, by rw [List.size_toArray, hlen]⟩, q⟩
theorem call_len_str : CallR X (.builtin "len") (fun xs H Q => ∃ z, xs = [.str z] ∧ z.length ≤ sizeLine ∧ Q (.int z.length) H) := by
  intro pins s σ H xs us Q I r h
  obtain ⟨z, rfl, hz, q⟩ := h
  obtain ⟨u, rfl, t, rfl⟩ := vals1 r
  have hn := line63
  exact len_str (by omega) ⟨.int z.length, H, I.tok _, ⟨_, rfl⟩, q⟩
theorem CallR.or {f : Value} {r r' : List V → Hp → VK → Prop} (h : CallR X f r) (h' : CallR X f r') : CallR X f (fun xs H Q => r xs H Q ∨ r' xs H Q) := by
  intro pins s σ H xs us Q I rs q
  rcases q with q | q
  · exact h pins s σ H xs us Q I rs q
  · exact h' pins s σ H xs us Q I rs q
theorem call_tuple_of : CallR X (.type "tuple") (fun xs H Q => ∃ p ys, xs = [.ref p] ∧ ((SqL X.K H p ys ∧ ∀ l, H l = none → Q (.ref l) (upd H l (.tup ys))) ∨ (SqT X.K H p ys ∧ Q (.ref p) H))) := by
  intro pins s σ H xs us Q I r h
  obtain ⟨p, ys, rfl, h⟩ := h
  obtain ⟨u, rfl, rx⟩ := vals1 r
  cases rx
  rcases h with ⟨hq, q⟩ | ⟨hq, q⟩
  · obtain ⟨its, r', pl, hz⟩ := I.list hq
    have hlen := r'.length
    refine call_tuple_list pl.isList (fun h' kp => ?_) (by simp only [List.size_toArray] <;> omega)
    have I1 : Inv X pins σ H { s with heap := h' } := I.kept (t' := s.toks) kp
    have I2 : Inv X pins σ (upd H h'.objs.size (.tup ys)) { s with heap := h'.push { cls := .type "tuple", data := .seq its.toArray } } :=
      I1.laid (t' := s.toks) (fun b o e => Heap.get?_push_of_some _ e) (Nat.le_refl _) (show ObjOk X.prog X.w _ _ _ (.tup ys) from ⟨hz, its, r', IsTup.new _ _, NoDict.new rfl (Heap.get?_push_size _ rfl)⟩)
    exact ⟨.ref h'.objs.size, _, I2, rfl, q _ (I1.hok.fresh (Nat.le_refl _))⟩
  · obtain ⟨its, r', pl, hz⟩ := I.tuple hq
    exact call_tuple_same pl ⟨.ref p, H, I, rfl, q⟩

/-! ### the call of a builtin's method: o.m(..) -/
/-- the value is of that builtin type -/
def tyV (K : PySem.W.Frag) (T : String) (x : V) (H : Hp) : Prop := match x with
  | .str _ => T = "str"
  | .int _ => T = "int"
  | .ref p => (T = "list" ∧ ∃ xs, SqL K H p xs) ∨ (T = "tuple" ∧ ∃ o, K.lookup p = some o ∧ o.cls = .type "tuple" ∧ o.dict = none) ∨
      (T = "dict" ∧ ((∃ kvs, H p = some (.dK kvs)) ∨ ∃ kvs, H p = some (.dT kvs))) ∨ (T = "set" ∧ ∃ S n, H p = some (.set S n)) ∨ (T = "tuple" ∧ ∃ xs, H p = some (.tup xs))
  | _ => False
theorem tyV_is {pins : List (Addr × Obj)} {σ : St} {H : Hp} {s : Shared} {T : String} {x : V} {v : Value} (I : Inv X pins σ H s) (r : RelV x v) (ty : tyV X.K T x H) :
    s.TypeIs v T ∧ ∀ a, v = .ref a → ∃ ob, s.heap.get? a = some ob ∧ ob.dict = none := by
  cases x with
  | str z =>
    obtain ⟨t, rfl⟩ := r
    cases (show T = "str" from ty)
    exact ⟨typeIs_str s z t, fun _ e => nomatch e⟩
  | int i =>
    obtain ⟨t, rfl⟩ := r
    cases (show T = "int" from ty)
    exact ⟨typeIs_int s i t, fun _ e => nomatch e⟩
  | ref p =>
    cases r
    rcases ty with ⟨rfl, xs, hq⟩ | ⟨rfl, o, hk, hc, hd⟩ | ⟨rfl, hk⟩ | ⟨rfl, S, n, hk⟩ | ⟨rfl, xs, hk⟩
    · obtain ⟨its, _, pl, _⟩ := I.list hq
      refine ⟨pl.isList.typeIs, fun a e => ?_⟩
      cases e
      obtain ⟨o, n, e, c, hd, _⟩ := pl
      exact ⟨o, e, hd⟩
    · refine ⟨⟨o, I.kIn p o hk, hc⟩, fun a e => ?_⟩
      cases e
      exact ⟨o, I.kIn _ o hk, hd⟩
    · have z : ∃ o, s.heap.get? p = some o ∧ o.ExactDict := by
        rcases hk with ⟨kvs, hk⟩ | ⟨kvs, hk⟩
        · obtain ⟨_, _, _, _, o, _, _, e, ex, _⟩ := I.hok p _ hk
          exact ⟨o, e, ex⟩
        · obtain ⟨_, _, _, _, o, _, _, e, ex, _⟩ := I.hok p _ hk
          exact ⟨o, e, ex⟩
      obtain ⟨o, e, ex⟩ := z
      refine ⟨⟨o, e, ex.1⟩, fun a e2 => ?_⟩
      cases e2
      exact ⟨o, e, ex.2.1⟩
    · obtain ⟨o, _, _, _, e, ex, _⟩ := I.hok p _ hk
      refine ⟨⟨o, e, ex.1⟩, fun a e2 => ?_⟩
      cases e2
      exact ⟨o, e, ex.2.1⟩
    · obtain ⟨_, _, _, ⟨o, e, c, _⟩, nd⟩ := I.hok p _ hk
      refine ⟨⟨o, e, c⟩, fun a e2 => ?_⟩
      cases e2
      exact ⟨o, e, nd o e⟩
  | _ => exact False.elim ty
def tBM0 (K : PySem.W.Frag) (T : String) (r : V → List V → Hp → VK → Prop) (to : TE) : TE := fun σ H Q => to σ H fun x H1 => tyV K T x H1 ∧ r x [] H1 Q
def tBM (K : PySem.W.Frag) (T : String) (r : V → List V → Hp → VK → Prop) (to : TE) (t : TA) : TE := fun σ H Q => to σ H fun x H1 => tyV K T x H1 ∧ t σ H1 fun xs H2 => r x xs H2 Q
variable {o e : Expr} {es : List Expr} {to : TE} {t : TA} {name : Str} {apos cpos : Pos} {T id : String} {r : V → List V → Hp → VK → Prop}
theorem pe_bm0 (pa : PlainAttrs T) (slot : Slot T name id) (hty : typeOf (.builtin id) = pure (.type "method_descriptor")) (hm : MtR X id r) (ho : PE X o to)
    (hbase : attributeBase o name X.env (eval o X.env) = eval o X.env := by rfl) (hline : (apos.endLine == cpos.line) = true := by rfl) : PE X (.Call (.Attribute o name apos) [] [] cpos) (tBM0 X.K T r to) := by
  intro pins s σ H Q I h
  refine wpAny_Call_method0_late hbase hline (thn (ho pins s σ H _ I h) fun v s1 ⟨x, H1, I1, r1, ty, q1⟩ => ?_)
  obtain ⟨h1, h2⟩ := tyV_is I1 r1 ty
  exact ⟨T, id, pa, slot, hty, h1, h2, Calls.callWith_builtin rfl (PySem.evalArgs_none (hm pins s1 σ H1 x [] v [] Q I1 r1 .nil q1))⟩
theorem pe_bm (pa : PlainAttrs T) (slot : Slot T name id) (hty : typeOf (.builtin id) = pure (.type "method_descriptor")) (hm : MtR X id r) (ho : PE X o to) (ha : PA X (e :: es) t)
    (hbase : attributeBase o name X.env (eval o X.env) = eval o X.env := by rfl)
    (hfew : ((backTo cpos (starEach (e :: es) X.env)).all (fun x => !x.1) && (backToKw cpos (keywordEach [] X.env)).all (fun x => x.1.isSome)
      && decide ((e :: es).length + ([] : List Keyword).length + (if ([] : List Keyword).isEmpty then 0 else 1) < 30)) = true := by rfl)
    (hline : (apos.endLine == cpos.line) = true := by rfl) (hs : starEach (e :: es) X.env = (false, eval e X.env) :: starEach es X.env := by rfl) (hplain : (backTo cpos (starEach es X.env)).any (·.1) = false := by rfl) :
    PE X (.Call (.Attribute o name apos) (e :: es) [] cpos) (tBM X.K T r to t) := by
  intro pins s σ H Q I h
  refine wpAny_Call_method_late hbase hfew hline rfl (thn (ho pins s σ H _ I h) fun v s1 ⟨x, H1, I1, r1, ty, q1⟩ => ?_)
  obtain ⟨h1, h2⟩ := tyV_is I1 r1 ty
  refine ⟨T, id, pa, slot, hty, h1, h2, ?_⟩
  have hA := ha cpos pins s1 σ H1 _ I1 q1
  rw [hs] at hA ⊢
  refine Calls.callWith_builtin (by show (false || (backTo cpos (starEach es X.env)).any (·.1)) = false; rw [hplain] <;> rfl) (Calls.evalArgs_plain ?_)
  exact thn hA fun us s2 ⟨vs, H2, I2, r2, q2⟩ => hm pins s2 σ H2 x vs v us Q I2 r1 r2 q2
/- xs.append(e), list.index on a module's tuple .. are MtR facts of 06m -/
end
end L2

namespace L2
open PySem PySem.Spec PyProof.Rows

def MtM (X : Cx) (id : String) (r : V → List V → Hp → VK → Prop) : Prop :=
  ∀ (pins : List (Addr × Obj)) (s : Shared) (σ : St) (H : Hp) (x : V) (xs : List V) (v : Value) (us : List Value) (Q : VK), Inv X pins σ H s → RelV x v → Vals xs us → r x xs H Q →
    wpAny (model X.prog X.w) X.A (call (.builtin id) (v :: us)) (EP X pins σ Q) X.xe s

/-! ### lists of values -/
theorem Vals.one : ∀ {x : V} {us : List Value}, Vals [x] us → ∃ u, us = [u] ∧ RelV x u
  | _, _, .cons r .nil => ⟨_, rfl, r⟩
theorem Vals.zero : ∀ {us : List Value}, Vals [] us → us = []
  | _, .nil => rfl
theorem Vals.dropLast {xs : List V} {us : List Value} (h : Vals xs us) : Vals xs.dropLast us.dropLast := by
  induction h with
  | nil => exact .nil
  | cons r t ih =>
    cases t with
    | nil => exact .nil
    | cons q t' => exact .cons r ih
theorem erase_last {α : Type} (l : List α) : l.eraseIdx (l.length - 1) = l.dropLast := by
  induction l with
  | nil => rfl
  | cons a r ih =>
    cases r with
    | nil => rfl
    | cons b r =>
      have e : (a :: b :: r).length - 1 = ((b :: r).length - 1) + 1 := by
        have h1 : (a :: b :: r).length = r.length + 2 := rfl
        have h2 : (b :: r).length = r.length + 1 := rfl
        omega
      rw [e, List.eraseIdx_cons_succ, ih]
      all_goals rfl

section
variable {X : Cx} {pins : List (Addr × Obj)} {σ : St} {H : Hp} {s : Shared} {l b : Addr} {xs ys zs : List V}

/-! ### the two steps: a tracked list is rewritten, a new list is laid -/
theorem Inv.lset {its its' : List Value} {n : Nat} {f : Array Value → Array Value} {t' : Nat} (I : Inv X pins σ H s) (hH : H l = some (.lst xs))
    (e : s.heap.get? l = some { cls := .type "list", data := .seq its.toArray n }) (hf : f its.toArray = its'.toArray) (hv : Vals ys its') (hz : ys.length ≤ sizeLine) :
    Inv X pins σ (upd H l (.lst ys)) { s with heap := s.heap.update l (Obj.mapSeq f), toks := t' } := by
  have q := PySem.IsL.update e f
  rw [hf] at q
  refine I.write (x := l) (e := l) (by rw [hH]; exact trivial) (.inl rfl) (fun b' u hb hu => (Heap.get?_update_other s.heap (Obj.mapSeq f) (Ne.symm hb)).trans hu) ⟨_, q⟩ ?_
  exact ⟨hz, its', _, hv, q⟩
theorem Inv.lnew {its : List Value} {t' : Nat} (I : Inv X pins σ H s) (hv : Vals ys its) (hz : ys.length ≤ sizeLine) :
    Inv X pins σ (upd H s.heap.objs.size (.lst ys)) { s with heap := s.heap.push { cls := .type "list", data := .seq its.toArray }, toks := t' } :=
  I.laid (fun _ _ q => Heap.get?_push_of_some _ q) (Nat.le_refl _) ⟨hz, its, 0, hv, Heap.get?_push_size _ rfl⟩
theorem Inv.fresh (I : Inv X pins σ H s) : H s.heap.objs.size = none := I.hok.fresh (Nat.le_refl _)
theorem Inv.lstM (I : Inv X pins σ H s) (hH : H l = some (.lst xs)) : xs.length ≤ sizeLine ∧ ∃ (its : List Value) (n : Nat), Vals xs its ∧ xs.length = its.length ∧ s.heap.get? l = some { cls := .type "list", data := .seq its.toArray n } := by
  obtain ⟨z, its, n, r, e⟩ := I.hok l _ hH
  exact ⟨z, its, n, r, r.length, e⟩

theorem notLongL {n : Nat} (h : n ≤ sizeLine) : Builtin.List.listTooLong n = false := by
  unfold Builtin.List.listTooLong
  exact decide_eq_false (by omega)
end

section
variable {X : Cx}

/-! ### methods -/
def rAppend : V → List V → Hp → VK → Prop := fun x vs H Q => ∃ l xs y, x = .ref l ∧ vs = [y] ∧ H l = some (.lst xs) ∧ xs.length < sizeLine ∧ Q .non (upd H l (.lst (xs ++ [y])))
theorem mt_append : MtM X "list.append" rAppend := by
  intro pins s σ H x vs v us Q I rx rv h
  obtain ⟨l, xs, y, rfl, rfl, hH, hz, q⟩ := h
  cases rx
  obtain ⟨u, rfl, ru⟩ := rv.one
  obtain ⟨z, its, n, r, hl, e⟩ := I.lstM hH
  refine call_meets F.slot_list_append ⟨_, e, rfl⟩ F.entry_list_append (F.args_list_append_2 _ _) (PySem.list_append l its.toArray n u (by rw [List.size_toArray]; omega)) ⟨e, ?_⟩
  refine ⟨.non, _, I.lset (its' := its ++ [u]) hH e (by simp) (r.append (.cons ru .nil)) ?_, rfl, q⟩
  rw [List.length_append, List.length_singleton]
  omega

def rExtend : V → List V → Hp → VK → Prop := fun x vs H Q => ∃ l b xs zs, x = .ref l ∧ vs = [.ref b] ∧ H l = some (.lst xs) ∧ H b = some (.lst zs) ∧ xs.length + zs.length ≤ sizeLine ∧ Q .non (upd H l (.lst (xs ++ zs)))
theorem mt_extend : MtM X "list.extend" rExtend := by
  intro pins s σ H x vs v us Q I rx rv h
  obtain ⟨l, b, xs, zs, rfl, rfl, hH, hB, hz, q⟩ := h
  cases rx
  obtain ⟨u, rfl, ru⟩ := rv.one
  cases ru
  obtain ⟨z, its, n, r, hl, e⟩ := I.lstM hH
  obtain ⟨z2, its2, n2, r2, hl2, e2⟩ := I.lstM hB
  have hsz : its.toArray.size + its2.toArray.size ≤ sizeLine := by rw [List.size_toArray, List.size_toArray]; omega
  have hlong : ¬ (!its.toArray.isEmpty && Builtin.List.listTooLong (its.toArray.size + its2.toArray.size)) = true := by
    rw [notLongL hsz, Bool.and_false]
    exact Bool.false_ne_true
  refine call_meets F.slot_list_extend ⟨_, e, rfl⟩ F.entry_list_extend (F.args_list_extend_2 _ _)
    (AutoSeq1.list_extend_list_list_0 l its.toArray n b its2.toArray n2 hlong (by rw [List.size_toArray]; omega) (by omega)) ⟨e, e2, ?_⟩
  refine ⟨.non, _, I.lset (its' := its ++ its2) hH e (by simp) (r.append r2) ?_, rfl, q⟩
  rw [List.length_append]
  omega

def rPop : V → List V → Hp → VK → Prop := fun x vs H Q => ∃ l xs y, x = .ref l ∧ vs = [] ∧ H l = some (.lst xs) ∧ xs[xs.length - 1]? = some y ∧ Q y (upd H l (.lst xs.dropLast))
theorem mt_pop : MtM X "list.pop" rPop := by
  intro pins s σ H x vs v us Q I rx rv h
  obtain ⟨l, xs, y, rfl, rfl, hH, hy, q⟩ := h
  cases rx
  have hus := rv.zero
  subst hus
  obtain ⟨z, its, n, r, hl, e⟩ := I.lstM hH
  obtain ⟨u, hu, ru⟩ := r.get hy
  have hy' : its.toArray[its.toArray.size - 1]? = some u := by
    show its.toArray[its.length - 1]? = some u
    rw [← Array.getElem?_toList, ← hl]
    exact hu
  refine call_meets F.slot_list_pop ⟨_, e, rfl⟩ F.entry_list_pop (F.args_list_pop_1 _) (MeetsSeq.list_pop_last l its.toArray n u hy' (by rw [List.size_toArray]; omega)) ⟨e, ?_⟩
  refine ⟨y, _, I.lset (its' := its.dropLast) hH e ?_ r.dropLast ?_, ru, q⟩
  · show its.toArray.eraseIdxIfInBounds (its.toArray.size - 1) = its.dropLast.toArray
    rw [List.size_toArray, List.eraseIdxIfInBounds_toArray, erase_last]
  · rw [List.length_dropLast]
    omega



def rClear : V → List V → Hp → VK → Prop := fun x vs H Q => ∃ l xs, x = .ref l ∧ vs = [] ∧ H l = some (.lst xs) ∧ Q .non (upd H l (.lst []))
theorem mt_clear : MtM X "list.clear" rClear := by
  intro pins s σ H x vs v us Q I rx rv h
  obtain ⟨l, xs, rfl, rfl, hH, q⟩ := h
  cases rx
  have hus := rv.zero
  subst hus
  obtain ⟨z, its, n, r, hl, e⟩ := I.lstM hH
  refine call_meets F.slot_list_clear ⟨_, e, rfl⟩ F.entry_list_clear (F.args_list_clear_1 _) (AutoSeq1.list_clear_list_0 l its.toArray n (by rw [List.size_toArray]; omega)) ⟨e, ?_⟩
  exact ⟨.non, _, I.lset (its' := []) (ys := []) hH e rfl .nil (Nat.zero_le _), rfl, q⟩

/-! ### list + list, list += list, list * int -/
def rCat : R2 := fun x y H Q => ∃ l b xs zs, x = .ref l ∧ y = .ref b ∧ H l = some (.lst xs) ∧ H b = some (.lst zs) ∧ xs.length + zs.length ≤ sizeLine ∧ ∀ p, H p = none → Q (.ref p) (upd H p (.lst (xs ++ zs)))
theorem op_cat : OpR X (binaryOp .Add) rCat := by
  intro pins s σ H x y v u Q I rx ry h
  obtain ⟨l, b, xs, zs, rfl, rfl, hH, hB, hz, q⟩ := h
  cases rx
  cases ry
  obtain ⟨z, its, n, r, hl, e⟩ := I.lstM hH
  obtain ⟨z2, its2, n2, r2, hl2, e2⟩ := I.lstM hB
  refine PySem.P.add_list e e2 ?_ (by rw [List.size_toArray, List.size_toArray]; omega)
  have ea : its.toArray ++ its2.toArray = (its ++ its2).toArray := by simp
  rw [ea]
  exact ⟨.ref _, _, I.lnew (t' := s.toks) (r.append r2) (by rw [List.length_append]; omega), rfl, q _ I.fresh⟩

/-! ### del xs[i] -/
end

/-! ### xs[a:b] = ys -/
section
variable {prog : Program} {w : World} {A : Around} {E : Value → Shared → Prop} {s : Shared}
set_option maxRecDepth 100000 in
end

section
variable {X : Cx}
end
end L2

namespace Att
open PySem PySem.W PySem.Calls PyProof.Rows

/-! ### the script -/
theorem ints_of_wellAll {P : Params} {h : Heap} : ∀ (ns : List Int) (vs : List Value), WellAll P h vs (ns.map WData.int) → IntsAre vs ns := by
  intro ns
  induction ns with
  | nil =>
    intro vs w
    rw [List.map_nil] at w
    cases w
    exact .nil
  | cons n ns ih =>
    intro vs w
    rw [List.map_cons] at w
    cases w with
    | cons a b =>
      cases a
      exact .cons _ _ (ih _ b)

theorem script_of {l : OpenLaw} {n : Nat} (hn : l.most = some n) {P : Params} {h : Heap} {args : List WData} {vals : List Value}
    (hpre : l.row.toRowW.claim.pre args = true) (hwl : WellAll P h vals args) :
    ∃ a vs ns, vals = [Value.ref a] ∧ args = [WData.list (ns.map WData.int)] ∧ h.get? a = some { cls := .type "list", data := .seq vs.toArray } ∧ IntsAre vs ns ∧ ns.length ≤ n := by
  have hsh : WShape.hasAll [] args [.list .int] = true := (pre_splitW hpre).1
  have hc : l.pre.holds [] { args := args } = true := (pre_splitW hpre).2
  obtain ⟨d, r, rfl, h1, h2⟩ := hasAllW_cons hsh
  obtain rfl := hasAllW_nil h2
  obtain ⟨xs, rfl, h3⟩ := hasW_list h1
  obtain ⟨ns, rfl⟩ := items_int h3
  have hlen : ns.length ≤ n := by
    unfold OpenLaw.pre at hc
    have h4 : (WTm.not (.lt (.lit (.int (n : Int))) (.len (.arg 0)))).holds [] { args := [.list (ns.map .int)] } = true := by
      have h4 := (holds_andW hc).1
      rw [hn] at h4
      exact h4
    have h5 := condW_of h4 (w_not (w_lt w_lit (w_len_list (w_arg rfl))))
    rw [List.length_map] at h5
    refine Nat.le_of_not_lt fun q => ?_
    have q' : (n : Int) < ((ns.length : Nat) : Int) := by omega
    first
      | (rw [decide_eq_true q'] at h5; exact absurd h5 (by decide))
      | (simp at h5; omega)
  cases hwl with
  | cons w1 w2 =>
    cases w2
    cases w1 with
    | list ho hall => exact ⟨_, _, ns, rfl, rfl, ho, ints_of_wellAll ns _ hall, hlen⟩

theorem post_true (l : OpenLaw) (args : List WData) : l.row.toRowW.claim.post args (.bool true) args = true :=
  postW_of (r := l.row.toRowW) (X := (true == true))
    (show WShape.has [] (.bool true) .bool = true by first | rfl | decide | simp [WShape.has, WShape.arms, WShape.armsAll])
    (show (WTm.eq .res (.lit (.bool true))).value [] { args := args, res := some (.bool true), after := args } = some (.bool (true == true)) from w_eq_bool (w_res rfl) w_lit) rfl

/-! ### the attachment: holds_open's last premise (the goal 'hc' behind k_head) from a wpAny of the law's body -/

/-- the same from a codeAny of the CALL (for a layer whose function contracts speak of calls) -/
theorem attach_call {l : OpenLaw} {n : Nat} {q : Program} {loose : List Str} {XP : (Str → Option Value) → Heap → Prop} {YP : World → Heap → Prop} {d : DefRec}
    (hn : l.most = some n) (hdf : d.params.defaults = [])
    (call : ∀ (w : World) (s₀ s₁ : Shared) (mg mb : Str → Option Value) (fa : Addr) (o : Obj) (pm cd doc : Value) (a : Addr) (vs : List Value) (ns : List Int),
      Ground q loose [] XP w s₀ mg mb s₁.heap → YP w s₁.heap →
      s₁.heap.get? fa = some o → o.data = .func (docDef d.name d.params d.body d.scope pm cd doc) → s₁.heap.CodeRec cd d.name → mg d.name = some (.ref fa) →
      s₁.heap.get? a = some { cls := .type "list", data := .seq vs.toArray } → IntsAre vs ns → ns.length ≤ n → s₁.gens = #[] →
      codeAny (model l.prog w) callerA (.call (.ref fa) ⟨[.ref a], []⟩) (fun r s' => r = .ok (.ret (.bool true)) ∧ OldK s₁.heap s'.heap ∧ s'.os = s₁.os ∧ AllBare s'.gens) s₁) :
    WalkO q loose XP YP l.row.toRowW d [] (fun f vs => PySem.call f vs) := by
  intro w s₀ s₁ mg mb G Y fa o pm cd doc dV kV ho hd hcd hD hmg hg args vals as hpre hlay hrd hwl hlo
  obtain rfl : dV = .none := Dflts.none hD hdf
  obtain rfl : kV = .none := Dflts.noKw hD
  obtain ⟨a, vs, ns, rfl, rfl, hobj, hints, hlen⟩ := script_of hn hpre hwl
  refine enter_call (codeAny_mono (call w s₀ s₁ mg mb fa o pm cd doc a vs ns G Y ho (fd_plain hd) hcd hmg hobj hints hlen hg) fun r s' hq => ?_)
  obtain ⟨rfl, h2, h3, h4⟩ := hq
  exact ⟨.inl ⟨.bool true, .bool true, [], rfl, fun _ => rfl, .bool true, post_true l _, fun _ => ⟨List.Pairwise.nil, fun _ hm => (nomatch hm)⟩⟩, h2, h3, h4⟩


/-! ### rules over ANY heap (no ledger) from facts about the written part K: the library's own take a ledger (News) for what they write -/
section
variable {prog : Program} {w : World} {A : Around} {E : Value → Shared → Prop} {s : Shared} {K : Frag}





/-! the whole heap as the ledger: makes every rule that writes through a ledger a rule over any heap -/

end
end Att

namespace L2
open PySem PySem.Spec PyProof.Rows

theorem vals_ints : ∀ {vs : List Value} {ns : List Int}, IntsAre vs ns → Vals (ns.map V.int) vs
  | _, _, .nil => .nil
  | _, _, .cons n t h => .cons ⟨t, rfl⟩ (vals_ints h)

/-- nothing is tracked but the script, known to the object (or it is an object of the module) -/
def Only (H : Hp) : Prop := ∀ b, H b = none ∨ ∃ o xs, H b = some (.frz o (.lst xs))

/-- THE HEAD: the law's promise, at the heap behind the top. F, the promise of the law's def, may use that base is part of the heap (so K.In base, base.Ns mainGlobals mg stand in Mod) -/
theorem law_call {P : Program} {w : World} {K : PySem.W.Frag} {mg mb : Str → Option Value} {CX : CXT} {k : Nat} {fa a : Addr} {fd : FuncData} {x : Str} {sp : Sp} {s₁ : Shared} {vs : List Value} {ns : List Int}
    (KX : K.In s₁.heap) (hns : s₁.heap.Ns mainGlobals mg) (hb : s₁.heap.Ns builtinsNs mb) (hbb : ∀ x : Str, x ≠ "__name__" → mb x = bootBuiltins x) (hlim : s₁.heap.NoLimit) (hg : s₁.gens = #[])
    (ha : s₁.heap.get? a = some { cls := .type "list", data := .seq vs.toArray }) (hi : IntsAre vs ns) (hl : ns.length ≤ sizeLine) (hr : Room k callerA)
    (F : ∀ base : Heap, K.In base → base.Ns mainGlobals mg → FnOk P w K mg base CX k fa fd [x] sp) (hbind : ∀ (s : Shared) (u : Value), BindsTo s fd ⟨[u], []⟩ [(x, u)])
    (hsp : ∀ H : Hp, Only H → SqL K H a (ns.map V.int) → sp [.ref a] H (fun v _ => v = .bl true) fun _ _ _ => False)
    (hCX : ∀ H e s', CX [] H s₁ (fun _ _ _ => False) e s' → False) :
    codeAny (model P w) callerA (.call (.ref fa) ⟨[.ref a], []⟩) (fun r s' => r = .ok (.ret (.bool true)) ∧ OldK s₁.heap s'.heap ∧ s'.os = s₁.os ∧ AllBare s'.gens) s₁ := by
  have rv := vals_ints hi
  have lenV := hi.length
  -- from an abstract heap in which nothing but the script may be tracked
  have core : ∀ H : Hp, Only H → SqL K H a (ns.map V.int) → HOk P w H s₁.heap → (∀ b, H b ≠ none → b = a) → (H a ≠ none → K.lookup a = none) →
      codeAny (model P w) callerA (.call (.ref fa) ⟨[.ref a], []⟩) (fun r s' => r = .ok (.ret (.bool true)) ∧ OldK s₁.heap s'.heap ∧ s'.os = s₁.os ∧ AllBare s'.gens) s₁ := by
    intro H hO hS hok hA hK
    have base_of : ∀ {b : Addr} {o : Obj}, s₁.heap.get? b = some o → H b = none → (hidT s₁.heap H).get? b = some o := fun e n => hidT_get e n
    have noA : ∀ {b : Addr} {o : Obj} {es : Array DictEntry} {ep : Nat}, s₁.heap.get? b = some o → o.data = .dict es ep → H b = none := fun {b o es ep} e d => by
      cases q : H b with
      | none => rfl
      | some u =>
        have e' : b = a := hA b (by rw [q]; simp)
        subst e'
        rw [ha] at e; cases e
        have d' : Data.seq vs.toArray _ = Data.dict es ep := d
        cases d'
    have nsK : ∀ {b : Addr} {m : Str → Option Value}, s₁.heap.Ns b m → (hidT s₁.heap H).Ns b m := fun {b m} ⟨o, es, ep, e, d, r⟩ => ⟨o, es, ep, base_of e (noA e d), d, r⟩
    have hKb : K.In (hidT s₁.heap H) := fun b o e => base_of (KX b o e) (by
      cases q : H b with
      | none => rfl
      | some u =>
        have e' : b = a := hA b (by rw [q]; simp)
        subst e'
        rw [hK (by rw [q]; simp)] at e; cases e)
    have hM : Mod K mg (hidT s₁.heap H) := ⟨hKb, nsK hns, ⟨mb, nsK hb, hbb⟩, let ⟨mc, h1, h2⟩ := hlim; ⟨mc, nsK h1, h2⟩⟩
    have e0 : Env0 P w K mg (hidT s₁.heap H) callerA [] s₁ H := ⟨rfl, hM, fun b o e => of_hidT e, Nat.le_of_eq (hidT_size _ _), trivial, fun b hb => absurd (show b ∈ ([] : List Addr) from hb) (by simp), hok, .of_eq hg⟩
    refine codeAny_mono ((F _ hKb (nsK hns)).run callerA [] s₁ H ⟨[.ref a], []⟩ [.ref a] [.ref a] _ _ hr e0 (hbind s₁ (.ref a)) (.cons rfl .nil) (hsp H hO hS)) fun r s' h => ?_
    cases r with
    | error e => exact (hCX H e s' h).elim
    | ok fl =>
      cases fl with
      | next => exact False.elim h
      | brk => exact False.elim h
      | cont => exact False.elim h
      | ret u =>
        obtain ⟨v, H', os, bare, un, hok', r', q⟩ := h
        have q' : v = .bl true := q
        subst q'
        obtain rfl : u = Value.bool true := r'
        refine ⟨rfl, OldK.of_keep fun b o e => ?_, os, bare⟩
        cases q : H b with
        | none => exact un.keep b o e q (by intro z; exact absurd (show b ∈ ([] : List Addr) from z) (by simp)) (by simp)
        | some u =>
          rcases hO b with z | ⟨ob, xs, z⟩
          · rw [q] at z; cases z
          · have z2 := un.frzs b ob _ z
            obtain ⟨e1, _⟩ := hok b _ z
            obtain ⟨e2, _⟩ := hok' b _ z2
            rw [e] at e1; cases e1
            exact e2
  cases hk : K.lookup a with
  | some o =>
    -- the script is one of the module's own objects
    have e := KX a o hk
    rw [ha] at e
    cases e
    refine core (fun _ => none) (fun _ => .inl rfl) (.inr ⟨_, vs.toArray, _, hk, rfl, rfl, rfl, by rw [List.size_toArray, lenV]; exact hl, by simpa using rv⟩) (fun b u z => by have z' : (none : Option HO) = some u := z; cases z') (fun b z => absurd rfl z) fun z => absurd rfl z
  | none =>
    refine core (fun b => if b = a then some (.frz { cls := .type "list", data := .seq vs.toArray } (.lst (ns.map V.int))) else none) (fun b => ?_) (.inl (.inr ⟨{ cls := .type "list", data := .seq vs.toArray }, if_pos rfl⟩)) (fun b u z => ?_) (fun b z => ?_) fun _ => hk
    · by_cases hb : b = a
      · exact .inr ⟨_, _, if_pos hb⟩
      · exact .inl (if_neg hb)
    · by_cases hb : b = a
      · have z' := (if_pos hb).symm.trans z
        cases z'
        subst hb
        exact ⟨ha, by rw [List.length_map]; exact hl, vs, _, rv, ha⟩
      · have z' := (if_neg hb).symm.trans z
        cases z'
    · by_cases hb : b = a
      · exact hb
      · exact absurd (if_neg hb) z
end L2

namespace L2
open PySem PySem.Spec PyProof.Rows


/-- the goal that k_head leaves (case hc), from the law's promise. F gives the function object fd (K's own) once, then the promise over every base -/
theorem walk_of {l : PySem.W.OpenLaw} {n k : Nat} {q : Program} {loose : List Str} {XP : (Str → Option Value) → Heap → Prop} {YP : World → Heap → Prop} {d : DefRec} {K : Params → PySem.W.Frag} {CX : World → CXT} {sp : World → Sp} {x : Str}
    (hn : l.most = some n) (hn2 : n ≤ sizeLine) (hdf : d.params.defaults = []) (hr : Room k callerA)
    (hY : ∀ (w : World) (h : Heap), YP w h → (K w.params).In h)
    (F : ∀ (w : World) (mg : Str → Option Value) (fa : Addr) (h : Heap), (K w.params).In h → h.Ns mainGlobals mg → mg d.name = some (.ref fa) →
      ∃ fd : FuncData, (∀ (s : Shared) (u : Value), BindsTo s fd ⟨[u], []⟩ [(x, u)]) ∧
        ∀ base : Heap, (K w.params).In base → base.Ns mainGlobals mg → FnOk l.prog w (K w.params) mg base (CX w) k fa fd [x] (sp w))
    (hsp : ∀ (w : World) (H : Hp) (a : Addr) (ns : List Int), ns.length ≤ n → Only H → SqL (K w.params) H a (ns.map V.int) → sp w [.ref a] H (fun v _ => v = .bl true) fun _ _ _ => False)
    (hCX : ∀ (w : World) (H : Hp) (s : Shared) (e : Value) (s' : Shared), CX w [] H s (fun _ _ _ => False) e s' → False) :
    PySem.W.WalkO q loose XP YP l.row.toRowW d [] (fun f vs => PySem.call f vs) := by
  refine Att.attach_call hn hdf fun w s₀ s₁ mg mb fa o pm cd doc a vs ns G Y ho hd hcd hmg hobj hints hlen hg => ?_
  have KX := hY w _ Y
  obtain ⟨fd, hb, hF⟩ := F w mg fa _ KX G.T.g hmg
  exact law_call KX G.T.g G.T.b G.T.builtins G.T.nolimit hg hobj hints (Nat.le_trans hlen hn2) hr hF hb (fun H hO hS => hsp w H a ns hlen hO hS) fun H e s' => hCX w H s₁ e s'
end L2

/- THE LAST THEOREM (shape; LID, My.* are yours):
   My.Adr: a structure of the addresses that your layer names (classes, functions); My.Txt K t: a structure (Prop) of the equations over K;
   My.txt_mk : {K} {implicit addresses ..} (e1 : nsIn K mainGlobals "law" = some (some (.ref f))) (e2 : K.lookup f = some ⟨oc, od, .func (fnOf "law" "law" params body scope dV kV doc pm an cdv ct), sl⟩) (e3 : codeIn K cdv "law" = true) .. : ∃ t, My.Txt K t

set_option maxRecDepth 100000 in
set_option maxHeartbeats 0 in
theorem PySem.Challenge.cw_LID_holds : PySem.Challenge.rw_LID.Holds := by
  w_on; o_law; k_head; (case hw => w_witness2)
  k_fill
  refine L2.walk_of (l := PySem.Challenge.rw_LID) (n := 63) (k := 40) (x := "script") (CX := fun w => ..) (sp := fun _ => My.sp_law) rfl (by decide) rfl ⟨rfl, by decide, by decide⟩ (fun w h Y => PySem.W.kIn_of Y) ?F ?S ?C
  case F =>
    intro w mg fa h KX G hmg
    have T : ∃ t, My.Txt (L2.KOf KX) t := by
      dsimp only [L2.KOf]                          -- K must stand as «<heap const> w.params» for k_is
      refine' My.txt_mk ?e1 ?e2 ?e3 ..
      (case e1 => PySem.W.k_is)                    -- in the order: a name -> its address -> its object -> its parts
      (case e2 => PySem.W.k_is)
      ..
    obtain ⟨t, T⟩ := T
    have e0 := hmg.symm.trans (PySem.W.mg_of KX G T.law)
    cases e0                                       -- fa is the law's own address
    exact ⟨_, fun s u => .of_eq rfl, fun base kb nb => My.law_fn T kb nb⟩     -- if «.of_eq rfl» comes too early: refine' ⟨_, ?b, fun base kb nb => My.law_fn T kb nb⟩; exact fun s u => .of_eq rfl
  case S => exact fun w H a ns hl hO hS => ..
  case C => exact ..
(the tactic k_is has no namespace: write k_is) -/

/-! SHORT WORDS over the layer: a def of the text, its body, what a loop and a test want. -/
namespace L2
open PySem PySem.Spec PyProof.Rows

/-! ### the text by places -/
/-- the j-th statement of a class's body -/
def inClass (s : Stmt) (j : Nat) : Stmt := match s with
  | .ClassDef _ _ _ body _ _ _ _ _ _ _ => body.getD j (.Pass ⟨0, 0, 0, 0⟩)
  | _ => .Pass ⟨0, 0, 0, 0⟩
def defArgs (s : Stmt) : Arguments := match s with
  | .FunctionDef _ a _ _ _ _ _ _ _ _ => a
  | _ => { posonlyargs := [], args := [], vararg := none, kwonlyargs := [], kw_defaults := [], kwarg := none, defaults := [] }
def defBody (s : Stmt) : List Stmt := match s with
  | .FunctionDef _ _ b _ _ _ _ _ _ _ => b
  | _ => []
def defScope (s : Stmt) : Scope := match s with
  | .FunctionDef _ _ _ _ _ _ sc _ _ _ => sc
  | _ => { kind := .function, names := [], isGenerator := false, isCoroutine := false }

/-! ### no exception leaves a def -/
abbrev CX0 : CXT := fun _ _ _ _ _ _ => False
abbrev E0 : XK := fun _ _ _ => False
theorem pass0 {X : Cx} : Passes CX0 X E0 := fun _ _ _ _ _ _ _ h => h.elim

/-! ### a def (or method) of the text as it stands behind the top -/
structure Fun (K : PySem.W.Frag) (x qual : Str) (st : Stmt) (f : Addr) (fd : FuncData) : Prop where
  ex : ∃ (oc : Value) (od : Option Addr) (kV doc pm : Value) (an : Option Addr) (cdv ct : Value) (osl : Array (Option Value)),
    fd = PySem.W.fnOf x qual (defArgs st) (defBody st) (defScope st) .none kV doc pm an cdv ct ∧ K.lookup f = some ⟨oc, od, .func fd, osl⟩ ∧ PySem.W.codeIn K cdv qual = true
  kp : PySem.W.keepIn K (.ref f) = true
section
variable {P : Program} {w : World} {K : PySem.W.Frag} {mg : Str → Option Value} {base : Heap}
/-- THE RULE for a def: its body as a term of rules, and the reading of that term -/
theorem Fun.ok {x qual : Str} {st : Stmt} {f : Addr} {fd : FuncData} {N ps : List Str} {k : Nat} {sp : Sp} (F : Fun K x qual st f fd) (S : FnScope N ps (defScope st)) (len : ∀ vs H Q E, sp vs H Q E → vs.length = ps.length)
    (hbody : ∀ (cdv : Value) (A : Around) (outer : List Env) (s : Shared) (H : Hp) (vs : List V) (Q : VK) (E : XK), Room k (A.deeper (envOfC qual (defScope st) s.heap.objs.size f cdv)) → sp vs H Q E →
      ∃ t, PSs (cxOf CX0 P w K mg base N qual (defScope st) f cdv A outer s H E).nox (defBody st) t ∧ t { nx := fun _ H' => Q .non H', rt := Q } (start N vs) H) : FnOk P w K mg base CX0 (k + 1) f fd ps sp := by
  obtain ⟨oc, od, kV, doc, pm, an, cdv, ct, osl, rfl, lk, hcd⟩ := F.ex
  refine fn_of lk hcd S len fun A outer s H vs Q E hr hsp => ?_
  obtain ⟨t, h, q⟩ := hbody cdv A outer s H vs Q E hr hsp
  exact ⟨t, h.nox, q⟩
/-- how its arguments bind (no defaults): h is «fun _ _ _ _ _ _ us hl => match us, hl with | [_, _], _ => rfl», one _ a parameter -/
theorem Fun.binds {x qual : Str} {st : Stmt} {f : Addr} {fd : FuncData} {ps : List Str} (F : Fun K x qual st f fd)
    (h : ∀ (kV doc pm : Value) (an : Option Addr) (cdv ct : Value) (us : List Value), us.length = ps.length → bindArgs (PySem.W.fnOf x qual (defArgs st) (defBody st) (defScope st) .none kV doc pm an cdv ct) ⟨us, []⟩ = pure (ps.zip us)) : Binds K fd ps [] := by
  obtain ⟨oc, od, kV, doc, pm, an, cdv, ct, osl, rfl, lk, hcd⟩ := F.ex
  exact .all (h kV doc pm an cdv ct)
theorem fun_mk {x qual : Str} {st : Stmt} {f : Addr} {oc : Value} {od an : Option Addr} {osl : Array (Option Value)} {kV doc pm cdv ct : Value} (l : K.lookup f = some ⟨oc, od, .func (PySem.W.fnOf x qual (defArgs st) (defBody st) (defScope st) .none kV doc pm an cdv ct), osl⟩)
    (c : PySem.W.codeIn K cdv qual = true) (k : PySem.W.keepIn K (.ref f) = true) : Fun K x qual st f (PySem.W.fnOf x qual (defArgs st) (defBody st) (defScope st) .none kV doc pm an cdv ct) := ⟨⟨oc, od, kV, doc, pm, an, cdv, ct, osl, rfl, l, c⟩, k⟩
end
theorem small1000 {n : Nat} (h : n ≤ 1000) : n < sizeLine := Nat.lt_of_le_of_lt h (by decide)

/-! ### expressions in short: the name that stands in the i-th slot -/
section
variable {X : Cx}
end

/-! ### tests -/
theorem ite2 {c A B : Prop} [Decidable c] (h1 : c → A) (h2 : ¬ c → B) : if c then A else B := by
  by_cases h : c
  · rw [if_pos h]
    exact h1 h
  · rw [if_neg h]
    exact h2 h

/-! ### heaps -/
/-- all that was tracked is as it was -/
def Same (H H' : Hp) : Prop := ∀ b o, H b = some o → H' b = some o
theorem Same.refl (H : Hp) : Same H H := fun _ _ h => h
theorem Same.trans {H H1 H2 : Hp} (a : Same H H1) (b : Same H1 H2) : Same H H2 := fun c o h => b c o (a c o h)
theorem Same.free {H H' : Hp} (e : Same H H') {l : Addr} (h : H' l = Option.none) : H l = Option.none := by
  cases q : H l with
  | none => rfl
  | some o =>
    rw [e l o q] at h
    cases h
theorem Same.seq {K : PySem.W.Frag} {H H' : Hp} {a : Addr} {xs : List V} (e : Same H H') (h : SqL K H a xs) : SqL K H' a xs := by
  rcases h with (h | ⟨o, h⟩) | h
  · exact .inl (.inl (e _ _ h))
  · exact .inl (.inr ⟨o, e _ _ h⟩)
  · exact .inr h

end L2


set_option Elab.async false
set_option linter.all false
set_option maxRecDepth 100000
set_option maxHeartbeats 4000000
/-! A comprehension as a rule of the layer: its block is a context of its own, whose captured names read the outer slots. -/
namespace L2
open PySem PySem.Spec PyProof.Rows

/-- the block's context -/
def cxComp (X : Cx) (N' : List Str) (scope : Scope) (cl : List (Str × Addr)) (C : Addr) (s₀ : Shared) (H₀ : Hp) (fp : List Addr) : Cx :=
  { prog := X.prog, w := X.w, K := X.K, mg := X.mg, base := X.base, A := X.A, N := N', s₀ := s₀, H₀ := H₀, env := compEnvC scope cl C X.env, outer := X.stack, stack := X.stack, ex := fp, fn := fun _ => false,
    calm := X.calm, pn := [], xe := fun _ _ => False }

/-- what is seen of the two scopes: N, osc the outer one's names and scope; src: the outer slot of a captured name -/
structure CompOk (N : List Str) (osc : Scope) (N' : List Str) (src : List (Option Nat)) (scope : Scope) : Prop where
  kind : scope.kind = .function
  nocell : ∀ y ∈ scope.names, y.2 ≠ .cell
  loc : ∀ y ∈ scope.names, y.2 = .local → scope.names.lookup y.1 = some .local
  frees : ∀ y ∈ scope.names, y.2 = .free → osc.names.lookup y.1 = some .cell ∨ osc.names.lookup y.1 = some .free
  nd : N'.Nodup
  len : src.length = N'.length
  src : ∀ q ∈ src.zip N', ∀ j ∈ q.1.toList, N[j]? = some q.2 ∧ scope.names.lookup q.2 = some .free

theorem closure_go {env : Env} : ∀ (l : List (Str × NameKind)) (acc : List (Str × Addr)), (∀ x c, acc.lookup x = some c → env.cells.lookup x = some c) → (∀ y ∈ l, y.2 = .free → ∃ c, env.cells.lookup y.1 = some c) →
    ∃ cl, (forIn l acc fun (x : Str × NameKind) (r : List (Str × Addr)) => (if (x.2 == NameKind.free) = true then (cellOf env x.1 >>= fun a => pure (ForInStep.yield ((x.1, a) :: r))) else pure (ForInStep.yield r) : Sem (ForInStep (List (Str × Addr))))) = pure cl ∧
      (∀ x c, cl.lookup x = some c → env.cells.lookup x = some c) ∧ (∀ y ∈ l, y.2 = .free → ∃ c, cl.lookup y.1 = some c) ∧ (∀ x c, acc.lookup x = some c → ∃ d, cl.lookup x = some d)
  | [], acc, h, _ => ⟨acc, rfl, h, fun _ z => (nomatch z), fun x c e => ⟨c, e⟩⟩
  | (n, k) :: l, acc, h, hf => by
    by_cases hk : k = .free
    · subst hk
      obtain ⟨c, hc⟩ := hf (n, .free) List.mem_cons_self rfl
      have hacc : ∀ x d, ((n, c) :: acc).lookup x = some d → env.cells.lookup x = some d := fun x d e => by
        rw [List.lookup_cons] at e
        cases hx : x == n with
        | true =>
          rw [hx] at e
          have e1 : x = n := by simpa using hx
          have e2 : c = d := by simpa using e
          rw [e1, ← e2]; exact hc
        | false =>
          rw [hx] at e
          exact h x d e
      obtain ⟨cl, e1, e2, e3, e4⟩ := closure_go l ((n, c) :: acc) hacc fun y hy => hf y (List.mem_cons_of_mem _ hy)
      refine ⟨cl, ?_, e2, fun y hy hyf => ?_, fun x d e => ?_⟩
      · rw [List.forIn_cons]
        have : cellOf env n = pure c := by unfold cellOf; rw [hc]
        simp only [beq_self_eq_true, if_true, this, pure_bind]
        exact e1
      · rcases List.mem_cons.mp hy with rfl | hy
        · exact e4 n c (by simp)
        · exact e3 y hy hyf
      · by_cases hx : x = n
        · subst hx; exact e4 x c (by simp)
        · have hb : (x == n) = false := by simpa using hx
          exact e4 x d (by rw [List.lookup_cons, hb]; exact e)
    · obtain ⟨cl, e1, e2, e3, e4⟩ := closure_go l acc h fun y hy => hf y (List.mem_cons_of_mem _ hy)
      refine ⟨cl, ?_, e2, fun y hy hyf => ?_, e4⟩
      · rw [List.forIn_cons]
        have hb : (k == NameKind.free) = false := by simpa using hk
        simp only [hb, Bool.false_eq_true, if_false, pure_bind]
        exact e1
      · rcases List.mem_cons.mp hy with rfl | hy
        · exact absurd hyf hk
        · exact e3 y hy hyf

theorem closure_of {scope : Scope} {env : Env} (hf : ∀ y ∈ scope.names, y.2 = .free → ∃ c, env.cells.lookup y.1 = some c) :
    ∃ cl, closureFor scope env = pure cl ∧ (∀ x c, cl.lookup x = some c → env.cells.lookup x = some c) ∧ ∀ y ∈ scope.names, y.2 = .free → ∃ c, cl.lookup y.1 = some c := by
  obtain ⟨cl, e1, e2, e3, _⟩ := closure_go (env := env) scope.names [] (fun _ _ z => by simp at z) hf
  refine ⟨cl, ?_, e2, e3⟩
  unfold closureFor
  refine Eq.trans ?_ (congrArg (fun t => t >>= fun c => (pure c : Sem (List (Str × Addr)))) e1)
  first
    | rfl
    | (congr 1)

/-- the kind of a name in the block -/
theorem relabel_free {scope : Scope} {env : Env} : ∀ {x : Str}, (relabel scope env).names.lookup x = some .cell ∨ (relabel scope env).names.lookup x = some .free → (∀ y ∈ scope.names, y.2 ≠ .cell) → (x, NameKind.free) ∈ scope.names := by
  intro x h hc
  have key : ∀ (l : List (Str × NameKind)), (∀ y ∈ l, y.2 ≠ .cell) → ((l.map fun (n, k) => if (k == NameKind.free && env.scope.kind == .function && env.kindOf n == some .cell) then (n, NameKind.cell) else (n, k)).lookup x = some .cell ∨
      (l.map fun (n, k) => if (k == NameKind.free && env.scope.kind == .function && env.kindOf n == some .cell) then (n, NameKind.cell) else (n, k)).lookup x = some .free) → (x, NameKind.free) ∈ l := by
    intro l
    induction l with
    | nil => intro _ h; simp at h
    | cons y l ih =>
      obtain ⟨n, k⟩ := y
      intro hc h
      have hc' : ∀ y ∈ l, y.2 ≠ .cell := fun y hy => hc y (List.mem_cons_of_mem _ hy)
      have hk : k ≠ .cell := hc (n, k) List.mem_cons_self
      rw [List.map_cons] at h
      by_cases hx : x = n
      · subst hx
        by_cases hf : k = .free
        · subst hf; exact List.mem_cons_self
        · exfalso
          have hb : (k == NameKind.free) = false := by simpa using hf
          simp only [hb, Bool.false_and, Bool.false_eq_true, if_false, List.lookup_cons, beq_self_eq_true] at h
          rcases h with h | h
          · exact hk (Option.some.inj h)
          · exact hf (Option.some.inj h)
      · refine List.mem_cons_of_mem _ (ih hc' ?_)
        have hb : (x == n) = false := by simpa using hx
        by_cases hq : (k == NameKind.free && env.scope.kind == .function && env.kindOf n == some .cell) = true
        · simp only [hq, if_true, List.lookup_cons, hb] at h
          exact h
        · simp only [hq, Bool.false_eq_true, if_false, List.lookup_cons, hb] at h
          exact h
  exact key _ hc h
theorem relabel_look {scope : Scope} {env : Env} {x : Str} (h : scope.names.lookup x = some .free) : (relabel scope env).names.lookup x = some .cell ∨ (relabel scope env).names.lookup x = some .free := by
  have key : ∀ (l : List (Str × NameKind)), l.lookup x = some .free → ((l.map fun (n, k) => if (k == NameKind.free && env.scope.kind == .function && env.kindOf n == some .cell) then (n, NameKind.cell) else (n, k)).lookup x = some .cell ∨
      (l.map fun (n, k) => if (k == NameKind.free && env.scope.kind == .function && env.kindOf n == some .cell) then (n, NameKind.cell) else (n, k)).lookup x = some .free) := by
    intro l
    induction l with
    | nil => intro h; simp at h
    | cons y l ih =>
      obtain ⟨n, k⟩ := y
      intro h
      rw [List.map_cons]
      rw [List.lookup_cons] at h
      cases hx : x == n with
      | true =>
        rw [hx] at h
        have hk : k = .free := Option.some.inj h
        subst hk
        by_cases hq : (NameKind.free == NameKind.free && env.scope.kind == .function && env.kindOf n == some .cell) = true
        · simp only [hq, if_true, List.lookup_cons, hx]; exact .inl trivial
        · simp only [hq, Bool.false_eq_true, if_false, List.lookup_cons, hx]; exact .inr trivial
      | false =>
        rw [hx] at h
        by_cases hq : (k == NameKind.free && env.scope.kind == .function && env.kindOf n == some .cell) = true
        · simp only [hq, if_true, List.lookup_cons, hx]; exact ih h
        · simp only [hq, Bool.false_eq_true, if_false, List.lookup_cons, hx]; exact ih h
  exact key _ h

/-- the slots at the block's entry -/
def capt (src : List (Option Nat)) (σ : St) : St := src.map fun o => o.bind fun j => (σ[j]?).join

section
variable {X : Cx} {pins : List (Addr × Obj)} {σ : St} {H : Hp} {s : Shared} {N' : List Str} {src : List (Option Nat)} {scope osc : Scope} {cl : List (Str × Addr)} {fp : List Addr}

/-- into the block: the state behind newFunctionEnv -/
theorem comp_enter {h₁ : Heap} {tk : Nat} (I : Inv X pins σ H s) (hf : ∀ b ∈ fp, FpOk X pins H b) (hlt : ∀ b ∈ fp, b < s.heap.objs.size) (ok : CompOk X.N osc N' src scope) (hsc : X.env.scope = osc)
    (c1 : ∀ x c, cl.lookup x = some c → X.env.cells.lookup x = some c) (c2 : ∀ y ∈ scope.names, y.2 = .free → ∃ c, cl.lookup y.1 = some c)
    (hn : h₁.Ns s.heap.objs.size fun _ => none) (hk : ∀ b o, s.heap.get? b = some o → h₁.get? b = some o) :
    Inv (cxComp X N' scope cl s.heap.objs.size s H fp) [] (capt src σ) H { s with heap := h₁, toks := tk } := by
  have hkind : (relabel scope X.env).kind = .function := ok.kind
  refine ⟨⟨I.ok.mod, hkind, I.ok.glob, I.ok.blt, Nat.le_refl _, fun x y c h1 h2 => I.ok.inj x y c (c1 x c h1) (c1 y c h2), fun x hx => ?_, fun x c z _ => (by cases z), I.ok.hd, I.ok.frames, .inl rfl, fun b hb => ?_, I.bs, Nat.le_trans I.ok.bsz I.sz, fun b o e hb => ?_, fun b hb z => ?_, I.stack, I.stkFree⟩,
    rfl, I.bare, Un.kept hk, ⟨_, hn, fun i x v h1 h2 h3 => ?_⟩, fun x c e => ?_, I.hok.fresh (Nat.le_refl _), fun x c e => I.freeC x c (c1 x c e), fun p hp => absurd (show p ∈ ([] : List (Addr × Obj)) from hp) (by simp), I.hok.kept hk, ?_⟩
  · exact c2 _ (relabel_free (env := X.env) (scope := scope) (x := x) hx ok.nocell) rfl
  · obtain ⟨f0, f1, f2, f3, f4, f5⟩ := hf b hb
    exact ⟨fun z => absurd (hlt b hb) (by rw [z]; exact Nat.lt_irrefl _), fun x c e => f4 x c (c1 x c e)⟩
  · obtain ⟨f0, f1, f2, f3, f4, f5⟩ := hf b hb
    rcases f3 with z | z
    · exact I.ok.noex b o e z
    · exact absurd (Nat.lt_of_lt_of_le (Heap.lt_size e) (Nat.le_trans I.ok.bsz z)) (Nat.lt_irrefl _)
  · obtain ⟨f0, f1, f2, f3, f4, f5⟩ := hf b hb
    rcases List.mem_cons.mp (I.stkSub b z) with q | q
    · exact f1 q
    · exact f2 q
  · -- a captured name
    have hi : ∃ j, src[i]? = some (some j) ∧ σ[j]? = some (some v) := by
      unfold capt at h2
      rw [List.getElem?_map] at h2
      cases e : src[i]? with
      | none => rw [e] at h2; cases h2
      | some o =>
        rw [e] at h2
        cases o with
        | none => cases h2
        | some j =>
          refine ⟨j, rfl, ?_⟩
          have h2' : (σ[j]?).join = some v := Option.some.inj h2
          cases e2 : σ[j]? with
          | none => rw [e2] at h2'; cases h2'
          | some w => rw [e2] at h2'; exact congrArg some h2'
    obtain ⟨j, e1, e2⟩ := hi
    have hz : (some j, x) ∈ src.zip N' := by
      refine List.mem_iff_getElem?.mpr ⟨i, ?_⟩
      rw [List.getElem?_zip_eq_some]
      exact ⟨e1, h1⟩
    obtain ⟨q1, q2⟩ := ok.src _ hz j (by simp)
    have hfr := PySem.mem_of_lookup q2
    have hk0 := ok.frees _ hfr rfl
    rw [← hsc] at hk0
    obtain ⟨m, hns, hl⟩ := I.loc
    obtain ⟨u, r, l⟩ := hl j x v q1 e2 (hk0.elim (fun z => .inr (.inl z)) fun z => .inr (.inr z))
    refine ⟨u, r, ?_⟩
    rcases l with ⟨l1, _⟩ | ⟨_, c, l2, l3⟩
    · exfalso
      have l1' : X.env.scope.names.lookup x = some .local := l1
      rcases hk0 with z | z
      · rw [l1'] at z; cases z
      · rw [l1'] at z; cases z
    · obtain ⟨d, hd⟩ := c2 _ hfr rfl
      have : d = c := by
        have := (c1 _ _ hd).symm.trans l2
        exact Option.some.inj this
      subst this
      obtain ⟨o, ho, hod⟩ := l3
      exact .inr ⟨relabel_look q2, d, hd, o, hk _ _ ho, hod⟩
  · obtain ⟨v, o, ho, hod⟩ := I.cell x c (c1 x c e)
    exact ⟨v, o, hk _ _ ho, hod⟩
  · show (capt src σ).length = N'.length
    unfold capt
    rw [List.length_map]
    exact ok.len

/-- out of the block: its namespace is let go -/
theorem comp_leave {C : Addr} {σ' : St} {H' : Hp} {s' : Shared} {h' : Heap} (I : Inv X pins σ H s) (hf : ∀ b ∈ fp, FpOk X pins H b) (hC : s.heap.objs.size ≤ C) (J : Inv (cxComp X N' scope cl C s H fp) [] σ' H' s') (hs : Heap.SameBut C s'.heap h') :
    Inv X pins σ H' { s' with heap := h' } := by
  have nC : ∀ b o, s.heap.get? b = some o → b ≠ C := fun b o e z => absurd (Nat.lt_of_lt_of_le (Heap.lt_size e) (by rw [z]; exact hC)) (Nat.lt_irrefl _)
  have B : Un (frs X.stack) fp H H' s.heap s'.heap := J.base
  refine I.call' (ch := fp) J.os ⟨fun b o e n hb hx => (hs.2 b (nC b o e)).trans (B.keep b o e n hb hx), fun b o e n hb hx => ?_, B.free, fun b o e hx => ?_, B.tups, B.frzs, B.tbls⟩ (fun b ob e => ?_) J.bare fun b hb => ?_
  · obtain ⟨sl, e1⟩ := B.slot b o e n hb hx
    exact ⟨sl, (hs.2 b (nC b o e)).trans e1⟩
  · obtain ⟨o', e1⟩ := B.there b o e hx
    exact ⟨o', (hs.2 b (nC b o e)).trans e1⟩
  · refine (J.hok b ob e).stay (fun c w' hc q => (hs.2 c ?_).trans q) (fun _ q => q) fun _ _ q => q
    have hfree : H' C = none := J.free
    rintro rfl
    rcases hc with rfl | hc
    · rw [hfree] at e; cases e
    · rw [hfree] at hc; cases hc
  · obtain ⟨f0, f1, f2, f3, f4, f5⟩ := hf b hb
    exact ⟨f3, f1, f4, f5⟩
end

/-! ### the loop of a comprehension with one clause -/
def testsOf (ifs : List Expr) (env : Env) : Sem Bool := forIn ifs true fun c r => if r = true then do let ok ← isTrue c env (eval c env); pure (ForInStep.yield ok) else pure (ForInStep.yield r)
def PIf (X : Cx) (ifs : List Expr) (t : TT) : Prop :=
  ∀ (pins : List (Addr × Obj)) (s : Shared) (σ : St) (H : Hp) (Q : Bool → Hp → Prop), Inv X pins σ H s → t σ H Q → wpAny (model X.prog X.w) X.A (testsOf ifs X.env) (TP X pins σ Q) X.xe s
def tYes : TT := fun _ H Q => Q true H
theorem pif_nil {X : Cx} : PIf X [] tYes := fun pins s σ H Q I h => wpAny_tests_nil ⟨H, I, h⟩
theorem pif_one {X : Cx} {c : Expr} {t : TT} (h : PT X c t) : PIf X [c] t := fun pins s σ H Q I hq => wpAny_tests_one (h pins s σ H Q I hq)

theorem compLoop_own {prog : Program} {w : World} {A : Around} {R : Result → Shared → Prop} {s : Shared} {elt target iter : Expr} {ifs : List Expr} {scope : Scope} {pos : Pos} {it acc : Value} {env : Env} (I : Nat → Shared → Prop)
    (turn : ∀ n s, I n s → wpAny (model prog w) A (pyNext it) (fun r s1 => match r with
      | none => R (.ok .next) s1
      | some v => wpAny (model prog w) A (letOwnedTupleGo target it v) (fun _ s1' => wpAny (model prog w) A (assign target env v) (fun _ s2 => wpAny (model prog w) A (testsOf ifs env) (fun ok s3 =>
            if ok = true then wpAny (model prog w) A (eval elt env) (fun x s4 => wpAny (model prog w) A (call (.builtin "list.append") [acc, x]) (fun _ s5 => ∃ m, m < n ∧ I m s5) (fun _ _ => False) s4) (fun _ _ => False) s3
            else ∃ m, m < n ∧ I m s3) (fun _ _ => False) s2) (fun _ _ => False) s1') (fun _ _ => False) s1) (fun _ _ => False) s)
    (n : Nat) (h : I n s) : codeAny (model prog w) A (.compLoop (.ListComp elt [⟨target, iter, ifs, 0⟩] scope pos) 0 it acc env) R s := by
  have no : ∀ {E : Value → Shared → Prop} (e : Value) (s : Shared), (fun (_ : Value) (_ : Shared) => False) e s → E e s := fun _ _ z => False.elim z
  refine codeAny_loop rfl I (fun n s hI => ?_) n h
  show wpAny _ A ((compTurn (.ListComp elt [⟨target, iter, ifs, 0⟩] scope pos) 0 it acc env).onRaise (fun x => do noteFrame x env; theTreesLotGoes x)) _ _ s
  refine wpAny_noted ?_
  rw [compTurn_list]
  refine wpAny_bind (wpAny_standAt (wpAny_bind (wpAny_mono (turn n s hI) (fun r s₁ h₁ => ?_) no)))
  cases r with
  | none => exact wpAny_pure h₁
  | some v =>
    refine wpAny_bind (wpAny_mono h₁ (fun _ s1' h1' => ?_) no)
    refine wpAny_bind (wpAny_mono h1' (fun _ s₂ h₂ => wpAny_bind (wpAny_mono h₂ (fun ok s₃ h₃ => ?_) no)) no)
    cases ok with
    | false => exact wpAny_pure ⟨rfl, h₃⟩
    | true =>
      exact wpAny_bind (wpAny_bind (wpAny_mono h₃ (fun x s₄ h₄ => wpAny_bind (wpAny_mono h₄ (fun _ s₅ h₅ => wpAny_pure (wpAny_pure ⟨rfl, h₅⟩)) no)) no))

def CompGo (g : TG) (tc : TT) (te : TE) (src : List (Option Nat)) (σ : St) (Q : VK) (J : It) (H1 : Hp) : Prop := ∀ l, H1 l = none →
  ∃ W : Nat → Nat → List V → St → Hp → Prop, (∃ m, W 0 m [] (capt src σ) (upd H1 l (.lst []))) ∧ ∀ i m ys σ' H', W i m ys σ' H' → H' l = some (.lst ys) →
    (J.stop i H' ∧ Q (.ref l) H') ∨ (J.go i H' ∧ ∃ N : List V → St → Hp → Prop, (∀ zs σ2 H2, N zs σ2 H2 → ∃ m', m' < m ∧ W (i + 1) m' zs σ2 H2) ∧ ∀ x H2, J.yld i H' x H2 → g x σ' H2 fun σ2 H3 => tc σ2 H3 fun b H4 =>
      if b = true then te σ2 H4 fun y H5 => H5 l = some (.lst ys) ∧ ys.length < sizeLine ∧ N (ys ++ [y]) σ2 (upd H5 l (.lst (ys ++ [y])))
      else H4 l = some (.lst ys) ∧ N ys σ2 H4)
def tComp (wi : TI) (g : TG) (tc : TT) (te : TE) (src : List (Option Nat)) : TE := fun σ H Q => wi σ H (CompGo g tc te src σ Q)
def ForGo (g : TG) (tb : TS) (D : Ends) (σ : St) (J : It) (H1 : Hp) : Prop := ∃ W : Nat → Nat → St → Hp → Prop, (∃ m, W 0 m σ H1) ∧ ∀ i m σ H, W i m σ H →
  (J.stop i H ∧ D.nx σ H) ∨ (J.go i H ∧ ∃ N : St → Hp → Prop, (∀ σ' H', N σ' H' → ∃ m', m' < m ∧ W (i + 1) m' σ' H') ∧ ∀ x H', J.yld i H x H' → g x σ H' fun σ2 H2 => tb { D with nx := N, ct := N, bk := D.nx } σ2 H2)
def tForG (wi : TI) (g : TG) (tb : TS) : TS := fun D σ H => wi σ H (ForGo g tb D σ)
theorem ps_forG {X : Cx} {tg iter : Expr} {body : List Stmt} {wi : TI} {g : TG} {tb : TS} {pos : Pos} (hp : PassesOwn (model X.prog X.w) X.A X.env X.xe) (hc : X.calm = true) (hi : PI X tg iter wi) (hg : PG X tg g) (hb : PSs X body tb)
    (hs : ∀ x, foldedSetIterable iter X.env x = pure x := by intro _; rfl) : PS X (.For tg iter body [] pos) (tForG wi g tb) := ps_for hp hc hi hg hb hs

section
variable {X : Cx} {elt tg iter : Expr} {ifs : List Expr} {scope osc : Scope} {pos : Pos} {N' : List Str} {src : List (Option Nat)} {wi : TI} {g : TG} {tc : TT} {te : TE}
theorem pe_comp (ok : CompOk X.N osc N' src scope) (hsc : X.env.scope = osc) (hc : X.calm = true) (hi : PI X tg iter wi)
    (hg : ∀ cl C s₀ H₀ fp, PG (cxComp X N' scope cl C s₀ H₀ fp) tg g) (ht : ∀ cl C s₀ H₀ fp, PIf (cxComp X N' scope cl C s₀ H₀ fp) ifs tc) (he : ∀ cl C s₀ H₀ fp, PE (cxComp X N' scope cl C s₀ H₀ fp) elt te)
    (hs : ∀ x, foldedSetIterable iter X.env x = pure x := by intro _; rfl) : PE X (.ListComp elt [⟨tg, iter, ifs, 0⟩] scope pos) (tComp wi g tc te src) := by
  intro pins s σ H Q I h
  obtain ⟨cl, hcl, c1, c2⟩ := closure_of (scope := scope) (env := X.env) fun y hy hyf => I.ok.has y.1 (by
    have z := ok.frees y hy hyf
    rw [← hsc] at z
    exact z)
  rw [eval_ListComp]
  refine wpAny_comprehension_free (use := none) rfl hs hcl ok.kind ok.loc (thn (hi pins s σ H _ I h) fun v s1 h1 => thn h1 fun itv s2 h2 => ?_)
  obtain ⟨it, fp, tn, J, H2, e, I2, T, st2, f2, q2⟩ := h2
  subst e
  have hlt2 : ∀ b ∈ fp, b < s2.heap.objs.size := fun b hb => by
    obtain ⟨o, e, _⟩ := T.obj _ _ st2 b hb
    exact Heap.lt_size e
  refine wpAny_newObj_type ?_
  have hl : H2 s2.heap.objs.size = none := I2.hok.fresh (Nat.le_refl _)
  have I3 : Inv X pins σ (upd H2 s2.heap.objs.size (.lst [])) { s2 with heap := s2.heap.push { cls := .type "list", dict := none, data := .seq ([] : List Value).toArray } } :=
    I2.laid (t' := s2.toks) (fun b u e => Heap.get?_push_of_some _ e) (Nat.le_refl _) ⟨Nat.zero_le _, [], 0, .nil, Heap.get?_push_size _ rfl⟩
  obtain ⟨W, ⟨m0, w0⟩, turn⟩ := q2 _ hl
  generalize hl2 : s2.heap.objs.size = l at *
  generalize hs3 : ({ s2 with heap := s2.heap.push { cls := .type "list", dict := none, data := .seq ([] : List Value).toArray } } : Shared) = s3 at *
  have f3 : ∀ b ∈ fp, FpOk X pins (upd H2 l (.lst [])) b := fun b hb => ⟨by rw [upd_ne (Nat.ne_of_lt (hlt2 b hb))]; exact (f2 b hb).1, (f2 b hb).2⟩
  have k3 : ∀ b o, s2.heap.get? b = some o → s3.heap.get? b = some o := fun b o e => by rw [← hs3]; exact Heap.get?_push_of_some _ e
  have hlt3 : ∀ b ∈ fp, b < s3.heap.objs.size := fun b hb => by
    obtain ⟨o, e, _⟩ := T.obj _ _ st2 b hb
    exact Heap.lt_size (k3 b o e)
  refine wpAny_newFunctionEnv ok.nocell (by intro y hy; simp at hy) (fun h₁ hns₁ hsb₁ => ?_) ok.kind
  have k4 : ∀ b o, s3.heap.get? b = some o → h₁.get? b = some o := fun b o e => (hsb₁.2 b (Nat.ne_of_lt (Heap.lt_size e))).trans (Heap.get?_push_of_some _ e)
  have J0 := comp_enter (tk := s3.toks + ([] : List (Str × Value)).length) I3 f3 hlt3 ok hsc c1 c2 hns₁ k4
  have st4 : tn 0 h₁ := T.keep _ _ _ st2 fun b hb o e => k4 b o (k3 b o e)
  generalize hC : s3.heap.objs.size = C at *
  have stat : ∀ {H' : Hp}, (∀ b ∈ fp, H' b = none) → ∀ b ∈ fp, FpOk (cxComp X N' scope cl C s3 (upd H2 l (.lst [])) fp) [] H' b := fun {H'} hn b hb =>
    ⟨hn b hb, (J0.ok.exf b hb).1, J0.ok.exfs b hb, .inl hb, (J0.ok.exf b hb).2, fun p hp => absurd (show p ∈ ([] : List (Addr × Obj)) from hp) (by simp)⟩
  have loop : codeAny (model X.prog X.w) X.A (.compLoop (.ListComp elt [⟨tg, iter, ifs, 0⟩] scope pos) 0 (.ref it) (.ref l) (compEnvC scope cl C X.env))
      (compPost (model X.prog X.w) X.A X.xe none (EP X pins σ Q) (.ref l) C) { s3 with heap := h₁, toks := s3.toks + ([] : List (Str × Value)).length } := by
    refine compLoop_own (fun n s' => ∃ i ys σ' H', Inv (cxComp X N' scope cl C s3 (upd H2 l (.lst [])) fp) [] σ' H' s' ∧ tn i s'.heap ∧ (∀ b ∈ fp, H' b = none) ∧ H' l = some (.lst ys) ∧ W i n ys σ' H') ?_ m0
      ⟨0, [], _, _, J0, st4, fun b hb => (f3 b hb).1, upd_same, w0⟩
    rintro n s5 ⟨i, ys, σ5, H5, I5, st5, fr5, hl5, w5⟩
    rcases turn i n ys σ5 H5 w5 hl5 with ⟨stop, qn⟩ | ⟨go, N, hN, step⟩
    · refine thn (T.done (cxComp X N' scope cl C s3 (upd H2 l (.lst [])) fp) rfl rfl rfl hc i [] s5 σ5 H5 (fun _ _ => False) I5 (stat fr5) st5 stop) fun r s6 ⟨hr, I6⟩ => ?_
      subst hr
      obtain ⟨m, hn, _⟩ := I6.loc
      exact ⟨m, hn, fun h' hsb => ⟨.ref l, H5, comp_leave I3 f3 (by rw [← hC]; exact Nat.le_refl _) I6 hsb, rfl, qn⟩⟩
    · refine thn (T.item (cxComp X N' scope cl C s3 (upd H2 l (.lst [])) fp) rfl rfl rfl hc i [] s5 σ5 H5 (fun _ _ => False) I5 (stat fr5) st5 go) fun r s6 ⟨u, hr, h6⟩ => ?_
      subst hr
      refine thn h6 fun _ s7 ⟨x, H7, I7, r7, y7, st7, fr7⟩ => ?_
      have I7' := I7.pinned (stat fr7) (T.obj _ _ st7)
      refine thn (hg cl C s3 _ fp _ s7 σ5 H7 x u _ I7' r7 (step x H7 y7)) fun _ s8 ⟨σ8, H8, I8, q8⟩ => ?_
      refine thn (ht cl C s3 _ fp _ s8 σ8 H8 _ I8 q8) fun b s9 ⟨H9, I9, q9⟩ => ?_
      have back : ∀ {s' : Shared} {H' : Hp}, Inv (cxComp X N' scope cl C s3 (upd H2 l (.lst [])) fp) ([] ++ pinsAt fp s7.heap) σ8 H' s' → tn (i + 1) s'.heap ∧ ∀ b ∈ fp, H' b = none := fun {s' H'} I' => by
        refine ⟨T.keep _ _ _ st7 fun b hb o e => (I'.pin (b, o) (List.mem_append_right _ (List.mem_append_right _ (mem_pinsAt hb e)))).1, fun b hb => ?_⟩
        obtain ⟨o, e, d⟩ := T.obj _ _ st7 b hb
        exact (I'.pin (b, o) (List.mem_append_right _ (List.mem_append_right _ (mem_pinsAt hb e)))).2.1
      cases b with
      | false =>
        obtain ⟨hl9, n9⟩ := q9
        obtain ⟨m', hm, w9⟩ := hN _ _ _ n9
        obtain ⟨t9, fr9⟩ := back I9
        exact ⟨m', hm, i + 1, ys, σ8, H9, I9.unpinned, t9, fr9, hl9, w9⟩
      | true =>
        refine thn (he cl C s3 _ fp _ s9 σ8 H9 _ I9 q9) fun xv s10 ⟨y, H10, I10, r10, hl10, hz, n10⟩ => ?_
        obtain ⟨m', hm, w10⟩ := hN _ _ _ n10
        refine thn (mt_append (X := cxComp X N' scope cl C s3 (upd H2 l (.lst [])) fp) _ s10 σ8 H10 (.ref l) [y] (.ref l) [xv] (fun v H' => H' = upd H10 l (.lst (ys ++ [y]))) I10 rfl (.cons r10 .nil) ⟨l, ys, y, rfl, rfl, hl10, hz, rfl⟩) fun _ s11 ⟨_, H11, I11, _, e11⟩ => ?_
        subst e11
        obtain ⟨t11, fr11⟩ := back I11
        exact ⟨m', hm, i + 1, ys ++ [y], σ8, _, I11.unpinned, t11, fr11, upd_same, w10⟩
  exact codeAny_compStart_list loop (T.self _ 0 _ _ _ st4 loop)
end
end L2

set_option Elab.async false
set_option linter.all false
set_option maxRecDepth 100000
set_option maxHeartbeats 4000000

namespace L2
open PySem PySem.Spec PyProof.Rows

/-! ### lists of pairs as tables -/
section
variable {κ : Type} [DecidableEq κ]
def valV (kvs : List (κ × V)) (k : κ) : Option V := (kvs.find? fun kv => decide (kv.1 = k)).map (·.2)
/-- in its place, or at the end -/
def putK (kvs : List (κ × V)) (k : κ) (v : V) : List (κ × V) :=
  if (kvs.any fun kv => decide (kv.1 = k)) = true then kvs.map (fun kv => if kv.1 = k then (kv.1, v) else kv) else kvs ++ [(k, v)]

theorem valV_pos {p : κ × V} {r : List (κ × V)} {k : κ} (e : p.1 = k) : valV (p :: r) k = some p.2 := by simp [valV, List.find?_cons, e]
theorem valV_neg {p : κ × V} {r : List (κ × V)} {k : κ} (e : ¬ p.1 = k) : valV (p :: r) k = valV r k := by simp [valV, List.find?_cons, e]
theorem valV_any (k : κ) : ∀ kvs : List (κ × V), (kvs.any fun kv => decide (kv.1 = k)) = (valV kvs k).isSome
  | [] => rfl
  | p :: r => by
    rw [List.any_cons]
    by_cases e : p.1 = k
    · simp only [valV_pos e, decide_eq_true e, Bool.true_or, Option.isSome_some]
    · rw [valV_neg e, decide_eq_false e, Bool.false_or]; exact valV_any k r
theorem valV_map (k j : κ) (y : V) : ∀ kvs : List (κ × V), valV (kvs.map fun kv => if kv.1 = k then (kv.1, y) else kv) j = (valV kvs j).map fun x => if j = k then y else x
  | [] => rfl
  | p :: r => by
    have ih := valV_map k j y r
    rw [List.map_cons]
    by_cases h : p.1 = k
    · rw [if_pos h]
      by_cases e : p.1 = j
      · rw [valV_pos (p := (p.1, y)) e, valV_pos e, Option.map_some, if_pos (e.symm.trans h)]
      · rw [valV_neg (p := (p.1, y)) e, valV_neg e, ih]
    · rw [if_neg h]
      by_cases e : p.1 = j
      · rw [valV_pos (p := p) e, valV_pos e, Option.map_some, if_neg (fun z => h (e.trans z))]
      · rw [valV_neg (p := p) e, valV_neg e, ih]
theorem valV_snoc (k j : κ) (y : V) : ∀ kvs : List (κ × V), valV kvs k = none → valV (kvs ++ [(k, y)]) j = if j = k then some y else valV kvs j
  | [], _ => by
    by_cases e : k = j
    · rw [if_pos e.symm]; exact valV_pos (p := (k, y)) e
    · rw [if_neg (fun z => e z.symm)]; exact valV_neg (p := (k, y)) e
  | p :: r, hn => by
    rw [List.cons_append]
    have hk : ¬ p.1 = k := fun z => by rw [valV_pos z] at hn; cases hn
    rw [valV_neg hk] at hn
    have ih := valV_snoc k j y r hn
    by_cases e : p.1 = j
    · rw [valV_pos e, valV_pos e, if_neg (fun z => hk (e.trans z))]
    · rw [valV_neg e, valV_neg e, ih]
theorem valV_put (kvs : List (κ × V)) (k j : κ) (y : V) : valV (putK kvs k y) j = if j = k then some y else valV kvs j := by
  unfold putK
  by_cases a : (kvs.any fun kv => decide (kv.1 = k)) = true
  · rw [if_pos a, valV_map]
    rw [valV_any] at a
    by_cases e : j = k
    · obtain ⟨x, hx⟩ := Option.isSome_iff_exists.mp a
      rw [if_pos e, e, hx, Option.map_some, if_pos rfl]
    · rw [if_neg e]
      cases valV kvs j with
      | none => rfl
      | some x => rw [Option.map_some, if_neg e]
  · rw [if_neg a]
    refine valV_snoc k j y kvs ?_
    rw [valV_any] at a
    cases q : valV kvs k with
    | none => rfl
    | some x => rw [q] at a; exact (a rfl).elim
theorem length_putK (kvs : List (κ × V)) (k : κ) (v : V) : (putK kvs k v).length ≤ kvs.length + 1 := by
  unfold putK
  split
  · rw [List.length_map]; omega
  · rw [List.length_append, List.length_cons, List.length_nil]; omega

theorem RelO.isSome_eq {o : Option V} {u : Option Value} (r : RelO o u) : o.isSome = u.isSome := by
  cases o with
  | none => cases u with
    | none => rfl
    | some _ => exact (show False from r).elim
  | some _ => cases u with
    | none => exact (show False from r).elim
    | some _ => rfl
theorem RelO.getD {o : Option V} {u : Option Value} {d : V} {d' : Value} (r : RelO o u) (rd : RelV d d') : RelV (o.getD d) (u.getD d') := by
  cases o with
  | none => cases u with
    | none => exact rd
    | some _ => exact (show False from r).elim
  | some _ => cases u with
    | none => exact (show False from r).elim
    | some _ => exact r

/-- raw tables of the same keys -/
theorem KV.val {kvs : List (κ × V)} {vs : List (κ × Value)} (r : KV kvs vs) (k : κ) : RelO (valV kvs k) (valueAt vs k) := by
  unfold KV at r
  induction r with
  | nil => exact True.intro
  | @cons p q ps qs h t ih =>
    obtain ⟨h1, h2⟩ := h
    by_cases e : p.1 = k
    · have e' : q.1 = k := h1.symm.trans e
      have b : valueAt (q :: qs) k = some q.2 := by simp [valueAt, List.find?_cons, e']
      rw [valV_pos e, b]; exact h2
    · have e' : ¬ q.1 = k := fun z => e (h1.trans z)
      have b : valueAt (q :: qs) k = valueAt qs k := by simp [valueAt, List.find?_cons, e']
      rw [valV_neg e, b]; exact ih
theorem KV.any {kvs : List (κ × V)} {vs : List (κ × Value)} (r : KV kvs vs) (k : κ) : (kvs.any fun kv => decide (kv.1 = k)) = vs.any fun kv => decide (kv.1 = k) := by
  unfold KV at r
  induction r with
  | nil => rfl
  | cons h t ih => rw [List.any_cons, List.any_cons, ih, h.1]
theorem KV.repl {kvs : List (κ × V)} {vs : List (κ × Value)} (r : KV kvs vs) (k : κ) {y : V} {u : Value} (ry : RelV y u) :
    KV (kvs.map fun kv => if kv.1 = k then (kv.1, y) else kv) (vs.map fun kv => if kv.1 = k then (kv.1, u) else kv) := by
  unfold KV at r ⊢
  induction r with
  | nil => exact .nil
  | @cons p q ps qs h t ih =>
    rw [List.map_cons, List.map_cons]
    refine .cons ?_ ih
    obtain ⟨h1, h2⟩ := h
    by_cases e : p.1 = k
    · rw [if_pos e, if_pos (h1.symm.trans e)]; exact ⟨h1, ry⟩
    · rw [if_neg e, if_neg (fun z => e (h1.trans z))]; exact ⟨h1, h2⟩
theorem KV.put {kvs : List (κ × V)} {vs : List (κ × Value)} (r : KV kvs vs) (k : κ) {y : V} {u : Value} (ry : RelV y u) : KV (putK kvs k y) (stored vs k u) := by
  unfold putK stored
  rw [r.any k]
  by_cases e : (vs.any fun kv => decide (kv.1 = k)) = true
  · rw [if_pos e, if_pos e]; exact r.repl k ry
  · rw [if_neg e, if_neg e]; exact Paired.snoc r ⟨rfl, ry⟩
theorem KV.length {kvs : List (κ × V)} {vs : List (κ × Value)} (r : KV kvs vs) : kvs.length = vs.length := Paired.length r
end


/-! ### a tracked dict, its keys ints and texts or tuples of these -/
theorem kV_is {P : Program} {w : World} {k : Key} {u : Value} (r : RelV (kV k) u) : (mixKind P w).is k u = true := by
  cases k with
  | inl i => obtain ⟨t, e⟩ := (show ∃ t, u = Value.int i t from r); subst e; exact mixKind_int P w i t
  | inr x => obtain ⟨t, e⟩ := (show ∃ t, u = Value.str x t from r); subst e; exact mixKind_str P w x t
theorem items_are {P : Program} {w : World} : ∀ {ks : List Key} {us : List Value}, Vals (ks.map kV) us → ItemsAre (mixKind P w) ks us
  | [], _, r => by rw [List.map_nil] at r; cases r; exact .nil
  | k :: ks, _, r => by
    rw [List.map_cons] at r
    cases r with
    | cons h t => exact .cons (kV_is h) (items_are t)

/-- raw entries of a dict with tuple keys -/
abbrev KT (H : Hp) : List (List Key × V) → List (List Key × Addr × Value) → Prop := Paired fun p q => p.1 = q.1 ∧ H q.2.1 = some (.tup (p.1.map kV)) ∧ RelV p.2 q.2.2
theorem KT.val {H : Hp} {kvs : List (List Key × V)} {xs : List (List Key × Addr × Value)} (r : KT H kvs xs) (k : List Key) : RelO (valV kvs k) ((atKey xs k).map (·.2)) := by
  induction r with
  | nil => exact True.intro
  | @cons p q ps qs h t ih =>
    obtain ⟨h1, _, h2⟩ := h
    by_cases e : p.1 = k
    · have e' : q.1 = k := h1.symm.trans e
      have b : atKey (q :: qs) k = some q.2 := by simp [atKey, List.find?_cons, e']
      rw [valV_pos e, b]; exact h2
    · have e' : ¬ q.1 = k := fun z => e (h1.trans z)
      have b : atKey (q :: qs) k = atKey qs k := by simp [atKey, List.find?_cons, e']
      rw [valV_neg e, b]; exact ih
theorem KT.repl {H : Hp} {kvs : List (List Key × V)} {xs : List (List Key × Addr × Value)} (r : KT H kvs xs) (k : List Key) {y : V} {u : Value} (ry : RelV y u) :
    KT H (kvs.map fun kv => if kv.1 = k then (kv.1, y) else kv) (xs.map (putAt k u)) := by
  induction r with
  | nil => exact .nil
  | @cons p q ps qs h t ih =>
    rw [List.map_cons, List.map_cons]
    refine .cons ?_ ih
    obtain ⟨h1, h2, h3⟩ := h
    unfold putAt
    by_cases e : p.1 = k
    · rw [if_pos e, if_pos (h1.symm.trans e)]; exact ⟨h1, h2, ry⟩
    · rw [if_neg e, if_neg (fun z => e (h1.trans z))]; exact ⟨h1, h2, h3⟩
theorem KT.put {H : Hp} {kvs : List (List Key × V)} {xs : List (List Key × Addr × Value)} (r : KT H kvs xs) (k : List Key) {b : Addr} {y : V} {u : Value} (hb : H b = some (.tup (k.map kV))) (ry : RelV y u) :
    KT H (putK kvs k y) (storedH xs k b u) := by
  have e : (kvs.any fun kv => decide (kv.1 = k)) = (atKey xs k).isSome := by
    rw [valV_any, (r.val k).isSome_eq, Option.isSome_map]
  unfold putK storedH
  rw [e]
  by_cases q : (atKey xs k).isSome = true
  · rw [if_pos q, if_pos q]; exact r.repl k ry
  · rw [if_neg q, if_neg q]; exact Paired.snoc r ⟨rfl, hb, ry⟩
theorem KT.keeps {H H' : Hp} {kvs : List (List Key × V)} {xs : List (List Key × Addr × Value)} (r : KT H kvs xs) (ht : ∀ b ys, H b = some (.tup ys) → H' b = some (.tup ys)) : KT H' kvs xs :=
  Paired.mapP r fun _ _ z => ⟨z.1, ht _ _ z.2.1, z.2.2⟩

section
variable {P : Program} {w : World} {H : Hp} {h : Heap} {a : Addr}
theorem rd_of {u : HO} (ok : HOk P w H h) (e : Rd H a u) : ObjOk P w H h a u := e.ok ok
theorem dk_rd {kvs : List (Key × V)} (ok : HOk P w H h) (e : Rd H a (.dK kvs)) : kvs.length ≤ sizeLine ∧ (a == sysModules) = false ∧ ∃ vs, KV kvs vs ∧ h.DictOf (mixKind P w) a vs :=
  show ObjOk P w H h a (.dK kvs) from rd_of ok e
theorem dk_of {kvs : List (Key × V)} (ok : HOk P w H h) (e : H a = some (.dK kvs)) : kvs.length ≤ sizeLine ∧ (a == sysModules) = false ∧ ∃ vs, KV kvs vs ∧ h.DictOf (mixKind P w) a vs := dk_rd ok (.inl e)
/-- a tracked tuple of ints and texts is a key -/
theorem key_of {ks : List Key} (ok : HOk P w H h) (e : H a = some (.tup (ks.map kV))) : (tupleKind (mixKind P w)).is h ks a := by
  obtain ⟨_, its, r, ⟨o, h1, h2, n, h3⟩, _⟩ := (show ObjOk P w H h a (.tup (ks.map kV)) from ok a _ e)
  exact ⟨o, its.toArray, n, h1, h2, h3, by simpa using items_are r⟩
theorem dt_rd {kvs : List (List Key × V)} (ok : HOk P w H h) (e : Rd H a (.dT kvs)) : kvs.length ≤ sizeLine ∧ (a == sysModules) = false ∧
    ∃ xs, KT H kvs xs ∧ h.DictOfH (tupleKind (mixKind P w)) a xs := by
  obtain ⟨z, y, xs, r, o, es, ep, h1, h2, h3, h4, h5⟩ := (show ObjOk P w H h a (.dT kvs) from rd_of ok e)
  refine ⟨z, y, xs, r, o, es, ep, h1, h2, h3, h4, fun x hx => ?_, h5⟩
  have all : ∀ {l : List (List Key × V)} {m : List (List Key × Addr × Value)}, KT H l m → ∀ x ∈ m, (tupleKind (mixKind P w)).is h x.1 x.2.1 := by
    intro l m q
    induction q with
    | nil => intro x hx; exact nomatch hx
    | @cons p q ps qs hq t ih =>
      intro x hx
      rcases List.mem_cons.mp hx with e | hx
      · subst e
        exact key_of ok (by rw [← hq.1]; exact hq.2.1)
      · exact ih x hx
  exact all r x hx
theorem dt_of {kvs : List (List Key × V)} (ok : HOk P w H h) (e : H a = some (.dT kvs)) : kvs.length ≤ sizeLine ∧ (a == sysModules) = false ∧
    ∃ xs, KT H kvs xs ∧ h.DictOfH (tupleKind (mixKind P w)) a xs := dt_rd ok (.inl e)
end

/-- what the dict at a holds at the key y -/
def DGet (H : Hp) (a : Addr) (y : V) (r : Option V) : Prop :=
  (∃ kvs k, Rd H a (.dK kvs) ∧ y = kV k ∧ r = valV kvs k) ∨ ∃ kvs k b, Rd H a (.dT kvs) ∧ y = .ref b ∧ H b = some (.tup (k.map kV)) ∧ r = valV kvs k
/-- the heap behind a[y] = v -/
def DPut (H : Hp) (a : Addr) (y v : V) (H' : Hp) : Prop :=
  (∃ kvs k, H a = some (.dK kvs) ∧ y = kV k ∧ kvs.length < sizeLine ∧ H' = upd H a (.dK (putK kvs k v))) ∨
  ∃ kvs k b, H a = some (.dT kvs) ∧ y = .ref b ∧ H b = some (.tup (k.map kV)) ∧ kvs.length < sizeLine ∧ H' = upd H a (.dT (putK kvs k v))
theorem DGet.k {H : Hp} {a : Addr} {kvs : List (Key × V)} {k : Key} (e : H a = some (.dK kvs)) : DGet H a (kV k) (valV kvs k) := .inl ⟨kvs, k, .inl e, rfl, rfl⟩
theorem DPut.t {H : Hp} {a b : Addr} {kvs : List (List Key × V)} {k : List Key} {v : V} (e : H a = some (.dT kvs)) (eb : H b = some (.tup (k.map kV))) (hl : kvs.length < sizeLine) :
    DPut H a (.ref b) v (upd H a (.dT (putK kvs k v))) := .inr ⟨kvs, k, b, e, rfl, eb, hl, rfl⟩


section
variable {X : Cx} {pins : List (Addr × Obj)} {σ : St} {H : Hp} {s : Shared} {a : Addr} {y v : V} {u r : Value} {o : Option V} {A : Around} {E : Value → Shared → Prop}

theorem Inv.big (I : Inv X pins σ H s) : sysModules < s.heap.objs.size := by
  have h : mainGlobals < s.heap.objs.size := (I.mod.glob.keeps I.bk).lt
  exact Nat.lt_trans (by decide) h

/-- a dict's object is replaced -/
theorem d_write {h' : Heap} {t' : Nat} {ob : HO} (I : Inv X pins σ H s) (mu : Mut (H a)) (hs : Heap.SameBut a s.heap h') (he : ∃ q, h'.get? a = some q) (new : ObjOk X.prog X.w (upd H a ob) h' a ob) :
    Inv X pins σ (upd H a ob) { s with heap := h', toks := t' } :=
  I.write (x := a) (e := a) mu (.inl rfl) (fun b q hb z => (hs.2 b hb).trans z) he new
theorem dk_new {P : Program} {w : World} {H' : Hp} {h' : Heap} {kvs : List (Key × V)} {vs : List (Key × Value)} (z : kvs.length ≤ sizeLine) (hd : (a == sysModules) = false) (rel : KV kvs vs) (dd : h'.DictOf (mixKind P w) a vs) :
    ObjOk P w H' h' a (.dK kvs) := ⟨z, hd, vs, rel, dd⟩
/-- d[y] = v -/
theorem d_setItem {H' : Hp} {Q : Unit → Shared → Prop} (hu : A.units + 1 < cLine) (I : Inv X pins σ H s) (g : DPut H a y v H') (ry : RelV y u) (rv : RelV v r) (h : ∀ s', Inv X pins σ H' s' → Q () s') :
    wpAny (model X.prog X.w) A (setItem (.ref a) u r) Q E s := by
  rcases g with ⟨kvs, k, e, ey, l, eH⟩ | ⟨kvs, k, b, e, ey, eb, l, eH⟩
  · subst ey eH
    obtain ⟨z, hd, vs, rel, dd⟩ := dk_of I.hok e
    have hz : vs.length ≤ sizeLine := by rw [← rel.length]; exact z
    have hl : (putK kvs k v).length ≤ sizeLine := by have := length_putK kvs k v; omega
    refine wpAny_setItem_pairs (hsz := hz) (kV_is ry) dd fun h' dd' hs => h _ ?_
    have he : ∃ q, h'.get? a = some q := let ⟨q, _, _, hq, _⟩ := dd'; ⟨q, hq⟩
    exact d_write I (by rw [e]; exact True.intro) hs he (dk_new hl hd (rel.put k rv) dd')
  · subst ey eH
    cases (show u = Value.ref b from ry)
    obtain ⟨z, hd, xs, rel, dd⟩ := dt_of I.hok e
    have hz : xs.length ≤ sizeLine := by rw [← Paired.length rel]; exact z
    have hl : (putK kvs k v).length ≤ sizeLine := by have := length_putK kvs k v; omega
    refine wpAny_setItem_heap (hsz := hz) (tupleKind_room_in1 hu) (key_of I.hok eb) dd fun h' dd' hs => h _ ?_
    obtain ⟨q, es, ep, hq, h2, h3, h4, _, h5⟩ := dd'
    refine d_write I (by rw [e]; exact True.intro) hs ⟨q, hq⟩ ⟨hl, hd, _, (rel.put k eb rv).keeps fun c ys ec => ?_, q, es, ep, hq, h2, h3, h4, h5⟩
    rw [upd_ne (ne_of ec e (fun z => nomatch z))]
    exact ec
end

section
variable {X : Cx} {pins : List (Addr × Obj)} {σ : St} {H : Hp} {s : Shared} {a : Addr} {kvs : List (Key × V)} {k : Key} {u : Value} {A : Around} {E : Value → Shared → Prop}
end


/-! ### readings and rules -/


/-- d[y] = v -/
def sDPut (td ty tv : TE) : TS := fun D σ H => tv σ H fun v H1 => td σ H1 fun x H2 => ty σ H2 fun y H3 => ∃ a H4, x = .ref a ∧ DPut H3 a y v H4 ∧ D.nx σ H4

section
variable {X : Cx} {o i e value : Expr} {pos pos' tpos : Pos} {td ty tv : TE}
theorem ps_dput (hu : X.A.units + 1 < cLine) (ho : PE X o td) (hi : PE X i ty) (hv : PE X value tv) (hs : swapsWith value (some (.Subscript o i pos')) pos.line X.env = pure false) :
    PS X (.Assign [.Subscript o i pos'] value pos) (sDPut td ty tv) := by
  intro pins s σ H D I h
  refine wpAny_Assign_Subscript (thn (hv pins s σ H _ I h) fun r s1 ⟨v, H1, I1, rv, q1⟩ => thn (ho pins s1 σ H1 _ I1 q1) fun u s2 ⟨x, H2, I2, rx, q2⟩ => thn (hi pins s2 σ H2 _ I2 q2) fun iv s3 ⟨y, H3, I3, ry, a, H4, ex, g, q3⟩ => ?_) hs
  subst ex
  obtain rfl : u = Value.ref a := rx
  exact d_setItem hu I3 g ry rv fun s4 I4 => ⟨σ, H4, I4, q3⟩
end


/-! ### displays -/
theorem dk_empty {P : Program} {w : World} {H : Hp} (h : Heap) (hb : sysModules < h.objs.size) : ObjOk P w H (h.push { cls := .type "dict", data := .dict #[] }) h.objs.size (.dK []) :=
  ⟨Nat.zero_le _, beq_eq_false_iff_ne.mpr (Ne.symm (Nat.ne_of_lt hb)), [], .nil, Heap.DictOf.new h⟩
theorem dt_empty {P : Program} {w : World} {H : Hp} (h : Heap) (hb : sysModules < h.objs.size) : ObjOk P w H (h.push { cls := .type "dict", data := .dict #[] }) h.objs.size (.dT []) :=
  ⟨Nat.zero_le _, beq_eq_false_iff_ne.mpr (Ne.symm (Nat.ne_of_lt hb)), [], .nil, _, #[], 0, Heap.get?_push_size _ rfl, ⟨rfl, rfl, rfl⟩, rfl, rfl, List.nodup_nil⟩
/-- {}, to be a dict of the kind that is wanted -/
def tDNewK : TE := fun _ H Q => ∀ p, H p = none → Q (.ref p) (upd H p (.dK []))
def tDNewT : TE := fun _ H Q => ∀ p, H p = none → Q (.ref p) (upd H p (.dT []))
section
variable {X : Cx} {pos : Pos}
theorem pe_dnewK : PE X (.Dict [] [] pos) tDNewK := fun pins s σ H Q I h =>
  wpAny_Dict_empty ⟨.ref s.heap.objs.size, _, I.laid (a := s.heap.objs.size) (o := .dK []) (t' := s.toks) (fun _ _ q => Heap.get?_push_of_some _ q) (Nat.le_refl _) (dk_empty s.heap I.big), rfl, h _ (I.hok.fresh (Nat.le_refl _))⟩
theorem pe_dnewT : PE X (.Dict [] [] pos) tDNewT := fun pins s σ H Q I h =>
  wpAny_Dict_empty ⟨.ref s.heap.objs.size, _, I.laid (a := s.heap.objs.size) (o := .dT []) (t' := s.toks) (fun _ _ q => Heap.get?_push_of_some _ q) (Nat.le_refl _) (dt_empty s.heap I.big), rfl, h _ (I.hok.fresh (Nat.le_refl _))⟩
end

/-- the pairs of a display, from the left -/
def tPairs : List (TE × TE) → St → Hp → (List (V × V) → Hp → Prop) → Prop
  | [], _, H, Q => Q [] H
  | (tk, tv) :: r, σ, H, Q => tk σ H fun x H1 => tv σ H1 fun y H2 => tPairs r σ H2 fun ps H3 => Q ((x, y) :: ps) H3
abbrev VV : List (V × V) → List (Value × Value) → Prop := Paired fun p q => RelV p.1 q.1 ∧ RelV p.2 q.2
def PPs (X : Cx) (pos : Pos) (keys : List (Option Expr)) (values : List Expr) (trs : List (TE × TE)) : Prop :=
  ∀ (pins : List (Addr × Obj)) (s : Shared) (σ : St) (H : Hp) (Q : List (V × V) → Hp → Prop), Inv X pins σ H s → tPairs trs σ H Q →
    wpAny (model X.prog X.w) X.A (evalPairs (pairTrees keys values X.env pos)) (fun vs s' => ∃ ps H', Inv X pins σ H' s' ∧ VV ps vs ∧ Q ps H') X.xe s



/-! ### methods -/
/-- a method call o.m(e) of a built-in, with one argument: what must be seen of the text -/
structure M1 (X : Cx) (o : Expr) (m : Str) (apos : Pos) (e : Expr) (cpos : Pos) : Prop where
  base : attributeBase o m X.env (eval o X.env) = eval o X.env
  few : ((backTo cpos (starEach [e] X.env)).all (fun x => !x.1) && (backToKw cpos (keywordEach [] X.env)).all (fun x => x.1.isSome)
    && decide (([e] : List Expr).length + ([] : List Keyword).length + (if ([] : List Keyword).isEmpty then 0 else 1) < 30)) = true
  line : (apos.endLine == cpos.line) = true
  trees : backTo cpos (starEach [e] X.env) = [(false, eval e X.env)]
structure M2 (X : Cx) (o : Expr) (m : Str) (apos : Pos) (e f : Expr) (cpos : Pos) : Prop where
  base : attributeBase o m X.env (eval o X.env) = eval o X.env
  few : ((backTo cpos (starEach [e, f] X.env)).all (fun x => !x.1) && (backToKw cpos (keywordEach [] X.env)).all (fun x => x.1.isSome)
    && decide (([e, f] : List Expr).length + ([] : List Keyword).length + (if ([] : List Keyword).isEmpty then 0 else 1) < 30)) = true
  line : (apos.endLine == cpos.line) = true
  trees : backTo cpos (starEach [e, f] X.env) = [(false, eval e X.env), (false, eval f X.env)]

/-- a is a dict, whatever its keys -/
def IsD (H : Hp) (a : Addr) : Prop := (∃ kvs, Rd H a (.dK kvs)) ∨ ∃ kvs, Rd H a (.dT kvs)
theorem isD_at {X : Cx} {pins : List (Addr × Obj)} {σ : St} {H : Hp} {s : Shared} {a : Addr} (I : Inv X pins σ H s) (d : IsD H a) :
    s.TypeIs (.ref a) "dict" ∧ (∀ b, Value.ref a = .ref b → ∃ ob, s.heap.get? b = some ob ∧ ob.dict = none) ∧ (a == sysModules) = false := by
  rcases d with ⟨kvs, e⟩ | ⟨kvs, e⟩
  · obtain ⟨_, hd, vs, _, dd⟩ := dk_rd I.hok e
    refine ⟨dd.typeIs, fun b q => ?_, hd⟩
    cases q
    obtain ⟨ob, _, _, h1, h2, _⟩ := dd
    exact ⟨ob, h1, h2.2.1⟩
  · obtain ⟨_, hd, xs, _, dd⟩ := dt_rd I.hok e
    refine ⟨dd.typeIs, fun b q => ?_, hd⟩
    cases q
    obtain ⟨ob, _, _, h1, h2, _⟩ := dd
    exact ⟨ob, h1, h2.2.1⟩

section
variable {X : Cx} {pins : List (Addr × Obj)} {σ : St} {H : Hp} {s : Shared} {a : Addr} {y d : V} {u r : Value} {o : Option V} {A : Around} {E : Value → Shared → Prop}
/-- d.get(y, x) -/
theorem d_get2 {Q : Value → Shared → Prop} (hu : A.units + 1 < cLine) (I : Inv X pins σ H s) (g : DGet H a y o) (ry : RelV y u) (rd : RelV d r) (h : ∀ w' s', Inv X pins σ H s' → RelV (o.getD d) w' → Q w' s') :
    wpAny (model X.prog X.w) A (call (.builtin "dict.get") [.ref a, u, r]) Q E s := by
  rcases g with ⟨kvs, k, e, ey, l⟩ | ⟨kvs, k, b, e, ey, eb, l⟩
  · subst ey
    obtain ⟨z, hd, vs, rel, dd⟩ := dk_rd I.hok e
    refine call_meetsIn PySem.F.slot_dict_get dd.typeIs PySem.F.entry_dict_get (PySem.F.args_dict_get_3 _ _ _) (meets_dict_get_default (mixKind X.prog X.w) a (kV_is ry) hd r) ⟨_, dd.mapOf, h _ _ (I.tok _) ?_⟩
    rw [l]
    exact (rel.val k).getD rd
  · subst ey
    cases (show u = Value.ref b from ry)
    obtain ⟨z, hd, xs, rel, dd⟩ := dt_rd I.hok e
    refine call_meetsIn PySem.F.slot_dict_get dd.typeIs PySem.F.entry_dict_get (PySem.F.args_dict_get_3 _ _ _) (meetsH_dict_get_default (tupleKind (mixKind X.prog X.w)) a b hd r) ⟨tupleKind_room_in1 hu, k, xs, key_of I.hok eb, dd, h _ _ (I.tok _) ?_⟩
    rw [l]
    exact (rel.val k).getD rd
end

def tDGet2 (td ty tx : TE) : TE := fun σ H Q => td σ H fun x H1 => ∃ a, x = .ref a ∧ IsD H1 a ∧ ty σ H1 fun y H2 => tx σ H2 fun z H3 => ∃ o, DGet H3 a y o ∧ Q (o.getD z) H3
section
variable {X : Cx} {o e f : Expr} {apos cpos : Pos} {td ty tx : TE}
theorem pe_dget2 (hu : X.A.units + 1 < cLine) (ho : PE X o td) (he : PE X e ty) (hf : PE X f tx) (m : M2 X o "get" apos e f cpos) : PE X (.Call (.Attribute o "get" apos) [e, f] [] cpos) (tDGet2 td ty tx) := by
  intro pins s σ H Q I h
  refine wpAny_Call_method m.base m.few m.line PySem.F.plainAttrs_dict PySem.F.slot_dict_get PySem.F.type_dict_get (thn (ho pins s σ H _ I h) fun u s1 ⟨x, H1, I1, rx, a, ex, d, q1⟩ => ?_)
  subst ex
  obtain rfl : u = Value.ref a := rx
  obtain ⟨t1, t2, _⟩ := isD_at I1 d
  refine ⟨t1, t2, ?_⟩
  rw [m.trees]
  refine Calls.callWith_builtin rfl (Calls.evalArgs_plain (Calls.spliced_cons (thn (he pins s1 σ H1 _ I1 q1) fun iv s2 ⟨y, H2, I2, ry, q2⟩ =>
    Calls.spliced_cons (thn (hf pins s2 σ H2 _ I2 q2) fun fv s3 ⟨z, H3, I3, rz, ov, g, q3⟩ => Calls.spliced_nil ?_))))
  exact d_get2 hu I3 g ry rz fun w' s4 I4 rw' => ⟨_, H3, I4, rw', q3⟩
end

/-! ### dict(d): a copy -/
section
variable {X : Cx} {pins : List (Addr × Obj)} {σ : St} {H : Hp} {s : Shared} {a : Addr} {kvs : List (Key × V)} {A : Around} {E : Value → Shared → Prop}
end


section
variable {X : Cx} {pins : List (Addr × Obj)} {σ : St} {H : Hp} {s : Shared} {a : Addr} {y : V} {u : Value} {A : Around} {E : Value → Shared → Prop}
end
end L2


set_option Elab.async false
set_option linter.all false
set_option maxRecDepth 100000
set_option maxHeartbeats 4000000
namespace L2
open PySem PySem.Spec PyProof.Rows
section
variable {X : Cx}
/-! ### comparisons of texts and truths -/
/-! ### all, any of a list of truths -/
theorem vals_bl : ∀ {bs : List Bool} {us : List Value} {i : Nat} {v : Value}, Vals (bs.map V.bl) us → us[i]? = some v → ∃ b, bs[i]? = some b ∧ v = .bool b
  | [], _, _, _, .nil, e => by simp at e
  | b :: bs, _, 0, v, .cons r _, e => by
    simp at e
    subst e
    exact ⟨b, rfl, r⟩
  | b :: bs, _, i + 1, v, .cons _ t, e => by
    obtain ⟨c, h1, h2⟩ := vals_bl (i := i) t (by simpa using e)
    exact ⟨c, by simpa using h1, h2⟩
def atB (bs : List Bool) (j : Nat) : Bool := match bs[j]? with | some b => b | none => true
theorem all_range_bl (bs : List Bool) : (List.range bs.length).all (atB bs) = bs.all id := by
  refine Eq.trans ?_ (PyProof.Rows.all_rangeD bs (id : Bool → Bool))
  congr 1
  funext j
  unfold atB
  cases bs[j]? <;> rfl
theorem call_allB {X : Cx} (hc : X.calm = true) : CallR X (.builtin "all") (fun xs H Q => ∃ (p : Addr) (bs : List Bool), xs = [.ref p] ∧ SqL X.K H p (bs.map V.bl) ∧ Q (.bl (bs.all id)) H) := by
  intro pins s σ H xs us Q I r h
  obtain ⟨p, bs, rfl, hq, q⟩ := h
  obtain ⟨u, rfl, ru⟩ := vals1 r
  cases ru
  obtain ⟨its, rv, pl, hz⟩ := I.list hq
  have hp : p ≠ s.heap.objs.size := Nat.ne_of_lt pl.lt
  refine call_all_walk (wpAny_pyIter_list pl.isList ?_)
  refine ⟨s.heap.objs.size, _, _, _, _, _, atB bs, rfl, Walks.list (A := X.A.in1) (show X.A.in1.handled = none from I.ok.hd hc) _ p hp its.toArray, ⟨⟨_, Heap.get?_push_size _ rfl, rfl, rfl⟩, ?_⟩, ?_, fun h' tk hk => ?_⟩
  · obtain ⟨o, n, e, c, _, d⟩ := pl
    exact ⟨o, Heap.get?_push_of_some _ e, c, n, d⟩
  · intro i v s' Q' E' hP hQ
    obtain ⟨b, h1, rfl⟩ := vals_bl (i := i) (v := v) rv (by simpa using hP)
    refine wpAny_truthy_bool ?_
    have e : atB bs i = b := by unfold atB; rw [h1]
    rw [e] at hQ
    exact hQ
  · have hl : its.toArray.size = bs.length := by
      have := rv.length
      simp at this
      simp [this]
    rw [hl, all_range_bl]
    refine ⟨.bl (bs.all id), H, I.kept fun b o e => hk b o ?_ (Heap.get?_push_of_some _ e), rfl, q⟩
    intro z
    have : b = s.heap.objs.size := by simpa using z
    exact absurd (Heap.lt_size e) (by rw [this]; exact Nat.lt_irrefl _)
/-! ### sep.join(list of texts) -/
theorem strsAre_of : ∀ {ys : List Str} {us : List Value}, Vals (ys.map V.str) us → StrsAre us ys
  | [], _, .nil => by first | exact .nil | trivial
  | y :: ys, _, .cons r t => by
    obtain ⟨k, rfl⟩ := r
    first
      | exact .cons _ _ (strsAre_of t)
      | exact .cons (strsAre_of t)
      | exact ⟨⟨k, rfl⟩, strsAre_of t⟩
/-! ### a slice of a text -/
/-! ### a text times a number -/
def repS (z : Str) (n : Nat) : Str := ⟨(List.replicate n z.cps).foldl (· ++ ·) #[]⟩
theorem op_mul_str : OpR X (binaryOp .Mult) (fun x y H Q => ∃ z n, x = .str z ∧ y = .int n ∧ 1 < n ∧ n ≤ 1000 ∧ 0 < z.length ∧ z.length ≤ 1000 ∧ Q (.str (repS z n.toNat)) H) := by
  intro pins s σ H x y v u Q I rx ry h
  obtain ⟨z, n, rfl, rfl, h1, h2, h3, h4, q⟩ := h
  obtain ⟨t, rfl⟩ := rx
  obtain ⟨t', rfl⟩ := ry
  have e1 : ¬ n < 1 := by omega
  have e2 : (n == 1 || z.length == 0) = false := by
    have a : (n == 1) = false := beq_eq_false_iff_ne.mpr (by omega)
    have b : (z.length == 0) = false := beq_eq_false_iff_ne.mpr (by omega)
    rw [a, b]; rfl
  have hz : z.length * n.toNat ≤ 1000 * 1000 := Nat.mul_le_mul h4 (by omega)
  refine PySem.P.mul_str ?_ (fun _ _ => ?_) (fun _ _ => ?_) ?_
  · have a : decide (n < -(2 ^ 63 : Int)) = false := decide_eq_false (by omega)
    have b : decide (n ≥ 2 ^ 63) = false := decide_eq_false (by omega)
    rw [a, b]; rfl
  · have hd : (1000 : Int) ≤ (2 ^ 63 - 1) / n := by
      apply Int.le_ediv_of_mul_le (by omega)
      omega
    omega
  · have hb : z.length * n.toNat ≤ sizeLine := Nat.le_trans hz (by decide)
    unfold Builtin.Str.tooLong
    exact decide_eq_false (by omega)
  · rw [if_neg e1, e2]
    simp only [Bool.false_eq_true, if_false]
    refine ⟨?_, ⟨.str _, H, I.tok _, ⟨_, rfl⟩, q⟩⟩
    have key : ∀ (k : Nat) (acc : Array Nat), ((List.replicate k z.cps).foldl (· ++ ·) acc).size = acc.size + k * z.cps.size := by
      intro k
      induction k with
      | zero => intro acc; simp
      | succ k ih => intro acc; rw [List.replicate_succ, List.foldl_cons, ih, Array.size_append, Nat.succ_mul]; omega
    have hk := key n.toNat #[]
    have hz' : n.toNat * z.cps.size ≤ 1000 * 1000 := Nat.mul_le_mul (by omega) h4
    have hsl : 1000 * 1000 ≤ sizeLine := by decide
    show ((List.replicate n.toNat z.cps).foldl (· ++ ·) #[]).size ≤ sizeLine
    rw [hk]
    simp only [Array.size_empty]
    omega
/-! ### isinstance -/
theorem call_isi : CallR X (.builtin "isinstance") (fun xs H Q => ∃ x T t b, xs = [x, .ty T] ∧ TyOf X.K H x t ∧ PySem.W.kitOne X.K t (.type T) = some b ∧ Q (.bl b) H) := by
  intro pins s σ H xs us Q I r h
  obtain ⟨x, T, t, b, rfl, ht, hk, q⟩ := h
  obtain ⟨u, w', rfl, ru, rw'⟩ := vals2 r
  cases rw'
  exact isinst_ok I ru ht hk fun tk => ⟨.bl b, H, I.tok _, rfl, q⟩
/-! ### a text that is walked -/
theorem bt_len : bootBuiltins "len" = some (.builtin "len") := by decide +kernel
theorem bt_all : bootBuiltins "all" = some (.builtin "all") := by decide +kernel
theorem bt_isinstance : bootBuiltins "isinstance" = some (.builtin "isinstance") := by decide +kernel
theorem bt_max : bootBuiltins "max" = some (.builtin "max") := by decide +kernel
theorem bt_min : bootBuiltins "min" = some (.builtin "min") := by decide +kernel
theorem bt_sorted : bootBuiltins "sorted" = some (.builtin "sorted") := by decide +kernel
theorem bt_int : bootBuiltins "int" = some (.type "int") := by decide +kernel
theorem bt_tuple : bootBuiltins "tuple" = some (.type "tuple") := by decide +kernel
theorem bt_list : bootBuiltins "list" = some (.type "list") := by decide +kernel
theorem few {α : Type} {xs : List α} (h : Nat.ble xs.length 1000 = true) : xs.length ≤ sizeLine := Nat.le_of_lt (small1000 (Nat.le_of_ble_eq_true h))
/-! ### a row of written values -/
def constV : Expr → Option V
  | .Constant (.str x) _ _ => some (.str x)
  | .Constant (.int i) _ _ => some (.int i)
  | .Constant (.bool b) _ _ => some (.bl b)
  | .Constant .none _ _ => some .non
  | _ => none
theorem pe_const {e : Expr} {v : V} (h : constV e = some v) : PE X e (tC v) ∧ ∀ es, starEach (e :: es) X.env = (false, eval e X.env) :: starEach es X.env := by
  cases e with
  | Constant c j pos =>
    cases c with
    | str x => cases h; exact ⟨pe_str, fun _ => rfl⟩
    | int x => cases h; exact ⟨pe_int, fun _ => rfl⟩
    | bool x => cases h; exact ⟨pe_bl, fun _ => rfl⟩
    | none => cases h; exact ⟨pe_non, fun _ => rfl⟩
    | _ => cases h
  | _ => cases h
def tAll (vs : List V) : TA := fun _ H Q => Q vs H
theorem pa_consts_of : ∀ {es : List Expr} {vs : List V}, es.mapM constV = some vs → PA X es (tAll vs)
  | [], vs, h => by
    have e : vs = [] := by simpa using h.symm
    subst e
    exact pa_nil
  | e :: es, vs, h => by
    rw [List.mapM_cons] at h
    cases h1 : constV e with
    | none => rw [h1] at h; cases h
    | some v =>
      rw [h1] at h
      cases h2 : es.mapM constV with
      | none => rw [h2] at h; cases h
      | some us =>
        rw [h2] at h
        have e1 : v :: us = vs := Option.some.inj h
        subst e1
        obtain ⟨p, st⟩ := pe_const (X := X) h1
        have q := pa_cons p (pa_consts_of (es := es) h2) (st es)
        exact q
/-- [..], (..) of written values -/
def tLstC (vs : List V) : TE := fun _ H Q => vs.length ≤ sizeLine ∧ ∀ p, H p = none → Q (.ref p) (upd H p (.lst vs))
theorem pe_lstC (vs : List V) {es : List Expr} {pos : Pos} (h : es.mapM constV = some vs) : PE X (.List es pos) (tLstC vs) := pe_lst (pa_consts_of h)
end
end L2

set_option Elab.async false
set_option linter.all false
set_option maxRecDepth 100000
set_option maxHeartbeats 4000000
/-! Loops and comprehensions by an invariant, whatever they walk. -/
namespace L2
open PySem PySem.Spec PyProof.Rows
/-- J walks n items, the i-th of them P i, wherever ok holds -/
structure Wk (J : It) (n : Nat) (P : Nat → V → Prop) (ok : Hp → Prop) : Prop where
  stop : ∀ i H, ok H → n ≤ i → J.stop i H
  go : ∀ i H, ok H → i < n → J.go i H
  yld : ∀ i H x H', ok H → i < n → J.yld i H x H' → H' = H ∧ P i x
theorem wk_list {K : PySem.W.Frag} {a : Addr} {xs : List V} : Wk (Itl K a) xs.length (fun i x => xs[i]? = some x) (fun H => SqL K H a xs) where
  stop := fun i H h l => ⟨xs, h, l⟩
  go := fun i H h l => ⟨xs, xs[i], h, by simp [l]⟩
  yld := fun i H x H' h l y => ⟨y.1, y.2 xs h⟩
theorem wk_tup {K : PySem.W.Frag} {a : Addr} {xs : List V} : Wk (Itt K a) xs.length (fun i x => xs[i]? = some x) (fun H => SqT K H a xs) where
  stop := fun i H h l => ⟨xs, h, l⟩
  go := fun i H h l => ⟨xs, xs[i], h, by simp [l]⟩
  yld := fun i H x H' h l y => ⟨y.1, y.2 xs h⟩
theorem wk_rng {lo : Int} {n : Nat} : Wk (Itr lo n) n (fun i x => x = .int (lo + i)) (fun _ => True) where
  stop := fun i H h l => l
  go := fun i H h l => l
  yld := fun i H x H' h l y => y
theorem comp_by {J : It} {n : Nat} {P : Nat → V → Prop} {ok : Hp → Prop} {g : TG} {tc : TT} {te : TE} {src : List (Option Nat)} {σ : St} {H1 : Hp} {Q : VK} (wk : Wk J n P ok) (Pv : Addr → Nat → List V → St → Hp → Prop)
    (h0 : ∀ l, H1 l = none → Pv l 0 [] (capt src σ) (upd H1 l (.lst []))) (hok : ∀ l i ys σ H, H1 l = none → Pv l i ys σ H → ok H)
    (hs : ∀ l i x ys σ H, H1 l = none → i < n → P i x → Pv l i ys σ H → H l = some (.lst ys) → g x σ H fun σ2 H3 => tc σ2 H3 fun b H4 =>
      if b = true then te σ2 H4 fun y H5 => H5 l = some (.lst ys) ∧ ys.length < sizeLine ∧ Pv l (i + 1) (ys ++ [y]) σ2 (upd H5 l (.lst (ys ++ [y]))) else H4 l = some (.lst ys) ∧ Pv l (i + 1) ys σ2 H4)
    (hd : ∀ l ys σ H, H1 l = none → Pv l n ys σ H → H l = some (.lst ys) → Q (.ref l) H) :
    CompGo g tc te src σ Q J H1 := by
  intro l hl
  refine ⟨fun i m ys σ H => m = n - i ∧ i ≤ n ∧ Pv l i ys σ H, ⟨n, by simp, Nat.zero_le _, h0 l hl⟩, ?_⟩
  rintro i m ys σ' H' ⟨rfl, hi, p⟩ hl'
  by_cases hlt : i < n
  · refine .inr ⟨wk.go i H' (hok l i ys σ' H' hl p) hlt, Pv l (i + 1), fun zs σ2 H2 q => ⟨n - (i + 1), by omega, rfl, hlt, q⟩, fun x H2 y => ?_⟩
    obtain ⟨rfl, px⟩ := wk.yld i H' x H2 (hok l i ys σ' H' hl p) hlt y
    exact hs l i x ys σ' _ hl hlt px p hl'
  · have e : i = n := by omega
    subst e
    exact .inl ⟨wk.stop _ _ (hok l _ ys σ' H' hl p) (Nat.le_refl _), hd l ys σ' H' hl p hl'⟩
/-- a for loop likewise -/
theorem for_by {J : It} {n : Nat} {P : Nat → V → Prop} {ok : Hp → Prop} {g : TG} {tb : TS} {D : Ends} {σ : St} {H : Hp} (wk : Wk J n P ok) (Pv : Nat → St → Hp → Prop) (h0 : Pv 0 σ H) (hok : ∀ i σ H, Pv i σ H → ok H)
    (hs : ∀ i x σ H, i < n → P i x → Pv i σ H → g x σ H fun σ2 H2 => tb { D with nx := Pv (i + 1), ct := Pv (i + 1), bk := D.nx } σ2 H2) (hd : ∀ σ H, Pv n σ H → D.nx σ H) :
    ForGo g tb D σ J H := by
  refine ⟨fun i m σ H => m = n - i ∧ i ≤ n ∧ Pv i σ H, ⟨n, by simp, Nat.zero_le _, h0⟩, ?_⟩
  rintro i m σ H ⟨rfl, hi, p⟩
  by_cases hlt : i < n
  · refine .inr ⟨wk.go i H (hok i σ H p) hlt, Pv (i + 1), fun σ' H' q => ⟨n - (i + 1), by omega, rfl, hlt, q⟩, fun x H' y => ?_⟩
    obtain ⟨rfl, px⟩ := wk.yld i H x H' (hok i σ H p) hlt y
    exact hs i x σ _ hlt px p
  · have e : i = n := by omega
    subst e
    exact .inl ⟨wk.stop _ _ (hok _ σ H p) (Nat.le_refl _), hd σ H p⟩
end L2

set_option Elab.async false
set_option linter.all false
set_option maxRecDepth 100000
set_option maxHeartbeats 4000000
/-! The rules once more, each judgement kept in a box: a term of rules is then elaborated without running the program. -/
namespace L2
open PySem PySem.Spec PyProof.Rows
structure QE (X : Cx) (e : Expr) (t : TE) : Prop where o : PE X e t
structure QT (X : Cx) (e : Expr) (t : TT) : Prop where o : PT X e t
structure QW (X : Cx) (e : Expr) (t : TT) : Prop where o : PW X e t
structure QA (X : Cx) (es : List Expr) (t : TA) : Prop where o : PA X es t
structure QS (X : Cx) (s : Stmt) (t : TS) : Prop where o : PS X s t
structure QB (X : Cx) (s : List Stmt) (t : TS) : Prop where o : PSs X s t
structure QI (X : Cx) (tg iter : Expr) (t : TI) : Prop where o : PI X tg iter t
structure QG (X : Cx) (tg : Expr) (t : TG) : Prop where o : PG X tg t
structure QGs (X : Cx) (tg : List Expr) (t : TGs) : Prop where o : PGs X tg t
structure QF (X : Cx) (ifs : List Expr) (t : TT) : Prop where o : PIf X ifs t
structure QO (X : Cx) (e : Option Expr) (t : TO) : Prop where o : PO X e t
structure QPs (X : Cx) (pos : Pos) (keys : List (Option Expr)) (values : List Expr) (trs : List (TE × TE)) : Prop where o : PPs X pos keys values trs
section
variable {X : Cx} {a b c e o i : Expr} {es : List Expr} {ta tb tc te to ti : TE} {t u : TA} {pos p apos cpos : Pos} {j : Nat} {x : Str} {sa sb : TS} {q q' : TT} {rest : List Expr}
theorem qv (i : Nat) {x : Str} {pos : Pos} (hN : X.N[i]? = some x := by rfl) (hv : Vis X.env.scope x := by exact Or.inl rfl) (hd : (x == ("__debug__" : Str)) = false := by decide)
    (hcd : (x == ("__classdict__" : Str)) = false := by decide) : QE X (.Name x pos) (tVar i) := ⟨pe_var hN hv hd hcd⟩
/-- a name that a comprehension captures -/
theorem qc (i : Nat) {x : Str} {pos : Pos} (hN : X.N[i]? = some x := by rfl) (hv : X.env.scope.names.lookup x = some .cell := by rfl) (hd : (x == ("__debug__" : Str)) = false := by decide)
    (hcd : (x == ("__classdict__" : Str)) = false := by decide) : QE X (.Name x pos) (tVar i) := ⟨pe_var hN (.inr (.inl hv)) hd hcd⟩
theorem q_int {k : Int} : QE X (.Constant (.int k) j pos) (tC (.int k)) := ⟨pe_int⟩
theorem q_str {k : Str} : QE X (.Constant (.str k) j pos) (tC (.str k)) := ⟨pe_str⟩
theorem q_bl {k : Bool} : QE X (.Constant (.bool k) j pos) (tC (.bl k)) := ⟨pe_bl⟩
theorem q_non : QE X (.Constant .none j pos) (tC .non) := ⟨pe_non⟩
theorem q_glob {v : V} {u : Value} (hm : X.mg x = some u) (r : RelV v u) (hg : Gl X x := by rfl) (hd : (x == ("__debug__" : Str)) = false := by decide) : QE X (.Name x pos) (tC v) := ⟨pe_glob hg hm r hd⟩
theorem q_ty {T : String} (hm : X.mg x = none) (hv : bootBuiltins x = some (.type T)) (hg : Gl X x := by rfl) (hn : x ≠ "__name__" := by decide) (hd : (x == ("__debug__" : Str)) = false := by decide) : QE X (.Name x pos) (tC (.ty T)) := ⟨pe_bltn hg hm hv rfl hn hd⟩
theorem q_op {op : Operator} {r : R2} (ho : OpR X (binaryOp op) r) (ha : QE X a ta) (hb : QE X b tb) : QE X (.BinOp a op b pos) (tOp r ta tb) := ⟨pe_op ho ha.o hb.o⟩
theorem q_un {op : UnaryOp} {r : V → Hp → VK → Prop} (ho : UnR X (unaryOp op) r) (ha : QE X a ta) : QE X (.UnaryOp op a pos) (tUn r ta) := ⟨pe_un ho ha.o⟩
theorem q_cmp {op : CmpOp} {r : R2} (ho : OpR X (compareOp op) r) (ha : QE X a ta) (hb : QE X b tb) (hm : behindInMarks op b = false := by rfl) : QE X (.Compare a [op] [b] pos) (tOp r ta tb) := ⟨pe_cmpR ho ha.o hb.o hm⟩
theorem t_cmp {op : CmpOp} {r : R2} (ho : OpR X (compareOp op) r) (ha : QE X a ta) (hb : QE X b tb) (hm : behindInMarks op b = false := by rfl) : QT X (.Compare a [op] [b] pos) (tTest (tOp r ta tb)) := ⟨pt_cmpR ho ha.o hb.o hm⟩
theorem q_one {op : BoolOp} (h : QE X a ta) : QE X (.BoolOp op [a] pos) ta := ⟨pe_one h.o⟩
theorem q_and (ha : QE X a ta) (hb : QE X (.BoolOp .And (b :: rest) pos) tb) : QE X (.BoolOp .And (a :: b :: rest) pos) (tAndV ta tb) := ⟨pe_and ha.o hb.o⟩
theorem q_not (ha : QE X a ta) : QE X (.UnaryOp .Not a pos) (tNotV ta) := ⟨pe_not ha.o⟩
theorem q_if (hc : QT X c q) (ha : QE X a ta) (hb : QE X b tb) : QE X (.IfExp c a b pos) (tIf q ta tb) := ⟨pe_ifExp hc.o ha.o hb.o⟩
theorem w_or1 (ha : QT X a q) : QW X (.BoolOp .Or [a] pos) q := ⟨pw_or1 ha.o⟩
theorem w_or (ha : QT X a q) (hb : QW X (.BoolOp .Or (b :: rest) pos) q') : QW X (.BoolOp .Or (a :: b :: rest) pos) (tOr q q') := ⟨pw_or ha.o hb.o⟩
theorem t_w (h : QW X a q) : QT X a q := ⟨h.o.pt⟩
theorem t_not (ha : QT X a q) : QT X (.UnaryOp .Not a pos) (tNot q) := ⟨pt_not ha.o⟩
theorem t_val (h : QE X e te) (he : ∀ whole, isTrue e X.env whole = (do let v ← whole; standAt e.pos; holding [v] (truthy v)) := by intro _; rfl) : QT X e (tB te) := ⟨pt_val h.o he⟩
theorem a_nil : QA X [] tNil := ⟨pa_nil⟩
theorem a_cons (ha : QE X e te) (hr : QA X es t) (hs : starEach (e :: es) X.env = (false, eval e X.env) :: starEach es X.env := by rfl) : QA X (e :: es) (tCons te t) := ⟨pa_cons ha.o hr.o hs⟩
theorem q_tup {k : Nat} (h : QA X es t) : QE X (.Tuple es k pos) (tTup t) := ⟨pe_tup h.o⟩
theorem q_lst (h : QA X es t) : QE X (.List es pos) (tLst t) := ⟨pe_lst h.o⟩
theorem q_lstC (vs : List V) (h : es.mapM constV = some vs) : QE X (.List es pos) (tLstC vs) := ⟨pe_lstC vs h⟩
theorem q_call {CX : CXT} {k : Nat} {f : Addr} {fd : FuncData} {ps : List Str} {sp : Sp} {dvs : List V} {ds : List Value} {E : XK} (F : FnOk X.prog X.w X.K X.mg X.base CX k f fd ps sp) (hr : Room k X.A) (hm : X.mg x = some (.ref f)) (hk : PySem.W.keepIn X.K (.ref f) = true) (hb : Binds X.K fd ps ds) (hd : Vals dvs ds) (hx : Passes CX X E)
    (ha : QA X (e :: es) t) (hg : Gl X x := by rfl) (hdb : (x == ("__debug__" : Str)) = false := by decide) (he : starEach (e :: es) X.env = (false, eval e X.env) :: starEach es X.env := by rfl) (hpl : (backTo pos (starEach es X.env)).any (·.1) = false := by rfl) :
    QE X (.Call (.Name x p) (e :: es) [] pos) (tCall sp dvs E t) := ⟨pe_call F hr hg hm hk hb hd hx ha.o hdb he hpl⟩
theorem q_callB {id : String} {r : List V → Hp → VK → Prop} (hc : CallR X (.builtin id) r) (hm : X.mg x = none) (hv : bootBuiltins x = some (.builtin id)) (ha : QA X (e :: es) t) (hg : Gl X x := by rfl) (hn : x ≠ "__name__" := by decide) (hdb : (x == ("__debug__" : Str)) = false := by decide)
    (he : starEach (e :: es) X.env = (false, eval e X.env) :: starEach es X.env := by rfl) (hpl : (backTo pos (starEach es X.env)).any (·.1) = false := by rfl) : QE X (.Call (.Name x p) (e :: es) [] pos) (tCB r t) := ⟨pe_callB hc hg hm hv ha.o hn hdb he hpl⟩
theorem q_callTy {T : String} {r : List V → Hp → VK → Prop} (hc : CallR X (.type T) r) (hm : X.mg x = none) (hv : bootBuiltins x = some (.type T)) (ha : QA X (e :: es) t) (hg : Gl X x := by rfl) (hn : x ≠ "__name__" := by decide) (hdb : (x == ("__debug__" : Str)) = false := by decide)
    (he : starEach (e :: es) X.env = (false, eval e X.env) :: starEach es X.env := by rfl) (hpl : (backTo pos (starEach es X.env)).any (·.1) = false := by rfl) : QE X (.Call (.Name x p) (e :: es) [] pos) (tCB r t) := ⟨pe_callTy hc hg hm hv ha.o hn hdb he hpl⟩
theorem q_ix {r : R2} (hr : IxR X r) (ha : QE X a ta) (hb : QE X b tb) (hs : PlainIx b := by exact fun _ _ => rfl) : QE X (.Subscript a b pos) (tOp r ta tb) := ⟨pe_ix hr ha.o hb.o hs⟩
theorem o_none : QO X none tNoPart := ⟨po_none⟩
theorem o_some (h : QE X e te) : QO X (some e) (tPart te) := ⟨po_some h.o⟩
theorem q_sl {r : V → Option Int → Option Int → Hp → VK → Prop} {lo hi : Option Expr} {tl th : TO} (hr : SlR X r) (he : QE X e te) (hl : QO X lo tl) (hu : QO X hi th) : QE X (.Subscript e (.Slice lo hi none p) pos) (tSl r te tl th) := ⟨pe_slice hr he.o hl.o hu.o⟩
theorem q_bm {T id : String} {name : Str} {r : V → List V → Hp → VK → Prop} (pa : PlainAttrs T) (slot : Slot T name id) (hty : typeOf (.builtin id) = pure (.type "method_descriptor")) (hm : MtR X id r) (ho : QE X o to) (ha : QA X (e :: es) t)
    (hbase : attributeBase o name X.env (eval o X.env) = eval o X.env := by rfl)
    (hfew : ((backTo cpos (starEach (e :: es) X.env)).all (fun x => !x.1) && (backToKw cpos (keywordEach [] X.env)).all (fun x => x.1.isSome)
      && decide ((e :: es).length + ([] : List Keyword).length + (if ([] : List Keyword).isEmpty then 0 else 1) < 30)) = true := by rfl)
    (hline : (apos.endLine == cpos.line) = true := by rfl) (hs : starEach (e :: es) X.env = (false, eval e X.env) :: starEach es X.env := by rfl) (hplain : (backTo cpos (starEach es X.env)).any (·.1) = false := by rfl) :
    QE X (.Call (.Attribute o name apos) (e :: es) [] cpos) (tBM X.K T r to t) := ⟨pe_bm pa slot hty hm ho.o ha.o hbase hfew hline hs hplain⟩
/-! iterators, targets, tests of a comprehension -/
theorem i_list {tg : Expr} (h : QE X e te) : QI X tg e (iList X.K te) := ⟨pi_list h.o⟩
theorem i_tup {tg : Expr} (h : QE X e te) : QI X tg e (iTup X.K te) := ⟨pi_tup h.o⟩
theorem i_rng1 {tg : Expr} (hm : X.mg "range" = none) (ha : QA X [a] t) (hg : Gl X "range" := by rfl) (hs : starEach [a] X.env = [(false, eval a X.env)] := by rfl) : QI X tg (.Call (.Name "range" p) [a] [] pos) (iRng1 t) := ⟨pi_range1 hg hm ha.o hs⟩
theorem i_rng2 {tg : Expr} (hm : X.mg "range" = none) (ha : QA X [a, b] t) (hg : Gl X "range" := by rfl) (hs : starEach [a, b] X.env = [(false, eval a X.env), (false, eval b X.env)] := by rfl) (hs2 : starEach [b] X.env = [(false, eval b X.env)] := by rfl) : QI X tg (.Call (.Name "range" p) [a, b] [] pos) (iRng2 t) := ⟨pi_range2 hg hm ha.o hs hs2⟩
theorem g_name (k : Nat) (hN : X.N.Nodup) (hi : X.N[k]? = some x := by rfl) (hx : X.env.scope.names.lookup x = some .local := by rfl) : QG X (.Name x pos) (gName k) := ⟨pg_name hN hi (.inl hx) (.inr hx)⟩
theorem gs_nil : QGs X [] gNil := ⟨pgs_nil⟩
theorem gs_cons {tg : TG} {tgs : TGs} (h1 : QG X e tg) (h2 : QGs X es tgs) (hs : (assignEach (e :: es) X.env).map (·.2) = assign e X.env :: (assignEach es X.env).map (·.2) := by rfl) : QGs X (e :: es) (gCons tg tgs) := ⟨pgs_cons h1.o h2.o hs⟩
theorem g_tup (n : Nat) {k : Nat} {tgs : TGs} (hc : X.calm = true) (h : QGs X es tgs) (hn : (assignEach es X.env).length = n := by rfl) (hst : (assignEach es X.env).findIdx? (·.1) = none := by rfl) : QG X (.Tuple es k pos) (gTup X.K n tgs) := ⟨pg_tup hc h.o hn hst⟩
theorem f_nil : QF X [] tYes := ⟨pif_nil⟩
theorem f_one (h : QT X c q) : QF X [c] q := ⟨pif_one h.o⟩
/-! statements -/
theorem b_nil : QB X [] tNext := ⟨pss_nil⟩
theorem b_cons {st : Stmt} {sts : List Stmt} (h1 : QS X st sa) (h2 : QB X sts sb) : QB X (st :: sts) (tSeq sa sb) := ⟨pss_cons h1.o h2.o⟩
theorem b_one {st : Stmt} (h1 : QS X st sa) : QB X [st] sa := ⟨pss_one h1.o⟩
theorem s_if {A B : List Stmt} (hc : QT X c q) (ha : QB X A sa) (hb : QB X B sb) : QS X (.If c A B pos) (tIfS q sa sb) := ⟨ps_if hc.o ha.o hb.o⟩
theorem s_ret (h : QE X e te) : QS X (.Return (some e) pos) (tRet te) := ⟨ps_ret h.o⟩
theorem s_expr (he : QE X e te) (hs : swapsWith e none pos.line X.env = pure false := by rfl) : QS X (.Expr e pos) (tDrop te) := ⟨ps_expr he.o hs⟩
theorem s_cont : QS X (.Continue pos) tCont := ⟨ps_continue⟩
theorem s_set (k : Nat) {pos' : Pos} (hN : X.N.Nodup) (he : QE X e te) (hi : X.N[k]? = some x := by rfl) (hx : X.env.scope.names.lookup x = some .local := by rfl) (hs : swapsWith e (some (.Name x pos')) pos.line X.env = pure false := by rfl) :
    QS X (.Assign [.Name x pos'] e pos) (tAsg te (gName k)) := ⟨ps_set hN hi (.inl hx) he.o hs (.inr hx)⟩
/-- a name that a comprehension captures -/
theorem s_setC (k : Nat) {pos' : Pos} (hN : X.N.Nodup) (he : QE X e te) (hi : X.N[k]? = some x := by rfl) (hx : X.env.scope.names.lookup x = some .cell := by rfl) (hf : X.fn x = true := by rfl) (hs : swapsWith e (some (.Name x pos')) pos.line X.env = pure false := by rfl) :
    QS X (.Assign [.Name x pos'] e pos) (tAsg te (gName k)) := ⟨ps_set hN hi (.inr hx) he.o hs (.inl hf)⟩
theorem s_for {tg iter : Expr} {body : List Stmt} {wi : TI} {g : TG} (hp : PassesOwn (model X.prog X.w) X.A X.env X.xe) (hc : X.calm = true) (hi : QI X tg iter wi) (hg : QG X tg g) (hb : QB X body sa)
    (hs : ∀ x, foldedSetIterable iter X.env x = pure x := by intro _; rfl) : QS X (.For tg iter body [] pos) (tForG wi g sa) := ⟨ps_forG hp hc hi.o hg.o hb.o hs⟩
end
section
variable {X : Cx} {elt tg iter : Expr} {ifs : List Expr} {scope osc : Scope} {pos : Pos} {N' : List Str} {src : List (Option Nat)} {wi : TI} {g : TG} {tc : TT} {te : TE}
theorem q_comp (ok : CompOk X.N osc N' src scope) (hsc : X.env.scope = osc) (hc : X.calm = true) (hi : QI X tg iter wi)
    (hg : ∀ cl C s₀ H₀ fp, QG (cxComp X N' scope cl C s₀ H₀ fp) tg g) (ht : ∀ cl C s₀ H₀ fp, QF (cxComp X N' scope cl C s₀ H₀ fp) ifs tc) (he : ∀ cl C s₀ H₀ fp, QE (cxComp X N' scope cl C s₀ H₀ fp) elt te)
    (hs : ∀ x, foldedSetIterable iter X.env x = pure x := by intro _; rfl) : QE X (.ListComp elt [⟨tg, iter, ifs, 0⟩] scope pos) (tComp wi g tc te src) :=
  ⟨pe_comp ok hsc hc hi.o (fun cl C s₀ H₀ fp => (hg cl C s₀ H₀ fp).o) (fun cl C s₀ H₀ fp => (ht cl C s₀ H₀ fp).o) (fun cl C s₀ H₀ fp => (he cl C s₀ H₀ fp).o) hs⟩
end
theorem Fun.okQ {P : Program} {w : World} {K : PySem.W.Frag} {mg : Str → Option Value} {base : Heap} {x qual : Str} {st : Stmt} {f : Addr} {fd : FuncData} {N ps : List Str} {k : Nat} {sp : Sp} (F : Fun K x qual st f fd) (S : FnScope N ps (defScope st)) (len : ∀ vs H Q E, sp vs H Q E → vs.length = ps.length)
    (hbody : ∀ (cdv : Value) (A : Around) (outer : List Env) (s : Shared) (H : Hp) (vs : List V) (Q : VK) (E : XK), Room k (A.deeper (envOfC qual (defScope st) s.heap.objs.size f cdv)) → sp vs H Q E →
      ∃ t, QB (cxOf CX0 P w K mg base N qual (defScope st) f cdv A outer s H E).nox (defBody st) t ∧ t { nx := fun _ H' => Q .non H', rt := Q } (start N vs) H) : FnOk P w K mg base CX0 (k + 1) f fd ps sp :=
  F.ok S len fun cdv A outer s H vs Q E hr h => let ⟨t, a, b⟩ := hbody cdv A outer s H vs Q E hr h; ⟨t, a.o, b⟩
end L2

set_option Elab.async false
set_option linter.all false
set_option maxRecDepth 100000
set_option maxHeartbeats 4000000
/-! A comprehension whose value a name of the def takes on the same row: the store comes ahead of the letting go. -/
namespace L2
open PySem PySem.Spec PyProof.Rows
theorem ns_obj {h : Heap} {a : Addr} {m : Str → Option Value} (hn : h.Ns a m) : ∃ o, h.get? a = some o ∧ ∀ v, o.data ≠ .cell v :=
  let ⟨o, es, ep, e, d, _⟩ := hn; ⟨o, e, fun v z => by rw [d] at z; cases z⟩
theorem ns_move {h h' : Heap} {a : Addr} {m : Str → Option Value} {o : Obj} (hn : h.Ns a m) (e : h.get? a = some o) (e' : h'.get? a = some o) : h'.Ns a m := by
  obtain ⟨o', es, ep, e1, r⟩ := hn
  rw [e] at e1
  cases e1
  exact ⟨o, es, ep, e', r⟩
section
variable {X : Cx} {elt tg iter : Expr} {ifs : List Expr} {scope osc : Scope} {pos : Pos} {N' : List Str} {src : List (Option Nat)} {wi : TI} {g : TG} {tc : TT} {te : TE} {y : Str} {py spos : Pos} {k : Nat}
theorem ps_setcomp (ok : CompOk X.N osc N' src scope) (hsc : X.env.scope = osc) (hc : X.calm = true) (hi : PI X tg iter wi)
    (hg : ∀ cl C s₀ H₀ fp, PG (cxComp X N' scope cl C s₀ H₀ fp) tg g) (ht : ∀ cl C s₀ H₀ fp, PIf (cxComp X N' scope cl C s₀ H₀ fp) ifs tc) (he : ∀ cl C s₀ H₀ fp, PE (cxComp X N' scope cl C s₀ H₀ fp) elt te)
    (hN : X.N.Nodup) (hk : X.N[k]? = some y) (hx : X.env.scope.names.lookup y = some .local) (hsw : swapsWith (.ListComp elt [⟨tg, iter, ifs, 0⟩] scope pos) (some (.Name y py)) spos.line X.env = pure true)
    (hs : ∀ x, foldedSetIterable iter X.env x = pure x := by intro _; rfl) : PS X (.Assign [.Name y py] (.ListComp elt [⟨tg, iter, ifs, 0⟩] scope pos) spos) (tAsg (tComp wi g tc te src) (gName k)) := by
  intro pins s σ H D I h
  obtain ⟨cl, hcl, c1, c2⟩ := closure_of (scope := scope) (env := X.env) fun y hy hyf => I.ok.has y.1 (by
    have z := ok.frees y hy hyf
    rw [← hsc] at z
    exact z)
  rw [exec_Assign_Name_used _ _ _ _ hsw]
  refine wpAny_bind (wpAny_standAt (wpAny_bind ?_))
  show wpAny _ X.A (do let _ ← comprehension (.ListComp elt [⟨tg, iter, ifs, 0⟩] scope pos) scope X.env _ (newList []) false (eval iter X.env) (some (assign (.Name y py) X.env))) _ _ s
  refine wpAny_bind (wpAny_mono (wpAny_comprehension_free (use := some (assign (.Name y py) X.env)) (Q := fun _ s' => ∃ σ' H', Inv X pins σ' H' s' ∧ D.nx σ' H') rfl hs hcl ok.kind ok.loc
    (thn (hi pins s σ H _ I h) fun v s1 h1 => thn h1 fun itv s2 h2 => ?_)) (fun _ s' hq => wpAny_pure (wpAny_pure hq)) fun _ _ e => e)
  obtain ⟨it, fp, tn, J, H2, e, I2, T, st2, f2, q2⟩ := h2
  subst e
  have hlt2 : ∀ b ∈ fp, b < s2.heap.objs.size := fun b hb => by
    obtain ⟨o, e, _⟩ := T.obj _ _ st2 b hb
    exact Heap.lt_size e
  refine wpAny_newObj_type ?_
  have hl : H2 s2.heap.objs.size = none := I2.hok.fresh (Nat.le_refl _)
  have I3 : Inv X pins σ (upd H2 s2.heap.objs.size (.lst [])) { s2 with heap := s2.heap.push { cls := .type "list", dict := none, data := .seq ([] : List Value).toArray } } :=
    I2.laid (t' := s2.toks) (fun b u e => Heap.get?_push_of_some _ e) (Nat.le_refl _) ⟨Nat.zero_le _, [], 0, .nil, Heap.get?_push_size _ rfl⟩
  obtain ⟨W, ⟨m0, w0⟩, turn⟩ := q2 _ hl
  generalize hl2 : s2.heap.objs.size = l at *
  generalize hs3 : ({ s2 with heap := s2.heap.push { cls := .type "list", dict := none, data := .seq ([] : List Value).toArray } } : Shared) = s3 at *
  have f3 : ∀ b ∈ fp, FpOk X pins (upd H2 l (.lst [])) b := fun b hb => ⟨by rw [upd_ne (Nat.ne_of_lt (hlt2 b hb))]; exact (f2 b hb).1, (f2 b hb).2⟩
  have k3 : ∀ b o, s2.heap.get? b = some o → s3.heap.get? b = some o := fun b o e => by rw [← hs3]; exact Heap.get?_push_of_some _ e
  have hlt3 : ∀ b ∈ fp, b < s3.heap.objs.size := fun b hb => by
    obtain ⟨o, e, _⟩ := T.obj _ _ st2 b hb
    exact Heap.lt_size (k3 b o e)
  refine wpAny_newFunctionEnv ok.nocell (by intro y hy; simp at hy) (fun h₁ hns₁ hsb₁ => ?_) ok.kind
  have k4 : ∀ b o, s3.heap.get? b = some o → h₁.get? b = some o := fun b o e => (hsb₁.2 b (Nat.ne_of_lt (Heap.lt_size e))).trans (Heap.get?_push_of_some _ e)
  have J0 := comp_enter (tk := s3.toks + ([] : List (Str × Value)).length) I3 f3 hlt3 ok hsc c1 c2 hns₁ k4
  have st4 : tn 0 h₁ := T.keep _ _ _ st2 fun b hb o e => k4 b o (k3 b o e)
  generalize hC : s3.heap.objs.size = C at *
  have stat : ∀ {H' : Hp}, (∀ b ∈ fp, H' b = none) → ∀ b ∈ fp, FpOk (cxComp X N' scope cl C s3 (upd H2 l (.lst [])) fp) [] H' b := fun {H'} hn b hb =>
    ⟨hn b hb, (J0.ok.exf b hb).1, J0.ok.exfs b hb, .inl hb, (J0.ok.exf b hb).2, fun p hp => absurd (show p ∈ ([] : List (Addr × Obj)) from hp) (by simp)⟩
  have loop : codeAny (model X.prog X.w) X.A (.compLoop (.ListComp elt [⟨tg, iter, ifs, 0⟩] scope pos) 0 (.ref it) (.ref l) (compEnvC scope cl C X.env))
      (compPost (model X.prog X.w) X.A X.xe (some (assign (.Name y py) X.env)) (fun _ s' => ∃ σ' H', Inv X pins σ' H' s' ∧ D.nx σ' H') (.ref l) C) { s3 with heap := h₁, toks := s3.toks + ([] : List (Str × Value)).length } := by
    refine compLoop_own (fun n s' => ∃ i ys σ' H', Inv (cxComp X N' scope cl C s3 (upd H2 l (.lst [])) fp) [] σ' H' s' ∧ tn i s'.heap ∧ (∀ b ∈ fp, H' b = none) ∧ H' l = some (.lst ys) ∧ W i n ys σ' H') ?_ m0
      ⟨0, [], _, _, J0, st4, fun b hb => (f3 b hb).1, upd_same, w0⟩
    rintro n s5 ⟨i, ys, σ5, H5, I5, st5, fr5, hl5, w5⟩
    rcases turn i n ys σ5 H5 w5 hl5 with ⟨stop, qn⟩ | ⟨go, N, hN, step⟩
    · refine thn (T.done (cxComp X N' scope cl C s3 (upd H2 l (.lst [])) fp) rfl rfl rfl hc i [] s5 σ5 H5 (fun _ _ => False) I5 (stat fr5) st5 stop) fun r s6 ⟨hr, I6⟩ => ?_
      subst hr
      obtain ⟨m, hn, _⟩ := I6.loc
      have hCs : s3.heap.objs.size ≤ C := by rw [← hC]; exact Nat.le_refl _
      have I7 : Inv X pins σ H5 s6 := comp_leave (h' := s6.heap) I3 f3 hCs I6 ⟨rfl, fun _ _ => rfl⟩
      have fC : FpOk X pins H5 C := I3.fpOk hCs I6.free
      obtain ⟨oC, eC, dC⟩ : ∃ o, s6.heap.get? C = some o ∧ ∀ v, o.data ≠ .cell v := by
        obtain ⟨o, e, d⟩ := ns_obj hn
        exact ⟨o, e, d⟩
      have I8 := I7.pinned (fp := [C]) (fun b hb => by rw [List.mem_singleton.mp hb]; exact fC) (fun b hb => by rw [List.mem_singleton.mp hb]; exact ⟨oC, eC, dC⟩)
      refine wpAny_assign_Name (store_ok (v := .ref l) I8 hN hk (.inl hx) rfl (fun s9 I9 => ?_) (.inr hx))
      have p9 := (I9.pin (C, oC) (List.mem_append_right _ (List.mem_append_right _ (mem_pinsAt (List.mem_singleton.mpr rfl) eC)))).1
      refine ⟨m, ns_move hn eC p9, fun h' hsb => ⟨_, H5, ?_, qn⟩⟩
      obtain ⟨f0, f1, f2, f3', f4, f5⟩ := fC
      exact I9.unpinned.turned (t' := s9.toks) (fun b o hb e => (hsb.2 b hb).trans e) f0 f1 f3' f4 f5
    · refine thn (T.item (cxComp X N' scope cl C s3 (upd H2 l (.lst [])) fp) rfl rfl rfl hc i [] s5 σ5 H5 (fun _ _ => False) I5 (stat fr5) st5 go) fun r s6 ⟨u, hr, h6⟩ => ?_
      subst hr
      refine thn h6 fun _ s7 ⟨x, H7, I7, r7, y7, st7, fr7⟩ => ?_
      have I7' := I7.pinned (stat fr7) (T.obj _ _ st7)
      refine thn (hg cl C s3 _ fp _ s7 σ5 H7 x u _ I7' r7 (step x H7 y7)) fun _ s8 ⟨σ8, H8, I8, q8⟩ => ?_
      refine thn (ht cl C s3 _ fp _ s8 σ8 H8 _ I8 q8) fun b s9 ⟨H9, I9, q9⟩ => ?_
      have back : ∀ {s' : Shared} {H' : Hp}, Inv (cxComp X N' scope cl C s3 (upd H2 l (.lst [])) fp) ([] ++ pinsAt fp s7.heap) σ8 H' s' → tn (i + 1) s'.heap ∧ ∀ b ∈ fp, H' b = none := fun {s' H'} I' => by
        refine ⟨T.keep _ _ _ st7 fun b hb o e => (I'.pin (b, o) (List.mem_append_right _ (List.mem_append_right _ (mem_pinsAt hb e)))).1, fun b hb => ?_⟩
        obtain ⟨o, e, d⟩ := T.obj _ _ st7 b hb
        exact (I'.pin (b, o) (List.mem_append_right _ (List.mem_append_right _ (mem_pinsAt hb e)))).2.1
      cases b with
      | false =>
        obtain ⟨hl9, n9⟩ := q9
        obtain ⟨m', hm, w9⟩ := hN _ _ _ n9
        obtain ⟨t9, fr9⟩ := back I9
        exact ⟨m', hm, i + 1, ys, σ8, H9, I9.unpinned, t9, fr9, hl9, w9⟩
      | true =>
        refine thn (he cl C s3 _ fp _ s9 σ8 H9 _ I9 q9) fun xv s10 ⟨y, H10, I10, r10, hl10, hz, n10⟩ => ?_
        obtain ⟨m', hm, w10⟩ := hN _ _ _ n10
        refine thn (mt_append (X := cxComp X N' scope cl C s3 (upd H2 l (.lst [])) fp) _ s10 σ8 H10 (.ref l) [y] (.ref l) [xv] (fun v H' => H' = upd H10 l (.lst (ys ++ [y]))) I10 rfl (.cons r10 .nil) ⟨l, ys, y, rfl, rfl, hl10, hz, rfl⟩) fun _ s11 ⟨_, H11, I11, _, e11⟩ => ?_
        subst e11
        obtain ⟨t11, fr11⟩ := back I11
        exact ⟨m', hm, i + 1, ys ++ [y], σ8, _, I11.unpinned, t11, fr11, upd_same, w10⟩
  exact codeAny_compStart_list loop (T.self _ 0 _ _ _ st4 loop)

/-- x = [..] of a comprehension -/
theorem s_setcomp (k : Nat) (ok : CompOk X.N osc N' src scope) (hsc : X.env.scope = osc) (hc : X.calm = true) (hN : X.N.Nodup) (hi : QI X tg iter wi)
    (hg : ∀ cl C s₀ H₀ fp, QG (cxComp X N' scope cl C s₀ H₀ fp) tg g) (ht : ∀ cl C s₀ H₀ fp, QF (cxComp X N' scope cl C s₀ H₀ fp) ifs tc) (he : ∀ cl C s₀ H₀ fp, QE (cxComp X N' scope cl C s₀ H₀ fp) elt te)
    (hk : X.N[k]? = some y := by rfl) (hx : X.env.scope.names.lookup y = some .local := by rfl) (hsw : swapsWith (.ListComp elt [⟨tg, iter, ifs, 0⟩] scope pos) (some (.Name y py)) spos.line X.env = pure true := by rfl)
    (hs : ∀ x, foldedSetIterable iter X.env x = pure x := by intro _; rfl) : QS X (.Assign [.Name y py] (.ListComp elt [⟨tg, iter, ifs, 0⟩] scope pos) spos) (tAsg (tComp wi g tc te src) (gName k)) :=
  ⟨ps_setcomp ok hsc hc hi.o (fun cl C s₀ H₀ fp => (hg cl C s₀ H₀ fp).o) (fun cl C s₀ H₀ fp => (ht cl C s₀ H₀ fp).o) (fun cl C s₀ H₀ fp => (he cl C s₀ H₀ fp).o) hN hk hx hsw hs⟩
end

section
variable {X : Cx} {e o i tg : Expr} {te to ti : TE} {g : TG} {pos : Pos} {x : Str} {t : TSet}
theorem s_asg (he : QE X e te) (hg : QG X tg g) (hs : swapsWithSole [tg] e pos.line X.env = pure false := by rfl) (hw : swappedStores [tg] e X.env = pure none := by rfl)
    (h1 : (assignEach [tg] X.env).map (·.2) = [assign tg X.env] := by rfl) : QS X (.Assign [tg] e pos) (tAsg te g) := ⟨ps_asg he.o hg.o hs hw h1⟩
theorem g_sub (ho : QE X o to) (hi : QE X i ti) (hs : PSet X t) (ha : ∀ v, assign (.Subscript o i pos) X.env v = (do
      let ov ← holding [v] (eval o X.env)
      let iv ← holding [v, ov] (eval i X.env)
      standAt pos
      holding [v, ov, iv] (setItem ov iv v)
      release [v, ov, iv] []) := by intro _; rfl) : QG X (.Subscript o i pos) (gSub to ti t) := ⟨pg_sub ho.o hi.o hs ha⟩
theorem g_nameC (k : Nat) (hN : X.N.Nodup) (hi : X.N[k]? = some x := by rfl) (hx : X.env.scope.names.lookup x = some .cell := by rfl) (hf : X.fn x = true := by rfl) : QG X (.Name x pos) (gName k) := ⟨pg_name hN hi (.inr hx) (.inl hf)⟩
end

/-! a cut between two rows of a block -/
def tCut (t u : TS) : TS := fun D σ H => ∃ R : St → Hp → Prop, t { D with nx := R } σ H ∧ ∀ σ' H', R σ' H' → u D σ' H'
theorem b_cut {X : Cx} {st : Stmt} {sts : List Stmt} {sa sb : TS} (h1 : QS X st sa) (h2 : QB X sts sb) : QB X (st :: sts) (tCut sa sb) := by
  refine ⟨fun pins s σ H D I h => ?_⟩
  obtain ⟨R, ha, hb⟩ := h
  have h3 : PSs X sts (fun D' σ' H' => D' = D ∧ R σ' H') := fun pins s σ' H' D' I h => by
    obtain ⟨rfl, hR⟩ := h
    exact h2.o pins s σ' H' D' I (hb σ' H' hR)
  have e : (fun σ' H' => D = D ∧ R σ' H') = R := by
    funext σ' H'
    simp
  refine pss_cons h1.o h3 pins s σ H D I ?_
  show sa { D with nx := fun σ' H' => D = D ∧ R σ' H' } σ H
  rw [e]
  exact ha
section
variable {X : Cx}
/-- a text times a number from 1 on -/
theorem repS_one (z : Str) : repS z 1 = z := by
  unfold repS
  simp
theorem op_mul_strN : OpR X (binaryOp .Mult) (fun x y H Q => ∃ z n, x = .str z ∧ y = .int n ∧ 1 ≤ n ∧ n ≤ 1000 ∧ 0 < z.length ∧ z.length ≤ 1000 ∧ Q (.str (repS z n.toNat)) H) := by
  intro pins s σ H x y v u Q I rx ry h
  obtain ⟨z, n, rfl, rfl, h1, h2, h3, h4, q⟩ := h
  by_cases h : 1 < n
  · exact op_mul_str pins s σ H _ _ v u Q I rx ry ⟨z, n, rfl, rfl, h, h2, h3, h4, q⟩
  · have e : n = 1 := by omega
    subst e
    obtain ⟨t, rfl⟩ := rx
    obtain ⟨t', rfl⟩ := ry
    refine PySem.P.mul_str (by decide) (fun _ z => by simp at z) (fun _ z => by simp at z) ?_
    simp only [show ¬ (1 : Int) < 1 by decide, if_false, beq_self_eq_true, Bool.true_or, if_true]
    refine ⟨.str _, H, I, ⟨_, rfl⟩, ?_⟩
    have e : repS z (1 : Int).toNat = z := repS_one z
    rw [e] at q
    exact q
end

/-! the rules that speak of what the program was at first, with that named (for blocks) -/
section
variable {X : Cx} {K : PySem.W.Frag}
theorem call_len2 : CallR X (.builtin "len") (fun xs H Q => (∃ p ys, xs = [.ref p] ∧ (SqL X.K H p ys ∨ SqT X.K H p ys) ∧ Q (.int ys.length) H) ∨ ∃ z, xs = [.str z] ∧ z.length ≤ sizeLine ∧ Q (.int z.length) H) := call_len_seq.or call_len_str
theorem g_tupK (n : Nat) {k : Nat} {es : List Expr} {pos : Pos} {tgs : TGs} (hK : X.K = K) (hc : X.calm = true) (h : QGs X es tgs) (hn : (assignEach es X.env).length = n := by rfl) (hst : (assignEach es X.env).findIdx? (·.1) = none := by rfl) : QG X (.Tuple es k pos) (gTup K n tgs) := by subst hK; exact g_tup n hc h hn hst
end
end L2

set_option Elab.async false
set_option linter.all false
set_option maxRecDepth 100000
set_option maxHeartbeats 4000000
/-! names: the mathematics -/
namespace RW
open PySem PySem.Spec PyProof.Rows L2
def letterC (c : Nat) : Bool := decide (97 ≤ c) && decide (c ≤ 122)
def takenL : List Str := ["if", "and", "not", "never"]
def isNameB (x : Str) : Bool := decide (1 ≤ x.length) && decide (x.length ≤ 8) && x.cps.toList.all letterC && !(takenL.any fun y => decide (y = x))
/-- a hand stands at a, with at most n turns -/
def Hand (H : Hp) (a : Addr) (n : Int) : Prop := ∃ x m t : Int, H a = some (.lst [.int x, .int m, .int t]) ∧ 0 ≤ m ∧ m < 2 ^ 63 ∧ 0 ≤ t ∧ t ≤ n
/-- all but what stands at a is kept -/
def Keep (a : Addr) (H H' : Hp) : Prop := ∀ b o, b ≠ a → H b = some o → H' b = some o
theorem Keep.refl (a : Addr) (H : Hp) : Keep a H H := fun _ _ _ h => h
theorem Keep.trans {a : Addr} {H H1 H2 : Hp} (x : Keep a H H1) (y : Keep a H1 H2) : Keep a H H2 := fun b o n h => y b o n (x b o n h)
theorem Keep.upd (a : Addr) (H : Hp) (o : HO) : Keep a H (upd H a o) := fun b u n h => by rw [upd_ne n]; exact h
theorem Keep.new {a p : Addr} {H : Hp} {o : HO} (h : H p = none) : Keep a H (L2.upd H p o) := fun b u n e => by rw [upd_ne (ne_of_none e h)]; exact e
theorem Keep.of {a : Addr} {H H' : Hp} (h : Same H H') : Keep a H H' := fun b o _ e => h b o e
theorem Hand.ne {H : Hp} {a p : Addr} {n : Int} (h : Hand H a n) (e : H p = none) : p ≠ a := by
  obtain ⟨x, m, t, h, _⟩ := h
  exact fun z => by rw [z, h] at e; cases e
theorem Hand.new {H : Hp} {a p : Addr} {n : Int} {o : HO} (h : Hand H a n) (e : H p = none) : Hand (upd H p o) a n := by
  have ne := h.ne e
  obtain ⟨x, m, t, h, r⟩ := h
  exact ⟨x, m, t, by rw [upd_ne (Ne.symm ne)]; exact h, r⟩
theorem Hand.same {H H' : Hp} {a : Addr} {n : Int} (h : Hand H a n) (s : Same H H') : Hand H' a n := by
  obtain ⟨x, m, t, h, r⟩ := h
  exact ⟨x, m, t, s _ _ h, r⟩
theorem Hand.mono {H : Hp} {a : Addr} {n n' : Int} (h : Hand H a n) (l : n ≤ n') : Hand H a n' := by
  obtain ⟨x, m, t, h, h1, h2, h3, h4⟩ := h
  exact ⟨x, m, t, h, h1, h2, h3, by omega⟩
theorem Keep.sqL {K : PySem.W.Frag} {a b : Addr} {H H' : Hp} {xs : List V} (k : Keep a H H') (n : b ≠ a) (h : SqL K H b xs) : SqL K H' b xs := by
  rcases h with (h | ⟨o, h⟩) | h
  · exact .inl (.inl (k _ _ n h))
  · exact .inl (.inr ⟨o, k _ _ n h⟩)
  · exact .inr h
theorem Hand.updNe {H : Hp} {a p : Addr} {n : Int} {o : HO} (h : Hand H a n) (e : p ≠ a) : Hand (upd H p o) a n := by
  obtain ⟨x, m, t, h, r⟩ := h
  exact ⟨x, m, t, by rw [upd_ne (Ne.symm e)]; exact h, r⟩
theorem Keep.updNew {a p : Addr} {H H' : Hp} {o : HO} (k : Keep a H H') (e : H p = none) : Keep a H (L2.upd H' p o) := fun b u n h => by
  rw [upd_ne (ne_of_none h e)]
  exact k b u n h
def lettersS : Str := "abcdefghijklmnopqrstuvwxyz"
def one (c : Nat) : Str := ⟨#[c]⟩

theorem Same.new {H : Hp} {p : Addr} {o : HO} (h : H p = none) : Same H (L2.upd H p o) := fun b u e => by rw [upd_ne (ne_of_none e h)]; exact e
/-- a def of the text: its address, its object, its name -/
structure At (K : PySem.W.Frag) (mg : Str → Option Value) (x : Str) (st : Stmt) (ps : List Str) (f : Addr) (fd : FuncData) : Prop where
  fn : Fun K x x st f fd
  b : Binds K fd ps []
  mg : mg x = some (.ref f)
  kp : PySem.W.keepIn K (.ref f) = true
theorem atI_mem {α : Type} {xs : List α} {d : Int} (h0 : 0 ≤ d) (h1 : d < xs.length) : ∃ v, atI xs d = some v ∧ v ∈ xs := by
  obtain ⟨k, rfl⟩ : ∃ k : Nat, d = (k : Int) := ⟨d.toNat, by omega⟩
  have hk : k < xs.length := by omega
  exact ⟨xs[k], atI_nat (by simp [hk]), List.getElem_mem hk⟩
theorem at0 {α : Type} {x : α} {xs : List α} : atI (x :: xs) 0 = some x := atI_nat (j := 0) rfl
theorem at1 {α : Type} {x y : α} {xs : List α} : atI (x :: y :: xs) 1 = some y := atI_nat (j := 1) rfl
/-! things of any kind -/
inductive D where
  | non | bl (b : Bool) | int (i : Int) | str (x : Str) | tup (ds : List D) | oth
inductive Rep (H : Hp) : V → D → Prop where
  | non : Rep H .non .non
  | bl (b : Bool) : Rep H (.bl b) (.bl b)
  | int (i : Int) : Rep H (.int i) (.int i)
  | str (x : Str) (h : x.length ≤ 1000) : Rep H (.str x) (.str x)
  | tup {p : Addr} {vs : List V} {ds : List D} (h : H p = some (.tup vs)) (l : vs.length = ds.length) (b : ds.length ≤ 1000) (r : ∀ (i : Nat) (v : V) (d : D), vs[i]? = some v → ds[i]? = some d → Rep H v d) : Rep H (.ref p) (.tup ds)
  | lst {p : Addr} {vs : List V} (h : H p = some (.lst vs)) : Rep H (.ref p) .oth
  | dK {p : Addr} {kvs : List (Key × V)} (h : H p = some (.dK kvs)) : Rep H (.ref p) .oth
structure Mono (H H' : Hp) : Prop where
  tup : ∀ p xs, H p = some (.tup xs) → H' p = some (.tup xs)
  lst : ∀ p xs, H p = some (.lst xs) → ∃ ys, H' p = some (.lst ys)
  dK : ∀ p xs, H p = some (.dK xs) → ∃ ys, H' p = some (.dK ys)
theorem Mono.trans {H H1 H2 : Hp} (a : Mono H H1) (b : Mono H1 H2) : Mono H H2 := ⟨fun p xs h => b.tup p xs (a.tup p xs h), fun p xs h => let ⟨ys, e⟩ := a.lst p xs h; b.lst p ys e, fun p xs h => let ⟨ys, e⟩ := a.dK p xs h; b.dK p ys e⟩
theorem Mono.of {H H' : Hp} (s : Same H H') : Mono H H' := ⟨fun p xs h => s _ _ h, fun p xs h => ⟨xs, s _ _ h⟩, fun p xs h => ⟨xs, s _ _ h⟩⟩
theorem Mono.new {H : Hp} {p : Addr} {o : HO} (h : H p = none) : Mono H (upd H p o) := .of (Same.new h)
theorem Mono.lset {H : Hp} {p : Addr} {xs ys : List V} (h : H p = some (.lst xs)) : Mono H (upd H p (.lst ys)) := by
  refine ⟨fun q zs e => ?_, fun q zs e => ?_, fun q zs e => ?_⟩
  · by_cases hq : q = p
    · subst hq; rw [h] at e; cases e
    · rw [upd_ne hq]; exact e
  · by_cases hq : q = p
    · subst hq; exact ⟨ys, upd_same⟩
    · rw [upd_ne hq]; exact ⟨zs, e⟩
  · by_cases hq : q = p
    · subst hq; rw [h] at e; cases e
    · rw [upd_ne hq]; exact ⟨zs, e⟩
theorem Mono.keep {H H' : Hp} {a : Addr} {n m : Int} (k : Keep a H H') (h : Hand H a n) (h' : Hand H' a m) : Mono H H' := by
  obtain ⟨x, y, z, h, _⟩ := h
  obtain ⟨x', y', z', h', _⟩ := h'
  refine ⟨fun q zs e => ?_, fun q zs e => ?_, fun q zs e => ?_⟩
  · exact k q _ (fun hq => by subst hq; rw [h] at e; cases e) e
  · by_cases hq : q = a
    · subst hq; exact ⟨_, h'⟩
    · exact ⟨zs, k q _ hq e⟩
  · exact ⟨zs, k q _ (fun hq => by subst hq; rw [h] at e; cases e) e⟩
theorem Rep.mono {H H' : Hp} {v : V} {d : D} (h : Rep H v d) (m : Mono H H') : Rep H' v d := by
  induction h with
  | non => exact .non
  | bl b => exact .bl b
  | int i => exact .int i
  | str x h => exact .str x h
  | tup h l b _ ih => exact .tup (m.tup _ _ h) l b ih
  | lst h => obtain ⟨ys, e⟩ := m.lst _ _ h; exact .lst e
  | dK h => obtain ⟨ys, e⟩ := m.dK _ _ h; exact .dK e
theorem Rep.same {H H' : Hp} {v : V} {d : D} (h : Rep H v d) (s : Same H H') : Rep H' v d := h.mono (.of s)
def RepL (H : Hp) (vs : List V) (ds : List D) : Prop := vs.length = ds.length ∧ ∀ (i : Nat) (v : V) (d : D), vs[i]? = some v → ds[i]? = some d → Rep H v d
theorem RepL.nil {H : Hp} : RepL H [] [] := ⟨rfl, fun i v d e => by simp at e⟩
theorem RepL.cons {H : Hp} {v : V} {d : D} {vs : List V} {ds : List D} (h : Rep H v d) (r : RepL H vs ds) : RepL H (v :: vs) (d :: ds) := by
  refine ⟨by simp [r.1], fun i w e h1 h2 => ?_⟩
  cases i with
  | zero => simp at h1 h2; subst h1; subst h2; exact h
  | succ i => exact r.2 i w e (by simpa using h1) (by simpa using h2)
theorem RepL.head {H : Hp} {v : V} {d : D} {vs : List V} {ds : List D} (r : RepL H (v :: vs) (d :: ds)) : Rep H v d ∧ RepL H vs ds :=
  ⟨r.2 0 v d rfl rfl, by have := r.1; simp at this; exact this, fun i w e h1 h2 => r.2 (i + 1) w e (by simpa using h1) (by simpa using h2)⟩
theorem RepL.mono {H H' : Hp} {vs : List V} {ds : List D} (r : RepL H vs ds) (m : Mono H H') : RepL H' vs ds := ⟨r.1, fun i v d h1 h2 => (r.2 i v d h1 h2).mono m⟩
theorem RepL.append {H : Hp} {vs us : List V} {ds es : List D} (r : RepL H vs ds) (q : RepL H us es) : RepL H (vs ++ us) (ds ++ es) := by
  refine ⟨by rw [List.length_append, List.length_append, r.1, q.1], fun i v d h1 h2 => ?_⟩
  by_cases hi : i < vs.length
  · rw [List.getElem?_append_left hi] at h1
    rw [List.getElem?_append_left (by rw [← r.1]; exact hi)] at h2
    exact r.2 i v d h1 h2
  · rw [List.getElem?_append_right (by omega)] at h1
    rw [List.getElem?_append_right (by rw [← r.1]; omega), ← r.1] at h2
    exact q.2 _ v d h1 h2
theorem RepL.get {H : Hp} {vs : List V} {ds : List D} {i : Nat} {v : V} (r : RepL H vs ds) (h : vs[i]? = some v) : ∃ d, ds[i]? = some d ∧ Rep H v d := by
  have hi : i < vs.length := by
    rcases Nat.lt_or_ge i vs.length with q | q
    · exact q
    · rw [List.getElem?_eq_none q] at h; cases h
  have hd : i < ds.length := by rw [← r.1]; exact hi
  exact ⟨ds[i], by simp [hd], r.2 i v _ h (by simp [hd])⟩
theorem Rep.mkL {H : Hp} {p : Addr} {vs : List V} {ds : List D} (h : H p = some (.tup vs)) (b : ds.length ≤ 1000) (r : RepL H vs ds) : Rep H (.ref p) (.tup ds) := .tup h r.1 b r.2
theorem Rep.ofT {H : Hp} {v : V} {ds : List D} (h : Rep H v (.tup ds)) : ∃ p vs, v = .ref p ∧ H p = some (.tup vs) ∧ RepL H vs ds ∧ ds.length ≤ 1000 := by
  cases h with
  | tup h l b r => exact ⟨_, _, rfl, h, ⟨l, r⟩, b⟩
theorem Rep.of2 {H : Hp} {v : V} {d e : D} (h : Rep H v (.tup [d, e])) : ∃ p x y, v = .ref p ∧ H p = some (.tup [x, y]) ∧ Rep H x d ∧ Rep H y e := by
  obtain ⟨p, vs, rfl, hp, r, _⟩ := h.ofT
  match vs, r with
  | [x, y], r => exact ⟨p, x, y, rfl, hp, r.head.1, r.head.2.head.1⟩
  | [], r => exact absurd r.1 (by simp)
  | [_], r => exact absurd r.1 (by simp)
  | _ :: _ :: _ :: _, r => exact absurd r.1 (by simp)
theorem Rep.mk1 {H : Hp} {p : Addr} {x : V} {d : D} (h : H p = some (.tup [x])) (a : Rep H x d) : Rep H (.ref p) (.tup [d]) := .mkL h (by simp) (.cons a .nil)
theorem Rep.mk2 {H : Hp} {p : Addr} {x y : V} {d e : D} (h : H p = some (.tup [x, y])) (a : Rep H x d) (b : Rep H y e) : Rep H (.ref p) (.tup [d, e]) := .mkL h (by simp) (.cons a (.cons b .nil))
def isTupB : D → Bool | .tup _ => true | _ => false
def isStrB : D → Bool | .str _ => true | _ => false
/-! what the program asks of things -/
def isNumB : D → Bool | .int _ => true | _ => false
def isWholeB (d : D) (lo hi : Int) : Bool := match d with | .int i => decide (lo ≤ i) && decide (i ≤ hi) | _ => false
def headStrB : D → Bool | .tup (.str _ :: _) => true | _ => false
def isNameD : D → Bool | .str x => isNameB x | _ => false
def namingL : List Str := ["by", "from", "to", "mark"]
def isPlainB : D → Bool
  | .tup [.str w, x] => if w = "long" then isWholeB x 0 99 else (namingL.any fun y => decide (y = w)) && isNameD x
  | _ => false
def isCondB (d : D) : Bool := match d with
  | .tup [.str w, x] => if w = "not" then isPlainB x else isPlainB d
  | _ => false
def areCondsB : D → Bool | .tup ds => decide (ds.length ≤ 4) && ds.all isCondB | _ => false
def asks0 : D → Bool | .tup [.str w, _] => decide (w = "to") | _ => false
def asksB : D → Bool | .tup [.str w, x] => if w = "not" then asks0 x else decide (w = "to") | _ => false
def isWorthB : D → Bool | .non => true | d => isWholeB d (-999) 999
def anyAsks : D → Bool | .tup ds => ds.any asksB | _ => false
def isLikingB : D → Bool | .tup [c, x] => areCondsB c && isWorthB x && !anyAsks c | _ => false
def isActB : D → Bool
  | .tup [.str w] => decide (w = "keep")
  | .tup [.str w, x] => (decide (w = "put") || decide (w = "strike")) && isNameD x
  | _ => false
def isHandB : D → Bool | .tup [c, x] => areCondsB c && isActB x | _ => false
theorem plain_eq {w : Str} {x : D} : isPlainB (.tup [.str w, x]) = if w = "long" then isWholeB x 0 99 else (namingL.any fun y => decide (y = w)) && isNameD x := rfl
theorem cond_eq {w : Str} {x : D} : isCondB (.tup [.str w, x]) = if w = "not" then isPlainB x else isPlainB (.tup [.str w, x]) := rfl
theorem conds_eq {ds : List D} : areCondsB (.tup ds) = (decide (ds.length ≤ 4) && ds.all isCondB) := rfl
theorem liking_eq {c x : D} : isLikingB (.tup [c, x]) = (areCondsB c && isWorthB x && !anyAsks c) := rfl
theorem hand_eq {c x : D} : isHandB (.tup [c, x]) = (areCondsB c && isActB x) := rfl
theorem act_eq {w : Str} {x : D} : isActB (.tup [.str w, x]) = ((decide (w = "put") || decide (w = "strike")) && isNameD x) := rfl
theorem nameD_eq {x : Str} : isNameD (.str x) = isNameB x := rfl
theorem dec_str' {x y : Str} : decide (V.str x = V.str y) = decide (x = y) := by
  by_cases h : x = y
  · subst h; rw [decide_eq_true rfl, decide_eq_true rfl]
  · rw [decide_eq_false h, decide_eq_false fun z => h (V.str.inj z)]
theorem plain_form (d : D) (h : isPlainB d = true) : ∃ x e, d = .tup [.str x, e] := by
  unfold isPlainB at h
  split at h
  · exact ⟨_, _, rfl⟩
  · cases h
theorem cond_form (d : D) (h : isCondB d = true) : ∃ x e, d = .tup [.str x, e] := by
  unfold isCondB at h
  split at h
  · exact ⟨_, _, rfl⟩
  · cases h
theorem plain_not {e : D} : isPlainB (.tup [.str "not", e]) = false := by
  have h1 : ¬ ("not" : Str) = "long" := by decide +kernel
  have h2 : (namingL.any fun y => decide (y = ("not" : Str))) = false := by decide +kernel
  rw [plain_eq, if_neg h1, h2]; rfl

theorem cut_take {xs : List V} {n : Nat} : cutV xs none (some (n : Int)) = xs.take n := by
  unfold cutV
  have e1 : HT.sIx xs.length 0 none = 0 := rfl
  have e2 : HT.sIx xs.length xs.length (some (n : Int)) = min n xs.length := by
    unfold HT.sIx
    have h : ¬ (n : Int) < 0 := by omega
    simp only [if_neg h, Int.toNat_natCast]
  rw [e1, e2, List.drop_zero, Nat.sub_zero, List.take_eq_take_iff]
  omega
/-- a comprehension that draws -/
theorem comp_draws {N : Nat} {a : Addr} {m c : Int} {Pd : Nat → D → Prop} {H : Hp} {te : TE} {src : List (Option Nat)} {σ σr : L2.St} {Q : VK} (hs : capt src σ = none :: σr) (hH : Hand H a m) (hN : N ≤ 900) (hc : 0 ≤ c)
    (he : ∀ (i : Nat) (H1 : Hp) (Q1 : VK), i < N → Hand H1 a (m + c * i) → Keep a H H1 → (∀ v d H2, Rep H2 v d → Pd i d → Hand H2 a (m + c * i + c) → Keep a H1 H2 → Q1 v H2) → te (some (.int (i : Int)) :: σr) H1 Q1)
    (q : ∀ l vs ds H', H l = none → H' l = some (.lst vs) → RepL H' vs ds → ds.length = N → (∀ i d, ds[i]? = some d → Pd i d) → Hand H' a (m + c * N) → Keep a H H' → Q (.ref l) H') : CompGo (gName 0) tYes te src σ Q (Itr 0 N) H := by
  refine comp_by wk_rng (fun l i ys σ' H' => (∃ o, σ' = o :: σr) ∧ (∃ ds : List D, RepL H' ys ds ∧ ds.length = i ∧ ∀ j d, ds[j]? = some d → Pd j d) ∧ Hand H' a (m + c * i) ∧ Keep a H H') ?_ (fun _ _ _ _ _ _ _ => trivial) ?_ ?_
  · exact fun l hl => ⟨⟨_, hs⟩, ⟨[], RepL.nil, rfl, fun j d z => by simp at z⟩, (hH.new hl).mono (by simp), Keep.new hl⟩
  · rintro l i y ys σ' H1 hl hi rfl ⟨⟨o, rfl⟩, ⟨ds, hr, hl2, hp⟩, hH1, k1⟩ hl'
    have nl := hH.ne hl
    rw [Int.zero_add]
    refine he i H1 _ hi hH1 k1 fun v d H2 rv pd hH2 k2 => ?_
    have hl2' : H2 l = some (.lst ys) := k2 _ _ nl hl'
    have m2 : Mono H1 H2 := Mono.keep k2 hH1 hH2
    have m3 : Mono H2 (upd H2 l (.lst (ys ++ [v]))) := Mono.lset hl2'
    refine ⟨hl2', ?_, ⟨_, rfl⟩, ⟨ds ++ [d], ((hr.mono m2).append (.cons rv .nil)).mono m3, ?_, ?_⟩, (hH2.updNe nl).mono ?_, (k1.trans k2).updNew hl⟩
    · have := hr.1
      exact small1000 (by omega)
    · rw [List.length_append, hl2]; rfl
    · intro j e he
      by_cases hj : j < ds.length
      · rw [List.getElem?_append_left hj] at he
        exact hp j e he
      · rw [List.getElem?_append_right (by omega)] at he
        have hj2 : j = ds.length := by
          rcases Nat.lt_or_ge ds.length j with z | z
          · rw [List.getElem?_eq_none (by simp; omega)] at he; cases he
          · omega
        subst hj2
        simp at he
        subst he
        rw [hl2]; exact pd
    · rw [show ((i + 1 : Nat) : Int) = (i : Int) + 1 by omega, Int.mul_add, Int.mul_one]
      omega
  · rintro l ys σ' H1 hl ⟨⟨o, rfl⟩, ⟨ds, hr, hl2, hp⟩, hH1, k1⟩ hl'
    exact q l ys ds H1 hl hl' hr hl2 hp hH1 k1

end RW

set_option Elab.async false
set_option linter.all false
set_option maxRecDepth 100000
set_option maxHeartbeats 4000000
/-! a tuple times a number from 2 on -/
namespace L2
open PySem PySem.Spec PyProof.Rows
open Sem (wp)
open MeetsSeq MeetsSeq2 MeetsSeq3 Builtin
end L2

set_option Elab.async false
set_option linter.all false
set_option maxRecDepth 100000
set_option maxHeartbeats 4000000
/-! displays: what is written out of things, nothing but new things laid -/
namespace L2
open PySem PySem.Spec PyProof.Rows
theorem q_dnew {X : Cx} {pos : Pos} : QE X (.Dict [] [] pos) tDNewK := ⟨pe_dnewK⟩
end L2
namespace RW
open PySem PySem.Spec PyProof.Rows L2
def Dsp (te : TE) (σ : L2.St) (H : Hp) (d : D) : Prop := ∀ (H1 : Hp) (Q : VK), Same H H1 → (∀ v H2, Same H1 H2 → Rep H2 v d → Q v H2) → te σ H1 Q
def DspA (ta : TA) (σ : L2.St) (H : Hp) (ds : List D) : Prop := ∀ (H1 : Hp) (Q : List V → Hp → Prop), Same H H1 → (∀ vs H2, Same H1 H2 → RepL H2 vs ds → Q vs H2) → ta σ H1 Q
def DspL (te : TE) (σ : L2.St) (H : Hp) (ds : List D) : Prop := ∀ (H1 : Hp) (Q : VK), Same H H1 → (∀ l vs H2, Same H1 H2 → H2 l = some (.lst vs) → RepL H2 vs ds → Q (.ref l) H2) → te σ H1 Q
section
variable {te tf : TE} {ta : TA} {σ : L2.St} {H : Hp} {d : D} {ds es : List D} {K : PySem.W.Frag}
theorem dsp_int {i : Int} : Dsp (tC (.int i)) σ H (.int i) := fun H1 Q s q => q _ H1 (Same.refl _) (.int i)
theorem dsp_non : Dsp (tC .non) σ H .non := fun H1 Q s q => q _ H1 (Same.refl _) .non
theorem dsp_neg {i : Int} : Dsp (tUn (rU fun i => .int (-i)) (tC (.int i))) σ H (.int (-i)) := fun H1 Q s q => ⟨i, rfl, q _ H1 (Same.refl _) (.int (-i))⟩
theorem dsp_var {i : Nat} {v : V} (h : σ[i]? = some (some v)) (r : Rep H v d) : Dsp (tVar i) σ H d := fun H1 Q s q => ⟨v, h, q v H1 (Same.refl _) (r.same s)⟩
theorem dspA_nil : DspA tNil σ H [] := fun H1 Q s q => q [] H1 (Same.refl _) RepL.nil
theorem dspA_cons (h : Dsp te σ H d) (r : DspA ta σ H ds) : DspA (tCons te ta) σ H (d :: ds) := fun H1 Q s q =>
  h H1 _ s fun v H2 s2 rv => r H2 _ (s.trans s2) fun vs H3 s3 rs => q (v :: vs) H3 (s2.trans s3) (.cons (rv.same s3) rs)
theorem dspl_lst (h : DspA ta σ H ds) (hl : ds.length ≤ 1000) : DspL (tLst ta) σ H ds := fun H1 Q s q =>
  h H1 _ s fun vs H2 s2 rs => ⟨Nat.le_of_lt (small1000 (by rw [rs.1]; exact hl)), fun p hp => q p vs _ (s2.trans (Same.new hp)) upd_same (rs.mono (.new hp))⟩
end
section
variable {te : TE} {tr : TA} {tb : TS} {De : Ends} {σ : L2.St} {H : Hp} {ds : List D} {d : D} {k : Nat}
theorem cons_L {Q : List V → Hp → Prop} (h : DspL te σ H ds) (q : ∀ l vs H2, Same H H2 → H2 l = some (.lst vs) → RepL H2 vs ds → tr σ H2 fun xs H3 => Q (.ref l :: xs) H3) : tCons te tr σ H Q := h H _ (Same.refl H) q
end
theorem forall_nil {α : Type} {p : α → Prop} : ∀ d ∈ ([] : List α), p d := fun _ z => nomatch z
/-- x of a hand's list is chosen -/
theorem hand_three {H : Hp} {a l : Addr} {n : Int} {vs : List V} {ds : List D} (h : Hand H a n) (e : H l = some (.lst vs)) (r : RepL H vs ds) (h3 : ds.length ≠ 3) : l ≠ a := fun z => by
  obtain ⟨x, m, t, hh, _⟩ := h
  rw [z, hh] at e
  cases e
  exact h3 r.1.symm
end RW

set_option Elab.async false
set_option linter.all false
set_option maxRecDepth 100000
set_option maxHeartbeats 4000000
/-! the sort, asked of unlike things in a strict order: it puts them so -/
namespace RW
open PySem PySem.W PyProof.Rows L2
section
variable {α β : Type} {N : Nat} {lt : Nat → Nat → Bool}
def OkT (N : Nat) (lt : Nat → Nat → Bool) {α : Type} : KasT α → (α → Prop) → Prop
  | .ret a, P => P a
  | .ask i j k, P => i < N ∧ j < N ∧ OkT N lt (k (lt i j)) P
theorem OkT.mono {P Q : α → Prop} (h : ∀ a, P a → Q a) : ∀ {t : KasT α}, OkT N lt t P → OkT N lt t Q
  | .ret a, q => h a q
  | .ask i j k, ⟨h1, h2, q⟩ => ⟨h1, h2, OkT.mono h q⟩
theorem OkT.bind {f : α → KasT β} {P : β → Prop} : ∀ {t : KasT α}, OkT N lt t (fun a => OkT N lt (f a) P) → OkT N lt (t.bind f) P
  | .ret a, q => q
  | .ask i j k, ⟨h1, h2, q⟩ => ⟨h1, h2, OkT.bind q⟩
theorem OkT.wp {cmp : Nat → Nat → (Bool → Shared → Prop) → Shared → Prop} {I : Shared → Prop} (hc : ∀ i j (C : Bool → Shared → Prop) s, i < N → j < N → I s → (∀ s', I s' → C (lt i j) s') → cmp i j C s) {P : α → Prop} {Q : α → Shared → Prop} (hq : ∀ a s, P a → I s → Q a s) :
    ∀ {t : KasT α} {s : Shared}, I s → OkT N lt t P → t.kasWp cmp Q s
  | .ret a, s, hs, q => hq a s q hs
  | .ask i j k, s, hs, ⟨h1, h2, q⟩ => hc i j _ s h1 h2 hs fun s' hs' => OkT.wp hc hq hs' q
abbrev gd (p : Array Nat) (i : Nat) : Nat := p.getD i 0
structure Strict (N : Nat) (lt : Nat → Nat → Bool) : Prop where
  tot : ∀ i j, i < N → j < N → i ≠ j → lt i j = false → lt j i = true
  tr : ∀ i j k, i < N → j < N → k < N → lt i j = true → lt j k = true → lt i k = true
  asy : ∀ i j, i < N → j < N → lt i j = true → lt j i = false
def PermN (N : Nat) (p : Array Nat) : Prop := p.toList.Perm (List.range N)
theorem PermN.size {p : Array Nat} (h : PermN N p) : p.size = N := by
  have := h.length_eq
  simpa using this
theorem gd_get {p : Array Nat} {i : Nat} (h : i < p.size) : gd p i = p[i] := by simp [gd, Array.getD, h]
theorem gd_opt {p q : Array Nat} {i j : Nat} (h : p[i]? = q[j]?) : gd p i = gd q j := by
  simp only [gd, Array.getD_eq_getD_getElem?, h]
theorem PermN.bd {p : Array Nat} (h : PermN N p) {i : Nat} (hi : i < N) : gd p i < N := by
  have hs := h.size
  rw [gd_get (by omega)]
  have : p[i] ∈ p.toList := by simp
  exact List.mem_range.mp (h.mem_iff.mp this)
theorem PermN.inj {p : Array Nat} (h : PermN N p) {i j : Nat} (hi : i < N) (hj : j < N) (hij : i ≠ j) : gd p i ≠ gd p j := by
  have hs := h.size
  have nd : p.toList.Nodup := h.nodup_iff.mpr List.nodup_range
  rw [gd_get (by omega), gd_get (by omega)]
  intro z
  exact hij ((List.getElem_inj (i := i) (j := j) (h₀ := by simp; omega) (h₁ := by simp; omega) nd).mp (by simpa using z))
def Sor (lt : Nat → Nat → Bool) (p : Array Nat) (m : Nat) : Prop := ∀ i j, i < j → j < m → lt (gd p i) (gd p j) = true
def Des (lt : Nat → Nat → Bool) (p : Array Nat) (m : Nat) : Prop := ∀ i j, i < j → j < m → lt (gd p j) (gd p i) = true
theorem Sor.snoc {p : Array Nat} {n : Nat} (S : Strict N lt) (hp : PermN N p) (h : Sor lt p n) (h1 : 1 ≤ n) (hn : n < N) (e : lt (gd p (n - 1)) (gd p n) = true) : Sor lt p (n + 1) := by
  intro i j hij hj
  by_cases hjn : j < n
  · exact h i j hij hjn
  · have ej : j = n := by omega
    subst ej
    by_cases hi : i = j - 1
    · subst hi; exact e
    · exact S.tr _ _ _ (hp.bd (by omega)) (hp.bd (by omega)) (hp.bd hn) (h i (j - 1) (by omega) (by omega)) e
theorem Des.snoc {p : Array Nat} {n : Nat} (S : Strict N lt) (hp : PermN N p) (h : Des lt p n) (h1 : 1 ≤ n) (hn : n < N) (e : lt (gd p n) (gd p (n - 1)) = true) : Des lt p (n + 1) := by
  intro i j hij hj
  by_cases hjn : j < n
  · exact h i j hij hjn
  · have ej : j = n := by omega
    subst ej
    by_cases hi : i = j - 1
    · subst hi; exact e
    · exact S.tr _ _ _ (hp.bd hn) (hp.bd (by omega)) (hp.bd (by omega)) e (h i (j - 1) (by omega) (by omega))
theorem asc_ok {p : Array Nat} (S : Strict N lt) (hp : PermN N p) : ∀ f n, 1 ≤ n → n + f ≤ N → Sor lt p n → OkT N lt (kas_asc p f n) (fun m => n ≤ m ∧ m ≤ n + f ∧ Sor lt p m ∧ (m < n + f → lt (gd p m) (gd p (m - 1)) = true))
  | 0, n, _, _, hs => ⟨Nat.le_refl _, Nat.le_refl _, hs, fun h => by omega⟩
  | f + 1, n, h1, hn, hs => by
    refine ⟨hp.bd (by omega), hp.bd (by omega), ?_⟩
    cases hc : lt (gd p n) (gd p (n - 1)) with
    | true =>
      show OkT N lt (if true = true then _ else _) _
      rw [if_pos rfl]
      exact ⟨Nat.le_refl _, by omega, hs, fun _ => hc⟩
    | false =>
      show OkT N lt (if false = true then _ else _) _
      rw [if_neg (by decide)]
      refine OkT.mono (fun m hm => ⟨by omega, by omega, hm.2.2.1, fun h => hm.2.2.2 (by omega)⟩) (asc_ok S hp f (n + 1) (by omega) (by omega) (hs.snoc S hp h1 (by omega) (S.tot _ _ (hp.bd (by omega)) (hp.bd (by omega)) (hp.inj (by omega) (by omega) (by omega)) hc)))
theorem desc_ok {p : Array Nat} (S : Strict N lt) (hp : PermN N p) : ∀ f n, 1 ≤ n → n + f ≤ N → Des lt p n → OkT N lt (kas_desc f p n 0) (fun r => r.1 = p ∧ n ≤ r.2.1 ∧ r.2.1 ≤ n + f ∧ Des lt p r.2.1 ∧ r.2.2 = 0)
  | 0, n, _, _, hs => ⟨rfl, Nat.le_refl _, Nat.le_refl _, hs, rfl⟩
  | f + 1, n, h1, hn, hs => by
    refine ⟨hp.bd (by omega), hp.bd (by omega), ?_⟩
    cases hc : lt (gd p n) (gd p (n - 1)) with
    | true =>
      show OkT N lt (if true = true then (if 0 > 0 then _ else _) else _) _
      rw [if_pos rfl, if_neg (by decide)]
      exact OkT.mono (fun m hm => ⟨hm.1, by omega, by omega, hm.2.2.2⟩) (desc_ok S hp f (n + 1) (by omega) (by omega) (hs.snoc S hp h1 (by omega) hc))
    | false =>
      show OkT N lt (if false = true then _ else _) _
      rw [if_neg (by decide)]
      refine ⟨hp.bd (by omega), hp.bd (by omega), ?_⟩
      have hd : lt (gd p (n - 1)) (gd p n) = true := S.tot _ _ (hp.bd (by omega)) (hp.bd (by omega)) (hp.inj (by omega) (by omega) (by omega)) hc
      show OkT N lt (if lt (gd p (n - 1)) (gd p n) = true then _ else _) _
      rw [if_pos hd]
      exact ⟨rfl, Nat.le_refl _, by show n ≤ n + (f + 1); omega, hs, rfl⟩
theorem rev_perm {p : Array Nat} (hp : PermN N p) (n : Nat) : PermN N (kas_rev p 0 n) := (Array.perm_iff_toList_perm.mp (mirror_perm p 0 n _)).trans hp
theorem rev_sor {p : Array Nat} {n : Nat} (hp : PermN N p) (hn : n ≤ N) (h : Des lt p n) : Sor lt (kas_rev p 0 n) n := by
  have hs := hp.size
  have e : ∀ k, k < n → gd (kas_rev p 0 n) k = gd p (n - 1 - k) := fun k hk => by
    refine gd_opt ?_
    show (mirror p 0 n ((n - 0) / 2))[k]? = _
    rw [getElem?_mirror_all (by omega), if_pos ⟨Nat.zero_le _, hk⟩, Nat.zero_add]
  intro i j hij hj
  rw [e i (by omega), e j hj]
  exact h (n - 1 - j) (n - 1 - i) (by omega) (by omega)
def CountP (N : Nat) (lt : Nat → Nat → Bool) (r : Nat × Array Nat) : Prop := PermN N r.2 ∧ Sor lt r.2 r.1 ∧ 1 ≤ r.1 ∧ r.1 ≤ N
theorem tail3_ok {p : Array Nat} {n : Nat} (S : Strict N lt) (hp : PermN N p) (h1 : 1 ≤ n) (hn : n ≤ N) (h : Des lt p n) : OkT N lt (kas_tail3 n N p) (CountP N lt) := by
  refine OkT.bind (OkT.mono (fun m hm => ?_) (asc_ok S (rev_perm hp n) (N - n) n h1 (by omega) (rev_sor hp hn h)))
  exact ⟨rev_perm hp n, hm.2.2.1, by have := hm.1; omega, by have := hm.2.1; omega⟩
theorem count_ok {p : Array Nat} (S : Strict N lt) (hp : PermN N p) (h1 : 1 ≤ N) : OkT N lt (kas_count N p) (CountP N lt) := by
  refine OkT.bind (OkT.mono (fun n hn => ?_) (asc_ok S hp (N - 1) 1 (Nat.le_refl _) (by omega) (fun i j hij hj => by omega)))
  obtain ⟨n1, n2, hs, hl⟩ := hn
  by_cases hN : (n == N) = true
  · rw [if_pos hN]
    exact ⟨hp, hs, n1, by omega⟩
  · have hne : n ≠ N := by simpa using hN
    rw [if_neg hN]
    by_cases h2 : n > 1
    · rw [if_pos h2]
      refine ⟨hp.bd (by omega), hp.bd (by omega), ?_⟩
      show OkT N lt (if lt (gd p 0) (gd p (n - 1)) = true then _ else _) _
      rw [if_pos (hs 0 (n - 1) (by omega) (by omega))]
      exact ⟨hp, hs, n1, by omega⟩
    · rw [if_neg h2]
      have e1 : n = 1 := by omega
      subst e1
      have hd : Des lt p 2 := fun i j hij hj => by
        have ei : i = 0 := by omega
        have ej : j = 1 := by omega
        subst ei ej
        exact hl (by omega)
      refine OkT.bind (OkT.mono (fun r hr => ?_) (desc_ok S hp (N - (1 + 1)) (1 + 1) (by omega) (by omega) hd))
      obtain ⟨e1, r1, r2, r3, r4⟩ := hr
      rw [if_neg (by omega), e1]
      exact tail3_ok S hp (by omega) (by omega) r3
theorem place_ok {p : Array Nat} {k : Nat} (S : Strict N lt) (hp : PermN N p) (hs : Sor lt p k) (hk : k < N) : ∀ f l r, l ≤ r → r ≤ k → r - l ≤ f → (∀ i, i < l → lt (gd p i) (gd p k) = true) → (∀ i, r ≤ i → i < k → lt (gd p k) (gd p i) = true) →
    OkT N lt (kas_place p k f l r) (fun m => m ≤ k ∧ (∀ i, i < m → lt (gd p i) (gd p k) = true) ∧ ∀ i, m ≤ i → i < k → lt (gd p k) (gd p i) = true)
  | 0, l, r, h1, h2, h3, ha, hb => ⟨by omega, ha, fun i hi => hb i (by omega)⟩
  | f + 1, l, r, h1, h2, h3, ha, hb => by
    by_cases hlr : l ≥ r
    · show OkT N lt (if l ≥ r then _ else _) _
      rw [if_pos hlr]
      exact ⟨by omega, ha, fun i hi => hb i (by omega)⟩
    · show OkT N lt (if l ≥ r then _ else _) _
      rw [if_neg hlr]
      refine ⟨hp.bd hk, hp.bd (by omega), ?_⟩
      cases hc : lt (gd p k) (gd p ((l + r) / 2)) with
      | true =>
        show OkT N lt (if true = true then _ else _) _
        rw [if_pos rfl]
        refine place_ok S hp hs hk f l ((l + r) / 2) (by omega) (by omega) (by omega) ha fun i hi hik => ?_
        by_cases e : i = (l + r) / 2
        · subst e; exact hc
        · exact S.tr _ _ _ (hp.bd hk) (hp.bd (by omega)) (hp.bd (by omega)) hc (hs ((l + r) / 2) i (by omega) hik)
      | false =>
        show OkT N lt (if false = true then _ else _) _
        rw [if_neg (by decide)]
        have hm : lt (gd p ((l + r) / 2)) (gd p k) = true := S.tot _ _ (hp.bd hk) (hp.bd (by omega)) (hp.inj hk (by omega) (by omega)) hc
        refine place_ok S hp hs hk f ((l + r) / 2 + 1) r (by omega) h2 (by omega) (fun i hi => ?_) hb
        by_cases e : i = (l + r) / 2
        · subst e; exact hm
        · exact S.tr _ _ _ (hp.bd (by omega)) (hp.bd (by omega)) (hp.bd hk) (hs i ((l + r) / 2) (by omega) (by omega)) hm
theorem bubble_sor {p : Array Nat} {k l : Nat} (hp : PermN N p) (hk : k < N) (hl : l ≤ k) (hs : Sor lt p k) (ha : ∀ i, i < l → lt (gd p i) (gd p k) = true) (hb : ∀ i, l ≤ i → i < k → lt (gd p k) (gd p i) = true) : Sor lt (bubble p k (k - l)) (k + 1) := by
  have hz := hp.size
  have g : ∀ i, (bubble p k (k - l))[i]? = if i = l then p[k]? else if l < i ∧ i ≤ k then p[i - 1]? else p[i]? := fun i => by
    rw [getElem?_bubble (by omega) (k - l) (by omega), show k - (k - l) = l by omega]
  have g1 : gd (bubble p k (k - l)) l = gd p k := gd_opt (by rw [g, if_pos rfl])
  have g2 : ∀ i, l < i → i ≤ k → gd (bubble p k (k - l)) i = gd p (i - 1) := fun i h1 h2 => gd_opt (by rw [g, if_neg (by omega), if_pos ⟨h1, h2⟩])
  have g3 : ∀ i, i < l → gd (bubble p k (k - l)) i = gd p i := fun i h1 => gd_opt (by rw [g, if_neg (by omega), if_neg (by omega)])
  intro i j hij hj
  rcases Nat.lt_trichotomy i l with hi | hi | hi
  · rw [g3 i hi]
    rcases Nat.lt_trichotomy j l with h | h | h
    · rw [g3 j h]; exact hs i j hij (by omega)
    · subst h; rw [g1]; exact ha i hi
    · rw [g2 j h (by omega)]; exact hs i (j - 1) (by omega) (by omega)
  · subst hi
    rw [g1, g2 j hij (by omega)]
    exact hb (j - 1) (by omega) (by omega)
  · rw [g2 i hi (by omega), g2 j (by omega) (by omega)]
    exact hs (i - 1) (j - 1) (by omega) (by omega)
theorem bin_ok (S : Strict N lt) : ∀ f (p : Array Nat) k, PermN N p → Sor lt p k → k + f = N → OkT N lt (kas_bin f p k) (fun p' => PermN N p' ∧ Sor lt p' N)
  | 0, p, k, hp, hs, hk => ⟨hp, by have : k = N := by omega
                                   rw [← this]; exact hs⟩
  | f + 1, p, k, hp, hs, hk => by
    refine OkT.bind (OkT.mono (fun l hl => ?_) (place_ok S hp hs (by omega) k 0 k (Nat.zero_le _) (Nat.le_refl _) (by omega) (fun i hi => by omega) (fun i hi hik => by omega)))
    exact bin_ok S f _ (k + 1) ((Array.perm_iff_toList_perm.mp (bubble_perm p k _)).trans hp) (bubble_sor hp (by omega) hl.1 hs hl.2.1 hl.2.2) (by omega)
theorem sort_ok (S : Strict N lt) (h1 : 1 ≤ N) : OkT N lt (kas_sort N) (fun p => PermN N p ∧ Sor lt p N) := by
  have h0 : PermN N (List.toArray (List.range N)) := by show (List.range N).Perm _; exact List.Perm.refl _
  refine OkT.bind (OkT.mono (fun r hr => ?_) (count_ok S h0 h1))
  obtain ⟨c1, c2, c3, c4⟩ := hr
  by_cases h : r.1 < N
  · rw [if_pos h]
    have e : max r.1 1 = r.1 := by omega
    rw [e]
    exact bin_ok S _ _ _ c1 c2 (by omega)
  · rw [if_neg h]
    have e : r.1 = N := by omega
    rw [e] at c2
    exact ⟨c1, c2⟩
end
end RW

set_option Elab.async false
set_option linter.all false
set_option maxRecDepth 100000
set_option maxHeartbeats 4000000
/-! the keys of a dict, whatever they are, walked -/
namespace L2
open PySem PySem.W PySem.Spec PyProof.Rows
def RawD (h : Heap) (d : Addr) (ks : List Value) (ep : Nat) : Prop := ∃ o es, h.get? d = some o ∧ o.ExactDict ∧ o.data = .dict es ep ∧ es.toList.map (·.key) = ks
theorem RawD.at {h h' : Heap} {d : Addr} {ks : List Value} {ep : Nat} (x : RawD h d ks ep) (e : ∀ o, h.get? d = some o → h'.get? d = some o) : RawD h' d ks ep := let ⟨o, es, ho, r⟩ := x; ⟨o, es, e _ ho, r⟩
theorem RawD.ty {s : Shared} {d : Addr} {ks : List Value} {ep : Nat} (x : RawD s.heap d ks ep) : s.TypeIs (.ref d) "dict" := let ⟨o, _, ho, hc, _⟩ := x; ⟨o, ho, hc.1⟩
theorem RawD.lt {h : Heap} {d : Addr} {ks : List Value} {ep : Nat} (x : RawD h d ks ep) : d < h.objs.size := let ⟨_, _, ho, _⟩ := x; Heap.lt_size ho
section
variable {prog : Program} {w : World} {A : Around} {E : Value → Shared → Prop} {s : Shared} {it d : Addr} {i ep : Nat} {ks : List Value}
theorem raw_iter {R : Value → Shared → Prop} (nsys : (d == sysModules) = false) (x : RawD s.heap d ks ep) (q : R (.ref s.heap.objs.size) { s with heap := s.heap.push { cls := .type "dict_keyiterator", data := .fields #[.ref d, .int 0 0, .int ks.length 0, .int ep 0] } }) :
    wpAny (model prog w) A (pyIter (.ref d)) R E s := by
  have ty := x.ty
  obtain ⟨o, es, ho, _, hdat, hks⟩ := x
  refine wpAny_pyIter_slot ty PySem.F.slot_dict_iter (wpAny_call_entry PySem.F.slot_dict_iter ty PySem.F.entry_dict_iter ?_ (PySem.F.args_dict_iter_1 _))
  unfold Builtin.«dict.__iter__»
  refine wpAny_bind (by unfold Builtin.Dict.dictSlotNone; refine wpAny_bind (wpAny_notOrdered_dict ty ?_); show wpAny _ _ (pure (Value.ref d)) _ _ s; exact wpAny_pure (by
    show wpAny _ _ (Builtin.Dict.showsAll d >>= _) _ _ s
    unfold Builtin.Dict.showsAll
    rw [if_neg (fun z => by rw [nsys] at z; cases z)]
    refine wpAny_bind (wpAny_pure (wpAny_bind (wpAny_dictEntries ho hdat (wpAny_bind (wpAny_dictEpoch ho hdat ?_)))))
    have sz : es.size = ks.length := by rw [← hks]; simp
    refine wpAny_bind (wpAny_newObj_type (wpAny_pure ⟨_, rfl, "dict_keyiterator", _, ⟨_, Heap.get?_push_size _ rfl, rfl⟩, PySem.F.slot_dict_keyiterator_next.lookup, ?_⟩))
    simpa [rawInt, sz] using q))
theorem raw_next {R : Option Value → Shared → Prop} {key : Value} (y : s.heap.IsKeyIter it d i ks.length ep) (x : RawD s.heap d ks ep) (hx : ks[i]? = some key)
    (q : ∀ h', h'.IsKeyIter it d (i + 1) ks.length ep → Heap.SameBut it s.heap h' → R (some key) { s with heap := h' }) : wpAny (model prog w) A (pyNext (.ref it)) R E s := by
  obtain ⟨o, ho, hc, hd⟩ := id y
  obtain ⟨od, es, hod, _, hdd, hks⟩ := x
  have sz : es.size = ks.length := by rw [← hks]; simp
  have li : i < ks.length := by
    rcases Nat.lt_or_ge i ks.length with h | h
    · exact h
    · rw [List.getElem?_eq_none h] at hx; cases hx
  have li' : i < es.size := by omega
  have ek : es[i].key = key := by
    have e1 : ks[i]? = some es[i].key := by rw [← hks]; simp [li']
    rw [e1] at hx; exact Option.some.inj hx
  unfold pyNext
  refine wpAny_bind (wpAny_attempt (wpAny_callSpecial?_slot (name := Str.ofString "__next__") y.typeIs PySem.F.slot_dict_keyiterator_next (wpAny_call_entry PySem.F.slot_dict_keyiterator_next y.typeIs PySem.F.entry_dict_keyiterator_next ?_ (PySem.F.args_dict_keyiterator_next_1 _))))
  refine wpAny_bind (wpAny_pure (wpAny_bind (wpAny_bind ?_)))
  first | refine wpAny_bind (wpAny_typeNameOfWhole_keyiter y.typeIs (wpAny_pure ?_)) | refine wpAny_bind (wpAny_typeNameOf_keyiter y.typeIs (wpAny_pure ?_))
  refine wpAny_bind (wpAny_fieldsOf ho hd ?_)
  simp only [(by decide : Builtin.Dict_items.ownsTuple "dict_keyiterator" = false), Bool.false_eq_true, if_false]
  show wpAny _ _ (if (Value.ref d == Value.none) = true then _ else _) _ _ s
  rw [if_neg (fun z => nomatch z)]
  refine wpAny_bind (wpAny_pure (wpAny_bind (wpAny_dictEntries hod hdd ?_)))
  rw [if_neg (fun z => by rw [sz] at z; simp at z)]
  refine wpAny_bind (wpAny_pure (wpAny_bind (wpAny_dictEpoch hod hdd ?_)))
  rw [if_neg (fun z => by simp at z)]
  refine wpAny_pure ?_
  simp only [(by omega : ¬ ((i : Int) < 0)), if_false, Int.toNat_natCast, Array.getElem?_eq_getElem li']
  refine wpAny_bind ?_
  first | refine wpAny_bind (wpAny_typeNameOfWhole_keyiter y.typeIs (wpAny_pure ?_)) | refine wpAny_bind (wpAny_typeNameOf_keyiter y.typeIs (wpAny_pure ?_))
  refine wpAny_bind (wpAny_isOneOf_keyiter y.typeIs ?_)
  show wpAny _ _ (setField (.ref it) 1 (rawInt ((i : Int) + 1)) >>= _) _ _ s
  refine wpAny_bind (wpAny_setField ho hd (by simp) ?_)
  have y' : (s.heap.update it (Obj.mapFields (·.setIfInBounds 1 (rawInt ((i : Int) + 1))))).IsKeyIter it d (i + 1) ks.length ep := ⟨_, Heap.get?_update_self _ ho (Obj.isFreed_of_fields (Obj.data_mapFields hd _)), (Obj.cls_mapFields ..).trans hc, by rw [Obj.data_mapFields hd]; simp [rawInt]⟩
  refine wpAny_bind (wpAny_holding (wpAny_bind (wpAny_isOneOf_keyiter (s := { s with heap := s.heap.update it (Obj.mapFields (·.setIfInBounds 1 (rawInt ((i : Int) + 1)))) }) y'.typeIs ?_)))
  show wpAny _ _ (pure es[i].key) _ _ _
  rw [ek]
  exact wpAny_pure (wpAny_pure ⟨_, rfl, wpAny_pure (q _ y' (Heap.SameBut.update ..))⟩)
theorem raw_end {R : Option Value → Shared → Prop} (hh : A.handled = none) (y : s.heap.IsKeyIter it d ks.length ks.length ep) (x : RawD s.heap d ks ep) (q : ∀ h', Heap.ExtBut it s.heap h' → R none { s with heap := h' }) : wpAny (model prog w) A (pyNext (.ref it)) R E s := by
  obtain ⟨o, ho, hc, hd⟩ := id y
  obtain ⟨od, es, hod, _, hdd, hks⟩ := x
  have sz : es.size = ks.length := by rw [← hks]; simp
  unfold pyNext
  refine wpAny_bind (wpAny_attempt (wpAny_callSpecial?_slot (name := Str.ofString "__next__") y.typeIs PySem.F.slot_dict_keyiterator_next (wpAny_call_entry PySem.F.slot_dict_keyiterator_next y.typeIs PySem.F.entry_dict_keyiterator_next ?_ (PySem.F.args_dict_keyiterator_next_1 _))))
  refine wpAny_bind (wpAny_pure (wpAny_bind (wpAny_bind ?_)))
  first | refine wpAny_bind (wpAny_typeNameOfWhole_keyiter y.typeIs (wpAny_pure ?_)) | refine wpAny_bind (wpAny_typeNameOf_keyiter y.typeIs (wpAny_pure ?_))
  refine wpAny_bind (wpAny_fieldsOf ho hd ?_)
  simp only [(by decide : Builtin.Dict_items.ownsTuple "dict_keyiterator" = false), Bool.false_eq_true, if_false]
  show wpAny _ _ (if (Value.ref d == Value.none) = true then _ else _) _ _ s
  rw [if_neg (fun z => nomatch z)]
  refine wpAny_bind (wpAny_pure (wpAny_bind (wpAny_dictEntries hod hdd ?_)))
  rw [if_neg (fun z => by rw [sz] at z; simp at z)]
  refine wpAny_bind (wpAny_pure (wpAny_bind (wpAny_dictEpoch hod hdd ?_)))
  rw [if_neg (fun z => by simp at z)]
  refine wpAny_pure ?_
  simp only [(by omega : ¬ ((ks.length : Int) < 0)), if_false, Int.toNat_natCast, Array.getElem?_eq_none (show es.size ≤ ks.length by omega)]
  refine wpAny_bind ?_
  first | refine wpAny_bind (wpAny_typeNameOfWhole_keyiter y.typeIs (wpAny_pure ?_)) | refine wpAny_bind (wpAny_typeNameOf_keyiter y.typeIs (wpAny_pure ?_))
  show wpAny _ _ (setField (.ref it) 0 .none >>= _) _ _ s
  refine wpAny_bind (wpAny_setField ho hd (by simp) ?_)
  show wpAny _ _ (newExc (.type "StopIteration") [] >>= _) _ _ _
  refine wpAny_bind (by
    simp only [newExc, newTuple]
    refine wpAny_bind (wpAny_newObj_type (wpAny_bind (m := firstArgMember _ _) (wpAny_of_eq (a := Value.none) (by first | rfl | (simp only [firstArgMember]; rfl)) (wpAny_newObj_type ?_ (by size_fits)))) (by size_fits))
    simp only [raiseNew]
    refine wpAny_bind (wpAny_handled ?_)
    rw [show A.in1.handled = none from hh]
    refine wpAny_bind (wpAny_pure (wpAny_throw ?_)); refine wpAny_bind (wpAny_isInstance (T := "StopIteration") (b := true) ⟨_, Heap.get?_push_size _ rfl, rfl⟩ isSubtype_stop ?_)
    exact wpAny_pure (q _ (((Heap.SameBut.update ..).extBut.push _).push _)))
theorem raw_walks (hh : A.handled = none) (hne : d ≠ it) : Walks prog w A it [it, d] [it] ks.length (fun i v => ks[i]? = some v) (fun i h => h.IsKeyIter it d i ks.length ep ∧ RawD h d ks ep) where
  sub := fun b hb => by simp at hb; simp [hb]
  frame := fun _ _ _ st hk => ⟨st.1.at fun o e => hk it (by simp) o e, st.2.at fun o e => hk d (by simp) o e⟩
  item := fun i s Q E hi st hQ => raw_next st.1 st.2 (show ks[i]? = some ks[i] by simp [hi]) fun h' y' hs => hQ _ h' s.toks (by simp [hi]) ⟨y', st.2.at fun o e => hs.extBut d o hne e⟩ fun b o hb e => hs.extBut b o (fun h => hb (by simp [h])) e
  done := fun s Q E st hQ => raw_end hh st.1 st.2 fun h' he => hQ h' s.toks fun b o hb e => he b o (fun h => hb (by simp [h])) e
  self := fun _ _ _ _ st hQ => wpAny_pyIter_keyiter st.1 hQ
theorem raw_src (nsys : (d == sysModules) = false) : KdlSrc prog w "dict" d d ks.length (fun i v => ks[i]? = some v) (fun h => RawD h d ks ep) where
  type := fun _ hm => hm.ty
  there := fun _ hm => ⟨hm.lt, hm.lt⟩
  keep := fun _ _ hm hk => hm.at fun o e => hk d (.inl rfl) o e
  notList := by decide
  notTuple := by decide
  hint := fun _ _ _ _ hm hq => kdl_hint_dict hm.ty hq
  iter := fun _ _ hh hm => ⟨_, _, (fun _ _ hq => raw_iter nsys hm hq), raw_walks hh (Nat.ne_of_lt hm.lt), ⟨⟨_, Heap.get?_push_size _ rfl, rfl, rfl⟩, hm.at fun o e => Heap.get?_push_of_some _ e⟩⟩
end
end L2

set_option Elab.async false
set_option linter.all false
set_option maxRecDepth 100000
set_option maxHeartbeats 4000000
/-! sorted, of things that are asked for their order -/
namespace L2
open PySem PySem.W PySem.Spec PyProof.Rows
section
variable {prog : Program} {w : World} {A : Around} {E : Value → Shared → Prop} {s : Shared}
/-- s1 is s but for the heap, where all but what stands at a is kept -/
def Kp (a : Addr) (s s1 : Shared) : Prop := s1 = { s with heap := s1.heap } ∧ ∀ b o, b ≠ a → s.heap.get? b = some o → s1.heap.get? b = some o
theorem lsort_raw {a : Addr} {vs : List Value} {n : Nat} {R : PySem.Fin → Shared → Prop} {G : Array Nat → Prop} {κ : SortKind} (ho : s.heap.get? a = some (seqObj "list" vs.toArray n)) (h64 : vs.length < 64)
    (hk : 2 ≤ vs.length → ∀ s1 : Shared, Kp a s s1 → (∀ C : SortKind → Shared → Prop, C κ s1 → wpAny (model prog w) A (keyKind' vs.toArray) C E s1) ∧ (kas_sort vs.length).kasWp (kas_ask prog w A κ vs) (fun p s' => s' = s1 ∧ G p) s1)
    (q : ∀ (out : List Value) (h' : Heap) (c : Nat), (vs.length < 2 ∧ out = vs ∨ ∃ p : Array Nat, p.size = vs.length ∧ G p ∧ out = p.toList.map fun i => vs.getD i Value.none) → (∀ b o, b ≠ a → s.heap.get? b = some o → h'.get? b = some o) →
      h'.get? a = some (seqObj "list" out.toArray c) → R (.done (.ret .none)) { s with heap := h' }) : wpAny (model prog w) A (Builtin.«list.sort» ⟨[.ref a], []⟩) R E s := by
  have la : a < s.heap.objs.size := Heap.lt_size ho
  have lz : vs.toArray.size = vs.length := List.size_toArray ..
  have u1 := Heap.SameBut.update s.heap a (Obj.mapSeq fun _ => (#[] : Array Value))
  obtain ⟨e1, g1⟩ : ∃ e1, (s.heap.update a (Obj.mapSeq fun _ => (#[] : Array Value))).get? a = some (seqObj "list" #[] e1) := ⟨_, get?_update_seq ho fun _ => #[]⟩
  rw [list_sort_plain]
  refine wpAny_bind (listItems_at ho rfl (wpAny_bind (listUpdate_at ho rfl (wpAny_bind (seqEpoch_at g1 rfl (wpAny_bind (wpAny_newTuple (wpAny_bind (wpAny_newList (wpAny_holding ?_) (Nat.zero_le _))) (by show vs.length ≤ _; rw [sizeLine_eq]; omega))))) (by rw [lz, sizeLine_eq]; omega) (Nat.zero_le _))))
  generalize hs1 : ({ s with heap := ((s.heap.update a (Obj.mapSeq fun _ => (#[] : Array Value))).push (seqObj "tuple" vs.toArray 0)).push (seqObj "list" #[] 0) } : Shared) = s1
  have kp : ∀ b o, (s.heap.update a (Obj.mapSeq fun _ => (#[] : Array Value))).get? b = some o → s1.heap.get? b = some o := fun b o e => by rw [← hs1]; exact Heap.get?_push_of_some _ (Heap.get?_push_of_some _ e)
  have k1 : Kp a s s1 := ⟨by rw [← hs1], fun b o nb e => kp b o ((u1.2 b nb).trans e)⟩
  have g2 : s1.heap.get? a = some (seqObj "list" #[] e1) := kp a _ g1
  dsimp only
  -- the end
  have fin : ∀ (st : SortSt) (out : List Value), (arrOf st).map (·.2) = out.toArray → failedOf st = none → out.length < 64 → (vs.length < 2 ∧ out = vs ∨ ∃ p : Array Nat, p.size = vs.length ∧ G p ∧ out = p.toList.map fun i => vs.getD i Value.none) →
      wpAny (model prog w) A (do
        let touched := (← seqEpoch a) != e1
        Builtin.List.listUpdate (.ref a) fun _ => (arrOf st).map (·.2)
        if let some e := failedOf st then rule "list.sort.comparison-raised"; throw e
        if touched then rule "list.sort.modified"; raiseError "ValueError" "list modified during sort"
        ret .none) R E s1 := by
    intro st out ho hf hl hc
    rw [ho]
    have u2 := Heap.SameBut.update s1.heap a (Obj.mapSeq fun _ => out.toArray)
    obtain ⟨c2, g3⟩ : ∃ c2, (s1.heap.update a (Obj.mapSeq fun _ => out.toArray)).get? a = some (seqObj "list" out.toArray c2) := ⟨_, get?_update_seq g2 fun _ => out.toArray⟩
    refine wpAny_bind (seqEpoch_at g2 rfl (wpAny_bind (listUpdate_at g2 rfl ?_ (Nat.zero_le _) (by show out.toArray.size ≤ _; rw [List.size_toArray, sizeLine_eq]; omega))))
    rw [hf]
    simp only [bne_self_eq_false, Bool.false_eq_true, if_false]
    have := q out _ c2 hc (fun b o nb e => (u2.2 b nb).trans (k1.2 b o nb e)) g3
    rw [k1.1]
    exact wpAny_pure this
  by_cases h2 : vs.toArray.size < 2
  · rw [if_pos h2, if_pos h2]
    refine wpAny_bind (wpAny_pure ?_)
    rw [StateT.run_pure]
    refine wpAny_bind (wpAny_pure ?_)
    refine fin _ vs ?_ rfl h64 (.inl ⟨by omega, rfl⟩)
    apply Array.toList_inj.mp
    show ((vs.toArray.zip vs.toArray).map (·.2)).toList = _
    rw [Array.toList_map, Array.toList_zip]
    exact List.map_snd_zip (Nat.le_refl _)
  · rw [if_neg h2, if_neg h2]
    obtain ⟨hkk, hw⟩ := hk (by omega) s1 k1
    refine wpAny_bind (hkk _ ?_)
    refine wpAny_bind (wpAny_mono (kat_run (E := E) (Q := fun st' s' => s' = s1 ∧ ∃ p : Array Nat, p.size = vs.length ∧ arrOf st' = p.map (kas_item (vs.toArray.zip vs.toArray)) ∧ failedOf st' = none ∧ G p) rfl (by omega) h64 (fun p st' s' x1 x2 x3 x4 => ⟨x4.1, p, x1, x2, x3, x4.2⟩) hw) ?_ fun _ _ e => e)
    rintro ⟨⟨⟩, st'⟩ s' ⟨rfl, p, hp, har, hf, hG⟩
    refine fin st' (p.toList.map fun i => vs.getD i Value.none) (kat_snds rfl har) hf (by rw [List.length_map, Array.length_toList, hp]; exact h64) (.inr ⟨p, hp, hG, rfl⟩)
/-- what a source holds, gathered; the heap grows -/
theorem gather_src {r d : Addr} {T : String} {n : Nat} {Pn : Nat → Value → Prop} {OK : Heap → Prop} {R : List Value → Shared → Prop} (K : KdlSrc prog w T r d n Pn OK) (hh : A.handled = none) (hok : OK s.heap) (hn : n ≤ sizeLine)
    (q : ∀ (h' : Heap) (tk : Nat) (acc : Array Value), (∀ b o, s.heap.get? b = some o → h'.get? b = some o) → s.heap.objs.size < h'.objs.size → ItemsOf Pn acc n → R acc.toList { s with heap := h', toks := tk }) : wpAny (model prog w) A (collect (.ref r)) R E s := by
  have lt := K.there _ hok
  have g0 : (s.heap.push { cls := .type "list", data := .seq ([] : List Value).toArray }).get? s.heap.objs.size = some { cls := .type "list", data := .seq #[] } := Heap.get?_push_size _ rfl
  have key := kdl_extend (A := A) (s := { s with heap := s.heap.push { cls := .type "list", data := .seq ([] : List Value).toArray } }) (R := fun (f : Result) (s' : Shared) => ∃ (h' : Heap) (tk : Nat) (acc' : Array Value) (c' : Nat), f = .ok (.ret (.ref s.heap.objs.size)) ∧ s' = { s with heap := h', toks := tk } ∧ (∀ b o, s.heap.get? b = some o → h'.get? b = some o) ∧ h'.get? s.heap.objs.size = some { cls := .type "list", dict := none, data := .seq acc' c', slots := #[] } ∧ ItemsOf Pn acc' n)
    K hh (K.keep _ _ hok fun b _ o e => Heap.get?_push_of_some _ e) s.heap.objs.size (Nat.ne_of_gt lt.1) (Nat.ne_of_gt lt.2) (.ref s.heap.objs.size) 0 g0 (fun h' tk acc' c' kp gS ia => ⟨h', tk, acc', c', rfl, rfl, fun b o e => kp b o (Nat.ne_of_lt (Heap.lt_size e)) (Heap.get?_push_of_some _ e), gS, ia⟩) hn
  unfold collect
  refine wpAny_bind (wpAny_runValue (codeAny_builtin entry_proto_collect' (by
    rw [Around.under_plainId PySem.F.plain_proto_collect _]
    show wpAny _ A.in1 (newList [] >>= fun l => again (.builtin "list.__iadd__" ⟨[l, .ref r], []⟩)) _ _ s
    refine wpAny_bind (wpAny_newObj_type (wpAny_pure ⟨plainId_quiet PySem.F.plain_list_iadd _, codeAny_builtin entry_list_iadd' (by
      rw [Around.under_plainId PySem.F.plain_list_iadd _]
      show wpAny _ A.in1 (Builtin.List.listExtendWith (.ref s.heap.objs.size) (.ref r) (.ref s.heap.objs.size)) _ _ _
      refine wpAny_mono key (fun fin s' x => ?_) fun e s' x => ?_
      · cases fin with
        | done f =>
          obtain ⟨h', tk, acc', c', e, rfl, kp, gS, ia⟩ := x; cases e
          show wpAny _ A (load s.heap.objs.size >>= _) _ _ _
          exact wpAny_bind (wpAny_load gS (wpAny_pure (q h' tk acc' kp (Heap.lt_size gS) ia)))
        | again c₁ =>
          refine ⟨x.1, codeAny_mono x.2 fun f s₂ y => ?_⟩
          obtain ⟨h', tk, acc', c', rfl, rfl, kp, gS, ia⟩ := y
          show wpAny _ A (load s.heap.objs.size >>= _) _ _ _
          exact wpAny_bind (wpAny_load gS (wpAny_pure (q h' tk acc' kp (Heap.lt_size gS) ia)))
      · obtain ⟨_, _, _, _, e', _⟩ := x
        cases e')⟩)))))
/-- sorted(r), r a source of keys -/
theorem sorted_raw {r d : Addr} {T : String} {OK : Heap → Prop} {ks : List Value} {R : Value → Shared → Prop} {G : Array Nat → Prop} {κ : SortKind} (K : KdlSrc prog w T r d ks.length (fun i v => ks[i]? = some v) OK) (hh : A.handled = none) (hok : OK s.heap) (h64 : ks.length < 64)
    (hk : 2 ≤ ks.length → ∀ s1 : Shared, (∀ b o, s.heap.get? b = some o → s1.heap.get? b = some o) → (∀ C : SortKind → Shared → Prop, C κ s1 → wpAny (model prog w) A.in1.in1 (keyKind' ks.toArray) C (fun _ _ => False) s1) ∧ (kas_sort ks.length).kasWp (kas_ask prog w A.in1.in1 κ ks) (fun p s' => s' = s1 ∧ G p) s1)
    (q : ∀ (D : Addr) (out : List Value) (h' : Heap) (tk c : Nat), (ks.length < 2 ∧ out = ks ∨ ∃ p : Array Nat, p.size = ks.length ∧ G p ∧ out = p.toList.map fun i => ks.getD i Value.none) → (∀ b o, s.heap.get? b = some o → h'.get? b = some o) →
      s.heap.objs.size ≤ D → h'.get? D = some (seqObj "list" out.toArray c) → R (.ref D) { s with heap := h', toks := tk }) : wpAny (model prog w) A (call (.builtin "sorted") [.ref r]) R E s := by
  refine Calls.call_function_entry kind_sorted plain_sorted entry_sorted (args_sorted1 _) ?_
  unfold Builtin.«sorted»
  refine wpAny_bind (m := checkCount "sorted" 1 1 _) (wpAny_pure (wpAny_bind (gather_src (A := A.in1) K hh hok (by rw [sizeLine_eq]; omega) fun h1 tk acc kp gr0 hacc => ?_)))
  have ea : acc.toList = ks := by
    apply List.ext_getElem?
    intro i
    rcases Nat.lt_or_ge i ks.length with h | h
    · have hi : i < acc.size := by rw [hacc.1]; exact h
      rw [Array.getElem?_toList, Array.getElem?_eq_getElem hi]
      exact (hacc.2 i acc[i] (by rw [Array.getElem?_eq_getElem hi])).symm
    · rw [List.getElem?_eq_none h, List.getElem?_eq_none (by rw [Array.length_toList, hacc.1]; exact h)]
  rw [ea]
  refine wpAny_bind (wpAny_newList ?_ (by rw [sizeLine_eq]; omega))
  have hD : (h1.push (seqObj "list" ks.toArray 0)).get? h1.objs.size = some (seqObj "list" ks.toArray 0) := Heap.get?_push_size _ rfl
  have k2 : ∀ b o, s.heap.get? b = some o → (h1.push (seqObj "list" ks.toArray 0)).get? b = some o := fun b o e => Heap.get?_push_of_some _ (kp b o e)
  have gr : s.heap.objs.size ≤ h1.objs.size := Nat.le_of_lt gr0
  show wpAny _ _ _ _ _ { s with heap := h1.push (seqObj "list" ks.toArray 0), toks := tk }
  refine wpAny_bind (wpAny_holding (wpAny_call_entry slot_list_sort ⟨_, hD, rfl⟩ entry_list_sort (lsort_raw (G := G) (κ := κ) (s := { s with heap := h1.push (seqObj "list" ks.toArray 0), toks := tk }) hD h64 (fun h2 s1 k1 => ?_) fun out h' c hc hkp hg => ?_) (args_list_sort _)))
  · obtain ⟨x1, x2⟩ := hk h2 s1 fun b o e => k1.2 b o (Nat.ne_of_lt (Nat.lt_of_lt_of_le (Heap.lt_size e) gr)) (k2 b o e)
    exact ⟨fun C hC => wpAny_mono (x1 C hC) (fun _ _ z => z) fun _ _ z => z.elim, x2⟩
  · exact ⟨_, rfl, wpAny_pure ⟨_, rfl, q h1.objs.size out h' tk c hc (fun b o e => hkp b o (Nat.ne_of_lt (Nat.lt_of_lt_of_le (Heap.lt_size e) gr)) (k2 b o e)) gr hg⟩⟩
end
end L2

set_option Elab.async false
set_option linter.all false
set_option maxRecDepth 100000
set_option maxHeartbeats 4000000
/-! texts and pairs of texts in order -/
namespace L2
open PySem PySem.W PySem.Spec PyProof.Rows
abbrev ltS (x y : Str) : Bool := decide (x.cps.toList < y.cps.toList)
def ltP (p q : Str × Str) : Bool := if p.1 = q.1 then (if p.2 = q.2 then false else ltS p.2 q.2) else ltS p.1 q.1
theorem lex_tri : ∀ (a b : List Nat), a ≠ b → ¬ a < b → b < a
  | [], [], h, _ => absurd rfl h
  | [], b :: bs, _, h => absurd (List.nil_lt_cons b bs) h
  | a :: as, [], _, _ => List.nil_lt_cons a as
  | a :: as, b :: bs, h, hn => by
    rw [List.cons_lt_cons_iff] at hn ⊢
    rcases Nat.lt_trichotomy a b with q | q | q
    · exact absurd (.inl q) hn
    · subst q
      exact .inr ⟨rfl, lex_tri as bs (fun z => h (by rw [z])) (fun z => hn (.inr ⟨rfl, z⟩))⟩
    · exact .inl q
theorem lex_tr : ∀ {a b c : List Nat}, a < b → b < c → a < c
  | _, [], _, h, _ => absurd h (by simp)
  | _, _ :: _, [], _, h => absurd h (by simp)
  | [], _ :: _, c :: cs, _, _ => List.nil_lt_cons c cs
  | a :: as, b :: bs, c :: cs, h1, h2 => by
    rw [List.cons_lt_cons_iff] at h1 h2 ⊢
    rcases h1 with h1 | ⟨rfl, h1⟩
    · rcases h2 with h2 | ⟨rfl, h2⟩
      · exact .inl (by omega)
      · exact .inl h1
    · rcases h2 with h2 | ⟨rfl, h2⟩
      · exact .inl h2
      · exact .inr ⟨rfl, lex_tr h1 h2⟩
theorem lex_irr : ∀ (a : List Nat), ¬ a < a
  | [], h => absurd h (by simp)
  | a :: as, h => by
    rw [List.cons_lt_cons_iff] at h
    rcases h with h | ⟨_, h⟩
    · omega
    · exact lex_irr as h
theorem cps_inj {x y : Str} (h : x.cps.toList = y.cps.toList) : x = y := by
  cases x; cases y
  simp only [Str.mk.injEq]
  exact Array.toList_inj.mp h
theorem ltS_tri {x y : Str} (h : x ≠ y) (e : ltS x y = false) : ltS y x = true := decide_eq_true (lex_tri _ _ (fun z => h (cps_inj z)) (of_decide_eq_false e))
theorem ltS_tr {x y z : Str} (h1 : ltS x y = true) (h2 : ltS y z = true) : ltS x z = true := decide_eq_true (lex_tr (of_decide_eq_true h1) (of_decide_eq_true h2))
theorem ltS_irr (x : Str) : ltS x x = false := decide_eq_false (lex_irr _)
theorem ltS_asy {x y : Str} (h : ltS x y = true) : ltS y x = false := decide_eq_false fun z => lex_irr _ (lex_tr (of_decide_eq_true h) z)
theorem ltS_ne {x y : Str} (h : ltS x y = true) : x ≠ y := fun z => by rw [z, ltS_irr] at h; cases h
theorem ltP_tri {p q : Str × Str} (h : p ≠ q) (e : ltP p q = false) : ltP q p = true := by
  unfold ltP at e ⊢
  by_cases h1 : p.1 = q.1
  · rw [if_pos h1] at e
    rw [if_pos h1.symm]
    have h2 : p.2 ≠ q.2 := fun z => h (Prod.ext h1 z)
    rw [if_neg h2] at e
    rw [if_neg (Ne.symm h2)]
    exact ltS_tri h2 e
  · rw [if_neg h1] at e
    rw [if_neg (Ne.symm h1)]
    exact ltS_tri h1 e
theorem ltP_tr {p q r : Str × Str} (h1 : ltP p q = true) (h2 : ltP q r = true) : ltP p r = true := by
  unfold ltP at h1 h2 ⊢
  by_cases e1 : p.1 = q.1
  · rw [if_pos e1] at h1
    by_cases e2 : q.1 = r.1
    · rw [if_pos e2] at h2
      rw [if_pos (e1.trans e2)]
      by_cases f1 : p.2 = q.2
      · rw [if_pos f1] at h1; cases h1
      · by_cases f2 : q.2 = r.2
        · rw [if_pos f2] at h2; cases h2
        · rw [if_neg f1] at h1
          rw [if_neg f2] at h2
          have := ltS_tr h1 h2
          rw [if_neg (ltS_ne this)]; exact this
    · rw [if_neg e2] at h2
      rw [if_neg (by rw [e1]; exact e2), e1]; exact h2
  · rw [if_neg e1] at h1
    by_cases e2 : q.1 = r.1
    · rw [if_neg (by rw [← e2]; exact e1), ← e2]; exact h1
    · rw [if_neg e2] at h2
      have := ltS_tr h1 h2
      rw [if_neg (ltS_ne this)]; exact this
theorem ltP_irr (p : Str × Str) : ltP p p = false := by unfold ltP; rw [if_pos rfl, if_pos rfl]
theorem ltP_asy {p q : Str × Str} (h : ltP p q = true) : ltP q p = false := by
  cases e : ltP q p with
  | false => rfl
  | true => have := ltP_tr h e; rw [ltP_irr] at this; cases this
/-- rising -/
theorem rise_of : ∀ (l : List Str), sortedS l = true → l.Nodup → l.Pairwise (fun a b => ltS a b = true)
  | [], _, _ => .nil
  | [x], _, _ => by simp
  | x :: y :: r, h, hn => by
    have h' : (!ltCps y.cps.toList x.cps.toList && risingS y r) = true := h
    rw [Bool.and_eq_true] at h'
    have hr : sortedS (y :: r) = true := h'.2
    have ih := rise_of (y :: r) hr (List.nodup_cons.mp hn).2
    have hxy : ltS x y = true := by
      have h1 : ltS y x = false := by
        have := h'.1
        rw [ltCps_eq] at this
        simpa using this
      exact ltS_tri (fun z => (List.nodup_cons.mp hn).1 (by rw [z]; exact List.mem_cons_self)) h1
    refine List.pairwise_cons.mpr ⟨fun z hz => ?_, ih⟩
    rcases List.mem_cons.mp hz with rfl | hz
    · exact hxy
    · exact ltS_tr hxy ((List.pairwise_cons.mp ih).1 z hz)
section
variable {X : Cx}
theorem call_sortedS : CallR X (.builtin "sorted") (fun xs H Q => ∃ (p : Addr) (ss : List Str), xs = [.ref p] ∧ SqL X.K H p (ss.map V.str) ∧ ss.length < 64 ∧ ss.Nodup ∧ ∀ (ss' : List Str) l, ss'.Perm ss → ss'.Pairwise (fun a b => ltS a b = true) → H l = none → Q (.ref l) (upd H l (.lst (ss'.map V.str)))) := by
  intro pins s σ H xs us Q I r h
  obtain ⟨p, ss, rfl, hq, h64, hnd, q⟩ := h
  obtain ⟨u, rfl, ru⟩ := vals1 r
  cases ru
  obtain ⟨its, rv, pl, hz⟩ := I.list hq
  have hS := strsAre_of rv
  have hl := rv.length
  rw [List.length_map] at hl
  refine sorted_strs pl.isList hS (by omega) fun out ss' a1 a2 a3 => ?_
  have nl : H (s.heap.objs.size + 1) = none := I.hok.fresh (Nat.le_succ _)
  obtain ⟨e, he⟩ := sortedAll_at s.heap its out
  have hn' : ss'.Nodup := a2.nodup_iff.mpr hnd
  refine ⟨.ref _, _, I.laid (a := s.heap.objs.size + 1) (o := .lst (ss'.map V.str)) (t' := s.toks) (fun b o hb => sortedAll_old hb) (Nat.le_succ _) ⟨?_, out.toList, e, ?_, ?_⟩, rfl, q ss' _ a2 (rise_of ss' a3 hn') nl⟩
  · rw [List.length_map, a2.length_eq]; exact Nat.le_of_lt (small1000 (by omega))
  · have mk : ∀ {vs : List Value} {zs : List Str}, StrsAre vs zs → Vals (zs.map V.str) vs := by
      intro vs zs h
      induction h with
      | nil => exact .nil
      | cons x t _ ih => exact .cons ⟨t, rfl⟩ ih
    exact mk a1
  · rw [Array.toArray_toList]; exact he

/-- vs are tuples of two texts -/
def PairsAt (H : Hp) (vs : List V) (ps : List (Str × Str)) : Prop := vs.length = ps.length ∧ ∀ (i : Nat) (v : V) (p : Str × Str), vs[i]? = some v → ps[i]? = some p → ∃ b, v = .ref b ∧ H b = some (.tup [.str p.1, .str p.2])
def keyP (p : Str × Str) : List Key := [.inr p.1, .inr p.2]
/-- a tuple of two texts, as it lies -/
def TupAt (h : Heap) (u : Value) (p : Str × Str) : Prop := ∃ b o n t1 t2, u = .ref b ∧ h.get? b = some o ∧ o.cls = .type "tuple" ∧ o.data = .seq #[.str p.1 t1, .str p.2 t2] n
theorem TupAt.keeps {h h' : Heap} {u : Value} {p : Str × Str} (x : TupAt h u p) (k : ∀ b o, h.get? b = some o → h'.get? b = some o) : TupAt h' u p := let ⟨b, o, n, t1, t2, e, g, r⟩ := x; ⟨b, o, n, t1, t2, e, k _ _ g, r⟩
theorem ask_pair {prog : Program} {w : World} {A : Around} {E : Value → Shared → Prop} {s : Shared} {u v : Value} {p q : Str × Str} {C : Bool → Shared → Prop} (x : TupAt s.heap u p) (y : TupAt s.heap v q) (h : C (ltP p q) s) : wpAny (model prog w) A (keyLt' (tuples' true) u v) C E s := by
  obtain ⟨b, o, n, t1, t2, rfl, g, _, d⟩ := x
  obtain ⟨b', o', n', t3, t4, rfl, g', _, d'⟩ := y
  refine kat_lt g d g' d' ?_
  show KatLex prog w A true (decide (2 < 2)) C [(.str p.1 t1, .str q.1 t3), (.str p.2 t2, .str q.2 t4)] 0 s
  unfold ltP at h
  refine kat_cons (wpAny_eqBool_str ?_)
  by_cases e1 : p.1 = q.1
  · rw [if_pos e1] at h
    rw [decide_eq_true e1]
    refine kat_yes (kat_cons (wpAny_eqBool_str ?_))
    by_cases e2 : p.2 = q.2
    · rw [if_pos e2] at h
      rw [decide_eq_true e2]
      exact kat_yes (kat_nil h)
    · rw [if_neg e2] at h
      rw [decide_eq_false e2]
      refine kat_no ?_
      show wpAny (model prog w) A (oneLt' false (.str p.2 t2) (.str q.2 t4)) C _ s
      exact kat_one _ _ (lt_str h)
  · rw [if_neg e1] at h
    rw [decide_eq_false e1]
    refine kat_no ?_
    show wpAny (model prog w) A (oneLt' true (.str p.1 t1) (.str q.1 t3)) C _ s
    exact oneLt_str h
theorem tups_of {h : Heap} : ∀ {us : List Value} {ps : List (Str × Str)}, us.length = ps.length → (∀ (i : Nat) (u : Value) (p : Str × Str), us[i]? = some u → ps[i]? = some p → TupAt h u p) → ∃ fs, KatTups h us fs ∧ fs.length = us.length ∧ ∀ f ∈ fs, ∃ x t, f = Value.str x t
  | [], [], _, _ => ⟨[], trivial, rfl, fun _ z => nomatch z⟩
  | [], _ :: _, z, _ => by simp at z
  | _ :: _, [], z, _ => by simp at z
  | u :: us, p :: ps, hl, hx => by
    obtain ⟨fs, h1, h2, h3⟩ := tups_of (us := us) (ps := ps) (by simpa using hl) fun i u p e1 e2 => hx (i + 1) u p (by simpa using e1) (by simpa using e2)
    obtain ⟨b, o, n, t1, t2, rfl, g, c, d⟩ := hx 0 u p rfl rfl
    refine ⟨.str p.1 t1 :: fs, KatTups.cons g c d rfl h1, by simp [h2], fun f hf => ?_⟩
    rcases List.mem_cons.mp hf with rfl | hf
    · exact ⟨_, _, rfl⟩
    · exact h3 f hf
def pAt (ps : List (Str × Str)) (i : Nat) : Str × Str := ps.getD i (⟨#[]⟩, ⟨#[]⟩)
theorem strict_pairs {ps : List (Str × Str)} (hn : ps.Nodup) : RW.Strict ps.length (fun i j => ltP (pAt ps i) (pAt ps j)) where
  tot := fun i j hi hj hij e => ltP_tri (fun z => hij ((List.getElem_inj hn (h₀ := hi) (h₁ := hj)).mp (by unfold pAt at z; simpa [hi, hj] using z))) e
  tr := fun i j k _ _ _ h1 h2 => ltP_tr h1 h2
  asy := fun i j _ _ h => ltP_asy h
/-- the order that the sort puts, as a list -/
theorem out_pairs {ps : List (Str × Str)} {p : Array Nat} (hp : RW.PermN ps.length p) (hs : RW.Sor (fun i j => ltP (pAt ps i) (pAt ps j)) p ps.length) : (p.toList.map (pAt ps)).Perm ps ∧ (p.toList.map (pAt ps)).Pairwise (fun a b => ltP a b = true) := by
  constructor
  · have h1 := hp.map (pAt ps)
    have h2 : (List.range ps.length).map (pAt ps) = ps := by
      apply List.ext_getElem?
      intro i
      rw [List.getElem?_map]
      rcases Nat.lt_or_ge i ps.length with h | h
      · rw [List.getElem?_range h]
        show some (pAt ps i) = _
        unfold pAt
        simp [h]
      · rw [List.getElem?_eq_none (by simpa using h), List.getElem?_eq_none h]; rfl
    rwa [h2] at h1
  · have hz := hp.size
    rw [List.pairwise_iff_getElem]
    intro i j hi hj hij
    have hi' : i < p.size := by simpa using hi
    have hj' : j < p.size := by simpa using hj
    have h := hs i j hij (by omega)
    rw [RW.gd_get hi', RW.gd_get hj'] at h
    simpa using h
theorem paired_get {α β : Type} {R : α → β → Prop} : ∀ {as : List α} {bs : List β}, Paired R as bs → as.length = bs.length ∧ ∀ (i : Nat) (a : α) (b : β), as[i]? = some a → bs[i]? = some b → R a b
  | _, _, .nil => ⟨rfl, fun i a b e => by simp at e⟩
  | _, _, .cons h t => by
    obtain ⟨h1, h2⟩ := paired_get t
    refine ⟨by simp [h1], fun i a b e1 e2 => ?_⟩
    cases i with
    | zero => simp at e1 e2; subst e1; subst e2; exact h
    | succ i => exact h2 i a b (by simpa using e1) (by simpa using e2)
theorem call_sortedT (hc : X.calm = true) : CallR X (.builtin "sorted") (fun xs H Q => ∃ (d : Addr) (kvs : List (List Key × V)) (ps : List (Str × Str)), xs = [.ref d] ∧ H d = some (.dT kvs) ∧ kvs.map (·.1) = ps.map keyP ∧ ps.length < 64 ∧
    ∀ (ps' : List (Str × Str)) (vs : List V) l, ps'.Perm ps → ps'.Pairwise (fun a b => ltP a b = true) → PairsAt H vs ps' → H l = none → Q (.ref l) (upd H l (.lst vs))) := by
  intro pins s σ H xs us Q I r h
  obtain ⟨d, kvs, ps, rfl, hd, hk, h64, q⟩ := h
  obtain ⟨u, rfl, ru⟩ := vals1 r
  cases ru
  obtain ⟨_, nsys, zs, hp, o, es, ep, g, ex, dat, hes, hnd⟩ := (show ObjOk X.prog X.w H s.heap d (.dT kvs) from I.hok d _ hd)
  obtain ⟨hl, hget⟩ := paired_get hp
  have hlk : kvs.length = ps.length := by have := congrArg List.length hk; simpa using this
  have hnp : ps.Nodup := by
    have e : zs.map (·.1) = kvs.map (·.1) := by
      apply List.ext_getElem?
      intro i
      rw [List.getElem?_map, List.getElem?_map]
      rcases Nat.lt_or_ge i kvs.length with h | h
      · have h' : i < zs.length := by omega
        have := (hget i kvs[i] zs[i] (by simp [h]) (by simp [h'])).1
        simp [h, h', this]
      · rw [List.getElem?_eq_none h, List.getElem?_eq_none (by omega)]; rfl
    rw [e, hk] at hnd
    exact (List.pairwise_map.mp hnd).imp fun h z => h (by rw [z])
  -- the keys
  have kz : (zs.map fun q => Value.ref q.2.1).length = ps.length := by rw [List.length_map]; omega
  have raw : RawD s.heap d (zs.map fun q => Value.ref q.2.1) ep := ⟨o, es, g, ex, dat, by rw [hes, List.map_map]; rfl⟩
  have keyA : ∀ i (h : i < ps.length), ∃ b, (zs.map fun q => Value.ref q.2.1)[i]? = some (.ref b) ∧ H b = some (.tup [.str ps[i].1, .str ps[i].2]) := fun i h => by
    have h1 : i < kvs.length := by omega
    have h2 : i < zs.length := by omega
    have hr := hget i kvs[i] zs[i] (by simp [h1]) (by simp [h2])
    refine ⟨zs[i].2.1, by simp [h2], ?_⟩
    have ek : kvs[i].1 = keyP ps[i] := by
      have e1 : (kvs.map (·.1))[i]? = some kvs[i].1 := by simp [h1]
      rw [hk] at e1
      have e2 : (ps.map keyP)[i]? = some (keyP ps[i]) := by simp [h]
      rw [e1] at e2
      exact Option.some.inj e2
    rw [hr.2.1, ek]
    rfl
  have keyT : ∀ (i : Nat) (u : Value) (p : Str × Str), (zs.map fun q => Value.ref q.2.1)[i]? = some u → ps[i]? = some p → TupAt s.heap u p := fun i u p e1 e2 => by
    have hi : i < ps.length := by
      rcases Nat.lt_or_ge i ps.length with z | z
      · exact z
      · rw [List.getElem?_eq_none z] at e2; cases e2
    obtain ⟨b, f1, f2⟩ := keyA i hi
    rw [f1] at e1
    cases e1
    have ep' : ps[i] = p := by simpa [hi] using e2
    rw [ep'] at f2
    obtain ⟨_, its, rv, ⟨o', g', c', n', d'⟩, _⟩ := (show ObjOk X.prog X.w H s.heap b (.tup [.str p.1, .str p.2]) from I.hok b _ f2)
    cases rv with
    | cons r1 rv => cases rv with
      | cons r2 rv => cases rv with
        | nil =>
          obtain ⟨t1, rfl⟩ := r1
          obtain ⟨t2, rfl⟩ := r2
          exact ⟨b, o', n', t1, t2, rfl, g', c', d'⟩
  generalize hks : (zs.map fun q => Value.ref q.2.1) = ks at *
  refine sorted_raw (A := X.A) (G := fun p => RW.PermN ps.length p ∧ RW.Sor (fun i j => ltP (pAt ps i) (pAt ps j)) p ps.length) (κ := tuples' true) (raw_src (ks := ks) (ep := ep) nsys) (I.ok.hd hc) raw (by omega) (fun h2 s1 k1 => ?_) (fun D out h' tk c ho kp hD gD => ?_)
  · have keyT1 : ∀ (i : Nat) (u : Value) (p : Str × Str), ks[i]? = some u → ps[i]? = some p → TupAt s1.heap u p := fun i u p e1 e2 => (keyT i u p e1 e2).keeps k1
    obtain ⟨fs, ft, fl, fa⟩ := tups_of kz keyT1
    refine ⟨fun C hC => kat_kind (T := .type "str") ft (by omega) (fun f hf => ?_) rfl hC, ?_⟩
    · obtain ⟨x, t, rfl⟩ := fa f hf
      exact Looks.of_pure rfl
    · rw [kz]
      refine RW.OkT.wp (N := ps.length) (lt := fun i j => ltP (pAt ps i) (pAt ps j)) (I := fun s' => s' = s1) (fun i j C s' hi hj e hC => ?_) (fun p s' hp e => ⟨e, hp⟩) rfl (RW.sort_ok (strict_pairs hnp) (by omega))
      subst e
      have gi : ∀ i, i < ps.length → TupAt s'.heap (ks.getD i Value.none) (pAt ps i) := fun i hi => by
        have hi' : i < ks.length := by omega
        refine keyT1 i _ _ ?_ ?_
        · simp [hi']
        · unfold pAt; simp [hi]
      exact ask_pair (gi i hi) (gi j hj) (hC s' rfl)
  · -- the list that comes
    have nD : H D = none := I.hok.fresh hD
    obtain ⟨ps', hperm, hpw, hout⟩ : ∃ ps' : List (Str × Str), ps'.Perm ps ∧ ps'.Pairwise (fun a b => ltP a b = true) ∧ out.length = ps'.length ∧ ∀ (i : Nat) (u : Value) (p : Str × Str), out[i]? = some u → ps'[i]? = some p → ∃ b, u = .ref b ∧ H b = some (.tup [.str p.1, .str p.2]) := by
      rcases ho with ⟨hlt, rfl⟩ | ⟨p, hp, ⟨hP, hS⟩, rfl⟩
      · refine ⟨ps, .refl _, ?_, kz, fun i u p e1 e2 => ?_⟩
        · match ps, (show ps.length < 2 by omega) with
          | [], _ => exact .nil
          | [x], _ => exact List.pairwise_singleton _ _
        · have hi : i < ps.length := by
            rcases Nat.lt_or_ge i ps.length with z | z
            · exact z
            · rw [List.getElem?_eq_none z] at e2; cases e2
          obtain ⟨b, f1, f2⟩ := keyA i hi
          rw [f1] at e1; cases e1
          have ep' : ps[i] = p := by simpa [hi] using e2
          rw [ep'] at f2
          exact ⟨b, rfl, f2⟩
      · obtain ⟨o1, o2⟩ := out_pairs hP hS
        refine ⟨p.toList.map (pAt ps), o1, o2, by rw [List.length_map, List.length_map], fun i u q e1 e2 => ?_⟩
        rw [List.getElem?_map] at e1 e2
        cases hpi : p.toList[i]? with
        | none => rw [hpi] at e1; cases e1
        | some j =>
          rw [hpi] at e1 e2
          have hj : j < ps.length := List.mem_range.mp (hP.mem_iff.mp (List.mem_of_getElem? hpi))
          obtain ⟨b, f1, f2⟩ := keyA j hj
          have hj' : j < ks.length := by omega
          have eu : ks.getD j Value.none = .ref b := by
            rw [List.getD_eq_getElem?_getD, f1]; rfl
          have e1' : some (ks.getD j Value.none) = some u := e1
          rw [eu] at e1'
          have e2' : some (pAt ps j) = some q := e2
          have eq : pAt ps j = ps[j] := by unfold pAt; simp [hj]
          rw [eq] at e2'
          cases e1'
          cases e2'
          exact ⟨b, rfl, f2⟩
    obtain ⟨hol, hog⟩ := hout
    -- as values
    have hall : ∀ u ∈ out, ∃ b, u = Value.ref b := fun u hu => by
      obtain ⟨i, hi, rfl⟩ := List.getElem_of_mem hu
      obtain ⟨b, e, _⟩ := hog i out[i] (ps'[i]'(by omega)) (by simp [hi]) (by simp [show i < ps'.length by omega])
      exact ⟨b, e⟩
    obtain ⟨vs, rvs⟩ : ∃ vs : List V, Vals vs out ∧ ∀ (i : Nat) (b : Addr), out[i]? = some (.ref b) → vs[i]? = some (.ref b) := by
      clear hog hol gD ho
      induction out with
      | nil => exact ⟨[], .nil, fun i b e => by simp at e⟩
      | cons u out ih =>
        obtain ⟨vs, h1, h2⟩ := ih fun u hu => hall u (List.mem_cons_of_mem _ hu)
        obtain ⟨b, rfl⟩ := hall u List.mem_cons_self
        refine ⟨.ref b :: vs, .cons rfl h1, fun i b' e => ?_⟩
        cases i with
        | zero => simpa using e
        | succ i => exact h2 i b' (by simpa using e)
    have lv : vs.length = out.length := rvs.1.length
    refine ⟨.ref D, _, I.laid (a := D) (o := .lst vs) (t' := tk) kp hD ⟨by rw [lv, hol, hperm.length_eq]; exact Nat.le_of_lt (small1000 (by omega)), out, c, rvs.1, gD⟩, rfl, q ps' vs D hperm hpw ⟨by omega, fun i v p e1 e2 => ?_⟩ nD⟩
    have hi : i < out.length := by
      rcases Nat.lt_or_ge i out.length with z | z
      · exact z
      · rw [List.getElem?_eq_none (by omega)] at e1; cases e1
    obtain ⟨b, f1, f2⟩ := hog i out[i] p (by simp [hi]) e2
    have := rvs.2 i b (by rw [← f1]; simp [hi])
    rw [this] at e1
    cases e1
    exact ⟨b, rfl, f2⟩
end
end L2

set_option Elab.async false
set_option linter.all false
set_option maxRecDepth 100000
set_option maxHeartbeats 4000000
namespace L2
open PySem PySem.W PySem.Spec PyProof.Rows
/-! min, max of two texts -/
def valS (a c : Str) (t u : Tok) (i : Nat) : Value := if i = 0 then .str a t else .str c u
section
variable {prog : Program} {w : World} {A : Around} {E : Value → Shared → Prop} {s : Shared}
theorem two_at {a c : Str} {t u : Tok} {i : Nat} {v : Value} (h : (#[Value.str a t, Value.str c u])[i]? = some v) : (i = 0 ∧ v = .str a t) ∨ (i = 1 ∧ v = .str c u) := by
  match i, h with
  | 0, h => exact .inl ⟨rfl, by simpa using h.symm⟩
  | 1, h => exact .inr ⟨rfl, by simpa using h.symm⟩
  | i + 2, h => simp at h
theorem max_two_strs {a c : Str} {t u : Tok} {R : Value → Shared → Prop} (hh : A.handled = none) (q : ∀ h' tk, (∀ b o, s.heap.get? b = some o → h'.get? b = some o) → R (if ltS a c = true then .str c u else .str a t) { s with heap := h', toks := tk }) :
    wpAny (model prog w) A (call (.builtin "max") [.str a t, .str c u]) R E s := by
  have hT : (s.heap.push { cls := .type "tuple", data := .seq #[.str a t, .str c u] }).IsTuple s.heap.objs.size #[.str a t, .str c u] := ⟨_, Heap.get?_push_size _ rfl, rfl, 0, rfl⟩
  have z : (s.heap.push { cls := .type "tuple", data := .seq #[.str a t, .str c u] }).objs.size = s.heap.objs.size + 1 := Heap.size_push ..
  refine call_max_two (wpAny_pyIter_tuple hT ?_)
  refine ⟨_, [_, s.heap.objs.size], [_], _, _, _, fun i j => ltS (strOf (valS a c t u j)) (strOf (valS a c t u i)), rfl, Walks.tuple (A := A.in1) hh _ s.heap.objs.size (by rw [z]; exact Nat.ne_of_lt (Nat.lt_succ_self _)) #[.str a t, .str c u], ⟨⟨_, Heap.get?_push_size _ rfl, rfl, rfl⟩, hT.push _⟩, fun b hb => ?_, (by decide : 0 < 2), ?_, fun v h' tk hP hk => ?_⟩
  · show b < ((s.heap.push _).push _).objs.size
    rw [Heap.size_push, z]
    rcases List.mem_cons.mp hb with rfl | hb
    · rw [z]; exact Nat.lt_succ_self _
    · rcases List.mem_cons.mp hb with rfl | hb
      · exact Nat.lt_succ_of_lt (Nat.lt_succ_self _)
      · cases hb
  · intro i j vi vj s' R' E' hi hj hq
    rcases two_at hi with ⟨rfl, rfl⟩ | ⟨rfl, rfl⟩ <;> rcases two_at hj with ⟨rfl, rfl⟩ | ⟨rfl, rfl⟩ <;> exact (PySem.P.gt_str hq : wpAny (model prog w) A.in1 (compareOp .Gt _ _) R' E' s')
  · have keep : ∀ b o, s.heap.get? b = some o → h'.get? b = some o := fun b o e => hk b o (fun hm => by
      rcases List.mem_cons.mp hm with e1 | hm
      · have lb := Heap.lt_size e
        rw [e1, z] at lb
        exact absurd lb (Nat.not_lt.mpr (Nat.le_succ _))
      · cases hm) (Heap.get?_push_of_some _ (Heap.get?_push_of_some _ e))
    have fin := q h' tk keep
    have eb : argBest (fun i j => ltS (strOf (valS a c t u j)) (strOf (valS a c t u i))) (2 - 1) = if ltS a c = true then 1 else 0 := rfl
    have hP' : (#[Value.str a t, Value.str c u])[if ltS a c = true then 1 else 0]? = some v := hP
    by_cases hc : ltS a c = true
    · rw [if_pos hc] at hP' fin
      have ev : Value.str c u = v := by simpa using hP'
      rw [← ev]; exact fin
    · rw [if_neg hc] at hP' fin
      have ev : Value.str a t = v := by simpa using hP'
      rw [← ev]; exact fin
theorem min_two_strs {a c : Str} {t u : Tok} {R : Value → Shared → Prop} (hh : A.handled = none) (q : ∀ h' tk, (∀ b o, s.heap.get? b = some o → h'.get? b = some o) → R (if ltS c a = true then .str c u else .str a t) { s with heap := h', toks := tk }) :
    wpAny (model prog w) A (call (.builtin "min") [.str a t, .str c u]) R E s := by
  have hT : (s.heap.push { cls := .type "tuple", data := .seq #[.str a t, .str c u] }).IsTuple s.heap.objs.size #[.str a t, .str c u] := ⟨_, Heap.get?_push_size _ rfl, rfl, 0, rfl⟩
  have z : (s.heap.push { cls := .type "tuple", data := .seq #[.str a t, .str c u] }).objs.size = s.heap.objs.size + 1 := Heap.size_push ..
  refine call_min_two (wpAny_pyIter_tuple hT ?_)
  refine ⟨_, [_, s.heap.objs.size], [_], _, _, _, fun i j => ltS (strOf (valS a c t u i)) (strOf (valS a c t u j)), rfl, Walks.tuple (A := A.in1) hh _ s.heap.objs.size (by rw [z]; exact Nat.ne_of_lt (Nat.lt_succ_self _)) #[.str a t, .str c u], ⟨⟨_, Heap.get?_push_size _ rfl, rfl, rfl⟩, hT.push _⟩, fun b hb => ?_, (by decide : 0 < 2), ?_, fun v h' tk hP hk => ?_⟩
  · show b < ((s.heap.push _).push _).objs.size
    rw [Heap.size_push, z]
    rcases List.mem_cons.mp hb with rfl | hb
    · rw [z]; exact Nat.lt_succ_self _
    · rcases List.mem_cons.mp hb with rfl | hb
      · exact Nat.lt_succ_of_lt (Nat.lt_succ_self _)
      · cases hb
  · intro i j vi vj s' R' E' hi hj hq
    rcases two_at hi with ⟨rfl, rfl⟩ | ⟨rfl, rfl⟩ <;> rcases two_at hj with ⟨rfl, rfl⟩ | ⟨rfl, rfl⟩ <;> exact (lt_str hq : wpAny (model prog w) A.in1 (compareOp .Lt _ _) R' E' s')
  · have keep : ∀ b o, s.heap.get? b = some o → h'.get? b = some o := fun b o e => hk b o (fun hm => by
      rcases List.mem_cons.mp hm with e1 | hm
      · have lb := Heap.lt_size e
        rw [e1, z] at lb
        exact absurd lb (Nat.not_lt.mpr (Nat.le_succ _))
      · cases hm) (Heap.get?_push_of_some _ (Heap.get?_push_of_some _ e))
    have fin := q h' tk keep
    have eb : argBest (fun i j => ltS (strOf (valS a c t u i)) (strOf (valS a c t u j))) (2 - 1) = if ltS c a = true then 1 else 0 := rfl
    have hP' : (#[Value.str a t, Value.str c u])[if ltS c a = true then 1 else 0]? = some v := hP
    by_cases hc : ltS c a = true
    · rw [if_pos hc] at hP' fin
      have ev : Value.str c u = v := by simpa using hP'
      rw [← ev]; exact fin
    · rw [if_neg hc] at hP' fin
      have ev : Value.str a t = v := by simpa using hP'
      rw [← ev]; exact fin
end

section
variable {X : Cx}
theorem call_max2S (hc : X.calm = true) : CallR X (.builtin "max") (fun xs H Q => ∃ a c, xs = [.str a, .str c] ∧ Q (.str (if ltS a c = true then c else a)) H) := by
  intro pins s σ H xs us Q I r h
  obtain ⟨i, j, rfl, q⟩ := h
  obtain ⟨u, w', rfl, ⟨t, rfl⟩, ⟨t', rfl⟩⟩ := vals2 r
  refine max_two_strs (I.ok.hd hc) fun h' tk k => ⟨_, H, I.kept k, ?_, q⟩
  by_cases hj : ltS i j = true
  · rw [if_pos hj, if_pos hj]; exact ⟨_, rfl⟩
  · rw [if_neg hj, if_neg hj]; exact ⟨_, rfl⟩
theorem call_min2S (hc : X.calm = true) : CallR X (.builtin "min") (fun xs H Q => ∃ a c, xs = [.str a, .str c] ∧ Q (.str (if ltS c a = true then c else a)) H) := by
  intro pins s σ H xs us Q I r h
  obtain ⟨i, j, rfl, q⟩ := h
  obtain ⟨u, w', rfl, ⟨t, rfl⟩, ⟨t', rfl⟩⟩ := vals2 r
  refine min_two_strs (I.ok.hd hc) fun h' tk k => ⟨_, H, I.kept k, ?_, q⟩
  by_cases hj : ltS j i = true
  · rw [if_pos hj, if_pos hj]; exact ⟨_, rfl⟩
  · rw [if_neg hj, if_neg hj]; exact ⟨_, rfl⟩
end
end L2

set_option Elab.async false
set_option linter.all false
set_option maxRecDepth 100000
set_option maxHeartbeats 4000000
namespace L2
open PySem PySem.W PySem.Spec PyProof.Rows
section
open PySem.SeqAt
open PySem.AutoSeq1 (wpAny_loadPart')
open PySem.MeetsSeq PySem.MeetsSeq2 PySem.MeetsSeq3
end

section
variable {X : Cx} {K : PySem.W.Frag}
/-- t + u, whatever is empty -/
def rCatA (K : PySem.W.Frag) : R2 := fun x y H Q => ∃ a b xs ys, x = .ref a ∧ y = .ref b ∧ SqT K H a xs ∧ SqT K H b ys ∧ xs.length + ys.length ≤ sizeLine ∧
  (xs = [] → Q (.ref b) H) ∧ (xs ≠ [] → ys = [] → Q (.ref a) H) ∧ (xs ≠ [] → ys ≠ [] → ∀ p, H p = none → Q (.ref p) (upd H p (.tup (xs ++ ys))))
theorem op_catA : OpR X (binaryOp .Add) (rCatA X.K) := by
  intro pins s σ H x y v u Q I rx ry h
  obtain ⟨a, b, xs, ys, rfl, rfl, ha, hb, hz, q0, q1, q2⟩ := h
  by_cases hx : xs = []
  · cases rx
    cases ry
    obtain ⟨its, r1, p1, _⟩ := I.tuple ha
    obtain ⟨its2, r2, p2, _⟩ := I.tuple hb
    have e1 : its = [] := r1.nil_iff.mpr hx
    obtain ⟨⟨cls, dd, data, sl⟩, ho, hc, n, hd⟩ := id p1
    obtain ⟨⟨cls2, dd2, data2, sl2⟩, ho2, hc2, n2, hd2⟩ := id p2
    simp only at hc hd hc2 hd2
    subst hc hd hc2 hd2
    exact concat_meets ⟨_, ho, rfl⟩ ⟨_, ho2, rfl⟩ noFill_tuple_add seq_tuple_add PySem.F.slot_tuple_add PySem.F.entry_tuple_add (PySem.F.args_tuple_add_2 _ _) (tuple_addW0 a b its.toArray its2.toArray n n2 dd dd2 sl sl2 (by simp [e1])) ⟨ho, ho2, ⟨.ref b, H, I, rfl, q0 hx⟩⟩
  · exact op_catT pins s σ H _ _ v u Q I rx ry ⟨a, b, xs, ys, rfl, rfl, ha, hb, hx, hz, q1 hx, q2 hx⟩
end

section
open PySem.AutoSeq1 (wpAny_loadPart')
end
section
variable {X : Cx} {K : PySem.W.Frag}
theorem hu1 {k : Nat} {A : Around} (r : Room k A) : A.units + 1 < cLine := by have := r.units; omega
end
section
variable {X : Cx} {a b o i value : Expr} {x y : Str} {px py pt pt2 pos pos' : Pos} {kt k2 : Nat} {ta : TA} {td ty tv : TE}
theorem s_par (m n : Nat) (hN : X.N.Nodup) (ha : QA X [a, b] ta) (hc : X.calm = true := by rfl) (hi : X.N[m]? = some x := by rfl) (hj : X.N[n]? = some y := by rfl) (hij : m ≠ n := by decide)
    (hx : X.env.scope.names.lookup x = some .local := by rfl) (hy : X.env.scope.names.lookup y = some .local := by rfl)
    (hw : swappedStores [.Tuple [.Name x px, .Name y py] kt pt] (.Tuple [a, b] k2 pt2) X.env = pure (some [x, y]) := by rfl)
    (hs : swapsWithSole [.Tuple [.Name x px, .Name y py] kt pt] (.Tuple [a, b] k2 pt2) pos.line X.env = pure false := by rfl) :
    QS X (.Assign [.Tuple [.Name x px, .Name y py] kt pt] (.Tuple [a, b] k2 pt2) pos) (tPar m n ta) := ⟨ps_par hc hN hi hj hij hx hy ha.o hw hs⟩
theorem s_dput (hu : X.A.units + 1 < cLine) (ho : QE X o td) (hi : QE X i ty) (hv : QE X value tv) (hs : swapsWith value (some (.Subscript o i pos')) pos.line X.env = pure false := by rfl) :
    QS X (.Assign [.Subscript o i pos'] value pos) (sDPut td ty tv) := ⟨ps_dput hu ho.o hi.o hv.o hs⟩
theorem q_dnewT : QE X (.Dict [] [] pos) tDNewT := ⟨pe_dnewT⟩
end
end L2

set_option Elab.async false
set_option linter.all false
set_option maxRecDepth 100000
set_option maxHeartbeats 4000000
/-! towns: the mathematics -/
namespace RW
open PySem PySem.Spec PyProof.Rows L2
/-- the order of things that are_houses and are_ties ask for -/
def ltD : D → D → Bool
  | .str x, .str y => ltS x y
  | .tup [.str a, .str b], .tup [.str c, .str d] => ltP (a, b) (c, d)
  | _, _ => false
/-- each less than the next -/
def risingB (ds : List D) : Bool := (List.range (ds.length - 1)).all fun k => ltD (ds.getD k .non) (ds.getD (k + 1) .non)
def areHousesB : D → Bool | .tup ds => decide (1 ≤ ds.length) && decide (ds.length ≤ 10) && ds.all isNameD && risingB ds | _ => false
def areLikingsB : D → Bool | .tup ds => decide (ds.length ≤ 90) && ds.all isLikingB | _ => false
def areHandsB : D → Bool | .tup ds => decide (ds.length ≤ 90) && ds.all isHandB | _ => false
end RW
namespace RW
open PySem PySem.Spec PyProof.Rows L2
/-! unlike names -/
theorem repS_list (z : Str) (n : Nat) : (repS z n).cps.toList = (List.replicate n z.cps.toList).flatten := by
  unfold repS
  have key : ∀ (k : Nat) (acc : Array Nat), ((List.replicate k z.cps).foldl (· ++ ·) acc).toList = acc.toList ++ (List.replicate k z.cps.toList).flatten := by
    intro k
    induction k with
    | zero => intro acc; simp
    | succ k ih => intro acc; rw [List.replicate_succ, List.foldl_cons, ih, List.replicate_succ, List.flatten_cons, Array.toList_append, List.append_assoc]
  have := key n #[]
  simpa using this
theorem repS_one_list (c n : Nat) : (repS (one c) n).cps.toList = List.replicate n c := by
  rw [repS_list]
  show (List.replicate n [c]).flatten = _
  induction n with
  | zero => rfl
  | succ n ih => rw [List.replicate_succ, List.flatten_cons, ih, List.replicate_succ]; rfl
/-- all of one letter -/
def sameB (x : Str) : Bool := x.cps.toList.all fun c => some c == x.cps.toList.head?
theorem same_rep (c n : Nat) : sameB (repS (one c) n) = true := by
  unfold sameB
  rw [repS_one_list]
  cases n with
  | zero => rfl
  | succ n =>
    rw [List.all_eq_true]
    intro d hd
    rw [List.eq_of_mem_replicate hd]
    simp [List.replicate_succ]
def keptL : List Str := ["goal", "to", "by", "houses", "tie", "like", "hand", "keep", "put", "mark", "long", "from", "strike"]
theorem kept_ok : ∀ x ∈ keptL, isNameB x = true := by decide +kernel
theorem kept_same : ∀ x ∈ keptL, sameB x = false := by decide +kernel
theorem reps_ok : ∀ c ∈ lettersS.cps.toList, ∀ k ∈ List.range 8, isNameB (repS (one c) (k + 1)) = true := by decide +kernel
theorem letters_len : lettersS.length = 26 := by decide +kernel
theorem letters_at : ∀ k ∈ List.range 26, lettersS.cps.toList[k]? = some (97 + k) := by decide +kernel
theorem one_len (c : Nat) : (one c).length = 1 := rfl
def steps : List Nat := [1, 3, 5, 7, 9, 11]
theorem steps_nd : ∀ f ∈ List.range 26, ∀ st ∈ steps, ((List.range 13).map fun k => (f + st * k) % 26).Nodup := by decide +kernel
def nmS (f st k : Nat) : Str := repS (one (97 + (f + st * k) % 26)) (1 + (k * k + f) % 8)
def kwS (sp k : Nat) : Str := keptL.getD ((sp + 3 * k) % 13) ""
def nameS (f st sp j k : Nat) : Str := if k < j then kwS sp k else nmS f st k
theorem kws_nd : ∀ sp ∈ List.range 13, ((List.range 4).map fun k => kwS sp k).Nodup := by decide +kernel
theorem kw_mem (sp k : Nat) : kwS sp k ∈ keptL := by
  unfold kwS
  have h : (sp + 3 * k) % 13 < keptL.length := Nat.mod_lt _ (by decide)
  simp [List.getD, h]
theorem nd_ne {α : Type} {l : List α} (h : l.Nodup) {i j : Nat} (hi : i < l.length) (hj : j < l.length) (hij : i ≠ j) : l[i] ≠ l[j] := fun z => hij ((List.getElem_inj h).mp z)
theorem names_nodup {f st sp j m : Nat} (hf : f < 26) (hst : st ∈ steps) (hsp : sp < 13) (hj : j ≤ 4) (hm : m ≤ 13) : ((List.range m).map (nameS f st sp j)).Nodup := by
  have key : ∀ a b, a < b → b < 13 → nameS f st sp j a ≠ nameS f st sp j b := by
    intro a b hab hb
    unfold nameS
    by_cases h1 : a < j
    · rw [if_pos h1]
      by_cases h2 : b < j
      · rw [if_pos h2]
        have := nd_ne (kws_nd sp (List.mem_range.mpr hsp)) (i := a) (j := b) (by simp; omega) (by simp; omega) (by omega)
        simpa using this
      · rw [if_neg h2]
        intro z
        have e1 := kept_same _ (kw_mem sp a)
        rw [z] at e1
        unfold nmS at e1
        rw [same_rep] at e1
        cases e1
    · rw [if_neg h1, if_neg (by omega)]
      intro z
      have hh : (nmS f st a).cps.toList.head? = (nmS f st b).cps.toList.head? := by rw [z]
      unfold nmS at hh
      rw [repS_one_list, repS_one_list, Nat.add_comm 1, Nat.add_comm 1, List.replicate_succ, List.replicate_succ] at hh
      simp only [List.head?_cons, Option.some.injEq] at hh
      have := nd_ne (steps_nd f (List.mem_range.mpr hf) st hst) (i := a) (j := b) (by simp; omega) (by simp; omega) (by omega)
      simp at this
      omega
  rw [List.nodup_iff_pairwise_ne, List.pairwise_map]
  refine List.Pairwise.imp_of_mem (fun {a b} ha hb hab => ?_) (List.pairwise_lt_range (n := m))
  exact key a b hab (by have := List.mem_range.mp hb; omega)

theorem nm_ok (f st k : Nat) : isNameB (nmS f st k) = true := by
  unfold nmS
  rw [Nat.add_comm 1]
  have hr : (f + st * k) % 26 < 26 := Nat.mod_lt _ (by decide)
  exact reps_ok _ (List.mem_of_getElem? (letters_at _ (List.mem_range.mpr hr))) _ (List.mem_range.mpr (Nat.mod_lt _ (by decide)))
theorem name_ok (f st sp j k : Nat) : isNameB (nameS f st sp j k) = true := by
  unfold nameS
  split
  · exact kept_ok _ (kw_mem sp k)
  · exact nm_ok f st k
theorem name_set {f st sp j m : Nat} (hj : j < m) : ((List.range m).map (nameS f st sp j)).set j (kwS sp j) = (List.range m).map (nameS f st sp (j + 1)) := by
  apply List.ext_getElem?
  intro i
  rw [List.getElem?_set]
  by_cases e : j = i
  · subst e
    rw [if_pos rfl, if_pos (by simp; exact hj)]
    simp [hj, nameS]
  · rw [if_neg e]
    rcases Nat.lt_or_ge i m with h | h
    · rw [List.getElem?_map, List.getElem?_map, List.getElem?_range h]
      show some _ = some _
      congr 1
      unfold nameS
      by_cases h1 : i < j
      · rw [if_pos h1, if_pos (by omega)]
      · rw [if_neg h1, if_neg (by omega)]
    · rw [List.getElem?_eq_none (by simpa using h), List.getElem?_eq_none (by simpa using h)]
theorem kept_at {sp k : Nat} : keptL[(sp + 3 * k) % 13]? = some (kwS sp k) := by
  unfold kwS
  have h : (sp + 3 * k) % 13 < keptL.length := Nat.mod_lt _ (by decide)
  simp [List.getD, h]

theorem cut_drop {xs : List V} {m : Nat} : cutV xs (some (m : Int)) none = xs.drop m := by
  unfold cutV
  have e1 : HT.sIx xs.length xs.length none = xs.length := rfl
  have e2 : HT.sIx xs.length 0 (some (m : Int)) = min m xs.length := by
    unfold HT.sIx
    have h : ¬ (m : Int) < 0 := by omega
    simp only [if_neg h, Int.toNat_natCast]
  rw [e1, e2]
  rcases Nat.lt_or_ge m xs.length with h | h
  · rw [Nat.min_eq_left (by omega), List.take_of_length_le (by rw [List.length_drop]; omega)]
  · rw [Nat.min_eq_right h, List.drop_of_length_le (Nat.le_refl _), List.drop_of_length_le h]; simp
/-- a comprehension that draws, whatever it walks -/
theorem comp_drawsW {J : It} {N : Nat} {Pw : Nat → V → Prop} {ok : Hp → Prop} {a : Addr} {m c : Int} {Pd : Nat → D → Prop} {H : Hp} {te : TE} {src : List (Option Nat)} {σ σr : L2.St} {Q : VK} (wk : Wk J N Pw ok) (hok : ∀ H', Keep a H H' → ok H') (hs : capt src σ = none :: σr) (hH : Hand H a m) (hN : N ≤ 900) (hc : 0 ≤ c)
    (he : ∀ (i : Nat) (x : V) (H1 : Hp) (Q1 : VK), i < N → Hand H1 a (m + c * i) → Keep a H H1 → (∀ v d H2, Rep H2 v d → Pd i d → Hand H2 a (m + c * i + c) → Keep a H1 H2 → Q1 v H2) → te (some x :: σr) H1 Q1)
    (q : ∀ l vs ds H', H l = none → H' l = some (.lst vs) → RepL H' vs ds → ds.length = N → (∀ i d, ds[i]? = some d → Pd i d) → Hand H' a (m + c * N) → Keep a H H' → Q (.ref l) H') : CompGo (gName 0) tYes te src σ Q J H := by
  refine comp_by wk (fun l i ys σ' H' => (∃ o, σ' = o :: σr) ∧ (∃ ds : List D, RepL H' ys ds ∧ ds.length = i ∧ ∀ j d, ds[j]? = some d → Pd j d) ∧ Hand H' a (m + c * i) ∧ Keep a H H') ?_ (fun _ _ _ _ _ _ p => hok _ p.2.2.2) ?_ ?_
  · exact fun l hl => ⟨⟨_, hs⟩, ⟨[], RepL.nil, rfl, fun j d z => by simp at z⟩, (hH.new hl).mono (by simp), Keep.new hl⟩
  · rintro l i y ys σ' H1 hl hi hy ⟨⟨o, rfl⟩, ⟨ds, hr, hl2, hp⟩, hH1, k1⟩ hl'
    have nl := hH.ne hl
    refine he i y H1 _ hi hH1 k1 fun v d H2 rv pd hH2 k2 => ?_
    have hl2' : H2 l = some (.lst ys) := k2 _ _ nl hl'
    have m2 : Mono H1 H2 := Mono.keep k2 hH1 hH2
    have m3 : Mono H2 (upd H2 l (.lst (ys ++ [v]))) := Mono.lset hl2'
    refine ⟨hl2', ?_, ⟨_, rfl⟩, ⟨ds ++ [d], ((hr.mono m2).append (.cons rv .nil)).mono m3, ?_, ?_⟩, (hH2.updNe nl).mono ?_, (k1.trans k2).updNew hl⟩
    · have := hr.1
      exact small1000 (by omega)
    · rw [List.length_append, hl2]; rfl
    · intro j e he
      by_cases hj : j < ds.length
      · rw [List.getElem?_append_left hj] at he
        exact hp j e he
      · rw [List.getElem?_append_right (by omega)] at he
        have hj2 : j = ds.length := by
          rcases Nat.lt_or_ge ds.length j with z | z
          · rw [List.getElem?_eq_none (by simp; omega)] at he; cases he
          · omega
        subst hj2
        simp at he
        subst he
        rw [hl2]; exact pd
    · rw [show ((i + 1 : Nat) : Int) = (i : Int) + 1 by omega, Int.mul_add, Int.mul_one]
      omega
  · rintro l ys σ' H1 hl ⟨⟨o, rfl⟩, ⟨ds, hr, hl2, hp⟩, hH1, k1⟩ hl'
    exact q l ys ds H1 hl hl' hr hl2 hp hH1 k1
/-! a town as it is drawn -/
def pairD (p : Str × Str) : D := .tup [.str p.1, .str p.2]
structure TownOk (g : Str) (hs : List Str) (ps : List (Str × Str)) (lks hds : List D) : Prop where
  rise : hs.Pairwise (fun a b => ltS a b = true)
  one : 1 ≤ hs.length
  ten : hs.length ≤ 10
  names : ∀ x ∈ hs, isNameB x = true
  goal : g ∈ hs
  riseP : ps.Pairwise (fun a b => ltP a b = true)
  ties : ∀ p ∈ ps, p.1 ∈ hs ∧ p.2 ∈ hs ∧ ltS p.1 p.2 = true
  ll : lks.length = hs.length
  lh : hds.length = hs.length
  likes : ∀ d ∈ lks, areLikingsB d = true
  hands : ∀ d ∈ hds, areHandsB d = true
def townD (g : Str) (hs : List Str) (ps : List (Str × Str)) (lks hds : List D) : D := .tup [.str g, .tup (hs.map D.str), .tup (ps.map pairD), .tup lks, .tup hds]

section
variable {te tf : TE} {ta : TA} {tb : TS} {De : Ends} {σ : L2.St} {H : Hp} {d : D} {ds es : List D} {K : PySem.W.Frag} {k : Nat}
end
end RW

set_option Elab.async false
set_option linter.all false
set_option maxRecDepth 100000
set_option maxHeartbeats 4000000
/-! Rows kept and made, all ties. -/
namespace RW
open PySem PySem.Spec PyProof.Rows L2
section
variable {te tf : TE} {σ : L2.St} {H : Hp} {d : D} {ds es : List D} {K : PySem.W.Frag}
/-- a comprehension that keeps some and makes a thing of each -/
theorem comp_fm {J : It} {vs : List V} {f : D → D} {g : D → Bool} {ok : Hp → Prop} {tc : TT} {src : List (Option Nat)} {σr : L2.St} {Q : VK} (wk : Wk J vs.length (fun i x => vs[i]? = some x) ok) (hok : ∀ H', Same H H' → ok H') (r : RepL H vs ds) (hl : ds.length ≤ 900) (e : capt src σ = none :: σr)
    (hc : ∀ (x : V) (d : D) (H1 : Hp) (Q1 : Bool → Hp → Prop), Same H H1 → Rep H1 x d → d ∈ ds → (∀ H2, Same H1 H2 → Q1 (g d) H2) → tc (some x :: σr) H1 Q1)
    (he : ∀ (x : V) (d : D) (H1 : Hp), Same H H1 → Rep H1 x d → d ∈ ds → Dsp te (some x :: σr) H1 (f d))
    (q : ∀ l us H', Same H H' → H l = none → H' l = some (.lst us) → RepL H' us ((ds.filter g).map f) → Q (.ref l) H') : CompGo (gName 0) tc te src σ Q J H := by
  refine comp_by wk (fun l i ys σ' H' => (∃ o, σ' = o :: σr) ∧ RepL H' ys (((ds.take i).filter g).map f) ∧ Same H H') ?_ ?_ ?_ ?_
  · exact fun l h' => ⟨⟨none, e⟩, RepL.nil, Same.new h'⟩
  · exact fun l i ys σ' H' _ p => hok H' p.2.2
  · rintro l i y ys σ' H1 h' hi hy ⟨⟨o, rfl⟩, ry, s1⟩ hl'
    obtain ⟨d, hd, rd⟩ := r.get hy
    refine hc y d H1 _ s1 (rd.same s1) (List.mem_of_getElem? hd) fun H2 s2 => ?_
    have tk : ((ds.take (i + 1)).filter g).map f = ((ds.take i).filter g).map f ++ ([d].filter g).map f := by
      rw [List.take_add_one, hd, List.filter_append, List.map_append]; rfl
    rw [tk]
    cases hg : g d with
    | false =>
      have e0 : ([d].filter g).map f = [] := by simp [hg]
      rw [e0, List.append_nil]
      exact ⟨s2 _ _ hl', ⟨_, rfl⟩, ry.mono (.of s2), s1.trans s2⟩
    | true =>
      have e0 : ([d].filter g).map f = [f d] := by simp [hg]
      rw [e0]
      refine he y d H2 (s1.trans s2) ((rd.same s1).same s2) (List.mem_of_getElem? hd) H2 _ (Same.refl _) fun v H3 s3 rv => ?_
      refine ⟨s3 _ _ (s2 _ _ hl'), ?_, ⟨_, rfl⟩, ?_, ?_⟩
      · have h1 := ry.1
        have h2 := List.length_filter_le g (ds.take i)
        rw [List.length_map] at h1
        rw [List.length_take] at h2
        exact small1000 (by omega)
      · exact ((ry.mono (.of (s2.trans s3))).append (.cons rv .nil)).mono (.lset (s3 _ _ (s2 _ _ hl')))
      · exact fun c o e => by
          rw [upd_ne (ne_of_none e h')]
          exact s3 _ _ (s2 _ _ (s1 _ _ e))
  · rintro l ys σ' H1 h' ⟨⟨o, rfl⟩, ry, s1⟩ hl'
    rw [r.1, List.take_length] at ry
    exact q l ys H1 s1 h' hl' ry
end
theorem strs_rep {H : Hp} {hs : List Str} (h : ∀ x ∈ hs, x.length ≤ 1000) : RepL H (hs.map V.str) (hs.map D.str) := by
  refine ⟨by rw [List.length_map, List.length_map], fun i v d hv hd => ?_⟩
  rw [List.getElem?_map] at hv hd
  cases e : hs[i]? with
  | none => rw [e] at hv; cases hv
  | some x =>
    rw [e] at hv hd
    cases hv
    cases hd
    exact .str x (h x (List.mem_of_getElem? e))
theorem flat_len {α β : Type} {F : α → List β} {m : Nat} (hF : ∀ a, (F a).length ≤ m) : ∀ l : List α, (l.flatMap F).length ≤ l.length * m
  | [] => Nat.zero_le _
  | a :: l => by
    rw [List.flatMap_cons, List.length_append, List.length_cons, Nat.succ_mul]
    have := flat_len hF l
    have := hF a
    omega
end RW

set_option Elab.async false
set_option linter.all false
set_option maxRecDepth 100000
set_option maxHeartbeats 4000000
/-! == and in of things with things in them -/
namespace RW
open PySem PySem.Spec PyProof.Rows L2
inductive Tr (H : Hp) : V → PyData → Prop
  | non : Tr H .non .none
  | bl (b : Bool) : Tr H (.bl b) (.bool b)
  | int (i : Int) : Tr H (.int i) (.int i)
  | str (x : Str) (h : PyData.strOk x = true) : Tr H (.str x) (.str x)
  | tup {p : Addr} {vs : List V} {ds : List PyData} (e : H p = some (.tup vs)) (hl : vs.length = ds.length) (h : ∀ (i : Nat) (v : V) (d : PyData), vs[i]? = some v → ds[i]? = some d → Tr H v d) : Tr H (.ref p) (.tuple ds)
  | lst {p : Addr} {vs : List V} {ds : List PyData} (e : H p = some (.lst vs)) (hl : vs.length = ds.length) (h : ∀ (i : Nat) (v : V) (d : PyData), vs[i]? = some v → ds[i]? = some d → Tr H v d) : Tr H (.ref p) (.list ds)
theorem readsAll_of {h : Heap} : ∀ {vs : List V} {us : List Value} {ds : List PyData}, Vals vs us → vs.length = ds.length → (∀ (i : Nat) (v : V) (d : PyData), vs[i]? = some v → ds[i]? = some d → ∀ u, RelV v u → ∃ as, Reads h u d as) → ∃ bs, ReadsAll h us ds bs
  | _, _, [], .nil, _, _ => ⟨_, .nil⟩
  | v :: vs, u :: us, d :: ds, .cons r t, hl, hh => by
    obtain ⟨as, ha⟩ := hh 0 v d rfl rfl u r
    obtain ⟨bs, hb⟩ := readsAll_of t (by simpa using hl) fun i v' d' h1 h2 => hh (i + 1) v' d' h1 h2
    exact ⟨_, .cons ha hb⟩
  | [], _, d :: ds, .nil, hl, _ => by simp at hl
  | v :: vs, u :: us, [], .cons r t, hl, _ => by simp at hl
theorem Tr.reads {X : Cx} {pins : List (Addr × Obj)} {σ : L2.St} {H : Hp} {s : Shared} (I : Inv X pins σ H s) {x : V} {d : PyData} (t : Tr H x d) : ∀ v, RelV x v → ∃ as, Reads s.heap v d as := by
  induction t with
  | non => intro v r; cases r; exact ⟨_, .none⟩
  | bl b => intro v r; cases r; exact ⟨_, .bool b⟩
  | int i => intro v r; obtain ⟨t, rfl⟩ := r; exact ⟨_, .int i t⟩
  | str x h => intro v r; obtain ⟨t, rfl⟩ := r; exact ⟨_, .str x t⟩
  | tup e hl h ih =>
    intro v r
    cases r
    obtain ⟨its, rv, ⟨o, ho, hc, n, hd⟩, _⟩ := I.tuple (SqT.of e)
    obtain ⟨bs, hb⟩ := readsAll_of (h := s.heap) rv hl ih
    exact ⟨_, .tuple ho hc hd (by simpa using hb)⟩
  | lst e hl h ih =>
    intro v r
    cases r
    obtain ⟨its, n, rv, ho, _⟩ := I.lst e
    obtain ⟨bs, hb⟩ := readsAll_of (h := s.heap) rv hl ih
    exact ⟨_, .list ho rfl rfl (by simpa using hb)⟩
theorem canAll_of : ∀ {vs : List V} {ds : List PyData}, vs.length = ds.length → (∀ (i : Nat) (v : V) (d : PyData), vs[i]? = some v → ds[i]? = some d → d.canLay0 = true) → PyData.canLayAll0 ds = true
  | _, [], _, _ => rfl
  | v :: vs, d :: ds, hl, hh => by
    rw [PyData.canLayAll0, hh 0 v d rfl rfl, canAll_of (vs := vs) (ds := ds) (by simpa using hl) fun i v' d' h1 h2 => hh (i + 1) v' d' h1 h2]; rfl
  | [], d :: ds, hl, _ => by simp at hl
theorem Tr.can {H : Hp} {x : V} {d : PyData} (t : Tr H x d) : d.canLay0 = true := by
  induction t with
  | non => rfl
  | bl b => rfl
  | int i => rfl
  | str x h => simp only [PyData.canLay0]; exact h
  | tup e hl h ih => rw [PyData.canLay0]; exact canAll_of hl ih
  | lst e hl h ih => rw [PyData.canLay0]; exact canAll_of hl ih
section
variable {X : Cx}
def rEqD : R2 := fun x y H Q => ∃ d e, Tr H x d ∧ Tr H y e ∧ min d.depth e.depth ≤ 60 ∧ Q (.bl (d.eqv e)) H
def rNeD : R2 := fun x y H Q => ∃ d e, Tr H x d ∧ Tr H y e ∧ min d.depth e.depth ≤ 60 ∧ Q (.bl (!d.eqv e)) H
theorem op_eqD (hu : X.A.units + 64 < cLine) : OpR X (compareOp .Eq) rEqD := by
  intro pins s σ H x y v u Q I rx ry h
  obtain ⟨d, e, t1, t2, hd, q⟩ := h
  obtain ⟨as, r1⟩ := t1.reads I v rx
  obtain ⟨bs, r2⟩ := t2.reads I u ry
  exact SeqAt.compareEq_reads r1 r2 t1.can t2.can (by omega) ⟨.bl _, H, I, rfl, q⟩
theorem op_neD (hu : X.A.units + 64 < cLine) : OpR X (compareOp .NotEq) rNeD := by
  intro pins s σ H x y v u Q I rx ry h
  obtain ⟨d, e, t1, t2, hd, q⟩ := h
  obtain ⟨as, r1⟩ := t1.reads I v rx
  obtain ⟨bs, r2⟩ := t2.reads I u ry
  exact SeqAt.compareNe_reads r1 r2 t1.can t2.can (by omega) ⟨.bl _, H, I, rfl, q⟩
theorem hu64 {k : Nat} {A : Around} (r : Room k A) : A.units + 64 < cLine := by have := r.un; omega
end
end RW

set_option Elab.async false
set_option linter.all false
set_option maxRecDepth 100000
set_option maxHeartbeats 4000000
/-! t[::-1] -/
namespace HT
open PySem PySem.Spec PyProof.Rows
section
variable {prog : Program} {w : World} {A : Around} {E : Value → Shared → Prop} {s : Shared}
end
end HT
namespace L2
open PySem PySem.Spec PyProof.Rows
section
variable {X : Cx} {e : Expr} {te : TE} {p1 p2 p3 pos : Pos} {tk : Tok}
end
end L2
namespace HT
open PySem PySem.Spec PyProof.Rows
section
variable {prog : Program} {w : World} {A : Around} {E : Value → Shared → Prop} {s : Shared}
end
end HT
namespace L2
open PySem PySem.Spec PyProof.Rows
section
variable {X : Cx} {K : PySem.W.Frag}
end
end L2
namespace RW
open PySem PySem.Spec PyProof.Rows L2
section
variable {te tf : TE} {ta : TA} {σ : L2.St} {H : Hp} {d : D} {ds es : List D} {K : PySem.W.Frag}
end
end RW
namespace RW
open PySem PySem.Spec PyProof.Rows L2
theorem here_kept : ∀ x ∈ keptL, x ≠ "nowhere" := by decide +kernel
theorem here_same : sameB "nowhere" = false := by decide +kernel
theorem name_here (f st sp j k : Nat) : nameS f st sp j k ≠ "nowhere" := by
  unfold nameS
  split
  · exact here_kept _ (kw_mem sp k)
  · intro z
    have e := here_same
    rw [← z] at e
    unfold nmS at e
    rw [same_rep] at e
    cases e
end RW

set_option Elab.async false
set_option linter.all false
set_option maxRecDepth 100000
set_option maxHeartbeats 4000000
/-! rows of spoilt things; what is no town -/
namespace RW
open PySem PySem.Spec PyProof.Rows L2
section
variable {te : TE} {ta : TA} {tb : TS} {De : Ends} {σ : L2.St} {H : Hp} {d : D} {ds es : List D} {K : PySem.W.Frag} {k j : Nat} {g : D → Bool} {l lf : Addr} {m : Nat}
end
/-! what is no town -/
section
variable {x h t l a : D}
end
end RW

set_option Elab.async false
set_option linter.all false
set_option maxRecDepth 100000
set_option maxHeartbeats 4000000
namespace RW
open PySem PySem.Spec PyProof.Rows L2
section
variable {te tf : TE} {ta : TA} {tb : TS} {De : Ends} {σ : L2.St} {H : Hp} {d : D} {ds es : List D} {K : PySem.W.Frag} {k j : Nat} {g : D → Bool} {m : Nat}
theorem none_of_same {H H' : Hp} {p : Addr} (s : Same H H') (h : H' p = none) : H p = none := by
  cases e : H p with
  | none => rfl
  | some o => have := s _ _ e; rw [h] at this; cases this
end
end RW
namespace RW
open PySem PySem.Spec PyProof.Rows L2
theorem name_strOk {x : Str} (h : isNameB x = true) : PyData.strOk x = true := by
  unfold isNameB at h
  simp only [Bool.and_eq_true] at h
  have h2 := h.1.2
  unfold PyData.strOk
  rw [Array.all_eq_true']
  intro c hc
  have := List.all_eq_true.mp h2 c (by simpa using hc)
  unfold letterC at this
  simp only [Bool.and_eq_true, decide_eq_true_eq] at this
  exact decide_eq_true (by omega)
theorem nodup_len {α : Type} [DecidableEq α] : ∀ {l m : List α}, l.Nodup → (∀ x ∈ l, x ∈ m) → l.length ≤ m.length
  | [], m, _, _ => Nat.zero_le _
  | a :: l, m, hn, hs => by
    have ha := hs a List.mem_cons_self
    have := nodup_len (l := l) (m := m.erase a) (List.nodup_cons.mp hn).2 fun x hx => (List.mem_erase_of_ne (fun z : x = a => (List.nodup_cons.mp hn).1 (by rw [← z]; exact hx))).mpr (hs x (List.mem_cons_of_mem _ hx))
    rw [List.length_erase_of_mem ha] at this
    have : 1 ≤ m.length := List.length_pos_of_mem ha
    rw [List.length_cons]
    omega
theorem TownOk.lp {g : Str} {hs : List Str} {ps : List (Str × Str)} {lks hds : List D} (T : TownOk g hs ps lks hds) : ps.length ≤ 100 := by
  have nd : ps.Nodup := T.riseP.imp fun {a b} h z => by rw [z, ltP_irr] at h; cases h
  have := nodup_len (m := hs.flatMap fun a => hs.map fun b => (a, b)) nd fun p hp => by
    obtain ⟨h1, h2, _⟩ := T.ties p hp
    exact List.mem_flatMap.mpr ⟨p.1, h1, List.mem_map.mpr ⟨p.2, h2, rfl⟩⟩
  have h2 := flat_len (F := fun a => hs.map fun b => (a, b)) (m := 10) (fun a => by rw [List.length_map]; exact T.ten) hs
  have := T.ten
  omega
end RW
namespace RW
theorem if_t {b : Bool} {X Y : Prop} (h : b = true) (x : X) : if b = true then X else Y := by rw [if_pos h]; exact x
theorem if_f {b : Bool} {X Y : Prop} (h : b = false) (y : Y) : if b = true then X else Y := by rw [if_neg (by rw [h]; decide)]; exact y
end RW

set_option Elab.async false
set_option linter.all false
set_option maxRecDepth 100000
set_option maxHeartbeats 4000000
/-! sorted of a tuple or a list of texts, some of them alike -/
namespace L2
open PySem PySem.W PySem.Spec PyProof.Rows
section
variable {prog : Program} {w : World} {A : Around} {E : Value → Shared → Prop} {s : Shared}
theorem collect_any {r : Addr} {T : String} {o : Obj} {vs : List Value} {n : Nat} {R : List Value → Shared → Prop} (hT : T = "list" ∨ T = "tuple") (ho : s.heap.get? r = some o) (hc : o.cls = .type T) (hd : o.data = .seq vs.toArray n) (hz : vs.length ≤ sizeLine)
    (q : ∀ (h' : Heap), (∀ b o, s.heap.get? b = some o → h'.get? b = some o) → s.heap.objs.size < h'.objs.size → R vs { s with heap := h' }) : wpAny (model prog w) A (collect (.ref r)) R E s := by
  have lt := Heap.lt_size ho
  have hne : r ≠ s.heap.objs.size := Nat.ne_of_lt lt
  have g0 : (s.heap.push { cls := .type "list", data := .seq ([] : List Value).toArray }).get? s.heap.objs.size = some (seqObj "list" #[] 0) := Heap.get?_push_size _ rfl
  have gr : (s.heap.push { cls := .type "list", data := .seq ([] : List Value).toArray }).get? r = some o := Heap.get?_push_of_some _ ho
  obtain ⟨e1, g1⟩ : ∃ e1, ((s.heap.push { cls := .type "list", data := .seq ([] : List Value).toArray }).update s.heap.objs.size (Obj.mapSeq fun x => x ++ vs.toArray)).get? s.heap.objs.size = some (seqObj "list" ((#[] : Array Value) ++ vs.toArray) e1) := ⟨_, get?_update_seq g0 fun x => x ++ vs.toArray⟩
  have u1 := Heap.SameBut.update (s.heap.push { cls := .type "list", data := .seq ([] : List Value).toArray }) s.heap.objs.size (Obj.mapSeq fun x => x ++ vs.toArray)
  unfold collect
  refine wpAny_bind (wpAny_runValue (codeAny_builtin entry_proto_collect' (by
    rw [Around.under_plainId PySem.F.plain_proto_collect _]
    show wpAny _ A.in1 (newList [] >>= fun l => again (.builtin "list.__iadd__" ⟨[l, .ref r], []⟩)) _ _ s
    refine wpAny_bind (wpAny_newObj_type (wpAny_pure ⟨plainId_quiet PySem.F.plain_list_iadd _, codeAny_builtin entry_list_iadd' (by
      rw [Around.under_plainId PySem.F.plain_list_iadd _]
      show wpAny _ A.in1 (Builtin.List.listExtendWith (.ref s.heap.objs.size) (.ref r) (.ref s.heap.objs.size)) _ _ _
      unfold Builtin.List.listExtendWith
      have hty : ({ s with heap := s.heap.push { cls := .type "list", data := .seq ([] : List Value).toArray } } : Shared).TypeIs (.ref r) T := ⟨o, gr, hc⟩
      refine wpAny_bind (wpAny_typeOf hty ?_)
      rw [if_pos (by rcases hT with rfl | rfl <;> simp)]
      refine wpAny_bind (listItems_at gr hd (wpAny_bind (listItems_at g0 rfl ?_)))
      rw [if_neg (by simp)]
      refine wpAny_bind (listUpdate_at g0 rfl ?_ (Nat.zero_le _) (by show ((#[] : Array Value) ++ vs.toArray).size ≤ _; simp; omega))
      refine wpAny_pure ?_
      show wpAny _ A (load s.heap.objs.size >>= _) _ _ _
      refine wpAny_bind (wpAny_load g1 (wpAny_pure ?_))
      have ev : ((#[] : Array Value) ++ vs.toArray).toList = vs := by simp
      show R ((#[] : Array Value) ++ vs.toArray).toList _
      rw [ev]
      exact q _ (fun b o e => (u1.2 b (Nat.ne_of_lt (Heap.lt_size e))).trans (Heap.get?_push_of_some _ e)) (Heap.lt_size g1))⟩)))))
theorem sorted_strs_any {l : Addr} {T : String} {o : Obj} {vs : List Value} {n : Nat} {ss : List Str} {Q : Value → Shared → Prop} (hT : T = "list" ∨ T = "tuple") (ho : s.heap.get? l = some o) (hc : o.cls = .type T) (hd : o.data = .seq vs.toArray n) (hS : StrsAre vs ss) (h64 : vs.length < 64)
    (q : ∀ (D : Addr) (out : Array Value) (ss' : List Str) (h' : Heap) (e : Nat), StrsAre out.toList ss' → ss'.Perm ss → sortedS ss' = true → (∀ b o, s.heap.get? b = some o → h'.get? b = some o) → s.heap.objs.size ≤ D → h'.get? D = some (seqObj "list" out e) → Q (.ref D) { s with heap := h' }) :
    wpAny (model prog w) A (call (.builtin "sorted") [.ref l]) Q E s := by
  refine Calls.call_function_entry kind_sorted plain_sorted entry_sorted (args_sorted1 _) ?_
  unfold Builtin.«sorted»
  refine wpAny_bind (m := checkCount "sorted" 1 1 _) (wpAny_pure (wpAny_bind (collect_any hT ho hc hd (by rw [sizeLine_eq]; omega) fun h1 kp gr0 => ?_)))
  refine wpAny_bind (wpAny_newList ?_ (by show vs.length ≤ _; rw [sizeLine_eq]; omega))
  have hD : (h1.push (seqObj "list" vs.toArray 0)).get? h1.objs.size = some (seqObj "list" vs.toArray 0) := Heap.get?_push_size _ rfl
  have k2 : ∀ b o, s.heap.get? b = some o → (h1.push (seqObj "list" vs.toArray 0)).get? b = some o := fun b o e => Heap.get?_push_of_some _ (kp b o e)
  have gr : s.heap.objs.size ≤ h1.objs.size := Nat.le_of_lt gr0
  show wpAny _ _ _ _ _ { s with heap := h1.push (seqObj "list" vs.toArray 0) }
  refine wpAny_bind (wpAny_holding (wpAny_call_entry slot_list_sort ⟨_, hD, rfl⟩ entry_list_sort (list_sort_treeK strKind_oneLt (s := { s with heap := h1.push (seqObj "list" vs.toArray 0) }) hD hS.keysOf (fun v1 v2 rest e => ?_) h64 fun st' hp hs => ?_) (args_list_sort _)))
  · subst e
    exact keyKind_strs hS
  · obtain ⟨ss', a1, a2, a3⟩ := sorted_out_str hS hp hs
    obtain ⟨e, he⟩ := sortedHeap_at (h := h1.push (seqObj "list" vs.toArray 0)) (vs := vs) (out := Array.map (fun x => x.snd) (arrOf st')) hD
    refine ⟨_, rfl, wpAny_pure ⟨_, rfl, q h1.objs.size _ ss' _ e a1 a2 a3 (fun b o hb => ?_) gr he⟩⟩
    have lb := Heap.lt_size hb
    rw [sortedHeap_old (Nat.ne_of_lt (Nat.lt_of_lt_of_le lb gr)) (Heap.lt_size (k2 b o hb))]
    exact k2 b o hb
end
section
variable {X : Cx} {K : PySem.W.Frag}
/-- sorted of texts, in a list or a tuple -/
def rSorted (K : PySem.W.Frag) : List V → Hp → VK → Prop := fun xs H Q => ∃ (p : Addr) (ss : List Str), xs = [.ref p] ∧ (SqL K H p (ss.map V.str) ∨ SqT K H p (ss.map V.str)) ∧ ss.length < 64 ∧ ∀ (ss' : List Str) l, ss'.Perm ss → sortedS ss' = true → H l = none → Q (.ref l) (upd H l (.lst (ss'.map V.str)))
theorem call_sortedA : CallR X (.builtin "sorted") (rSorted X.K) := by
  intro pins s σ H xs us Q I r h
  obtain ⟨p, ss, rfl, hq, h64, q⟩ := h
  obtain ⟨u, rfl, ru⟩ := vals1 r
  cases ru
  have key : ∀ {its : List Value} {T : String} {o : Obj} {n : Nat}, T = "list" ∨ T = "tuple" → s.heap.get? p = some o → o.cls = .type T → o.data = .seq its.toArray n → Vals (ss.map V.str) its → wpAny (model X.prog X.w) X.A (call (.builtin "sorted") [.ref p]) (EP X pins σ Q) X.xe s := by
    intro its T o n hT ho hc hd rv
    have hS := strsAre_of rv
    have hl := rv.length
    rw [List.length_map] at hl
    refine sorted_strs_any hT ho hc hd hS (by omega) fun D out ss' h' e a1 a2 a3 kp hD he => ?_
    refine ⟨.ref D, _, I.laid (a := D) (o := .lst (ss'.map V.str)) (t' := s.toks) kp hD ⟨?_, out.toList, e, ?_, ?_⟩, rfl, q ss' D a2 a3 (I.hok.fresh hD)⟩
    · rw [List.length_map, a2.length_eq]; exact Nat.le_of_lt (small1000 (by omega))
    · have mk : ∀ {vs : List Value} {zs : List Str}, StrsAre vs zs → Vals (zs.map V.str) vs := by
        intro vs zs h
        induction h with
        | nil => exact .nil
        | cons x t _ ih => exact .cons ⟨t, rfl⟩ ih
      exact mk a1
    · rw [Array.toArray_toList]; exact he
  rcases hq with hq | hq
  · obtain ⟨its, rv, pl, hz⟩ := I.list hq
    obtain ⟨o, ho, hc, n, hd⟩ := pl.isList
    exact key (.inl rfl) ho hc hd rv
  · obtain ⟨its, rv, pl, hz⟩ := I.tuple hq
    obtain ⟨o, ho, hc, n, hd⟩ := pl
    exact key (.inr rfl) ho hc hd rv
end
end L2

set_option Elab.async false
set_option linter.all false
set_option maxRecDepth 100000
set_option maxHeartbeats 4000000
/-! ways and neighbours -/
namespace RW
open PySem PySem.Spec PyProof.Rows L2
theorem in_strs {hs : List Str} {x : Str} : inV (.str x) (hs.map V.str) = hs.any fun y => decide (y = x) := by
  unfold inV
  rw [List.any_map]
  congr 1
theorem flat_strs {hs : List Str} : (hs.map V.str).all flatV = true := by
  rw [List.all_map, List.all_eq_true]
  exact fun _ _ => rfl
theorem rep_strs {H : Hp} {v : V} {xs : List Str} (h : Rep H v (.tup (xs.map D.str))) : ∃ p, v = .ref p ∧ H p = some (.tup (xs.map V.str)) := by
  obtain ⟨p, vs, rfl, hp, r, _⟩ := h.ofT
  refine ⟨p, rfl, ?_⟩
  have e : vs = xs.map V.str := by
    apply List.ext_getElem?
    intro i
    rcases Nat.lt_or_ge i xs.length with hi | hi
    · have hv : i < vs.length := by rw [r.1, List.length_map]; exact hi
      have := r.2 i vs[i] (.str xs[i]) (by simp [hv]) (by simp [hi])
      rw [List.getElem?_eq_getElem hv, List.getElem?_map, List.getElem?_eq_getElem hi]
      generalize vs[i] = z at this
      cases this
      rfl
    · rw [List.getElem?_eq_none (by rw [r.1, List.length_map]; exact hi), List.getElem?_eq_none (by rw [List.length_map]; exact hi)]
  rw [← e]; exact hp
theorem rep5 {H : Hp} {v : V} {d1 d2 d3 d4 d5 : D} (h : Rep H v (.tup [d1, d2, d3, d4, d5])) : ∃ p x1 x2 x3 x4 x5, v = .ref p ∧ H p = some (.tup [x1, x2, x3, x4, x5]) ∧ Rep H x1 d1 ∧ Rep H x2 d2 ∧ Rep H x3 d3 ∧ Rep H x4 d4 ∧ Rep H x5 d5 := by
  obtain ⟨p, vs, rfl, hp, r, _⟩ := h.ofT
  match vs, r with
  | [x1, x2, x3, x4, x5], r => exact ⟨p, x1, x2, x3, x4, x5, rfl, hp, r.head.1, r.head.2.head.1, r.head.2.head.2.head.1, r.head.2.head.2.head.2.head.1, r.head.2.head.2.head.2.head.2.head.1⟩
  | [], r => exact absurd r.1 (by simp)
  | [_], r => exact absurd r.1 (by simp)
  | [_, _], r => exact absurd r.1 (by simp)
  | [_, _, _], r => exact absurd r.1 (by simp)
  | [_, _, _, _], r => exact absurd r.1 (by simp)
  | _ :: _ :: _ :: _ :: _ :: _ :: _, r => exact absurd r.1 (by simp)
/-- a town that stands -/
def TownAt (H : Hp) (v : V) (g : Str) (hs : List Str) (ps : List (Str × Str)) (lks hds : List D) : Prop := ∃ p pr pt pl pa vt vl va, v = .ref p ∧ H p = some (.tup [.str g, .ref pr, .ref pt, .ref pl, .ref pa]) ∧ H pr = some (.tup (hs.map V.str)) ∧ H pt = some (.tup vt) ∧ RepL H vt (ps.map RW.pairD) ∧ H pl = some (.tup vl) ∧ RepL H vl lks ∧ H pa = some (.tup va) ∧ RepL H va hds
theorem town_at {H : Hp} {v : V} {g : Str} {hs : List Str} {ps : List (Str × Str)} {lks hds : List D} (h : Rep H v (townD g hs ps lks hds)) : TownAt H v g hs ps lks hds := by
  obtain ⟨p, x1, x2, x3, x4, x5, rfl, hp, r1, r2, r3, r4, r5⟩ := rep5 h
  cases r1 with | str _ _ =>
  obtain ⟨pr, rfl, hpr⟩ := rep_strs r2
  obtain ⟨pt, vt, rfl, hpt, rt, _⟩ := r3.ofT
  obtain ⟨pl, vl, rfl, hpl, rl, _⟩ := r4.ofT
  obtain ⟨pa, va, rfl, hpa, ra, _⟩ := r5.ofT
  exact ⟨p, pr, pt, pl, pa, vt, vl, va, rfl, hp, hpr, hpt, rt, hpl, rl, hpa, ra⟩

/-! those tied with x -/
def nbrs (ps : List (Str × Str)) (x : Str) : List Str := (ps.filter fun p => decide (p.2 = x)).map (·.1) ++ (ps.filter fun p => decide (p.1 = x)).map (·.2)
theorem mem_nbrs {ps : List (Str × Str)} {x y : Str} : y ∈ nbrs ps x ↔ (y, x) ∈ ps ∨ (x, y) ∈ ps := by
  unfold nbrs
  rw [List.mem_append, List.mem_map, List.mem_map]
  constructor
  · rintro (⟨⟨a, b⟩, h, rfl⟩ | ⟨⟨a, b⟩, h, rfl⟩)
    · obtain ⟨h1, h2⟩ := List.mem_filter.mp h
      have h2 : b = x := of_decide_eq_true h2
      subst h2
      exact .inl h1
    · obtain ⟨h1, h2⟩ := List.mem_filter.mp h
      have h2 : a = x := of_decide_eq_true h2
      subst h2
      exact .inr h1
  · rintro (h | h)
    · exact .inl ⟨(y, x), List.mem_filter.mpr ⟨h, decide_eq_true rfl⟩, rfl⟩
    · exact .inr ⟨(x, y), List.mem_filter.mpr ⟨h, decide_eq_true rfl⟩, rfl⟩
theorem TownOk.ps_nd {g : Str} {hs : List Str} {ps : List (Str × Str)} {lks hds : List D} (T : TownOk g hs ps lks hds) : ps.Nodup := T.riseP.imp fun {a b} h z => by rw [z, ltP_irr] at h; cases h
theorem TownOk.hs_nd {g : Str} {hs : List Str} {ps : List (Str × Str)} {lks hds : List D} (T : TownOk g hs ps lks hds) : hs.Nodup := T.rise.imp fun {a b} h z => by rw [z, ltS_irr] at h; cases h
theorem nbrs_nd {g : Str} {hs : List Str} {ps : List (Str × Str)} {lks hds : List D} (T : TownOk g hs ps lks hds) (x : Str) : (nbrs ps x).Nodup := by
  have nd := T.ps_nd
  unfold nbrs
  rw [List.nodup_append]
  refine ⟨?_, ?_, ?_⟩
  · rw [List.nodup_iff_pairwise_ne, List.pairwise_map]
    refine List.Pairwise.imp_of_mem (fun {a b} ha hb hab z => ?_) (nd.filter _)
    have h1 : a.2 = x := of_decide_eq_true (List.mem_filter.mp ha).2
    have h2 : b.2 = x := of_decide_eq_true (List.mem_filter.mp hb).2
    exact hab (Prod.ext z (h1.trans h2.symm))
  · rw [List.nodup_iff_pairwise_ne, List.pairwise_map]
    refine List.Pairwise.imp_of_mem (fun {a b} ha hb hab z => ?_) (nd.filter _)
    have h1 : a.1 = x := of_decide_eq_true (List.mem_filter.mp ha).2
    have h2 : b.1 = x := of_decide_eq_true (List.mem_filter.mp hb).2
    exact hab (Prod.ext (h1.trans h2.symm) z)
  · intro y hy z hz e
    subst e
    obtain ⟨a, ha, rfl⟩ := List.mem_map.mp hy
    obtain ⟨b, hb, eb⟩ := List.mem_map.mp hz
    obtain ⟨ha1, ha2⟩ := List.mem_filter.mp ha
    obtain ⟨hb1, hb2⟩ := List.mem_filter.mp hb
    have h1 : a.2 = x := of_decide_eq_true ha2
    have h2 : b.1 = x := of_decide_eq_true hb2
    have l1 := (T.ties a ha1).2.2
    have l2 := (T.ties b hb1).2.2
    rw [h1] at l1
    rw [h2, eb] at l2
    have := ltS_asy l1
    rw [l2] at this
    cases this
theorem nbrs_in {g : Str} {hs : List Str} {ps : List (Str × Str)} {lks hds : List D} (T : TownOk g hs ps lks hds) {x y : Str} (h : y ∈ nbrs ps x) : y ∈ hs := by
  rcases mem_nbrs.mp h with h | h
  · exact (T.ties _ h).1
  · exact (T.ties _ h).2.1
theorem nbrs_len {g : Str} {hs : List Str} {ps : List (Str × Str)} {lks hds : List D} (T : TownOk g hs ps lks hds) (x : Str) : (nbrs ps x).length ≤ 10 := Nat.le_trans (nodup_len (nbrs_nd T x) fun y hy => nbrs_in T hy) T.ten
/-! what rises -/
/-! ways -/
structure WayOk (g : Str) (hs : List Str) (ps : List (Str × Str)) (ws : List Str) : Prop where
  nd : ws.Nodup
  mem : ∀ x ∈ ws, x ∈ hs
  last : ∃ w0, ws = w0 ++ [g]
  tied : ∀ (i : Nat) (a b : Str), ws[i]? = some a → ws[i + 1]? = some b → b ∈ nbrs ps a
/-- of pairs some are kept, a text made of each -/
theorem comp_sel {J : It} {vs : List V} {ps : List (Str × Str)} {sel : Str × Str → Bool} {f : Str × Str → Str} {ok : Hp → Prop} {g : TG} {tc : TT} {te : TE} {H : Hp} {src : List (Option Nat)} {σ : L2.St} {Q : VK} (Iv : L2.St → Prop) (wk : Wk J vs.length (fun i x => vs[i]? = some x) ok) (hok : ∀ H', Same H H' → ok H') (r : RepL H vs (ps.map RW.pairD)) (hl : ps.length ≤ 900) (h0 : Iv (capt src σ))
    (hs : ∀ (q : Addr) (p : Str × Str) (σ' : L2.St) (H1 : Hp) (A : V → Hp → L2.St → Prop) (B : L2.St → Hp → Prop), Iv σ' → Same H H1 → H1 q = some (.tup [.str p.1, .str p.2]) → p ∈ ps → (∀ σ2, Iv σ2 → if sel p = true then A (.str (f p)) H1 σ2 else B σ2 H1) → g (.ref q) σ' H1 fun σ2 H3 => tc σ2 H3 fun b H4 => if b = true then te σ2 H4 (fun y H5 => A y H5 σ2) else B σ2 H4)
    (q : ∀ l H', Same H H' → H l = none → H' l = some (.lst (((ps.filter sel).map f).map V.str)) → Q (.ref l) H') : CompGo g tc te src σ Q J H := by
  refine comp_by wk (fun l i ys σ' H' => Iv σ' ∧ ys = (((ps.take i).filter sel).map f).map V.str ∧ Same H H') ?_ ?_ ?_ ?_
  · exact fun l h' => ⟨h0, rfl, Same.new h'⟩
  · exact fun l i ys σ' H' _ p => hok H' p.2.2
  · rintro l i y ys σ' H1 h' hi hy ⟨iv, rfl, s1⟩ hl'
    obtain ⟨d, hd, rd⟩ := r.get hy
    rw [List.getElem?_map] at hd
    cases hp : ps[i]? with
    | none => rw [hp] at hd; cases hd
    | some p =>
      rw [hp] at hd
      cases hd
      obtain ⟨q, x, y, rfl, hq, r1, r2⟩ := (rd.same s1).of2
      cases r1 with | str _ _ =>
      cases r2 with | str _ _ =>
      refine hs q p σ' H1 (fun y H5 σ2 => H5 l = some (.lst ((((ps.take i).filter sel).map f).map V.str)) ∧ ((((ps.take i).filter sel).map f).map V.str).length < sizeLine ∧ Iv σ2 ∧ (((ps.take i).filter sel).map f).map V.str ++ [y] = (((ps.take (i + 1)).filter sel).map f).map V.str ∧ Same H (upd H5 l (.lst ((((ps.take i).filter sel).map f).map V.str ++ [y])))) (fun σ2 H4 => H4 l = some (.lst ((((ps.take i).filter sel).map f).map V.str)) ∧ Iv σ2 ∧ (((ps.take i).filter sel).map f).map V.str = (((ps.take (i + 1)).filter sel).map f).map V.str ∧ Same H H4) iv s1 hq (List.mem_of_getElem? hp) fun σ2 iv2 => ?_
      have tk : ((ps.take (i + 1)).filter sel) = ((ps.take i).filter sel) ++ [p].filter sel := by rw [List.take_add_one, hp, List.filter_append]; rfl
      cases hsel : sel p with
      | false =>
        refine if_f rfl ⟨hl', iv2, ?_, s1⟩
        rw [tk]
        simp [hsel]
      | true =>
        refine if_t rfl ⟨hl', ?_, iv2, ?_, ?_⟩
        · rw [List.length_map, List.length_map]
          have h2 := List.length_filter_le sel (ps.take i)
          rw [List.length_take] at h2
          exact small1000 (by omega)
        · rw [tk]
          simp [hsel]
        · exact fun c o e => by
            rw [upd_ne (ne_of_none e h')]
            exact s1 _ _ e
  · rintro l ys σ' H1 h' ⟨iv, rfl, s1⟩ hl'
    have e : ps.length = vs.length := by rw [r.1, List.length_map]
    rw [← e, List.take_length] at hl'
    exact q l H1 s1 h' hl'
theorem repL_strs {H : Hp} {us : List V} {xs : List Str} (r : RepL H us (xs.map D.str)) : us = xs.map V.str := by
  apply List.ext_getElem?
  intro i
  rcases Nat.lt_or_ge i xs.length with hi | hi
  · have hv : i < us.length := by rw [r.1, List.length_map]; exact hi
    have := r.2 i us[i] (.str xs[i]) (by simp [hv]) (by simp [hi])
    rw [List.getElem?_eq_getElem hv, List.getElem?_map, List.getElem?_eq_getElem hi]
    generalize us[i] = z at this
    cases this
    rfl
  · rw [List.getElem?_eq_none (by rw [r.1, List.length_map]; exact hi), List.getElem?_eq_none (by rw [List.length_map]; exact hi)]
def strsPy (xs : List Str) : List PyData := xs.map PyData.str
end RW

set_option Elab.async false
set_option linter.all false
set_option maxRecDepth 100000
set_option maxHeartbeats 4000000
namespace RW
open PySem PySem.Spec PyProof.Rows L2
section
variable {X : Cx} {K : PySem.W.Frag}
end
section
variable {te tf : TE} {ta : TA} {σ : L2.St} {H : Hp} {d : D} {ds es : List D} {K : PySem.W.Frag}
end
end RW

set_option Elab.async false
set_option linter.all false
set_option maxRecDepth 100000
set_option maxHeartbeats 4000000
/-! rows of houses, read twice -/
namespace RW
open PySem PySem.Spec PyProof.Rows L2
section
variable {te tf : TE} {ta : TA} {tb : TS} {De : Ends} {σ : L2.St} {H : Hp} {d : D} {ds es : List D} {K : PySem.W.Frag} {k : Nat}
end
/-! rows of houses -/
/-! the same way -/
/-! those tied, rising -/
theorem sorted_ext : ∀ {l m : List Str}, l.Pairwise (fun a b => ltS a b = true) → m.Pairwise (fun a b => ltS a b = true) → (∀ x, x ∈ l ↔ x ∈ m) → l = m
  | [], [], _, _, _ => rfl
  | [], b :: m, _, _, h => absurd ((h b).mpr List.mem_cons_self) List.not_mem_nil
  | a :: l, [], _, _, h => absurd ((h a).mp List.mem_cons_self) List.not_mem_nil
  | a :: l, b :: m, p, q, h => by
    obtain ⟨p1, p2⟩ := List.pairwise_cons.mp p
    obtain ⟨q1, q2⟩ := List.pairwise_cons.mp q
    have e : a = b := by
      rcases List.mem_cons.mp ((h a).mp List.mem_cons_self) with z | z
      · exact z
      rcases List.mem_cons.mp ((h b).mpr List.mem_cons_self) with y | y
      · exact y.symm
      have := ltS_asy (q1 a z)
      rw [p1 b y] at this; cases this
    subst e
    rw [sorted_ext p2 q2 fun x => ⟨fun hx => ?_, fun hx => ?_⟩]
    · rcases List.mem_cons.mp ((h x).mp (List.mem_cons_of_mem _ hx)) with rfl | z
      · have := p1 x hx; rw [ltS_irr] at this; cases this
      · exact z
    · rcases List.mem_cons.mp ((h x).mpr (List.mem_cons_of_mem _ hx)) with rfl | z
      · have := q1 x hx; rw [ltS_irr] at this; cases this
      · exact z
def dueB (ps : List (Str × Str)) (x : Str) : D → Bool | .str y => decide ((x, y) ∈ ps) || decide ((y, x) ∈ ps) | _ => false
def due (hs : List Str) (ps : List (Str × Str)) (x : Str) : List Str := hs.filter fun y => decide ((x, y) ∈ ps) || decide ((y, x) ∈ ps)
theorem due_eq {g : Str} {hs : List Str} {ps : List (Str × Str)} {lks hds : List D} (T : TownOk g hs ps lks hds) {x : Str} {ts : List Str} (hp : ts.Perm (nbrs ps x)) (h : sortedS ts = true) : ts = due hs ps x := by
  refine sorted_ext (rise_of ts h (hp.nodup_iff.mpr (nbrs_nd T x))) (T.rise.filter _) fun y => ?_
  rw [hp.mem_iff, mem_nbrs]
  unfold due
  rw [List.mem_filter, Bool.or_eq_true, decide_eq_true_iff, decide_eq_true_iff]
  constructor
  · rintro (z | z)
    · exact ⟨(T.ties _ z).1, .inr z⟩
    · exact ⟨(T.ties _ z).2.1, .inl z⟩
  · rintro ⟨_, z | z⟩
    · exact .inr z
    · exact .inl z
/-! pairs among pairs -/
end RW

set_option Elab.async false
set_option linter.all false
set_option maxRecDepth 100000
set_option maxHeartbeats 4000000
/-! a def with a default None for its last parameter -/
namespace L2
open PySem PySem.Spec PyProof.Rows
structure FunD (K : PySem.W.Frag) (x qual : Str) (st : Stmt) (f : Addr) (fd : FuncData) : Prop where
  ex : ∃ (oc : Value) (od : Option Addr) (dt : Addr) (kV doc pm : Value) (an : Option Addr) (cdv ct : Value) (osl : Array (Option Value)) (od2 : Option Addr) (n2 : Nat) (sl2 : Array (Option Value)),
    fd = PySem.W.fnOf x qual (defArgs st) (defBody st) (defScope st) (.ref dt) kV doc pm an cdv ct ∧ K.lookup f = some ⟨oc, od, .func fd, osl⟩ ∧ PySem.W.codeIn K cdv qual = true ∧ K.lookup dt = some ⟨.type "tuple", od2, .seq #[.none] n2, sl2⟩
  kp : PySem.W.keepIn K (.ref f) = true
section
variable {P : Program} {w : World} {K : PySem.W.Frag} {mg : Str → Option Value} {base : Heap}
theorem FunD.okQ {x qual : Str} {st : Stmt} {f : Addr} {fd : FuncData} {N ps : List Str} {k : Nat} {sp : Sp} (F : FunD K x qual st f fd) (S : FnScope N ps (defScope st)) (len : ∀ vs H Q E, sp vs H Q E → vs.length = ps.length)
    (hbody : ∀ (cdv : Value) (A : Around) (outer : List Env) (s : Shared) (H : Hp) (vs : List V) (Q : VK) (E : XK), Room k (A.deeper (envOfC qual (defScope st) s.heap.objs.size f cdv)) → sp vs H Q E →
      ∃ t, QB (cxOf CX0 P w K mg base N qual (defScope st) f cdv A outer s H E).nox (defBody st) t ∧ t { nx := fun _ H' => Q .non H', rt := Q } (start N vs) H) : FnOk P w K mg base CX0 (k + 1) f fd ps sp := by
  obtain ⟨oc, od, dt, kV, doc, pm, an, cdv, ct, osl, od2, n2, sl2, rfl, lk, hcd, ld⟩ := F.ex
  refine fn_of lk hcd S len fun A outer s H vs Q E hr hsp => ?_
  obtain ⟨t, h, q⟩ := hbody cdv A outer s H vs Q E hr hsp
  exact ⟨t, h.o.nox, q⟩
theorem funD_mk {x qual : Str} {st : Stmt} {f dt : Addr} {oc : Value} {od an od2 : Option Addr} {osl sl2 : Array (Option Value)} {n2 : Nat} {kV doc pm cdv ct : Value} (l : K.lookup f = some ⟨oc, od, .func (PySem.W.fnOf x qual (defArgs st) (defBody st) (defScope st) (.ref dt) kV doc pm an cdv ct), osl⟩)
    (ld : K.lookup dt = some ⟨.type "tuple", od2, .seq #[.none] n2, sl2⟩) (c : PySem.W.codeIn K cdv qual = true) (k : PySem.W.keepIn K (.ref f) = true) : FunD K x qual st f (PySem.W.fnOf x qual (defArgs st) (defBody st) (defScope st) (.ref dt) kV doc pm an cdv ct) := ⟨⟨oc, od, dt, kV, doc, pm, an, cdv, ct, osl, od2, n2, sl2, rfl, l, c, ld⟩, k⟩
/-- how its arguments bind, us being what is given -/
theorem FunD.binds {x qual : Str} {st : Stmt} {f : Addr} {fd : FuncData} {ps : List Str} {ds : List Value} (F : FunD K x qual st f fd) (m : Nat) (hm : ps.length = m + ds.length)
    (h : ∀ (dt : Addr) (kV doc pm : Value) (an : Option Addr) (cdv ct : Value) (us : List Value), us.length = m → ∃ k : Option (Array Value) → Sem (List (Str × Value)), bindArgs (PySem.W.fnOf x qual (defArgs st) (defBody st) (defScope st) (.ref dt) kV doc pm an cdv ct) ⟨us, []⟩ = seqItems? (.ref dt) >>= k ∧ k (some #[.none]) = pure (ps.zip (us ++ ds))) : Binds K fd ps ds := by
  obtain ⟨oc, od, dt, kV, doc, pm, an, cdv, ct, osl, od2, n2, sl2, rfl, lk, hcd, ld⟩ := F.ex
  intro s us kin hl
  obtain ⟨k, e1, e2⟩ := h dt kV doc pm an cdv ct us (by rw [List.length_append] at hl; omega)
  exact BindsTo.of_defaults (T := dt) rfl (kin _ _ ld) rfl e1 e2
end
end L2
namespace RW
open PySem PySem.Spec PyProof.Rows L2
structure AtD (K : PySem.W.Frag) (mg : Str → Option Value) (x : Str) (st : Stmt) (ps : List Str) (f : Addr) (fd : FuncData) : Prop where
  fn : FunD K x x st f fd
  b : Binds K fd ps []
  bd : Binds K fd ps [.none]
  mg : mg x = some (.ref f)
  kp : PySem.W.keepIn K (.ref f) = true
end RW

set_option Elab.async false
set_option linter.all false
set_option maxRecDepth 100000
set_option maxHeartbeats 4000000
/-! whose names stand in rules -/
namespace RW
open PySem PySem.Spec PyProof.Rows L2
def plainIn (O : List Str) : D → Bool | .tup [_, .str x] => decide (x ∈ O) | _ => true
def condIn (O : List Str) : D → Bool | .tup [.str w, e] => if w = "not" then plainIn O e else plainIn O (.tup [.str w, e]) | _ => true
def condsIn (O : List Str) : D → Bool | .tup ds => ds.all (condIn O) | _ => true
def ruleIn (O : List Str) : D → Bool | .tup [c, t] => condsIn O c && plainIn O t | _ => true
def rulesIn (O : List Str) : D → Bool | .tup ds => ds.all (ruleIn O) | _ => true
structure Pool (hs : List Str) (lks hds : List D) (O : List Str) : Prop where
  few : O.length ≤ 13
  nm : ∀ x ∈ O, isNameB x = true
  hs : ∀ x ∈ hs, x ∈ O
  lk : ∀ d ∈ lks, rulesIn O d = true
  hd : ∀ d ∈ hds, rulesIn O d = true
def likeIn (O : List Str) (d : D) : Bool := isLikingB d && ruleIn O d
def handIn (O : List Str) (d : D) : Bool := isHandB d && ruleIn O d
theorem plainIn_str {O : List Str} {y : D} {x : Str} (h : x ∈ O) : plainIn O (.tup [y, .str x]) = true := decide_eq_true h
theorem condIn_plain {O : List Str} {w : Str} {e : D} (h : isPlainB (.tup [.str w, e]) = true) (hp : plainIn O (.tup [.str w, e]) = true) : condIn O (.tup [.str w, e]) = true := by
  show (if w = "not" then _ else _) = true
  by_cases z : w = "not"
  · subst z; rw [plain_not] at h; cases h
  · rw [if_neg z]; exact hp
theorem condIn_of {O : List Str} {d : D} (h : isPlainB d = true) (hp : plainIn O d = true) : condIn O d = true := by
  obtain ⟨x, e, rfl⟩ := plain_form d h
  exact condIn_plain h hp
theorem condIn_not {O : List Str} {d : D} (hp : plainIn O d = true) : condIn O (.tup [.str "not", d]) = true := by
  show (if ("not" : Str) = "not" then plainIn O d else plainIn O (.tup [.str "not", d])) = true
  rw [if_pos rfl]; exact hp
theorem ruleIn_mk {O : List Str} {ds : List D} {t : D} (h : ∀ d ∈ ds, condIn O d = true) (ht : plainIn O t = true) : ruleIn O (.tup [.tup ds, t]) = true := by
  show (ds.all (condIn O) && plainIn O t) = true
  rw [List.all_eq_true.mpr h, ht]; rfl
end RW

set_option Elab.async false
set_option linter.all false
set_option maxRecDepth 100000
set_option maxHeartbeats 4000000
/-! a dict of ints and texts made here, walked by a comprehension: while it is walked (and behind that) it is no longer looked at -/
namespace L2
open PySem PySem.Spec PyProof.Rows
section
variable {X : Cx} {pos : Pos} {pins : List (Addr × Obj)} {σ : St} {H : Hp} {s : Shared}
end
end L2

set_option Elab.async false
set_option linter.all false
set_option maxRecDepth 100000
set_option maxHeartbeats 4000000
/-! whether a cond holds -/
namespace RW
open PySem PySem.Spec PyProof.Rows L2
def phB (ws ms : List Str) (to : Option Str) (w : Str) (x : D) : Bool :=
  if w = "by" then (match x with | .str y => ws.any fun z => decide (z = y) | _ => false)
  else if w = "from" then (match x with | .str y => decide (ws[1]? = some y) | _ => false)
  else if w = "to" then (match x with | .str y => decide (to = some y) | _ => false)
  else if w = "mark" then (match x with | .str y => ms.any fun z => decide (z = y) | _ => false)
  else (match x with | .int i => decide (i < (ws.length : Int)) | _ => false)
def plainH (ws ms : List Str) (to : Option Str) : D → Bool | .tup [.str w, x] => phB ws ms to w x | _ => false
def holdsB (ws ms : List Str) (to : Option Str) : D → Bool | .tup [.str w, x] => if w = "not" then !plainH ws ms to x else phB ws ms to w x | _ => false
def TO (v : V) (to : Option Str) : Prop := (v = .non ∧ to = none) ∨ ∃ x, v = .str x ∧ to = some x ∧ isNameB x = true
theorem plain_cases {x : Str} {e : D} (h : isPlainB (.tup [.str x, e]) = true) : (x = "long" ∧ ∃ i : Int, e = .int i ∧ 0 ≤ i ∧ i ≤ 99) ∨ (x ∈ namingL ∧ ∃ y, e = .str y ∧ isNameB y = true) := by
  rw [plain_eq] at h
  by_cases z : x = "long"
  · rw [if_pos z] at h
    cases e with
    | int i =>
      have h : (decide (0 ≤ i) && decide (i ≤ 99)) = true := h
      rw [Bool.and_eq_true, decide_eq_true_iff, decide_eq_true_iff] at h
      exact .inl ⟨z, i, rfl, h.1, h.2⟩
    | _ => cases h
  · rw [if_neg z, Bool.and_eq_true] at h
    obtain ⟨h1, h2⟩ := h
    obtain ⟨y, hy, ey⟩ := List.any_eq_true.mp h1
    have ey : y = x := of_decide_eq_true ey
    subst ey
    cases e with
    | str y' => exact .inr ⟨hy, y', rfl, h2⟩
    | _ => cases h2
theorem naming_cases {x : Str} (h : x ∈ namingL) : x = "by" ∨ x = "from" ∨ x = "to" ∨ x = "mark" := by
  unfold namingL at h
  simpa using h
theorem ph_by {ws ms : List Str} {to : Option Str} {y : Str} : phB ws ms to "by" (.str y) = ws.any fun z => decide (z = y) := by
  unfold phB; rw [if_pos rfl]
theorem ph_from {ws ms : List Str} {to : Option Str} {y : Str} : phB ws ms to "from" (.str y) = decide (ws[1]? = some y) := by
  unfold phB; rw [if_neg (by decide +kernel), if_pos rfl]
theorem ph_to {ws ms : List Str} {to : Option Str} {y : Str} : phB ws ms to "to" (.str y) = decide (to = some y) := by
  unfold phB; rw [if_neg (by decide +kernel), if_neg (by decide +kernel), if_pos rfl]
theorem ph_mark {ws ms : List Str} {to : Option Str} {y : Str} : phB ws ms to "mark" (.str y) = ms.any fun z => decide (z = y) := by
  unfold phB; rw [if_neg (by decide +kernel), if_neg (by decide +kernel), if_neg (by decide +kernel), if_pos rfl]
theorem ph_long {ws ms : List Str} {to : Option Str} {i : Int} : phB ws ms to "long" (.int i) = decide (i < (ws.length : Int)) := by
  unfold phB; rw [if_neg (by decide +kernel), if_neg (by decide +kernel), if_neg (by decide +kernel), if_neg (by decide +kernel)]
theorem TO.eq {v : V} {to : Option Str} {y : Str} (h : TO v to) : scal v (.str y) = true ∧ decide (v = .str y) = decide (to = some y) := by
  rcases h with ⟨rfl, rfl⟩ | ⟨x, rfl, rfl, _⟩
  · exact ⟨rfl, rfl⟩
  · refine ⟨rfl, ?_⟩
    rw [dec_str', Bool.eq_iff_iff, decide_eq_true_iff, decide_eq_true_iff, Option.some.injEq]
def spHolds (c : D → Bool) (g : List Str → List Str → Option Str → D → Bool) : Sp := fun vs H Q _ => ∃ (v : V) (d : D) (pw pm : Addr) (vt : V) (ws ms : List Str) (to : Option Str), vs = [v, .ref pw, .ref pm, vt] ∧ Rep H v d ∧ c d = true ∧ H pw = some (.tup (ws.map V.str)) ∧ H pm = some (.tup (ms.map V.str)) ∧ TO vt to ∧ (∀ x ∈ ws, isNameB x = true) ∧ (∀ x ∈ ms, isNameB x = true) ∧ 1 ≤ ws.length ∧ ws.length ≤ 100 ∧ ms.length ≤ 100 ∧ ∀ H', Same H H' → Q (.bl (g ws ms to d)) H'
end RW

set_option Elab.async false
set_option linter.all false
set_option maxRecDepth 100000
set_option maxHeartbeats 4000000
/-! names gathered in a dict -/
namespace RW
open PySem PySem.Spec PyProof.Rows L2
theorem conds_of {c : D} (h : areCondsB c = true) : ∃ cs, c = .tup cs ∧ cs.length ≤ 4 ∧ ∀ d ∈ cs, isCondB d = true := by
  cases c with
  | tup cs =>
    rw [conds_eq, Bool.and_eq_true] at h
    exact ⟨cs, rfl, of_decide_eq_true h.1, List.all_eq_true.mp h.2⟩
  | _ => cases h
theorem two_of {d : D} {f : D → D → Bool} (h : (match d with | .tup [c, x] => f c x | _ => false) = true) : ∃ c x, d = .tup [c, x] ∧ f c x = true := by
  split at h
  · exact ⟨_, _, rfl, h⟩
  · cases h
theorem act_of {x : D} (h : isActB x = true) : (x = .tup [.str "keep"]) ∨ ∃ w y, x = .tup [.str w, .str y] ∧ (w = "put" ∨ w = "strike") ∧ isNameB y = true := by
  unfold isActB at h
  split at h
  · rename_i w
    exact .inl (by rw [of_decide_eq_true h])
  · rename_i w y
    rw [Bool.and_eq_true, Bool.or_eq_true] at h
    have h2 := h.2
    cases y with
    | str y => exact .inr ⟨w, y, rfl, h.1.imp of_decide_eq_true of_decide_eq_true, h2⟩
    | _ => cases h2
  · cases h
theorem hand_of {d : D} (h : isHandB d = true) : ∃ cs x, d = .tup [.tup cs, x] ∧ cs.length ≤ 4 ∧ (∀ c ∈ cs, isCondB c = true) ∧ isActB x = true := by
  unfold isHandB at h
  obtain ⟨c, x, rfl, h⟩ := two_of (f := fun c x => areCondsB c && isActB x) h
  rw [Bool.and_eq_true] at h
  obtain ⟨cs, rfl, h4, hc⟩ := conds_of h.1
  exact ⟨cs, x, rfl, h4, hc, h.2⟩
theorem ruleIn_of {O : List Str} {cs : List D} {t : D} (h : ruleIn O (.tup [.tup cs, t]) = true) : (∀ c ∈ cs, condIn O c = true) ∧ plainIn O t = true := by
  have h : (cs.all (condIn O) && plainIn O t) = true := h
  rw [Bool.and_eq_true] at h
  exact ⟨List.all_eq_true.mp h.1, h.2⟩
end RW
namespace RW
open PySem PySem.Spec PyProof.Rows L2
section
variable {te tf : TE} {ta : TA} {tb : TS} {De : Ends} {σ : L2.St} {H : Hp} {d : D} {ds es : List D} {K : PySem.W.Frag} {k : Nat}
end
end RW

set_option Elab.async false
set_option linter.all false
set_option maxRecDepth 100000
set_option maxHeartbeats 4000000
/-! where a text stands in a tuple; a tuple counted through -/
namespace HT
open PySem PySem.Spec PyProof.Rows
section
variable {prog : Program} {w : World} {A : Around} {E : Value → Shared → Prop} {s : Shared}
theorem strsAre_get : ∀ {vs : List Value} {ys : List Str}, StrsAre vs ys → vs.length = ys.length ∧ ∀ (i : Nat) (y : Str), ys[i]? = some y → ∃ t, vs[i]? = some (.str y t)
  | _, _, .nil => ⟨rfl, fun i y h => by simp at h⟩
  | _, _, .cons y t r => by
    obtain ⟨h1, h2⟩ := strsAre_get r
    refine ⟨by simp [h1], fun i z h => ?_⟩
    cases i with
    | zero => cases h; exact ⟨t, rfl⟩
    | succ i => exact h2 i z h
theorem index_tup {t : Addr} {items : Array Value} {ys : List Str} {x : Str} {tk : Tok} {j : Nat} {Q : Value → Shared → Prop} (ht : IsTup s.heap t items) (hS : StrsAre items.toList ys) (hj : ys[j]? = some x) (hb : ∀ i < j, ys[i]? ≠ some x)
    (h : ∀ (t' : Tok) (k : Nat), Q (.int j t') { s with toks := k }) : wpAny (model prog w) A (call (.builtin "tuple.index") [.ref t, .str x tk]) Q E s := by
  refine wpAny_call_entry PySem.F.slot_tuple_index ht.typeIs PySem.F.entry_tuple_index ?_ (PySem.F.args_tuple_index_2 _ _)
  unfold Builtin.«tuple.index»
  refine wpAny_bind (m := selfAndSome "tuple.index" "index" 1 3 _) (wpAny_pure ?_)
  dsimp only
  refine wpAny_bind (tupleItemsOf_ ht ?_)
  refine wpAny_bind (wpAny_pure ?_)
  refine wpAny_bind (wpAny_pure ?_)
  obtain ⟨hl, hg⟩ := strsAre_get hS
  have hjn : j < items.size := by
    rw [← Array.length_toList, hl]
    rcases Nat.lt_or_ge j ys.length with z | z
    · exact z
    · rw [List.getElem?_eq_none z] at hj; cases hj
  rw [Std.Legacy.Range.forIn_eq_forIn_range']
  refine wpAny_bind (wpAny_forIn_list _ (fun l b s' => ∃ i, l = List.range' i (items.size - i) 1 ∧ i ≤ j ∧ b = (none, ()) ∧ s' = s) _ ?_ ?_ _ _ ?_)
  · rintro a rest b s' ⟨i, el, hij, rfl, rfl⟩
    obtain ⟨m, em⟩ : ∃ m, items.size - i = m + 1 := ⟨items.size - i - 1, by omega⟩
    rw [em, List.range'_succ] at el
    have ea := (List.cons.inj el).1
    have er := (List.cons.inj el).2
    subst er
    rw [ea]
    have hiy : i < ys.length := by rw [← hl, Array.length_toList]; omega
    obtain ⟨t1, e1⟩ := hg i ys[i] (by simp [hiy])
    have e2 : items[i]? = some (.str ys[i] t1) := by rw [← Array.getElem?_toList]; exact e1
    rw [e2]
    dsimp only
    refine wpAny_bind (wpAny_eqBool_str ?_)
    rcases Nat.lt_or_ge i j with z | z
    · have ne : ¬ ys[i] = x := fun y => hb i z (by rw [← y]; simp [hiy])
      rw [decide_eq_false ne]
      exact wpAny_pure ⟨i + 1, by rw [show items.size - (i + 1) = m by omega], by omega, rfl, rfl⟩
    · have ei : i = j := by omega
      subst ei
      have ey : ys[i] = x := by
        have : ys[i]? = some ys[i] := by simp [hiy]
        rw [this] at hj; exact Option.some.inj hj
      rw [decide_eq_true ey]
      refine wpAny_bind (m := retInt _) (wpAny_bind (wpAny_mkInt (wpAny_pure (wpAny_pure ?_))))
      exact wpAny_pure ⟨_, rfl, h _ _⟩
  · rintro b s' ⟨i, el, hij, rfl, rfl⟩
    have := congrArg List.length el
    rw [List.length_range', List.length_nil] at this
    omega
  · exact ⟨0, by simp [Std.Legacy.Range.size], Nat.zero_le _, rfl, rfl⟩
end
end HT
namespace HT
open PySem PySem.Spec PyProof.Rows
section
variable {prog : Program} {w : World} {A : Around} {E : Value → Shared → Prop} {s : Shared}
end
end HT
namespace HT
open PySem PySem.Spec PyProof.Rows
section
variable {prog : Program} {w : World} {A : Around} {E : Value → Shared → Prop} {s : Shared}
end
end HT
namespace L2
open PySem PySem.Spec PyProof.Rows
section
variable {X : Cx} {K : PySem.W.Frag}
/-- the place of a text in a tuple of texts -/
def rIndexT (K : PySem.W.Frag) : V → List V → Hp → VK → Prop := fun x vs H Q => ∃ (p : Addr) (ys : List Str) (y : Str) (j : Nat), x = .ref p ∧ vs = [.str y] ∧ SqT K H p (ys.map V.str) ∧ ys[j]? = some y ∧ (∀ i < j, ys[i]? ≠ some y) ∧ Q (.int (j : Int)) H
theorem mt_indexT : MtR X "tuple.index" (rIndexT X.K) := by
  intro pins s σ H x xs v us Q I rx rs h
  obtain ⟨p, ys, y, j, rfl, rfl, hq, hj, hb, q⟩ := h
  cases rx
  obtain ⟨u, rfl, ru⟩ := vals1 rs
  obtain ⟨t, rfl⟩ := ru
  obtain ⟨its, rv, pl, hz⟩ := I.tuple hq
  exact HT.index_tup pl (by simpa using strsAre_of rv) hj hb fun t' k => ⟨.int _, H, I.tok _, ⟨_, rfl⟩, q⟩
end
end L2

set_option Elab.async false
set_option linter.all false
set_option maxRecDepth 100000
set_option maxHeartbeats 4000000
/-! rules gone through -/
namespace RW
open PySem PySem.Spec PyProof.Rows L2
theorem nodup_at {hs : List Str} (nd : hs.Nodup) {x : Str} {i j : Nat} (h1 : hs[i]? = some x) (h2 : hs[j]? = some x) : i = j := by
  have lt : ∀ {k : Nat}, hs[k]? = some x → k < hs.length := fun {k} z => by
    rcases Nat.lt_or_ge k hs.length with y | y
    · exact y
    · rw [List.getElem?_eq_none y] at z; cases z
  have l1 := lt h1
  have l2 := lt h2
  rw [List.getElem?_eq_getElem l1] at h1
  rw [List.getElem?_eq_getElem l2] at h2
  have e : hs[i] = hs[j] := (Option.some.inj h1).trans (Option.some.inj h2).symm
  have pw := List.pairwise_iff_getElem.mp nd
  rcases Nat.lt_trichotomy i j with z | z | z
  · exact absurd e (pw i j l1 l2 z)
  · exact z
  · exact absurd e.symm (pw j i l2 l1 z)
theorem first_of {hs : List Str} (nd : hs.Nodup) {x : Str} {j : Nat} (h : hs[j]? = some x) : ∀ i < j, hs[i]? ≠ some x := fun i hi z => by
  have := nodup_at nd z h
  omega
/-! worths -/
def allH (ws ms : List Str) (to : Option Str) (cs : List D) : Bool := cs.all (holdsB ws ms to)
def ruleC : D → List D | .tup [.tup cs, _] => cs | _ => []
def ruleT : D → D | .tup [_, t] => t | _ => .non
end RW
namespace RW
open PySem PySem.Spec PyProof.Rows L2
def spAllH : Sp := fun vs H Q _ => ∃ (v : V) (cs : List D) (pw pm : Addr) (vt : V) (ws ms : List Str) (to : Option Str), vs = [v, .ref pw, .ref pm, vt] ∧ Rep H v (.tup cs) ∧ (∀ c ∈ cs, isCondB c = true) ∧ H pw = some (.tup (ws.map V.str)) ∧ H pm = some (.tup (ms.map V.str)) ∧ TO vt to ∧ (∀ x ∈ ws, isNameB x = true) ∧ (∀ x ∈ ms, isNameB x = true) ∧ 1 ≤ ws.length ∧ ws.length ≤ 100 ∧ ms.length ≤ 100 ∧ ∀ H', Same H H' → Q (.bl (allH ws ms to cs)) H'
theorem drop_at {α : Type} {rs : List α} {i : Nat} {d : α} (h : rs[i]? = some d) : rs.drop i = d :: rs.drop (i + 1) := by
  have hi : i < rs.length := by
    rcases Nat.lt_or_ge i rs.length with y | y
    · exact y
    · rw [List.getElem?_eq_none y] at h; cases h
  rw [List.drop_eq_getElem_cons hi]
  rw [List.getElem?_eq_getElem hi] at h
  rw [Option.some.inj h]
end RW

set_option Elab.async false
set_option linter.all false
set_option maxRecDepth 100000
set_option maxHeartbeats 4000000
/-! data as trees -/
namespace RW
open PySem PySem.Spec PyProof.Rows L2
mutual
def okD : D → Bool
  | .str x => PyData.strOk x
  | .tup ds => okL ds
  | .oth => false
  | .non => true
  | .bl _ => true
  | .int _ => true
def okL : List D → Bool
  | [] => true
  | d :: ds => okD d && okL ds
end
mutual
def pyD : D → PyData
  | .non => .none
  | .bl b => .bool b
  | .int i => .int i
  | .str x => .str x
  | .tup ds => .tuple (pyL ds)
  | .oth => .none
def pyL : List D → List PyData
  | [] => []
  | d :: ds => pyD d :: pyL ds
end
theorem pyL_map : ∀ {ds : List D}, pyL ds = ds.map pyD
  | [] => by rw [pyL]; rfl
  | d :: ds => by rw [pyL, List.map_cons, pyL_map]
theorem okL_all : ∀ {ds : List D}, okL ds = true → ∀ d ∈ ds, okD d = true
  | [], _, _, z => nomatch z
  | d :: ds, h, e, he => by
    rw [okL, Bool.and_eq_true] at h
    rcases List.mem_cons.mp he with rfl | he
    · exact h.1
    · exact okL_all h.2 e he
theorem okL_of : ∀ {ds : List D}, (∀ d ∈ ds, okD d = true) → okL ds = true
  | [], _ => by rw [okL]
  | d :: ds, h => by rw [okL, h d List.mem_cons_self, okL_of fun e he => h e (List.mem_cons_of_mem _ he)]; rfl
theorem tr_of {H : Hp} {v : V} {d : D} (r : Rep H v d) : okD d = true → Tr H v (pyD d) := by
  induction r with
  | non => intro _; rw [pyD]; exact .non
  | bl b => intro _; rw [pyD]; exact .bl b
  | int i => intro _; rw [pyD]; exact .int i
  | str x _ => intro h; rw [okD] at h; rw [pyD]; exact .str x h
  | @tup p vs ds hp l b r ih =>
    intro h
    rw [okD] at h
    rw [pyD, pyL_map]
    refine .tup hp (by rw [l, List.length_map]) fun i v d e1 e2 => ?_
    rw [List.getElem?_map] at e2
    cases e : ds[i]? with
    | none => rw [e] at e2; cases e2
    | some d' =>
      rw [e] at e2
      cases e2
      exact ih i v d' e1 e (okL_all h d' (List.mem_of_getElem? e))
  | lst _ => intro h; rw [okD] at h; cases h
  | dK _ => intro h; rw [okD] at h; cases h
theorem depth0 : (PyData.tuple []).depth ≤ 60 := by rw [PyData.depth, PyData.depthAll]; decide
theorem tr_tup0 {H : Hp} {p : Addr} (e : H p = some (.tup [])) : Tr H (.ref p) (.tuple []) := .tup e rfl fun i v d z => by cases z
end RW

set_option Elab.async false
set_option linter.all false
set_option maxRecDepth 100000
set_option maxHeartbeats 4000000
/-! marks handed on -/
namespace RW
open PySem PySem.Spec PyProof.Rows L2
def leS (a b : Str) : Bool := !ltS b a
def srt (l : List Str) : List Str := l.mergeSort leS
theorem leS_tr (a b c : Str) (h1 : leS a b = true) (h2 : leS b c = true) : leS a c = true := by
  unfold leS at *
  rw [Bool.not_eq_true'] at *
  cases h : ltS c a with
  | false => rfl
  | true =>
    by_cases e : a = b
    · subst e; rw [h] at h2; cases h2
    · have ab : ltS a b = true := ltS_tri (fun z => e z.symm) h1
      have := ltS_tr h ab
      rw [this] at h2; cases h2
theorem leS_tot (a b : Str) : (leS a b || leS b a) = true := by
  unfold leS
  cases h : ltS b a with
  | false => rfl
  | true => rw [ltS_asy h]; rfl
theorem srt_perm (l : List Str) : (srt l).Perm l := List.mergeSort_perm l leS
theorem srt_rise {l : List Str} (nd : l.Nodup) : (srt l).Pairwise (fun a b => ltS a b = true) := by
  have h1 : (srt l).Pairwise (fun a b => leS a b = true) := List.pairwise_mergeSort leS_tr leS_tot l
  have h2 : (srt l).Nodup := (srt_perm l).nodup_iff.mpr nd
  refine (h1.and h2).imp fun {a b} h => ?_
  obtain ⟨ha, hn⟩ := h
  unfold leS at ha
  rw [Bool.not_eq_true'] at ha
  exact ltS_tri (fun z => hn z.symm) ha
theorem srt_eq {ts l : List Str} (hp : ts.Perm l) (hs : sortedS ts = true) (nd : l.Nodup) : ts = srt l :=
  sorted_ext (rise_of ts hs (hp.nodup_iff.mpr nd)) (srt_rise nd) fun x => by rw [hp.mem_iff, (srt_perm l).mem_iff]
/-- the marks without m, and with it where it is put -/
def behind (t : List Str) (w m : Str) : List Str := t.filter (fun x => !decide (x = m)) ++ (if w = "put" then [m] else [])
theorem behind_nd {t : List Str} {w m : Str} (nd : t.Nodup) : (behind t w m).Nodup := by
  unfold behind
  rw [List.nodup_append]
  refine ⟨nd.filter _, ?_, ?_⟩
  · split <;> simp
  · intro a ha b hb e
    split at hb
    · rw [List.mem_singleton.mp hb] at e
      have := (List.mem_filter.mp ha).2
      rw [e] at this
      simp at this
    · cases hb
theorem behind_in {t O : List Str} {w m : Str} (h : ∀ x ∈ t, x ∈ O) (hm : m ∈ O) : ∀ x ∈ behind t w m, x ∈ O := by
  unfold behind
  refine List.forall_mem_append.mpr ⟨fun x hx => h x (List.mem_filter.mp hx).1, fun x hx => ?_⟩
  split at hx
  · rw [List.mem_singleton.mp hx]; exact hm
  · cases hx
def nextM (t : List Str) (w m : Str) : List Str := srt (behind t w m)
/-- told so far: names of O, each once -/
structure Mk (O t : List Str) : Prop where
  nd : t.Nodup
  mem : ∀ x ∈ t, x ∈ O
theorem Mk.next {O t : List Str} {w m : Str} (h : Mk O t) (hm : m ∈ O) : Mk O (nextM t w m) where
  nd := (srt_perm _).nodup_iff.mpr (behind_nd h.nd)
  mem := fun x hx => behind_in h.mem hm x ((srt_perm _).mem_iff.mp hx)
theorem Mk.len {O t : List Str} (h : Mk O t) (hO : O.length ≤ 13) : t.length ≤ 13 := Nat.le_trans (nodup_len h.nd h.mem) hO
def handedOf (ws : List Str) (to : Option Str) : List D → List Str → Option (List Str)
  | [], t => some t
  | r :: rs, t => if allH ws t to (ruleC r) = true then (match ruleT r with | .tup [.str w, .str m] => handedOf ws to rs (nextM t w m) | _ => none) else handedOf ws to rs t
/-- hands of names of O -/
def HandsOk (O : List Str) (rs : List D) : Prop := rs.length ≤ 90 ∧ ∀ r ∈ rs, ∃ cs x, r = .tup [.tup cs, x] ∧ (∀ c ∈ cs, isCondB c = true) ∧ (x = .tup [.str "keep"] ∨ ∃ w m, x = .tup [.str w, .str m] ∧ (w = "put" ∨ w = "strike") ∧ m ∈ O)
theorem hands_ok2 {O : List Str} {d : D} (h : areHandsB d = true) (hi : rulesIn O d = true) : ∃ rs, d = .tup rs ∧ HandsOk O rs := by
  cases d with
  | tup rs =>
    have h : (decide (rs.length ≤ 90) && rs.all isHandB) = true := h
    rw [Bool.and_eq_true] at h
    refine ⟨rs, rfl, of_decide_eq_true h.1, fun r hr => ?_⟩
    obtain ⟨cs, x, rfl, h4, hc, hx⟩ := hand_of (List.all_eq_true.mp h.2 r hr)
    obtain ⟨h1, h2⟩ := ruleIn_of (List.all_eq_true.mp hi _ hr)
    refine ⟨cs, x, rfl, hc, ?_⟩
    rcases act_of hx with rfl | ⟨w, y, rfl, hw, _⟩
    · exact .inl rfl
    · exact .inr ⟨w, y, rfl, hw, of_decide_eq_true h2⟩
  | _ => cases h
/-- what handed tells -/
def Told (H : Hp) (u : V) : Option (List Str) → Prop
  | none => u = .non
  | some t => ∃ p, u = .ref p ∧ H p = some (.tup (t.map V.str))
def spHd : Sp := fun vs H Q _ => ∃ (v : V) (x : Str) (g : Str) (hs : List Str) (ps : List (Str × Str)) (lks hds : List D) (j : Nat), vs = [v, .str x] ∧ Rep H v (townD g hs ps lks hds) ∧ TownOk g hs ps lks hds ∧ hs[j]? = some x ∧ ∀ (vr : V) (d : D), hds[j]? = some d → Rep H vr d → Q vr H
def spBehind : Sp := fun vs H Q _ => ∃ (pm : Addr) (v : V) (t : List Str) (w m : Str), vs = [.ref pm, v] ∧ H pm = some (.tup (t.map V.str)) ∧ Rep H v (.tup [.str w, .str m]) ∧ (∀ x ∈ t, isNameB x = true) ∧ isNameB m = true ∧ t.Nodup ∧ t.length ≤ 13 ∧ ∀ (p : Addr) (H' : Hp), H' p = some (.tup ((nextM t w m).map V.str)) → Same H H' → Q (.ref p) H'
def spHanded : Sp := fun vs H Q _ => ∃ (v : V) (pw pm : Addr) (vt : V) (x : Str) (ws ms : List Str) (to : Option Str) (g : Str) (hs : List Str) (ps : List (Str × Str)) (lks hds : List D) (j : Nat) (rs : List D) (O : List Str), vs = [v, .ref pw, .ref pm, vt] ∧ Rep H v (townD g hs ps lks hds) ∧ TownOk g hs ps lks hds ∧ hs[j]? = some x ∧ hds[j]? = some (.tup rs) ∧ HandsOk O rs ∧ O.length ≤ 13 ∧ (∀ y ∈ O, isNameB y = true) ∧ Mk O ms ∧ H pw = some (.tup ((x :: ws).map V.str)) ∧ H pm = some (.tup (ms.map V.str)) ∧ TO vt to ∧ (∀ y ∈ x :: ws, isNameB y = true) ∧ ws.length ≤ 90 ∧ ∀ (u : V) (H' : Hp), Told H' u (handedOf (x :: ws) to rs ms) → Same H H' → Q u H'
theorem hds_at {g : Str} {hs : List Str} {ps : List (Str × Str)} {lks hds : List D} (T : TownOk g hs ps lks hds) {x : Str} (h : x ∈ hs) : ∃ (j : Nat) (d : D), hs[j]? = some x ∧ hds[j]? = some d ∧ d ∈ hds := by
  obtain ⟨j, hj, e⟩ := List.getElem_of_mem h
  have hl : j < hds.length := by rw [T.lh]; exact hj
  exact ⟨j, hds[j], by rw [List.getElem?_eq_getElem hj, e], List.getElem?_eq_getElem hl, List.getElem_mem hl⟩
def neD (m : Str) : D → Bool | .str z => !decide (z = m) | _ => false
theorem ne_map {t : List Str} {m : Str} : ((t.map D.str).filter (neD m)).map (fun d => d) = (t.filter fun x => !decide (x = m)).map D.str := by
  rw [List.map_id', List.filter_map]; rfl
end RW

set_option Elab.async false
set_option linter.all false
set_option maxRecDepth 100000
set_option maxHeartbeats 4000000
/-! tuples in order -/
namespace L2
open PySem PySem.W PySem.Spec PyProof.Rows
section
open PySem.SeqAt
open PySem.AutoSeq1 (wpAny_loadPart')
open PySem.MeetsSeq PySem.MeetsSeq2 PySem.MeetsSeq3
end
end L2
namespace L2
open PySem PySem.W PySem.Spec PyProof.Rows RW
def ltL : List Str → List Str → Bool
  | [], [] => false
  | [], _ :: _ => true
  | _ :: _, [] => false
  | x :: xs, y :: ys => if x = y then ltL xs ys else ltS x y
section
variable {X : Cx} {K : PySem.W.Frag}
end
end L2

set_option Elab.async false
set_option linter.all false
set_option maxRecDepth 100000
set_option maxHeartbeats 4000000
/-! ways with marks, liked more or less -/
namespace RW
open PySem PySem.Spec PyProof.Rows L2
end RW

set_option Elab.async false
set_option linter.all false
set_option maxRecDepth 100000
set_option maxHeartbeats 4000000
/-! t[::step], step being 1 or -1 -/
namespace HT
open PySem PySem.Spec PyProof.Rows
section
variable {prog : Program} {w : World} {A : Around} {E : Value → Shared → Prop} {s : Shared}
end
end HT
namespace L2
open PySem PySem.Spec PyProof.Rows
section
variable {X : Cx} {e st : Expr} {te ts : TE} {p1 p2 p3 pos : Pos} {tk : Tok}
end
end L2

set_option Elab.async false
set_option linter.all false
set_option maxRecDepth 100000
set_option maxHeartbeats 4000000
/-! rules cut in two, rules that never hold -/
namespace RW
open PySem PySem.Spec PyProof.Rows L2
section
variable {te tf : TE} {ta : TA} {σ : L2.St} {H : Hp} {d : D} {ds es : List D} {K : PySem.W.Frag}
end
/-! lists with one place changed -/
/-! worths of rules put together -/
end RW

set_option Elab.async false
set_option linter.all false
set_option maxRecDepth 100000
set_option maxHeartbeats 4000000
/-! a dict keyed by tuples, walked by a comprehension: while it is walked (and behind that) it is frozen: read, not written -/
namespace L2
open PySem PySem.Spec PyProof.Rows
section
variable {X : Cx} {pos : Pos} {pins : List (Addr × Obj)} {σ : St} {H : Hp} {s : Shared}
end
end L2

set_option Elab.async false
set_option linter.all false
set_option maxRecDepth 100000
set_option maxHeartbeats 4000000
/-! list.insert, enumerate(list), sorted(.., reverse=True) of ints, a dict display keyed by a tuple, its length -/
namespace L2
open PySem PySem.Spec PyProof.Rows
section
variable {X : Cx} {K : PySem.W.Frag}
end
end L2
namespace L2
open PySem PySem.Spec PyProof.Rows
section
variable {X : Cx} {pos : Pos}
end
end L2
namespace HT
open PySem PySem.Spec PyProof.Rows
end HT
namespace L2
open PySem PySem.Spec PyProof.Rows
section
variable {X : Cx} {e i o : Expr} {te td ty : TE} {p1 p2 p3 pos : Pos} {tk : Tok}
end
end L2

set_option Elab.async false
set_option linter.all false
set_option maxRecDepth 100000
set_option maxHeartbeats 4000000
/-! ways put in order by likes_more -/
namespace RW
open PySem PySem.Spec PyProof.Rows L2
/-! putting in -/
/-! data -/
mutual
theorem eqv_pyD : ∀ d : D, (pyD d).eqv (pyD d) = true
  | .non => by rw [pyD, PyData.eqv]
  | .bl b => by rw [pyD, PyData.eqv]; simp
  | .int i => by rw [pyD, PyData.eqv]; simp
  | .str x => by rw [pyD, PyData.eqv]; simp
  | .tup ds => by rw [pyD, PyData.eqv]; exact eqv_pyL ds
  | .oth => by rw [pyD, PyData.eqv]
theorem eqv_pyL : ∀ ds : List D, PyData.eqvAll (pyL ds) (pyL ds) = true
  | [] => by rw [pyL, PyData.eqvAll]
  | d :: ds => by rw [pyL, PyData.eqvAll, eqv_pyD d, eqv_pyL ds]; rfl
end
theorem eqv_list {ds : List D} : (PyData.list (ds.map pyD)).eqv (.list (ds.map pyD)) = true := by
  rw [PyData.eqv, ← pyL_map]; exact eqv_pyL ds
/-! a dict of ways and marks -/
end RW

set_option Elab.async false
set_option linter.all false
set_option maxRecDepth 100000
set_option maxHeartbeats 4000000
/-! zip of two lists or tuples -/
namespace HT
open PySem PySem.Spec PyProof.Rows L2
section
variable {prog : Program} {w : World} {A : Around} {E : Value → Shared → Prop} {s : Shared}
/-! the sources -/
def SqH (t : Bool) (h : Heap) (a : Addr) (items : Array Value) : Prop := if t then h.IsTuple a items else h.IsList a items
def ItH (t : Bool) (h : Heap) (it a : Addr) (i : Nat) : Prop := if t then h.IsTupleIter it a i else h.IsListIter it a i
end
end HT

set_option Elab.async false
set_option linter.all false
set_option maxRecDepth 100000
set_option maxHeartbeats 4000000
/-! zip walked by a loop -/
namespace L2
open PySem PySem.Spec PyProof.Rows
section
variable {X : Cx} {K : PySem.W.Frag}
structure ZpA (z TI TO i1 i2 : Addr) : Prop where
  TIz : TI ≠ z
  TOz : TO ≠ z
  i1z : i1 ≠ z
  i2z : i2 ≠ z
  TITO : TI ≠ TO
  TIi1 : TI ≠ i1
  TIi2 : TI ≠ i2
  TOi1 : TO ≠ i1
  TOi2 : TO ≠ i2
  i12 : i1 ≠ i2
end
end L2

set_option Elab.async false
set_option linter.all false
set_option maxRecDepth 100000
set_option maxHeartbeats 4000000
/-! a comprehension of two clauses -/
namespace L2
open PySem PySem.Spec PyProof.Rows
section
variable {prog : Program} {w : World} {A : Around} {R : Result → Shared → Prop} {s : Shared} {elt t1 i1 t2 i2 : Expr} {f1 f2 : List Expr} {scope : Scope} {pos : Pos} {it acc : Value} {env : Env}
end
section
variable {X : Cx} {elt tg iter tg2 iter2 : Expr} {ifs ifs2 : List Expr} {scope osc : Scope} {pos : Pos} {N' : List Str} {src : List (Option Nat)} {wi wi2 : TI} {g g2 : TG} {tc tc2 : TT} {te : TE}
end
end L2

set_option Elab.async false
set_option linter.all false
set_option maxRecDepth 100000
set_option maxHeartbeats 4000000
/-! f-strings -/
namespace L2
open PySem PySem.Spec PyProof.Rows
/-- the text of a text or a number -/
def TxtOf (v : V) (y : Str) : Prop := v = .str y ∨ ∃ i : Int, v = .int i ∧ y = (toString i : String) ∧ i.natAbs.log2 < 1920
section
variable {X : Cx} {e : Expr} {te : TE} {pos : Pos} {es : List Expr} {ts : List TE}
structure QP1 (X : Cx) (e : Expr) (te : TE) : Prop where
  o : ∀ (pins : List (Addr × Obj)) (s : Shared) (σ : St) (H : Hp) (Q : Str → Hp → Prop), Inv X pins σ H s → (te σ H fun v H1 => ∃ y, TxtOf v y ∧ y.length ≤ sizeLine ∧ Q y H1) →
    wpAny (model X.prog X.w) X.A (eval e X.env) (fun u s1 => ∃ y t H1, u = .str y t ∧ Inv X pins σ H1 s1 ∧ Q y H1) X.xe s
inductive QJ (X : Cx) : List Expr → List TE → Prop
  | nil : QJ X [] []
  | cons {e : Expr} {t : TE} {es : List Expr} {ts : List TE} (h : QP1 X e t) (r : QJ X es ts) : QJ X (e :: es) (t :: ts)
end
end L2

set_option Elab.async false
set_option linter.all false
set_option maxRecDepth 100000
set_option maxHeartbeats 4000000
/-! list += list -/
namespace L2
open PySem PySem.Spec PyProof.Rows
section
variable {prog : Program} {w : World} {A : Around} {E : Value → Shared → Prop} {s : Shared}
end
section
variable {X : Cx}
end
end L2

set_option Elab.async false
set_option linter.all false
set_option maxRecDepth 100000
set_option maxHeartbeats 4000000
/-! texts of towns: the mathematics -/
namespace RW
open PySem PySem.Spec PyProof.Rows L2
/-! joined -/
/-! rows -/
end RW

set_option Elab.async false
set_option linter.all false
set_option maxRecDepth 100000
set_option maxHeartbeats 4000000
/-! two clauses: how the rules are met -/
namespace L2
open PySem PySem.Spec PyProof.Rows
section
variable {X : Cx} {K : PySem.W.Frag}
end
end L2
namespace RW
open PySem PySem.Spec PyProof.Rows L2
end RW

set_option Elab.async false
set_option linter.all false
set_option maxRecDepth 100000
set_option maxHeartbeats 4000000
/-! dict(zip(a, b)) -/
namespace HT
open PySem PySem.Spec PyProof.Rows L2
section
variable {prog : Program} {w : World} {A : Around} {E : Value → Shared → Prop} {s : Shared}
end
end HT

set_option Elab.async false
set_option linter.all false
set_option maxRecDepth 100000
set_option maxHeartbeats 4000000
/-! dict(zip(a, b)): the loop, the call -/
namespace HT
open PySem PySem.Spec PyProof.Rows L2
section
variable {prog : Program} {w : World} {A : Around} {E : Value → Shared → Prop} {s : Shared} {K : Type} [DecidableEq K] {knd : KeyKind prog w K}
structure DzAt (h : Heap) (knd : KeyKind prog w K) (t1 t2 : Bool) (z TI i1 i2 l1 l2 d : Addr) (xs ys : Array Value) (kvs : List (K × Value)) (i : Nat) : Prop where
  TI : IsPair h TI (.ref i1) (.ref i2)
  p1 : ItH t1 h i1 l1 i
  p2 : ItH t2 h i2 l2 i
  q1 : SqH t1 h l1 xs
  q2 : SqH t2 h l2 ys
  dd : h.DictOf knd d kvs
structure DzD (z TI TO i1 i2 l1 l2 d : Addr) : Prop extends ZipApart z TI TO i1 i2 l1 l2 where
  dz : d ≠ z
  dTI : d ≠ TI
  di1 : d ≠ i1
  di2 : d ≠ i2
  dl1 : d ≠ l1
  dl2 : d ≠ l2
  TIl1 : True
end
end HT

set_option Elab.async false
set_option linter.all false
set_option maxRecDepth 100000
set_option maxHeartbeats 4000000
/-! dict(zip(a, b)): the rule -/
namespace L2
open PySem PySem.Spec PyProof.Rows
section
variable {X : Cx}
end
end L2

set_option Elab.async false
set_option linter.all false
set_option maxRecDepth 100000
set_option maxHeartbeats 4000000
/-! repr of data -/
namespace RW
open PySem PySem.Spec PyProof.Rows L2
section
variable {X : Cx}
end
end RW

set_option Elab.async false
set_option linter.all false
set_option maxRecDepth 100000
set_option maxHeartbeats 4000000
/-! how long the shown text of a town is -/
namespace RW
open PySem PySem.Spec PyProof.Rows L2
end RW

set_option Elab.async false
set_option linter.all false
set_option maxRecDepth 100000
set_option maxHeartbeats 4000000
/-! sorted of tuples of texts, some of them perhaps alike -/
namespace RW
open PySem PySem.W PyProof.Rows L2
section
variable {N : Nat} {lt : Nat → Nat → Bool}
end
end RW
namespace L2
open PySem PySem.Spec PySem.W PyProof.Rows
section
variable {prog : Program} {w : World} {A : Around} {E : Value → Shared → Prop} {s : Shared}
end
section
variable {X : Cx} {K : PySem.W.Frag}
end
end L2

set_option Elab.async false
set_option linter.all false
set_option maxRecDepth 100000
set_option maxHeartbeats 4000000
/-! a method without arguments; str.upper -/
namespace L2
open PySem PySem.Spec PyProof.Rows
section
variable {X : Cx} {K : PySem.W.Frag} {o : Expr} {to : TE} {name : Str} {apos cpos : Pos} {T id : String} {r : V → List V → Hp → VK → Prop}
theorem q_bm0 (pa : PlainAttrs T) (slot : Slot T name id) (hty : typeOf (.builtin id) = pure (.type "method_descriptor")) (hm : MtR X id r) (ho : QE X o to)
    (hbase : attributeBase o name X.env (eval o X.env) = eval o X.env := by rfl) (hline : (apos.endLine == cpos.line) = true := by rfl) : QE X (.Call (.Attribute o name apos) [] [] cpos) (tBM0 X.K T r to) := ⟨pe_bm0 pa slot hty hm ho.o hbase hline⟩
end
end L2
namespace L2
open PySem PySem.Spec PyProof.Rows
section
variable {X : Cx} {K : PySem.W.Frag}
end
end L2

set_option Elab.async false
set_option linter.all false
set_option maxRecDepth 100000
set_option maxHeartbeats 4000000
/-! kin: the mathematics -/
namespace RW
open PySem PySem.Spec PyProof.Rows L2
def tD (xs : List Str) : D := .tup (xs.map D.str)
def rowL : List Str → Bool
  | [a, b, w] => isNameB a && isNameB b && (if w = "equal" then ltS a b else decide (w = "over") && !decide (a = b))
  | _ => false
def tieL (r : List Str) : List Str := srt (r.take 2)
structure KinOk (rs : List (List Str)) : Prop where
  row : ∀ r ∈ rs, rowL r = true
  rise : rs.Pairwise (fun a b => ltL a b = true)
  ties : (rs.map tieL).Nodup
/-! ties of names -/
def pr (a b : Str) : List Str := srt [a, b]
end RW

set_option Elab.async false
set_option linter.all false
set_option maxRecDepth 100000
set_option maxHeartbeats 4000000
/-! kin drawn, kin spoilt -/
namespace RW
open PySem PySem.Spec PyProof.Rows L2
abbrev at_ (xs : List Str) (i : Nat) : Str := xs.getD i ""
structure KD62 (xs : List Str) (ps : List (Nat × Nat)) (k : Nat) (rs : List (List Str)) : Prop where
  row : ∀ r ∈ rs, rowL r = true
  nd : (rs.map tieL).Nodup
  few : rs.length ≤ k
  old : ∀ r ∈ rs, ∃ q ∈ ps.take k, q.1 < q.2 ∧ tieL r = pr (at_ xs q.1) (at_ xs q.2)
/-! a ring -/
/-! spoilt -/
/-! rows that are none -/
/-! pairs of numbers -/
theorem tr_list {H : Hp} {l : Addr} {vs : List V} {ds : List D} (e : H l = some (.lst vs)) (r : RepL H vs ds) (h : ∀ d ∈ ds, okD d = true) : Tr H (.ref l) (.list (ds.map pyD)) := by
  refine .lst e (by rw [List.length_map]; exact r.1) fun i v d e1 e2 => ?_
  rw [List.getElem?_map] at e2
  cases e3 : ds[i]? with
  | none => rw [e3] at e2; cases e2
  | some d' => rw [e3] at e2; cases e2; exact tr_of (r.2 i v d' e1 e3) (h d' (List.mem_of_getElem? e3))
end RW

set_option Elab.async false
set_option linter.all false
set_option maxRecDepth 100000
set_option maxHeartbeats 4000000
/-! displays of which only a property is known -/
namespace RW
open PySem PySem.Spec PyProof.Rows L2
section
variable {te tf : TE} {ta : TA} {σ : L2.St} {H : Hp} {P P' : D → Prop} {d : D} {ds : List D} {n : Nat} {K : PySem.W.Frag}
end
end RW

set_option Elab.async false
set_option linter.all false
set_option maxRecDepth 100000
set_option maxHeartbeats 4000000
/-! reversed(range(n)) -/
namespace HT
open PySem PySem.Spec PyProof.Rows L2
section
variable {prog : Program} {w : World} {A : Around} {E : Value → Shared → Prop} {s : Shared}
end
end HT
namespace L2
open PySem PySem.Spec PyProof.Rows
section
variable {X : Cx} {tg : Expr}
end
end L2

set_option Elab.async false
set_option linter.all false
set_option maxRecDepth 100000
set_option maxHeartbeats 4000000
/-! marks of ways -/
namespace L2
open PySem PySem.Spec PyProof.Rows
section
variable {X : Cx}
end
end L2
namespace RW
open PySem PySem.Spec PyProof.Rows L2
def tupL : D → List D | .tup rs => rs | _ => []
def rowsOf : List Str → List D → Str → List D
  | h :: hs, d :: ds, x => if h = x then tupL d else rowsOf hs ds x
  | _, _, _ => []
theorem rows_of {x : Str} {rs : List D} : ∀ {hs : List Str} {ds : List D} {j : Nat}, hs.Nodup → hs[j]? = some x → ds[j]? = some (.tup rs) → rowsOf hs ds x = rs
  | [], _, j, _, h1, _ => by simp at h1
  | h :: hs, [], j, _, _, h2 => by simp at h2
  | h :: hs, d :: ds, 0, _, h1, h2 => by
    simp at h1 h2
    subst h1 h2
    rw [rowsOf, if_pos rfl]; rfl
  | h :: hs, d :: ds, j + 1, nd, h1, h2 => by
    simp only [List.getElem?_cons_succ] at h1 h2
    rw [List.nodup_cons] at nd
    have hne : ¬ h = x := fun e => nd.1 (e ▸ List.mem_of_getElem? h1)
    rw [rowsOf, if_neg hne]
    exact rows_of nd.2 h1 h2
/-- marks told: names of O, rising -/
structure Mr (O t : List Str) : Prop extends Mk O t where
  rise : t.Pairwise (fun a b => ltS a b = true)
theorem Mr.next {O t : List Str} {w m : Str} (h : Mr O t) (hm : m ∈ O) : Mr O (nextM t w m) := ⟨h.toMk.next hm, srt_rise (behind_nd h.nd)⟩
theorem Mr.nil {O : List Str} : Mr O [] := ⟨⟨List.nodup_nil, fun _ h => nomatch h⟩, List.Pairwise.nil⟩
theorem handed_mr {O : List Str} {ws : List Str} {to : Option Str} : ∀ {rs : List D} {ms t : List Str}, (∀ r ∈ rs, ∃ cs x, r = .tup [.tup cs, x] ∧ (∀ c ∈ cs, isCondB c = true) ∧ (x = .tup [.str "keep"] ∨ ∃ w m, x = .tup [.str w, .str m] ∧ (w = "put" ∨ w = "strike") ∧ m ∈ O)) → Mr O ms → handedOf ws to rs ms = some t → Mr O t
  | [], ms, t, _, h, e => by rw [handedOf] at e; cases e; exact h
  | r :: rs, ms, t, hr, h, e => by
    obtain ⟨cs, x, rfl, _, hx⟩ := hr r List.mem_cons_self
    have hr' := fun r h => hr r (List.mem_cons_of_mem _ h)
    rw [handedOf] at e
    split at e
    · rcases hx with rfl | ⟨w, m, rfl, _, hm⟩
      · cases e
      · exact handed_mr hr' (h.next hm) e
    · exact handed_mr hr' h e
end RW

set_option Elab.async false
set_option linter.all false
/-! lists of a given length -/
namespace L2
section
variable {α : Type} {P : List α → Prop}
theorem of1 (h : ∀ a, P [a]) : ∀ us : List α, us.length = 1 → P us
  | [a], _ => h a
theorem of2 (h : ∀ a b, P [a, b]) : ∀ us : List α, us.length = 2 → P us
  | [a, b], _ => h a b
theorem of3 (h : ∀ a b c, P [a, b, c]) : ∀ us : List α, us.length = 3 → P us
  | [a, b, c], _ => h a b c
theorem of4 (h : ∀ a b c d, P [a, b, c, d]) : ∀ us : List α, us.length = 4 → P us
  | [a, b, c, d], _ => h a b c d
end
end L2

set_option Elab.async false
set_option linter.all false
set_option maxRecDepth 100000
set_option maxHeartbeats 4000000
/-! max(list of ints, default=0): some int -/
namespace HT
open PySem PySem.Spec PyProof.Rows L2
section
variable {prog : Program} {w : World} {A : Around} {R : Result → Shared → Prop} {I : Addr} {fp wr : List Addr} {n : Nat} {P : Nat → Value → Prop} {St : Nat → Heap → Prop}
end
section
variable {prog : Program} {w : World} {A : Around} {E : Value → Shared → Prop} {s : Shared}
end
end HT
namespace L2
open PySem PySem.Spec PyProof.Rows
section
variable {X : Cx}
end
end L2

set_option Elab.async false
set_option linter.all false
set_option maxRecDepth 100000
set_option maxHeartbeats 4000000
/-! list.index of texts -/
namespace L2
open PySem PySem.Spec PyProof.Rows
section
variable {X : Cx}
end
end L2

set_option Elab.async false
set_option linter.all false
set_option maxRecDepth 100000
set_option maxHeartbeats 4000000
/-! list(d), d a dict keyed by texts -/
namespace L2
open PySem PySem.W PySem.Spec PyProof.Rows PyProof.V
section
variable {X : Cx}
end
end L2

set_option Elab.async false
set_option linter.all false
set_option maxRecDepth 100000
set_option maxHeartbeats 4000000
/-! set(list of texts, each once): the loop -/
namespace HT
open PySem PySem.Spec PyProof.Rows L2
section
variable {prog : Program} {w : World} {A : Around} {R : Result → Shared → Prop} {I : Addr} {fp wr : List Addr} {n : Nat} {P : Nat → Value → Prop} {St : Nat → Heap → Prop}
end
end HT

set_option Elab.async false
set_option linter.all false
set_option maxRecDepth 100000
set_option maxHeartbeats 4000000
/-! set(list of texts, each once): the call -/
namespace HT
open PySem PySem.Spec PyProof.Rows L2
section
variable {prog : Program} {w : World} {A : Around} {E : Value → Shared → Prop} {s : Shared}
end
end HT

set_option Elab.async false
set_option linter.all false
set_option maxRecDepth 100000
set_option maxHeartbeats 4000000
/-! set(list of texts, each once), and its len -/
namespace HT
open PySem PySem.Spec PyProof.Rows L2
section
variable {prog : Program} {w : World} {A : Around} {E : Value → Shared → Prop} {s : Shared}
end
end HT
namespace L2
open PySem PySem.W PySem.Spec PyProof.Rows PyProof.V
section
variable {X : Cx}
end
end L2

set_option Elab.async false
set_option linter.all false
set_option maxRecDepth 100000
set_option maxHeartbeats 4000000
/-! x = {k: v for .. in .. for .. in ..} -/
namespace L2
open PySem PySem.Spec PyProof.Rows
section
variable {prog : Program} {w : World} {A : Around} {R : Result → Shared → Prop} {s : Shared} {kx vx t1 i1 t2 i2 : Expr} {f1 f2 : List Expr} {scope : Scope} {pos : Pos} {it acc : Value} {env : Env} {d : Addr}
end
section
variable {X : Cx} {kx vx tg iter tg2 iter2 : Expr} {ifs ifs2 : List Expr} {scope osc : Scope} {pos : Pos} {N' : List Str} {src : List (Option Nat)} {wi wi2 : TI} {g g2 : TG} {tc tc2 : TT} {tk tv : TE} {y : Str} {py spos : Pos} {k : Nat}

end
end L2

set_option Elab.async false
set_option linter.all false
set_option maxRecDepth 100000
set_option maxHeartbeats 4000000
/-! a dict keyed by ints and texts, walked while it is frozen -/
namespace L2
open PySem PySem.Spec PyProof.Rows
section
variable {X : Cx} {pos : Pos} {pins : List (Addr × Obj)} {σ : St} {H : Hp} {s : Shared}
end
end L2

set_option Elab.async false
set_option linter.all false
set_option maxRecDepth 100000
set_option maxHeartbeats 4000000
/-! rings of elders: the mathematics -/
namespace RW
open PySem PySem.Spec PyProof.Rows L2
structure RingG (G : Str → List Str) (xs : List Str) : Prop where
  two : 2 ≤ xs.length
  ends : xs[0]? = xs[xs.length - 1]?
  nd : (xs.drop 1).Nodup
  nxt : ∀ i a b, xs[i]? = some a → xs[i + 1]? = some b → a ∈ G b
/-- a dict of lists of texts -/
structure Led (H : Hp) (kvs : List (Key × V)) (ks : List Str) (G : Str → List Str) : Prop where
  keys : kvs.map (·.1) = ks.map Sum.inr
  nd : ks.Nodup
  at_ : ∀ x ∈ ks, ∃ l, valV kvs (Sum.inr x) = some (.ref l) ∧ H l = some (.lst ((G x).map V.str))
  sub : ∀ x ∈ ks, ∀ y ∈ G x, y ∈ ks
  short : ∀ x ∈ ks, x.length ≤ 1000
  few : ks.length ≤ 60 ∧ ∀ x ∈ ks, (G x).length ≤ 60
def tol (tk : List (Key × V)) (x : Str) : Bool := (valV tk (Sum.inr x)).isSome
structure Tld63 (tk : List (Key × V)) (ks : List Str) (G : Str → List Str) : Prop where
  opn : ∀ x ∈ ks, tol tk x = false → ∃ y ∈ G x, tol tk y = false
  sure : ∀ W : Str → Prop, (∀ b, W b → ∃ a ∈ G b, W a) → ∀ b, W b → tol tk b = false
/-! peeling -/
structure Peel (rs R : List (List Str)) : Prop where
  sub : ∀ r ∈ R, r ∈ rs ∧ at_ r 2 = ("over" : Str)
  out : ∀ W : Str → Prop, (∀ b, W b → ∃ a, [a, b, "over"] ∈ rs ∧ W a) → ∀ a b, W a → W b → [a, b, "over"] ∈ rs → [a, b, "over"] ∈ R
end RW

set_option Elab.async false
set_option linter.all false
set_option maxRecDepth 100000
set_option maxHeartbeats 4000000
/-! a comprehension over values, its values told; ranks -/
namespace RW
open PySem PySem.Spec PyProof.Rows L2
theorem comp_V {J : It} {vs : List V} {f : V → V} {g : V → Bool} {ok : Hp → Prop} {tc : TT} {te : TE} {src : List (Option Nat)} {σ : L2.St} {H : Hp} {σr : L2.St} {Q : VK} (wk : Wk J vs.length (fun i x => vs[i]? = some x) ok) (hok : ∀ H', Same H H' → ok H') (hl : vs.length ≤ 900) (e : capt src σ = none :: σr)
    (hc : ∀ (x : V) (H1 : Hp) (Q1 : Bool → Hp → Prop), Same H H1 → x ∈ vs → (∀ H2, Same H1 H2 → Q1 (g x) H2) → tc (some x :: σr) H1 Q1)
    (he : ∀ (x : V) (H1 : Hp) (Q1 : VK), Same H H1 → x ∈ vs → g x = true → (∀ H2, Same H1 H2 → Q1 (f x) H2) → te (some x :: σr) H1 Q1)
    (q : ∀ l H', Same H H' → H l = none → H' l = some (.lst ((vs.filter g).map f)) → Q (.ref l) H') : CompGo (gName 0) tc te src σ Q J H := by
  refine comp_by wk (fun l i ys σ' H' => (∃ o, σ' = o :: σr) ∧ ys = ((vs.take i).filter g).map f ∧ Same H H') ?_ ?_ ?_ ?_
  · exact fun l h' => ⟨⟨none, e⟩, rfl, Same.new h'⟩
  · exact fun l i ys σ' H' _ p => hok H' p.2.2
  · rintro l i y ys σ' H1 h' hi hy ⟨⟨o, rfl⟩, ry, s1⟩ hl'
    refine hc y H1 _ s1 (List.mem_of_getElem? hy) fun H2 s2 => ?_
    have tk : ((vs.take (i + 1)).filter g).map f = ((vs.take i).filter g).map f ++ ([y].filter g).map f := by
      rw [List.take_add_one, hy, List.filter_append, List.map_append]; rfl
    rw [tk]
    cases hg : g y with
    | false =>
      have e0 : ([y].filter g).map f = [] := by simp [hg]
      rw [e0, List.append_nil]
      exact ⟨s2 _ _ hl', ⟨_, rfl⟩, ry, s1.trans s2⟩
    | true =>
      have e0 : ([y].filter g).map f = [f y] := by simp [hg]
      rw [e0]
      refine he y H2 _ (s1.trans s2) (List.mem_of_getElem? hy) hg fun H3 s3 => ?_
      refine ⟨s3 _ _ (s2 _ _ hl'), ?_, ⟨_, rfl⟩, by rw [ry], ?_⟩
      · rw [ry, List.length_map]
        have h2 := List.length_filter_le g (vs.take i)
        rw [List.length_take] at h2
        exact small1000 (by omega)
      · exact fun c o e => by
          rw [upd_ne (ne_of_none e h')]
          exact s3 _ _ (s2 _ _ (s1 _ _ e))
  · rintro l ys σ' H1 h' ⟨⟨o, rfl⟩, ry, s1⟩ hl'
    rw [List.take_length] at ry
    subst ry
    exact q l H1 s1 h' hl'
theorem filt1 {α : Type} {xs : List α} : xs.filter (fun _ => true) = xs := by simp
/-- of texts -/
theorem comp_S {J : It} {xs : List Str} {f : Str → V} {g : Str → Bool} {ok : Hp → Prop} {tc : TT} {te : TE} {src : List (Option Nat)} {σ : L2.St} {H : Hp} {σr : L2.St} {Q : VK} (wk : Wk J (xs.map V.str).length (fun i x => (xs.map V.str)[i]? = some x) ok) (hok : ∀ H', Same H H' → ok H') (hl : xs.length ≤ 900) (e : capt src σ = none :: σr)
    (hc : ∀ (x : Str) (H1 : Hp) (Q1 : Bool → Hp → Prop), Same H H1 → x ∈ xs → (∀ H2, Same H1 H2 → Q1 (g x) H2) → tc (some (.str x) :: σr) H1 Q1)
    (he : ∀ (x : Str) (H1 : Hp) (Q1 : VK), Same H H1 → x ∈ xs → g x = true → (∀ H2, Same H1 H2 → Q1 (f x) H2) → te (some (.str x) :: σr) H1 Q1)
    (q : ∀ l H', Same H H' → H l = none → H' l = some (.lst ((xs.filter g).map f)) → Q (.ref l) H') : CompGo (gName 0) tc te src σ Q J H := by
  let un : V → Str := fun v => match v with | .str x => x | _ => ""
  refine comp_V (vs := xs.map V.str) (f := fun v => f (un v)) (g := fun v => g (un v)) wk hok (by rw [List.length_map]; exact hl) e (fun x H1 Q1 s1 hx k => ?_) (fun x H1 Q1 s1 hx hg k => ?_) fun l H' s' hl' hH' => ?_
  · obtain ⟨y, hy, rfl⟩ := List.mem_map.mp hx
    exact hc y H1 Q1 s1 hy k
  · obtain ⟨y, hy, rfl⟩ := List.mem_map.mp hx
    exact he y H1 Q1 s1 hy hg k
  · refine q l H' s' hl' ?_
    rw [hH', List.filter_map, List.map_map]
    rfl
structure LR (ks : List Str) (G : Str → List Str) (tk : List (Key × V)) (ws : List Str) : Prop where
  sub : ∀ x ∈ ws, x ∈ ks
  cov : ∀ x ∈ ks, x ∈ ws ∨ tol tk x = true
  sure : ∀ W : Str → Prop, (∀ b, W b → ∃ a ∈ G b, W a) → ∀ b, W b → tol tk b = false
  inv : ∀ x v, valV tk (Sum.inr x) = some v → ∃ n, v = V.int n
  len : tk.length + ws.length ≤ ks.length
/-- what is left, i gone through -/
structure LRi (ks : List Str) (G : Str → List Str) (tk : List (Key × V)) (ws ys : List Str) (i : Nat) (fr : Bool) : Prop where
  sub : ∀ x ∈ ys, x ∈ ks
  cov : ∀ x ∈ ks, x ∈ ys ∨ x ∈ ws.drop i ∨ tol tk x = true
  sure : ∀ W : Str → Prop, (∀ b, W b → ∃ a ∈ G b, W a) → ∀ b, W b → tol tk b = false
  inv : ∀ x v, valV tk (Sum.inr x) = some v → ∃ n, v = V.int n
  len : tk.length + ys.length + (ws.length - i) ≤ ks.length
  le : ys.length ≤ i
  lt : fr = true → ys.length < i
  opn : fr = false → ∀ x ∈ ys, ∃ y ∈ G x, tol tk y = false
/-- walking up -/
structure Wlk (ks : List Str) (G : Str → List Str) (tk : List (Key × V)) (row : List Str) (x : Str) : Prop where
  nd : row.Nodup
  sub : ∀ y ∈ row, y ∈ ks
  ch : ∀ i a b, row[i]? = some a → row[i + 1]? = some b → b ∈ G a
  nx : ∀ a, row[row.length - 1]? = some a → x ∈ G a
  xk : x ∈ ks
  xu : tol tk x = false
end RW

set_option Elab.async false
set_option linter.all false
set_option maxRecDepth 100000
set_option maxHeartbeats 4000000
/-! a dict comprehension of two clauses, gone through; lists in a dict that grow -/
namespace L2
open PySem PySem.Spec PyProof.Rows
end L2
namespace RW
open PySem PySem.Spec PyProof.Rows L2
/-- a dict of new lists, each one's own -/
structure EL (H H' : Hp) (kvs : List (Key × V)) (ks : List Str) (G : Str → List Str) : Prop where
  keys : kvs.map (·.1) = ks.map Sum.inr
  nd : ks.Nodup
  at_ : ∀ x ∈ ks, ∃ l, valV kvs (Sum.inr x) = some (.ref l) ∧ H' l = some (.lst ((G x).map V.str)) ∧ H l = none
  apart : ∀ x ∈ ks, ∀ y ∈ ks, ∀ l, valV kvs (Sum.inr x) = some (.ref l) → valV kvs (Sum.inr y) = some (.ref l) → x = y
end RW

set_option Elab.async false
set_option linter.all false
set_option maxRecDepth 100000
set_option maxHeartbeats 4000000
/-! rows gone through -/
namespace RW
open PySem PySem.Spec PyProof.Rows L2
end RW

set_option Elab.async false
set_option linter.all false
set_option maxRecDepth 100000
set_option maxHeartbeats 4000000
/-! rows kept in a dict by their two houses -/
namespace RW
open PySem PySem.Spec PyProof.Rows L2
def kOf (t : List Str) : List Key := t.map Sum.inr
structure RT (H : Hp) (kvs : List (List Key × V)) (rs : List (List Str)) : Prop where
  len : kvs.length = rs.length
  at_ : ∀ (j : Nat) (kv : List Key × V) (r : List Str), kvs[j]? = some kv → rs[j]? = some r → ∃ b, kv.1 = kOf (tieL r) ∧ kv.2 = .ref b ∧ H b = some (.tup (r.map V.str))
  row : ∀ r ∈ rs, rowL r = true
  nd : (rs.map tieL).Nodup
end RW

set_option Elab.async false
set_option linter.all false
set_option maxRecDepth 100000
set_option maxHeartbeats 4000000
/-! a ring drawn, and more -/
namespace RW
open PySem PySem.Spec PyProof.Rows L2
structure RG (xs : List Str) (m : Nat) (rs : List (List Str)) : Prop where
  row : ∀ r ∈ rs, rowL r = true
  nd : (rs.map tieL).Nodup
  old : ∀ r ∈ rs, ∃ i j, i < m ∧ j < m ∧ tieL r = pr (at_ xs i) (at_ xs j)
end RW

set_option Elab.async false
set_option linter.all false
set_option maxRecDepth 100000
set_option maxHeartbeats 4000000
/-! own classes in boxes; products of great numbers; == with things that the top has made -/
namespace RW
open PySem PySem.Spec PyProof.Rows L2
structure MAt (K : PySem.W.Frag) (C : Addr) (x qual : Str) (st : Stmt) (ps : List Str) (f : Addr) (fd : FuncData) : Prop where
  fn : Fun K x qual st f fd
  b : Binds K fd ps []
  m : Meth K C x f
end RW
namespace L2
open PySem PySem.Spec PyProof.Rows
section
variable {X : Cx} {o e value : Expr} {f m : Str} {pos pos' tpos apos : Pos} {ta tv : TE} {K : PySem.W.Frag} {es : List Expr} {t : TA} {C fa : Addr} {fd : FuncData} {CX : CXT} {k : Nat} {ps : List Str} {sp : Sp} {dvs : List V} {ds : List Value} {E : XK}
theorem q_fld (he : QE X e ta) (hb : attributeBase e f X.env (eval e X.env) = eval e X.env := by rfl) : QE X (.Attribute e f pos) (tFld X.K ta f) := ⟨pe_fld he.o hb⟩
theorem s_fld (ha : QE X o ta) (hv : QE X value tv) (hs : swapsWith value (some (.Attribute o f pos')) pos.line X.env = pure false := by rfl) : QS X (.Assign [.Attribute o f pos'] value pos) (sFld X.K ta tv f) := ⟨ps_fld ha.o hv.o hs⟩
theorem s_fldaug {op : Operator} {rd : V → V → Hp → VK → Prop} (ha : QE X o ta) (hv : QE X value tv) (hop : InOp X op rd) : QS X (.AugAssign (.Attribute o f tpos) op value pos) (sFldAug X.K ta tv rd f) := ⟨ps_fldaug ha.o hv.o hop⟩
theorem q_meth {pl : Sem Bool} (he : QE X o ta) (c : Cls X.K C) (hm : Meth X.K C m fa) (F : FnOk X.prog X.w X.K X.mg X.base CX k fa fd ps sp) (hr : Room k X.A) (hb : Binds X.K fd ps ds) (hd : Vals dvs ds) (hx : Passes CX X E) (ha : QA X (e :: es) t)
    (hst : starEach (e :: es) X.env = (false, eval e X.env) :: starEach es X.env := by rfl) (hpl : (backTo pos (starEach es X.env)).any (·.1) = false := by rfl)
    (ht : eval (.Call (.Attribute o m apos) (e :: es) [] pos) X.env = (do
      let ov ← eval o X.env
      standAt apos.atName
      let (f, first) ← holding [ov] (getMethod ov m pl)
      callWith pos f first (backTo pos (starEach (e :: es) X.env)) (backToKw pos (keywordEach [] X.env))) := by rfl) :
    QE X (.Call (.Attribute o m apos) (e :: es) [] pos) (tMeth C m sp dvs E ta t) := ⟨pe_meth he.o c hm F hr hb hd hx ha.o hst hpl ht⟩
theorem q_meth0 {pl : Sem Bool} (he : QE X o ta) (c : Cls X.K C) (hm : Meth X.K C m fa) (F : FnOk X.prog X.w X.K X.mg X.base CX k fa fd ps sp) (hr : Room k X.A) (hb : Binds X.K fd ps ds) (hd : Vals dvs ds) (hx : Passes CX X E)
    (ht : eval (.Call (.Attribute o m apos) [] [] pos) X.env = (do
      let ov ← eval o X.env
      standAt apos.atName
      let (f, first) ← holding [ov] (getMethod ov m pl)
      callWith pos f first (backTo pos (starEach [] X.env)) (backToKw pos (keywordEach [] X.env))) := by rfl) :
    QE X (.Call (.Attribute o m apos) [] [] pos) (tMeth C m sp dvs E ta tNil) := ⟨pe_meth0 he.o c hm F hr hb hd hx ht⟩
theorem q_make {x : Str} {p : Pos} (M : Mk X.K C fa) (F : FnOk X.prog X.w X.K X.mg X.base CX k fa fd ps sp) (hr : Room (k + 1) X.A) (hm : X.mg x = some (.ref C)) (hb : Binds X.K fd ps ds) (hd : Vals dvs ds) (hx : Passes CX X E)
    (ha : QA X (e :: es) t) (hg : Gl X x := by rfl) (hdb : (x == ("__debug__" : Str)) = false := by decide) (he : starEach (e :: es) X.env = (false, eval e X.env) :: starEach es X.env := by rfl) (hpl : (backTo pos (starEach es X.env)).any (·.1) = false := by rfl) :
    QE X (.Call (.Name x p) (e :: es) [] pos) (tMake C sp dvs E t) := ⟨pe_make M F hr hg hm hb hd hx ha.o hdb he hpl⟩
theorem q_dget2 {g : Expr} {td ty tx : TE} {cpos : Pos} (hu : X.A.units + 1 < cLine) (ho : QE X o td) (he : QE X e ty) (hf : QE X g tx) (hb : attributeBase o "get" X.env (eval o X.env) = eval o X.env := by rfl)
    (hw : ((backTo cpos (starEach [e, g] X.env)).all (fun x => !x.1) && (backToKw cpos (keywordEach [] X.env)).all (fun x => x.1.isSome)
    && decide (([e, g] : List Expr).length + ([] : List Keyword).length + (if ([] : List Keyword).isEmpty then 0 else 1) < 30)) = true := by rfl) (hl : (apos.endLine == cpos.line) = true := by rfl) (ht : backTo cpos (starEach [e, g] X.env) = [(false, eval e X.env), (false, eval g X.env)] := by rfl) :
    QE X (.Call (.Attribute o "get" apos) [e, g] [] cpos) (tDGet2 td ty tx) := ⟨pe_dget2 hu ho.o he.o hf.o ⟨hb, hw, hl, ht⟩⟩
/-- a product, each of at most 2 ^ 20 bits -/
theorem op_mulB : OpR X (binaryOp .Mult) (rI (fun i j => Builtin.Int.intBits i ≤ 2 ^ 20 ∧ Builtin.Int.intBits j ≤ 2 ^ 20) fun i j => .int (i * j)) := opI fun _ _ _ _ _ _ _ hc q => mul_int q (.of_bits hc.1 hc.2)
end
end L2
namespace RW
open PySem PySem.Spec PyProof.Rows L2
/-- data, made here or by the top -/
inductive TrC (K : PySem.W.Frag) (H : Hp) : V → PyData → Prop
  | non : TrC K H .non .none
  | bl (b : Bool) : TrC K H (.bl b) (.bool b)
  | int (i : Int) : TrC K H (.int i) (.int i)
  | str (x : Str) (h : PyData.strOk x = true) : TrC K H (.str x) (.str x)
  | tup {p : Addr} {vs : List V} {ds : List PyData} (e : SqT K H p vs) (hl : vs.length = ds.length) (h : ∀ (i : Nat) (v : V) (d : PyData), vs[i]? = some v → ds[i]? = some d → TrC K H v d) : TrC K H (.ref p) (.tuple ds)
theorem TrC.reads {X : Cx} {pins : List (Addr × Obj)} {σ : L2.St} {H : Hp} {s : Shared} (I : Inv X pins σ H s) {x : V} {d : PyData} (t : TrC X.K H x d) : ∀ v, RelV x v → ∃ as, Reads s.heap v d as := by
  induction t with
  | non => intro v r; cases r; exact ⟨_, .none⟩
  | bl b => intro v r; cases r; exact ⟨_, .bool b⟩
  | int i => intro v r; obtain ⟨t, rfl⟩ := r; exact ⟨_, .int i t⟩
  | str x h => intro v r; obtain ⟨t, rfl⟩ := r; exact ⟨_, .str x t⟩
  | tup e hl h ih =>
    intro v r
    cases r
    obtain ⟨its, rv, ⟨o, ho, hc, n, hd⟩, _⟩ := I.tuple e
    obtain ⟨bs, hb⟩ := readsAll_of (h := s.heap) rv hl ih
    exact ⟨_, .tuple ho hc hd (by simpa using hb)⟩
theorem TrC.can {K : PySem.W.Frag} {H : Hp} {x : V} {d : PyData} (t : TrC K H x d) : d.canLay0 = true := by
  induction t with
  | non => rfl
  | bl b => rfl
  | int i => rfl
  | str x h => simp only [PyData.canLay0]; exact h
  | tup e hl h ih => rw [PyData.canLay0]; exact canAll_of hl ih
section
variable {X : Cx}
theorem op_eqC (hu : X.A.units + 64 < cLine) : OpR X (compareOp .Eq) (fun x y H Q => ∃ d e, TrC X.K H x d ∧ TrC X.K H y e ∧ min d.depth e.depth ≤ 60 ∧ Q (.bl (d.eqv e)) H) := by
  intro pins s σ H x y v u Q I rx ry h
  obtain ⟨d, e, t1, t2, hd, q⟩ := h
  obtain ⟨as, r1⟩ := t1.reads I v rx
  obtain ⟨bs, r2⟩ := t2.reads I u ry
  exact SeqAt.compareEq_reads r1 r2 t1.can t2.can (by omega) ⟨.bl _, H, I, rfl, q⟩
theorem op_eqCK {K : PySem.W.Frag} (hK : X.K = K) (hu : X.A.units + 64 < cLine) : OpR X (compareOp .Eq) (fun x y H Q => ∃ d e, TrC K H x d ∧ TrC K H y e ∧ min d.depth e.depth ≤ 60 ∧ Q (.bl (d.eqv e)) H) := by subst hK; exact op_eqC hu
theorem op_neC (hu : X.A.units + 64 < cLine) : OpR X (compareOp .NotEq) (fun x y H Q => ∃ d e, TrC X.K H x d ∧ TrC X.K H y e ∧ min d.depth e.depth ≤ 60 ∧ Q (.bl (!d.eqv e)) H) := by
  intro pins s σ H x y v u Q I rx ry h
  obtain ⟨d, e, t1, t2, hd, q⟩ := h
  obtain ⟨as, r1⟩ := t1.reads I v rx
  obtain ⟨bs, r2⟩ := t2.reads I u ry
  exact SeqAt.compareNe_reads r1 r2 t1.can t2.can (by omega) ⟨.bl _, H, I, rfl, q⟩
end
end RW

set_option Elab.async false
set_option linter.all false
set_option maxRecDepth 100000
set_option maxHeartbeats 4000000
namespace K38
open PySem PySem.Spec PyProof.Rows L2
def top (i : Nat) : Stmt := PySem.Challenge.pw_restways_k38_houses_begin.main.body.getD i (.Pass ⟨0, 0, 0, 0⟩)
abbrev s_holds : Stmt := top 2
abbrev n_holds : List Str := ["cond", "way", "marks", "to", "word", "about"]
abbrev p_holds : List Str := ["cond", "way", "marks", "to"]
theorem c_holds : FnScope n_holds p_holds (defScope s_holds) := ⟨rfl, rfl, rfl, by decide +kernel, rfl, by decide +kernel, by decide +kernel⟩
abbrev s_all_hold : Stmt := top 3
abbrev n_all_hold : List Str := ["conds", "way", "marks", "to", "cond"]
abbrev p_all_hold : List Str := ["conds", "way", "marks", "to"]
theorem c_all_hold : FnScope n_all_hold p_all_hold (defScope s_all_hold) := ⟨rfl, rfl, rfl, by decide +kernel, rfl, by decide +kernel, by decide +kernel⟩
abbrev s_hands_of : Stmt := top 5
abbrev n_hands_of : List Str := ["town", "house"]
abbrev p_hands_of : List Str := ["town", "house"]
theorem c_hands_of : FnScope n_hands_of p_hands_of (defScope s_hands_of) := ⟨rfl, rfl, rfl, by decide +kernel, rfl, by decide +kernel, by decide +kernel⟩
abbrev s_tied : Stmt := top 6
abbrev n_tied : List Str := ["town", "house", "ties"]
abbrev p_tied : List Str := ["town", "house"]
theorem c_tied : FnScope n_tied p_tied (defScope s_tied) := ⟨rfl, rfl, rfl, by decide +kernel, rfl, by decide +kernel, by decide +kernel⟩
def k_tied_1 : Scope := { kind := .function, names := [(".0", .local), ("a", .local), ("b", .local), ("house", .free)], isGenerator := false, isCoroutine := false, more := [] }
theorem o_tied_1 : CompOk n_tied (defScope s_tied) ["a", "b", "house"] [none, none, some 1] k_tied_1 := ⟨rfl, by decide +kernel, by decide +kernel, by decide +kernel, by decide +kernel, rfl, by decide +kernel⟩
def k_tied_2 : Scope := { kind := .function, names := [(".0", .local), ("a", .local), ("b", .local), ("house", .free)], isGenerator := false, isCoroutine := false, more := [] }
theorem o_tied_2 : CompOk n_tied (defScope s_tied) ["a", "b", "house"] [none, none, some 1] k_tied_2 := ⟨rfl, by decide +kernel, by decide +kernel, by decide +kernel, by decide +kernel, rfl, by decide +kernel⟩
abbrev s_marks_behind : Stmt := top 8
abbrev n_marks_behind : List Str := ["marks", "act", "word", "mark", "others"]
abbrev p_marks_behind : List Str := ["marks", "act"]
theorem c_marks_behind : FnScope n_marks_behind p_marks_behind (defScope s_marks_behind) := ⟨rfl, rfl, rfl, by decide +kernel, rfl, by decide +kernel, by decide +kernel⟩
def k_marks_behind_1 : Scope := { kind := .function, names := [(".0", .local), ("one", .local), ("mark", .free)], isGenerator := false, isCoroutine := false, more := [] }
theorem o_marks_behind_1 : CompOk n_marks_behind (defScope s_marks_behind) ["one", "mark"] [none, some 3] k_marks_behind_1 := ⟨rfl, by decide +kernel, by decide +kernel, by decide +kernel, by decide +kernel, rfl, by decide +kernel⟩
abbrev s_handed : Stmt := top 9
abbrev n_handed : List Str := ["town", "way", "marks", "to", "told", "conds", "act"]
abbrev p_handed : List Str := ["town", "way", "marks", "to"]
theorem c_handed : FnScope n_handed p_handed (defScope s_handed) := ⟨rfl, rfl, rfl, by decide +kernel, rfl, by decide +kernel, by decide +kernel⟩
abbrev s_House___init__ : Stmt := inClass (top 12) 0
abbrev n_House___init__ : List Str := ["self", "town", "name"]
abbrev p_House___init__ : List Str := ["self", "town", "name"]
theorem c_House___init__ : FnScope n_House___init__ p_House___init__ (defScope s_House___init__) := ⟨rfl, rfl, rfl, by decide +kernel, rfl, by decide +kernel, by decide +kernel⟩
abbrev s_House_way : Stmt := inClass (top 12) 1
abbrev n_House_way : List Str := ["self"]
abbrev p_House_way : List Str := ["self"]
theorem c_House_way : FnScope n_House_way p_House_way (defScope s_House_way) := ⟨rfl, rfl, rfl, by decide +kernel, rfl, by decide +kernel, by decide +kernel⟩
abbrev s_House_marks : Stmt := inClass (top 12) 2
abbrev n_House_marks : List Str := ["self"]
abbrev p_House_marks : List Str := ["self"]
theorem c_House_marks : FnScope n_House_marks p_House_marks (defScope s_House_marks) := ⟨rfl, rfl, rfl, by decide +kernel, rfl, by decide +kernel, by decide +kernel⟩
abbrev s_House_heard : Stmt := inClass (top 12) 3
abbrev n_House_heard : List Str := ["self", "other"]
abbrev p_House_heard : List Str := ["self", "other"]
theorem c_House_heard : FnScope n_House_heard p_House_heard (defScope s_House_heard) := ⟨rfl, rfl, rfl, by decide +kernel, rfl, by decide +kernel, by decide +kernel⟩
abbrev s_House_begin : Stmt := inClass (top 12) 4
abbrev n_House_begin : List Str := ["self"]
abbrev p_House_begin : List Str := ["self"]
theorem c_House_begin : FnScope n_House_begin p_House_begin (defScope s_House_begin) := ⟨rfl, rfl, rfl, by decide +kernel, rfl, by decide +kernel, by decide +kernel⟩
abbrev s_House_go_by : Stmt := inClass (top 12) 8
abbrev n_House_go_by : List Str := ["self", "going"]
abbrev p_House_go_by : List Str := ["self", "going"]
theorem c_House_go_by : FnScope n_House_go_by p_House_go_by (defScope s_House_go_by) := ⟨rfl, rfl, rfl, by decide +kernel, rfl, by decide +kernel, by decide +kernel⟩
abbrev s_House_offer : Stmt := inClass (top 12) 9
abbrev n_House_offer : List Str := ["self", "other", "way", "marks", "told"]
abbrev p_House_offer : List Str := ["self", "other"]
theorem c_House_offer : FnScope n_House_offer p_House_offer (defScope s_House_offer) := ⟨rfl, rfl, rfl, by decide +kernel, rfl, by decide +kernel, by decide +kernel⟩
abbrev s_House_letters : Stmt := inClass (top 12) 10
abbrev n_House_letters : List Str := ["self", "found", "other", "nr", "way", "marks", "offer"]
abbrev p_House_letters : List Str := ["self"]
theorem c_House_letters : FnScope n_House_letters p_House_letters (defScope s_House_letters) := ⟨rfl, rfl, rfl, by decide +kernel, rfl, by decide +kernel, by decide +kernel⟩
abbrev s__law_hand : Stmt := top 14
abbrev n__law_hand : List Str := ["_law_script", "_law_k", "_law_cell"]
abbrev p__law_hand : List Str := ["_law_script", "_law_k"]
theorem c__law_hand : FnScope n__law_hand p__law_hand (defScope s__law_hand) := ⟨rfl, rfl, rfl, by decide +kernel, rfl, by decide +kernel, by decide +kernel⟩
abbrev s__law_all : Stmt := top 15
abbrev n__law_all : List Str := ["_law_script", "_law_hand_here", "_law_digits", "_law_far", "_law_k", "_law_other"]
abbrev p__law_all : List Str := ["_law_script"]
theorem c__law_all : FnScope n__law_all p__law_all (defScope s__law_all) := ⟨rfl, rfl, rfl, by decide +kernel, rfl, by decide +kernel, by decide +kernel⟩
abbrev s__law_take : Stmt := top 16
abbrev n__law_take : List Str := ["_law_hand_here", "_law_many", "_law_digit", "_law_turn", "_law_mixed", "_law_other"]
abbrev p__law_take : List Str := ["_law_hand_here", "_law_many"]
theorem c__law_take : FnScope n__law_take p__law_take (defScope s__law_take) := ⟨rfl, rfl, rfl, by decide +kernel, rfl, by decide +kernel, by decide +kernel⟩
abbrev s__law_pick : Stmt := top 17
abbrev n__law_pick : List Str := ["_law_hand_here", "_law_some"]
abbrev p__law_pick : List Str := ["_law_hand_here", "_law_some"]
theorem c__law_pick : FnScope n__law_pick p__law_pick (defScope s__law_pick) := ⟨rfl, rfl, rfl, by decide +kernel, rfl, by decide +kernel, by decide +kernel⟩
abbrev s__law_names : Stmt := top 18
abbrev n__law_names : List Str := ["_law_hand_here", "_law_many", "_law_letters", "_law_first", "_law_step", "_law_names_here", "_law_kept", "_law_spot", "_law_k"]
abbrev p__law_names : List Str := ["_law_hand_here", "_law_many"]
theorem c__law_names : FnScope n__law_names p__law_names (defScope s__law_names) := ⟨rfl, rfl, rfl, by decide +kernel, rfl, by decide +kernel, by decide +kernel⟩
def k__law_names_1 : Scope := { kind := .function, names := [(".0", .local), ("_law_k", .local), ("_law_first", .free), ("_law_letters", .free), ("_law_step", .free)], isGenerator := false, isCoroutine := false, more := [] }
theorem o__law_names_1 : CompOk n__law_names (defScope s__law_names) ["_law_k", "_law_first", "_law_letters", "_law_step"] [none, some 3, some 2, some 4] k__law_names_1 := ⟨rfl, by decide +kernel, by decide +kernel, by decide +kernel, by decide +kernel, rfl, by decide +kernel⟩
abbrev s__law_cond : Stmt := top 19
abbrev n__law_cond : List Str := ["_law_hand_here", "_law_houses", "_law_marks", "_law_to", "_law_way", "_law_cond_here"]
abbrev p__law_cond : List Str := ["_law_hand_here", "_law_houses", "_law_marks", "_law_to"]
theorem c__law_cond : FnScope n__law_cond p__law_cond (defScope s__law_cond) := ⟨rfl, rfl, rfl, by decide +kernel, rfl, by decide +kernel, by decide +kernel⟩
abbrev s__law_conds : Stmt := top 20
abbrev n__law_conds : List Str := ["_law_hand_here", "_law_houses", "_law_marks", "_law_to", "_law_many"]
abbrev p__law_conds : List Str := ["_law_hand_here", "_law_houses", "_law_marks", "_law_to"]
theorem c__law_conds : FnScope n__law_conds p__law_conds (defScope s__law_conds) := ⟨rfl, rfl, rfl, by decide +kernel, rfl, by decide +kernel, by decide +kernel⟩
def k__law_conds_1 : Scope := { kind := .function, names := [(".0", .local), ("_law_k", .local), ("_law_cond", .globalImplicit), ("_law_hand_here", .free), ("_law_houses", .free), ("_law_marks", .free), ("_law_to", .free)], isGenerator := false, isCoroutine := false, more := [] }
theorem o__law_conds_1 : CompOk n__law_conds (defScope s__law_conds) ["_law_k", "_law_hand_here", "_law_houses", "_law_marks", "_law_to"] [none, some 0, some 1, some 2, some 3] k__law_conds_1 := ⟨rfl, by decide +kernel, by decide +kernel, by decide +kernel, by decide +kernel, rfl, by decide +kernel⟩
abbrev s__law_likings : Stmt := top 21
abbrev n__law_likings : List Str := ["_law_hand_here", "_law_houses", "_law_marks", "_law_some", "_law_k", "_law_number"]
abbrev p__law_likings : List Str := ["_law_hand_here", "_law_houses", "_law_marks"]
theorem c__law_likings : FnScope n__law_likings p__law_likings (defScope s__law_likings) := ⟨rfl, rfl, rfl, by decide +kernel, rfl, by decide +kernel, by decide +kernel⟩
abbrev s__law_hands : Stmt := top 22
abbrev n__law_hands : List Str := ["_law_hand_here", "_law_houses", "_law_marks", "_law_some", "_law_k", "_law_act"]
abbrev p__law_hands : List Str := ["_law_hand_here", "_law_houses", "_law_marks"]
theorem c__law_hands : FnScope n__law_hands p__law_hands (defScope s__law_hands) := ⟨rfl, rfl, rfl, by decide +kernel, rfl, by decide +kernel, by decide +kernel⟩
abbrev s__law_ties : Stmt := top 23
abbrev n__law_ties : List Str := ["_law_hand_here", "_law_houses", "_law_more", "_law_ties_here", "_law_k", "_law_a", "_law_b"]
abbrev p__law_ties : List Str := ["_law_hand_here", "_law_houses", "_law_more"]
theorem c__law_ties : FnScope n__law_ties p__law_ties (defScope s__law_ties) := ⟨rfl, rfl, rfl, by decide +kernel, rfl, by decide +kernel, by decide +kernel⟩
abbrev s__law_town : Stmt := top 24
abbrev n__law_town : List Str := ["_law_hand_here", "_law_many", "_law_names_here", "_law_houses", "_law_marks", "_law_ties_here", "_law_goal", "_law_rising", "_law_likings_here", "_law_hands_here"]
abbrev p__law_town : List Str := ["_law_hand_here"]
theorem c__law_town : FnScope n__law_town p__law_town (defScope s__law_town) := ⟨rfl, rfl, rfl, by decide +kernel, rfl, by decide +kernel, by decide +kernel⟩
def k__law_town_1 : Scope := { kind := .function, names := [(".0", .local), ("_law_house", .local), ("_law_likings", .globalImplicit), ("_law_hand_here", .free), ("_law_marks", .free), ("_law_names_here", .free)], isGenerator := false, isCoroutine := false, more := [] }
theorem o__law_town_1 : CompOk n__law_town (defScope s__law_town) ["_law_house", "_law_hand_here", "_law_marks", "_law_names_here"] [none, some 0, some 4, some 2] k__law_town_1 := ⟨rfl, by decide +kernel, by decide +kernel, by decide +kernel, by decide +kernel, rfl, by decide +kernel⟩
def k__law_town_2 : Scope := { kind := .function, names := [(".0", .local), ("_law_house", .local), ("_law_hands", .globalImplicit), ("_law_hand_here", .free), ("_law_marks", .free), ("_law_names_here", .free)], isGenerator := false, isCoroutine := false, more := [] }
theorem o__law_town_2 : CompOk n__law_town (defScope s__law_town) ["_law_house", "_law_hand_here", "_law_marks", "_law_names_here"] [none, some 0, some 4, some 2] k__law_town_2 := ⟨rfl, by decide +kernel, by decide +kernel, by decide +kernel, by decide +kernel, rfl, by decide +kernel⟩
abbrev s__law_due : Stmt := top 25
abbrev n__law_due : List Str := ["_law_town_here", "_law_name", "_law_letters", "_law_other", "_law_marks"]
abbrev p__law_due : List Str := ["_law_town_here", "_law_name"]
theorem c__law_due : FnScope n__law_due p__law_due (defScope s__law_due) := ⟨rfl, rfl, rfl, by decide +kernel, rfl, by decide +kernel, by decide +kernel⟩
abbrev s__law_is_bare : Stmt := top 26
abbrev n__law_is_bare : List Str := ["_law_town_here", "_law_name", "_law_house"]
abbrev p__law_is_bare : List Str := ["_law_town_here", "_law_name", "_law_house"]
theorem c__law_is_bare : FnScope n__law_is_bare p__law_is_bare (defScope s__law_is_bare) := ⟨rfl, rfl, rfl, by decide +kernel, rfl, by decide +kernel, by decide +kernel⟩
abbrev s__law_is_deaf : Stmt := top 27
abbrev n__law_is_deaf : List Str := ["_law_town_here", "_law_name", "_law_house"]
abbrev p__law_is_deaf : List Str := ["_law_town_here", "_law_name", "_law_house"]
theorem c__law_is_deaf : FnScope n__law_is_deaf p__law_is_deaf (defScope s__law_is_deaf) := ⟨rfl, rfl, rfl, by decide +kernel, rfl, by decide +kernel, by decide +kernel⟩
def k__law_is_deaf_1 : Scope := { kind := .function, names := [(".0", .local), ("_law_other", .local), ("_law_house", .free)], isGenerator := false, isCoroutine := false, more := [] }
theorem o__law_is_deaf_1 : CompOk n__law_is_deaf (defScope s__law_is_deaf) ["_law_other", "_law_house"] [none, some 2] k__law_is_deaf_1 := ⟨rfl, by decide +kernel, by decide +kernel, by decide +kernel, by decide +kernel, rfl, by decide +kernel⟩
abbrev s_law : Stmt := top 28
abbrev n_law : List Str := ["_law_script", "_law_hand_here", "_law_town_here", "_law_name", "_law_house", "_law_other", "_law_told"]
abbrev p_law : List Str := ["_law_script"]
theorem c_law : FnScope n_law p_law (defScope s_law) := ⟨rfl, rfl, rfl, by decide +kernel, rfl, by decide +kernel, by decide +kernel⟩
set_option genInjectivity false in
set_option genSizeOfSpec false in
set_option genSizeOf false in
structure Ev (K : PySem.W.Frag) (mg : Str → Option Value) where
  c_House : Addr
  k_House : Cls K c_House
  m_House : mg "House" = some (.ref c_House)
  n_House_place : NoAttr K c_House "place"
  n_House_name : NoAttr K c_House "name"
  n_House_hearings : NoAttr K c_House "hearings"
  n_House_tellings : NoAttr K c_House "tellings"
  n_House_going : NoAttr K c_House "going"
  n_House_times : NoAttr K c_House "times"
  a_holds : Addr
  d_holds : FuncData
  holds : RW.AtD K mg "holds" s_holds p_holds a_holds d_holds
  a_all_hold : Addr
  d_all_hold : FuncData
  all_hold : RW.AtD K mg "all_hold" s_all_hold p_all_hold a_all_hold d_all_hold
  a_hands_of : Addr
  d_hands_of : FuncData
  hands_of : RW.At K mg "hands_of" s_hands_of p_hands_of a_hands_of d_hands_of
  a_tied : Addr
  d_tied : FuncData
  tied : RW.At K mg "tied" s_tied p_tied a_tied d_tied
  a_marks_behind : Addr
  d_marks_behind : FuncData
  marks_behind : RW.At K mg "marks_behind" s_marks_behind p_marks_behind a_marks_behind d_marks_behind
  a_handed : Addr
  d_handed : FuncData
  handed : RW.At K mg "handed" s_handed p_handed a_handed d_handed
  a_House___init__ : Addr
  d_House___init__ : FuncData
  House___init__ : RW.MAt K c_House "__init__" "House.__init__" s_House___init__ p_House___init__ a_House___init__ d_House___init__
  a_House_way : Addr
  d_House_way : FuncData
  House_way : RW.MAt K c_House "way" "House.way" s_House_way p_House_way a_House_way d_House_way
  a_House_marks : Addr
  d_House_marks : FuncData
  House_marks : RW.MAt K c_House "marks" "House.marks" s_House_marks p_House_marks a_House_marks d_House_marks
  a_House_heard : Addr
  d_House_heard : FuncData
  House_heard : RW.MAt K c_House "heard" "House.heard" s_House_heard p_House_heard a_House_heard d_House_heard
  a_House_begin : Addr
  d_House_begin : FuncData
  House_begin : RW.MAt K c_House "begin" "House.begin" s_House_begin p_House_begin a_House_begin d_House_begin
  a_House_go_by : Addr
  d_House_go_by : FuncData
  House_go_by : RW.MAt K c_House "go_by" "House.go_by" s_House_go_by p_House_go_by a_House_go_by d_House_go_by
  a_House_offer : Addr
  d_House_offer : FuncData
  House_offer : RW.MAt K c_House "offer" "House.offer" s_House_offer p_House_offer a_House_offer d_House_offer
  a_House_letters : Addr
  d_House_letters : FuncData
  House_letters : RW.MAt K c_House "letters" "House.letters" s_House_letters p_House_letters a_House_letters d_House_letters
  a__law_hand : Addr
  d__law_hand : FuncData
  _law_hand : RW.At K mg "_law_hand" s__law_hand p__law_hand a__law_hand d__law_hand
  a__law_all : Addr
  d__law_all : FuncData
  _law_all : RW.At K mg "_law_all" s__law_all p__law_all a__law_all d__law_all
  a__law_take : Addr
  d__law_take : FuncData
  _law_take : RW.At K mg "_law_take" s__law_take p__law_take a__law_take d__law_take
  a__law_pick : Addr
  d__law_pick : FuncData
  _law_pick : RW.At K mg "_law_pick" s__law_pick p__law_pick a__law_pick d__law_pick
  a__law_names : Addr
  d__law_names : FuncData
  _law_names : RW.At K mg "_law_names" s__law_names p__law_names a__law_names d__law_names
  a__law_cond : Addr
  d__law_cond : FuncData
  _law_cond : RW.At K mg "_law_cond" s__law_cond p__law_cond a__law_cond d__law_cond
  a__law_conds : Addr
  d__law_conds : FuncData
  _law_conds : RW.At K mg "_law_conds" s__law_conds p__law_conds a__law_conds d__law_conds
  a__law_likings : Addr
  d__law_likings : FuncData
  _law_likings : RW.At K mg "_law_likings" s__law_likings p__law_likings a__law_likings d__law_likings
  a__law_hands : Addr
  d__law_hands : FuncData
  _law_hands : RW.At K mg "_law_hands" s__law_hands p__law_hands a__law_hands d__law_hands
  a__law_ties : Addr
  d__law_ties : FuncData
  _law_ties : RW.At K mg "_law_ties" s__law_ties p__law_ties a__law_ties d__law_ties
  a__law_town : Addr
  d__law_town : FuncData
  _law_town : RW.At K mg "_law_town" s__law_town p__law_town a__law_town d__law_town
  a__law_due : Addr
  d__law_due : FuncData
  _law_due : RW.At K mg "_law_due" s__law_due p__law_due a__law_due d__law_due
  a__law_is_bare : Addr
  d__law_is_bare : FuncData
  _law_is_bare : RW.At K mg "_law_is_bare" s__law_is_bare p__law_is_bare a__law_is_bare d__law_is_bare
  a__law_is_deaf : Addr
  d__law_is_deaf : FuncData
  _law_is_deaf : RW.At K mg "_law_is_deaf" s__law_is_deaf p__law_is_deaf a__law_is_deaf d__law_is_deaf
  a_law : Addr
  d_law : FuncData
  law : RW.At K mg "law" s_law p_law a_law d_law
  mk_House : Mk K c_House a_House___init__
  a_NOTHING : Addr
  e_NOTHING : Addr
  m_NOTHING : mg "NOTHING" = some (.ref a_NOTHING)
  t_NOTHING : ∀ H, SqT K H a_NOTHING [.int 0, .non, .ref e_NOTHING]
  u_NOTHING : ∀ H, SqT K H e_NOTHING []
  isinstance : mg "isinstance" = none
  len : mg "len" = none
  int : mg "int" = none
  tuple : mg "tuple" = none
  range : mg "range" = none
  max : mg "max" = none
  min : mg "min" = none
  sorted : mg "sorted" = none
  all : mg "all" = none
  list : mg "list" = none
  str : mg "str" = none
end K38

set_option Elab.async false
set_option linter.all false
set_option maxRecDepth 100000
set_option maxHeartbeats 4000000
namespace K38
open PySem PySem.Spec PyProof.Rows L2 RW
local macro_rules | `(tactic| walk_at "cond") => `(tactic| first | assumption | decide | omega | exact few rfl | exact .inl ⟨by decide, by decide⟩ | exact .inr ⟨by decide, by decide⟩ | exact .inl ⟨by omega, by omega⟩ | exact .inr ⟨by omega, by omega⟩ | exact ⟨by omega, by omega⟩ | exact ⟨by assumption, by assumption⟩ | exact ⟨by decide, by decide, by decide⟩ | exact .inr ⟨by split <;> decide, by split <;> decide⟩)
local macro_rules | `(tactic| walk_at "rd") => `(tactic| first | with_reducible_and_instances refine ⟨_, rfl, ?_⟩ | refine ⟨_, rfl, ?_⟩ | refine ⟨_, _, rfl, rfl, ?_⟩ | refine ⟨_, _, _, _, rfl, rfl, SqL.of (by assumption), rfl, ?_⟩ | refine ⟨_, _, _, _, rfl, rfl, (by assumption), rfl, ?_⟩ | refine .inl ⟨_, rfl, ?_⟩ | refine .inr ⟨_, rfl, ?_⟩ | refine .inl ⟨_, _, rfl, .inl (by assumption), ?_⟩ | refine ⟨(by walk_at "cond"), ?_⟩)
local macro_rules | `(tactic| walk_at "dsp") => `(tactic| repeat' (first | exact dsp_str (by decide) | exact dsp_int | exact dsp_bl | exact dsp_non | exact dsp_neg | exact dspA_nil | exact dsp_dnew | exact dsp_disp rfl | exact dsp_var rfl (by assumption) | refine dspA_cons ?_ ?_ | refine dsp_tup ?_ ?_ | refine dsp_lst' ?_ | refine n_cons ?_ ?_ | exact n_nil | exact v_c | exact v_var rfl | refine v_tup ?_ | refine dspl_lst ?_ ?_ | refine dspl_cat ?_ ?_ ?_ | exact dspl_var rfl (by assumption) (by assumption) | exact Nat.le_of_ble_eq_true rfl))
local macro_rules | `(tactic| walk_at "each") => `(tactic| repeat' (first | exact forall_nil | refine List.forall_mem_append.mpr ⟨?_, ?_⟩ | refine List.forall_mem_cons.mpr ⟨?_, ?_⟩))
section
variable {P : Program} {w : World} {K : PySem.W.Frag} {mg : Str → Option Value} {base : Heap}
def spTake : Sp := fun vs H Q _ => ∃ (a : Addr) (k n : Int), vs = [.ref a, .int k] ∧ Hand H a n ∧ n < 2 ^ 40 ∧ 0 < k ∧ k < 1073741824 ∧ ∀ d H', 0 ≤ d → d < k → Hand H' a (n + 1) → Keep a H H' → Q (.int d) H'
theorem ok_take (Y : Ev K mg) : FnOk P w K mg base CX0 1 Y.a__law_take Y.d__law_take p__law_take spTake := by
  refine Y._law_take.fn.okQ c__law_take (fun vs H Q E h => ?_) (fun cdv A outer s H vs Q E hr h => ?_)
  · obtain ⟨a, k, n, rfl, _⟩ := h
    rfl
  · obtain ⟨a, k, n, rfl, ⟨x, m, t, hH, m0, m1, t0, t1⟩, hn, k0, k1, q⟩ := h
    refine ⟨_, (b_cons (s_if (t_cmp op_gt (q_ix ix_list (qv 0) q_int) q_int) (b_cons (s_set 2 c__law_take.nd (q_op op_mod (q_ix ix_list (qv 0) q_int) (qv 1)))
      (b_cons (s_asg (q_op op_fdiv (q_ix ix_list (qv 0) q_int) (qv 1)) (g_sub (qv 0) q_int set_list))
      (b_one (s_ret (qv 2))))) b_nil)
      (b_cons (s_asg (q_op op_add (q_ix ix_list (qv 0) q_int) q_int) (g_sub (qv 0) q_int set_list))
      (b_cons (s_set 3 c__law_take.nd (q_ix ix_list (qv 0) q_int))
      (b_cons (s_set 4 c__law_take.nd (q_op op_mod (q_op op_mul (q_ix ix_list (qv 0) q_int) (q_op op_add (q_op op_add q_int (q_op op_mul (q_op op_mul q_int (qv 3)) (qv 3))) (q_op op_mul q_int (qv 3)))) q_int))
      (b_cons (s_set 5 c__law_take.nd (q_op op_add (q_op op_add (q_op op_mod (qv 4) q_int) (q_op op_mul (qv 3) q_int)) q_int))
      (b_cons (s_set 4 c__law_take.nd (q_op op_mod (q_op op_mul (qv 4) (qv 5)) q_int))
      (b_one (s_ret (q_op op_mod (q_op op_add (q_op op_fdiv (qv 4) q_int) (q_op op_fdiv (qv 4) q_int)) (qv 1)))))))))), ?_⟩
    repeat walk_at "rd"
    refine ite2 (fun hx => ?_) (fun hx => ?_)
    · repeat walk_at "rd"
      exact q _ _ (Int.emod_nonneg _ (by omega)) (Int.emod_lt_of_pos _ k0) ⟨_, m, t, upd_same, m0, m1, t0, by omega⟩ (Keep.upd _ _ _)
    · refine ⟨_, rfl, a, _, _, _, rfl, rfl, SqL.of hH, rfl, _, _, rfl, rfl, _, rfl, a, _, _, _, rfl, rfl, hH, rfl, ?_⟩
      have h2 : upd H a (.lst [.int x, .int m, .int (t + 1)]) a = some (.lst [.int x, .int m, .int (t + 1)]) := upd_same
      repeat walk_at "rd"
      exact q _ _ (Int.emod_nonneg _ (by omega)) (Int.emod_lt_of_pos _ k0) ⟨_, m, _, upd_same, m0, m1, by omega, by omega⟩ (Keep.upd _ _ _)
def spPick (K : PySem.W.Frag) : Sp := fun vs H Q _ => ∃ (a : Addr) (n : Int), Hand H a n ∧ n < 2 ^ 40 ∧
  ((∃ (b : Addr) (xs : List V), vs = [.ref a, .ref b] ∧ b ≠ a ∧ SqL K H b xs ∧ 0 < xs.length ∧ xs.length < 1000 ∧ ∀ v H', v ∈ xs → Hand H' a (n + 1) → Keep a H H' → Q v H') ∨
   (∃ z : Str, vs = [.ref a, .str z] ∧ 0 < z.length ∧ z.length < 1000 ∧ ∀ c H', c ∈ z.cps.toList → Hand H' a (n + 1) → Keep a H H' → Q (.str (one c)) H'))
theorem ok_pick (Y : Ev K mg) : FnOk P w K mg base CX0 2 Y.a__law_pick Y.d__law_pick p__law_pick (spPick K) := by
  have G__law_take : FnOk P w K mg base CX0 1 Y.a__law_take Y.d__law_take p__law_take spTake := ok_take Y
  refine Y._law_pick.fn.okQ c__law_pick (fun vs H Q E h => ?_) (fun cdv A outer s H vs Q E hr h => ?_)
  · obtain ⟨a, n, _, _, ⟨b, xs, rfl, _⟩ | ⟨z, rfl, _⟩⟩ := h <;> rfl
  · obtain ⟨a, n, hH, hn, h⟩ := h
    have hl : ∀ m : Nat, m < 1000 → m ≤ sizeLine := fun m h => Nat.le_of_lt (small1000 (Nat.le_of_lt h))
    rcases h with ⟨b, xs, rfl, hb, hS, x0, x1, q⟩ | ⟨z, rfl, z0, z1, q⟩
    · refine ⟨_, (b_one (s_ret (q_ix ix_seq (qv 1) (q_call G__law_take (hr.mono (by decide)) Y._law_take.mg Y._law_take.kp Y._law_take.b .nil pass0 (a_cons (qv 0) (a_cons (q_callB call_len2 Y.len bt_len (a_cons (qv 1) a_nil)) a_nil)))))), ?_⟩
      refine ⟨_, rfl, _, rfl, _, rfl, .inl ⟨b, xs, rfl, .inl hS, a, _, n, rfl, hH, hn, by omega, by omega, fun d H' h0 h1 hH' kp => ?_⟩⟩
      obtain ⟨v, e, hv⟩ := atI_mem h0 h1
      exact .inl ⟨b, xs, d, v, rfl, rfl, kp.sqL hb hS, e, q v H' hv hH' kp⟩
    · refine ⟨_, (b_one (s_ret (q_ix ix_seq (qv 1) (q_call G__law_take (hr.mono (by decide)) Y._law_take.mg Y._law_take.kp Y._law_take.b .nil pass0 (a_cons (qv 0) (a_cons (q_callB call_len2 Y.len bt_len (a_cons (qv 1) a_nil)) a_nil)))))), ?_⟩
      refine ⟨_, rfl, _, rfl, _, rfl, .inr ⟨z, rfl, hl _ z1, a, _, n, rfl, hH, hn, by omega, by omega, fun d H' h0 h1 hH' kp => ?_⟩⟩
      obtain ⟨c, e, hc⟩ := atI_mem (xs := z.cps.toList) h0 (by simpa [Str.length] using h1)
      exact .inr (.inr ⟨z, d, c, rfl, rfl, hl _ z1, e, q c H' hc hH' kp⟩)
def spHand (K : PySem.W.Frag) : Sp := fun vs H Q _ => ∃ (b : Addr) (ns : List Int) (k : Int), vs = [.ref b, .int k] ∧ SqL K H b (ns.map V.int) ∧ 0 ≤ k ∧ k < 1000 ∧ ∀ a H', H a = none → Hand H' a 0 → Same H H' → Q (.ref a) H'
theorem ok_hand (Y : Ev K mg) : FnOk P w K mg base CX0 1 Y.a__law_hand Y.d__law_hand p__law_hand (spHand K) := by
  refine Y._law_hand.fn.okQ c__law_hand (fun vs H Q E h => ?_) (fun cdv A outer s H vs Q E hr h => ?_)
  · obtain ⟨a, k, n, rfl, _⟩ := h
    rfl
  · obtain ⟨b, ns, k, rfl, hS, k0, k1, q⟩ := h
    refine ⟨_, (b_cons (s_set 2 c__law_hand.nd q_int)
      (b_cons (s_if (t_cmp op_lt (qv 1) (q_callB call_len2 Y.len bt_len (a_cons (qv 0) a_nil))) (b_one (s_set 2 c__law_hand.nd (q_ix ix_list (qv 0) (qv 1)))) b_nil)
      (b_one (s_ret (q_lst (a_cons (q_op op_mul (qv 2) (q_callTy call_int1 Y.int bt_int (a_cons (q_cmp op_ge (qv 2) (q_op op_pow q_int q_int)) a_nil))) (a_cons (q_op op_add (q_op op_add (q_op op_mod (qv 2) q_int) (q_op op_mul q_int (qv 1))) q_int) (a_cons q_int a_nil)))))))), ?_⟩
    refine ⟨_, rfl, _, rfl, .inl ⟨b, _, rfl, .inl hS, _, _, rfl, rfl, _, rfl, ?_⟩⟩
    refine ite2 (fun hx => ?_) (fun hx => ?_)
    · have hx' : k < ((ns.map V.int).length : Int) := of_decide_eq_true hx
      obtain ⟨v, e, hv⟩ := atI_mem k0 hx'
      obtain ⟨c, _, rfl⟩ := List.mem_map.mp hv
      refine ⟨_, rfl, _, rfl, b, _, k, _, rfl, rfl, hS, e, ?_⟩
      repeat walk_at "rd"
      intro p hp
      exact q p _ hp ⟨_, _, _, upd_same, by omega, by omega, by decide, by decide⟩ (fun b' o hb' => by rw [upd_ne (ne_of_none hb' hp)]; exact hb')
    · repeat walk_at "rd"
      intro p hp
      exact q p _ hp ⟨_, _, _, upd_same, by omega, by omega, by decide, by decide⟩ (fun b' o hb' => by rw [upd_ne (ne_of_none hb' hp)]; exact hb')
end
end K38

set_option Elab.async false
set_option linter.all false
set_option maxRecDepth 100000
set_option maxHeartbeats 4000000
namespace K38
open PySem PySem.Spec PyProof.Rows L2 RW
local macro_rules | `(tactic| walk_at "cond") => `(tactic| first | assumption | decide | omega | exact few rfl | exact .inl ⟨by decide, by decide⟩ | exact .inr ⟨by decide, by decide⟩ | exact .inl ⟨by omega, by omega⟩ | exact .inr ⟨by omega, by omega⟩ | exact ⟨by omega, by omega⟩ | exact ⟨by assumption, by assumption⟩ | exact ⟨by decide, by decide, by decide⟩ | exact .inr ⟨by split <;> decide, by split <;> decide⟩)
local macro_rules | `(tactic| walk_at "rd") => `(tactic| first | with_reducible_and_instances refine ⟨_, rfl, ?_⟩ | refine ⟨_, rfl, ?_⟩ | refine ⟨_, _, rfl, rfl, ?_⟩ | refine ⟨_, _, _, _, rfl, rfl, SqL.of (by assumption), rfl, ?_⟩ | refine ⟨_, _, _, _, rfl, rfl, (by assumption), rfl, ?_⟩ | refine .inl ⟨_, rfl, ?_⟩ | refine .inr ⟨_, rfl, ?_⟩ | refine .inl ⟨_, _, rfl, .inl (by assumption), ?_⟩ | refine ⟨(by walk_at "cond"), ?_⟩)
local macro_rules | `(tactic| walk_at "dsp") => `(tactic| repeat' (first | exact dsp_str (by decide) | exact dsp_int | exact dsp_bl | exact dsp_non | exact dsp_neg | exact dspA_nil | exact dsp_dnew | exact dsp_disp rfl | exact dsp_var rfl (by assumption) | refine dspA_cons ?_ ?_ | refine dsp_tup ?_ ?_ | refine dsp_lst' ?_ | refine n_cons ?_ ?_ | exact n_nil | exact v_c | exact v_var rfl | refine v_tup ?_ | refine dspl_lst ?_ ?_ | refine dspl_cat ?_ ?_ ?_ | exact dspl_var rfl (by assumption) (by assumption) | exact Nat.le_of_ble_eq_true rfl))
local macro_rules | `(tactic| walk_at "each") => `(tactic| repeat' (first | exact forall_nil | refine List.forall_mem_append.mpr ⟨?_, ?_⟩ | refine List.forall_mem_cons.mpr ⟨?_, ?_⟩))
section
variable {P : Program} {w : World} {K : PySem.W.Frag} {mg : Str → Option Value} {base : Heap}

def spNames2 : Sp := fun vs H Q _ => ∃ (a : Addr) (n : Int) (m : Nat), vs = [.ref a, .int m] ∧ Hand H a n ∧ n < 2 ^ 39 ∧ 4 ≤ m ∧ m ≤ 13 ∧ ∀ (l : Addr) (xs : List Str) (H' : Hp), H l = none → H' l = some (.lst (xs.map V.str)) → xs.length = m → (∀ x ∈ xs, isNameB x = true) → xs.Nodup → (∀ x ∈ xs, x ≠ "nowhere") → Hand H' a (n + 4) → Keep a H H' → Q (.ref l) H'
theorem ok_names2 (Y : Ev K mg) : FnOk P w K mg base CX0 3 Y.a__law_names Y.d__law_names p__law_names spNames2 := by
  have G__law_take : FnOk P w K mg base CX0 1 Y.a__law_take Y.d__law_take p__law_take spTake := ok_take Y
  have G__law_pick : FnOk P w K mg base CX0 2 Y.a__law_pick Y.d__law_pick p__law_pick (spPick K) := ok_pick Y
  refine Y._law_names.fn.okQ c__law_names (fun vs H Q E h => ?_) (fun cdv A outer s H vs Q E hr h => ?_)
  · obtain ⟨a, n, m, rfl, _⟩ := h; rfl
  · obtain ⟨a, n, m, rfl, hH, hn, m4, m13, q⟩ := h
    refine ⟨_, (b_cons (s_setC 2 c__law_names.nd q_str)
      (b_cons (s_setC 3 c__law_names.nd (q_call G__law_take (hr.mono (by decide)) Y._law_take.mg Y._law_take.kp Y._law_take.b .nil pass0 (a_cons (qv 0) (a_cons q_int a_nil))))
      (b_cons (s_setC 4 c__law_names.nd (q_call G__law_pick (hr.mono (by decide)) Y._law_pick.mg Y._law_pick.kp Y._law_pick.b .nil pass0 (a_cons (qv 0) (a_cons (q_lstC [V.int 1, V.int 3, V.int 5, V.int 7, V.int 9, V.int 11] (by decide +kernel)) a_nil))))
      (b_cons (s_setcomp 5 (src := [none, some 3, some 2, some 4]) o__law_names_1 rfl rfl c__law_names.nd (i_rng1 Y.range (a_cons (qv 1) a_nil)) (fun _ _ _ _ _ => (g_name 0 o__law_names_1.nd)) (fun _ _ _ _ _ => f_nil) (fun _ _ _ _ _ => (q_op op_mul_strN (q_ix ix_str (qc 2) (q_op op_mod (q_op op_add (qc 1) (q_op op_mul (qc 3) (qv 0))) q_int)) (q_op op_add q_int (q_op op_mod (q_op op_add (q_op op_mul (qv 0) (qv 0)) (qc 1)) q_int)))))
      (b_cut (s_if (t_cmp op_eq (q_call G__law_take (hr.mono (by decide)) Y._law_take.mg Y._law_take.kp Y._law_take.b .nil pass0 (a_cons (qv 0) (a_cons q_int a_nil))) q_int) (b_cons (s_set 6 c__law_names.nd (q_lstC [V.str "goal", V.str "to", V.str "by", V.str "houses", V.str "tie", V.str "like", V.str "hand", V.str "keep", V.str "put", V.str "mark", V.str "long", V.str "from", V.str "strike"] (by decide +kernel)))
      (b_cons (s_set 7 c__law_names.nd (q_call G__law_take (hr.mono (by decide)) Y._law_take.mg Y._law_take.kp Y._law_take.b .nil pass0 (a_cons (qv 0) (a_cons q_int a_nil))))
      (b_one (s_for PassesOwn.never rfl (i_rng1 Y.range (a_cons (q_callB (call_min2 rfl) Y.min bt_min (a_cons (qv 1) (a_cons q_int a_nil))) a_nil)) (g_name 8 c__law_names.nd) (b_one (s_asg (q_ix ix_list (qv 6) (q_op op_mod (q_op op_add (qv 7) (q_op op_mul q_int (qv 8))) q_int)) (g_sub (qv 5) (qv 8) set_list))))))) b_nil)
      (b_one (s_ret (qv 5)))))))), ?_⟩
    refine ⟨_, rfl, a, 26, n, rfl, hH, by omega, by decide, by decide, fun f' H1 f0 f26 hH1 k1 => ?_⟩
    obtain ⟨f, rfl⟩ : ∃ f : Nat, f' = (f : Int) := ⟨f'.toNat, by omega⟩
    refine ⟨_, rfl, by decide, fun pl hpl => ⟨a, n + 1, hH1.new hpl, by omega, .inl ⟨pl, _, rfl, hH1.ne hpl, SqL.of upd_same, by decide, by decide, fun v H2 hv hH2 k2 => ?_⟩⟩⟩
    obtain ⟨st, rfl, st0, st11⟩ : ∃ st : Nat, v = .int (st : Int) ∧ st ∈ steps ∧ st ≤ 11 := by
      simp only [List.mem_cons, List.not_mem_nil, or_false] at hv
      rcases hv with rfl | rfl | rfl | rfl | rfl | rfl
      · exact ⟨1, rfl, by decide, by decide⟩
      · exact ⟨3, rfl, by decide, by decide⟩
      · exact ⟨5, rfl, by decide, by decide⟩
      · exact ⟨7, rfl, by decide, by decide⟩
      · exact ⟨9, rfl, by decide, by decide⟩
      · exact ⟨11, rfl, by decide, by decide⟩
    have kp2 : Keep a H H2 := k1.trans ((Keep.new hpl).trans k2)
    refine ⟨_, rfl, m, rfl, by omega, by omega, ?_⟩
    refine comp_by wk_rng (fun l i ys σ' H' => (∃ o, σ' = [o, some (.int (f : Int)), some (.str lettersS), some (.int (st : Int))]) ∧ ys = ((List.range i).map (nmS f st)).map V.str ∧ Hand H' a (n + 1 + 1) ∧ Keep a H2 H') ?_ (fun _ _ _ _ _ _ _ => trivial) ?_ ?_
    · exact fun l hl => ⟨⟨_, rfl⟩, rfl, hH2.new hl, Keep.new hl⟩
    · rintro l i y ys σ' H' hl hi rfl ⟨⟨o, rfl⟩, rfl, hH', k'⟩ hl'
      have hi13 : i < 13 := by have : i < m := by omega
                               omega
      have hr26 : (f + st * i) % 26 < 26 := Nat.mod_lt _ (by decide)
      have ei : ((f : Int) + (st : Int) * (0 + (i : Int))) % 26 = (((f + st * i) % 26 : Nat) : Int) := by rw [Int.zero_add]; push_cast; rfl
      have ec : atI lettersS.cps.toList (((f : Int) + (st : Int) * (0 + (i : Int))) % 26) = some (97 + (f + st * i) % 26) := by
        rw [ei]; exact atI_nat (letters_at _ (List.mem_range.mpr hr26))
      have en : (1 + ((0 + (i : Int)) * (0 + (i : Int)) + (f : Int)) % 8) = ((1 + (i * i + f) % 8 : Nat) : Int) := by rw [Int.zero_add]; push_cast; rfl
      have g8 : (i * i + f) % 8 < 8 := Nat.mod_lt _ (by decide)
      refine ⟨_, rfl, _, rfl, _, rfl, _, rfl, _, _, rfl, rfl, .inl ⟨by omega, by omega⟩, _, _, rfl, rfl, _, _, rfl, rfl, (by decide : (0 : Int) < 26), lettersS, _, _, rfl, rfl, by rw [letters_len]; decide, ec, _, rfl, _, rfl, _, _, rfl, rfl, .inl ⟨by omega, by omega⟩, _, rfl, _, _, rfl, rfl, _, _, rfl, rfl, (by decide : (0 : Int) < 8), _, _, rfl, rfl, one (97 + (f + st * i) % 26), _, rfl, rfl, by rw [en]; omega, by rw [en]; omega, by rw [one_len]; decide, by rw [one_len]; decide, ?_⟩
      have nl := hH2.ne hl
      refine ⟨hl', ?_, ⟨_, rfl⟩, ?_, hH'.updNe nl, k'.updNew hl⟩
      · rw [List.length_map, List.length_map, List.length_range]; exact small1000 (by omega)
      · rw [en, Int.toNat_natCast, List.range_succ, List.map_append, List.map_append]; rfl
    · rintro l ys σ' H3 hl ⟨⟨o, rfl⟩, rfl, hH3, k3⟩ hl'
      have nl := hH2.ne hl
      rw [Int.toNat_natCast] at hl'
      have e0 : (List.range m).map (nmS f st) = (List.range m).map (nameS f st 0 0) := by
        apply List.map_congr_left
        intro k _
        unfold nameS
        rw [if_neg (by omega)]
      have hln : H l = none := by
        cases e : H l with
        | none => rfl
        | some o => exact absurd (kp2 l o nl e) (by rw [hl]; exact fun z => nomatch z)
      refine ⟨fun σ' H' => (∃ o6 o7 o8, σ' = [some (.ref a), some (.int m), some (.str lettersS), some (.int (f : Int)), some (.int (st : Int)), some (.ref l), o6, o7, o8]) ∧ (∃ sp j : Nat, H' l = some (.lst (((List.range m).map (nameS f st sp j)).map V.str)) ∧ sp < 13 ∧ j ≤ 4) ∧ Hand H' a (n + 4) ∧ Keep a H H', ?_, ?_⟩
      · refine ⟨_, rfl, a, 6, n + 1 + 1, rfl, hH3, by omega, by decide, by decide, fun d H4 d0 d6 hH4 k4 => ⟨rfl, _, rfl, ite2 (fun _ => ?_) (fun _ => ?_)⟩⟩
        · have hl4 := k4 _ _ nl hl'
          have kp4 : Keep a H H4 := (kp2.trans k3).trans k4
          refine ⟨by decide, fun pk hpk => ?_⟩
          have npl : pk ≠ l := fun z => by rw [z, hl4] at hpk; cases hpk
          have npa := hH4.ne hpk
          refine ⟨_, rfl, a, 13, n + 1 + 1 + 1, rfl, hH4.new hpk, by omega, by decide, by decide, fun sp' H5 sp0 sp13 hH5 k5 => ?_⟩
          obtain ⟨sp, rfl⟩ : ∃ f : Nat, sp' = (f : Int) := ⟨sp'.toNat, by omega⟩
          refine ⟨_, rfl, _, _, rfl, _, rfl, ?_, ?_, ?_⟩
          · split <;> omega
          · split <;> omega
          have e4 : (if (4 : Int) < (m : Int) then (4 : Int) else (m : Int)).toNat = 4 := by split <;> omega
          rw [e4]
          refine for_by wk_rng (fun i σ' H' => (∃ o8, σ' = [some (.ref a), some (.int m), some (.str lettersS), some (.int (f : Int)), some (.int (st : Int)), some (.ref l), some (.ref pk), some (.int (sp : Int)), o8]) ∧ H' l = some (.lst (((List.range m).map (nameS f st sp i)).map V.str)) ∧ Hand H' a (n + 4) ∧ Keep a H H' ∧ H' pk = some (.lst (keptL.map V.str))) ?_ (fun _ _ _ _ => trivial) ?_ ?_
          · refine ⟨⟨_, rfl⟩, ?_, hH5.mono (by omega), kp4.trans ((Keep.new hpk).trans k5), k5 _ _ npa upd_same⟩
            have e0' : (List.range m).map (nmS f st) = (List.range m).map (nameS f st sp 0) := by
              apply List.map_congr_left
              intro k _
              unfold nameS
              rw [if_neg (by omega)]
            rw [← e0']
            exact k5 _ _ nl (by rw [upd_ne (Ne.symm npl)]; exact hl4)
          · rintro i y σ' H6 hi4 rfl ⟨⟨o8, rfl⟩, hz, hH6, k6, hp6⟩
            have ek : ((sp : Int) + 3 * (0 + (i : Int))) % 13 = (((sp + 3 * i) % 13 : Nat) : Int) := by rw [Int.zero_add]; push_cast; rfl
            have ev : atI (keptL.map V.str) (((sp : Int) + 3 * (0 + (i : Int))) % 13) = some (.str (kwS sp i)) := by
              rw [ek]; exact atI_nat (by rw [List.getElem?_map, kept_at]; rfl)
            have hix : ixN (((List.range m).map (nameS f st sp i)).map V.str).length (0 + (i : Int)) = some i := by
              unfold ixN
              rw [if_pos (by omega), if_pos (by rw [List.length_map, List.length_map, List.length_range]; omega)]
              congr 1
              omega
            refine ⟨_, rfl, _, rfl, _, rfl, _, _, rfl, rfl, .inl ⟨by decide, by decide⟩, _, _, rfl, rfl, _, _, rfl, rfl, (by decide : (0 : Int) < 13), pk, _, _, _, rfl, rfl, SqL.of hp6, ev, _, rfl, _, rfl, l, _, _, i, rfl, rfl, hz, hix, ?_⟩
            refine ⟨⟨_, rfl⟩, ?_, hH6.updNe nl, k6.updNew hln, by rw [upd_ne npl]; exact hp6⟩
            rw [upd_same, ← List.map_set, name_set (by omega)]
          · rintro σ' H6 ⟨⟨o8, rfl⟩, hz, hH6, k6, _⟩
            exact ⟨⟨_, _, _, rfl⟩, ⟨sp, 4, hz, by omega, by decide⟩, hH6, k6⟩
        · rw [e0] at hl'
          exact ⟨⟨_, _, _, rfl⟩, ⟨0, 0, k4 _ _ nl hl', by decide, by decide⟩, hH4.mono (by omega), (kp2.trans k3).trans k4⟩
      · rintro σ' H' ⟨⟨o6, o7, o8, rfl⟩, ⟨sp, j, hz, hsp, hj⟩, hH', k'⟩
        refine ⟨_, rfl, q l _ H' hln hz (by rw [List.length_map, List.length_range]) (fun x hx => ?_) (names_nodup (by omega) st0 hsp hj m13) (fun x hx => ?_) hH' k'⟩
        · obtain ⟨k, _, rfl⟩ := List.mem_map.mp hx
          exact name_ok _ _ _ _ _
        · obtain ⟨k, _, rfl⟩ := List.mem_map.mp hx
          exact name_here _ _ _ _ _
end
end K38

set_option Elab.async false
set_option linter.all false
set_option maxRecDepth 100000
set_option maxHeartbeats 4000000
namespace K38
open PySem PySem.Spec PyProof.Rows L2 RW
local macro_rules | `(tactic| walk_at "cond") => `(tactic| first | assumption | decide | omega | exact few rfl | exact .inl ⟨by decide, by decide⟩ | exact .inr ⟨by decide, by decide⟩ | exact .inl ⟨by omega, by omega⟩ | exact .inr ⟨by omega, by omega⟩ | exact ⟨by omega, by omega⟩ | exact ⟨by assumption, by assumption⟩ | exact ⟨by decide, by decide, by decide⟩ | exact .inr ⟨by split <;> decide, by split <;> decide⟩)
local macro_rules | `(tactic| walk_at "rd") => `(tactic| first | with_reducible_and_instances refine ⟨_, rfl, ?_⟩ | refine ⟨_, rfl, ?_⟩ | refine ⟨_, _, rfl, rfl, ?_⟩ | refine ⟨_, _, _, _, rfl, rfl, SqL.of (by assumption), rfl, ?_⟩ | refine ⟨_, _, _, _, rfl, rfl, (by assumption), rfl, ?_⟩ | refine .inl ⟨_, rfl, ?_⟩ | refine .inr ⟨_, rfl, ?_⟩ | refine .inl ⟨_, _, rfl, .inl (by assumption), ?_⟩ | refine ⟨(by walk_at "cond"), ?_⟩)
local macro_rules | `(tactic| walk_at "dsp") => `(tactic| repeat' (first | exact dsp_str (by decide) | exact dsp_int | exact dsp_bl | exact dsp_non | exact dsp_neg | exact dspA_nil | exact dsp_dnew | exact dsp_disp rfl | exact dsp_var rfl (by assumption) | refine dspA_cons ?_ ?_ | refine dsp_tup ?_ ?_ | refine dsp_lst' ?_ | refine n_cons ?_ ?_ | exact n_nil | exact v_c | exact v_var rfl | refine v_tup ?_ | refine dspl_lst ?_ ?_ | refine dspl_cat ?_ ?_ ?_ | exact dspl_var rfl (by assumption) (by assumption) | exact Nat.le_of_ble_eq_true rfl))
local macro_rules | `(tactic| walk_at "each") => `(tactic| repeat' (first | exact forall_nil | refine List.forall_mem_append.mpr ⟨?_, ?_⟩ | refine List.forall_mem_cons.mpr ⟨?_, ?_⟩))
section
variable {P : Program} {w : World} {K : PySem.W.Frag} {mg : Str → Option Value} {base : Heap}
/-! a list of names -/
def NL (O : List Str) (H : Hp) (l : Addr) : Prop := ∃ xs : List Str, H l = some (.lst (xs.map V.str)) ∧ 0 < xs.length ∧ xs.length ≤ 100 ∧ ∀ x ∈ xs, isNameB x = true ∧ x ∈ O
theorem NL.keep {O : List Str} {H H' : Hp} {a l : Addr} (h : NL O H l) (k : Keep a H H') (n : l ≠ a) : NL O H' l := let ⟨xs, e, r⟩ := h; ⟨xs, k _ _ n e, r⟩
theorem NL.same {O : List Str} {H H' : Hp} {l : Addr} (h : NL O H l) (k : Same H H') : NL O H' l := let ⟨xs, e, r⟩ := h; ⟨xs, k _ _ e, r⟩
/-- pick of a list of names -/
theorem pick_name {O : List Str} {H : Hp} {a l : Addr} {n : Int} {Q : VK} (hH : Hand H a n) (hn : n < 2 ^ 40) (hl : NL O H l) (hla : l ≠ a) (q : ∀ x H', (isNameB x = true ∧ x ∈ O) → Hand H' a (n + 1) → Keep a H H' → Q (.str x) H') : spPick K [.ref a, .ref l] H Q E0 := by
  obtain ⟨xs, e, x0, x1, hx⟩ := hl
  refine ⟨a, n, hH, hn, .inl ⟨l, _, rfl, hla, SqL.of e, by rw [List.length_map]; exact x0, by rw [List.length_map]; omega, fun v H' hv hH' k' => ?_⟩⟩
  obtain ⟨x, hxx, rfl⟩ := List.mem_map.mp hv
  exact q x H' (hx x hxx) hH' k'
theorem name_short {x : Str} (h : isNameB x = true) : x.length ≤ 1000 := by
  unfold isNameB at h
  simp only [Bool.and_eq_true, decide_eq_true_eq] at h
  omega
theorem plain_name {y x : Str} (hy : y ∈ namingL) (hx : isNameB x = true) : isPlainB (.tup [.str y, .str x]) = true := by
  have h1 : ¬ y = "long" := by
    intro z
    subst z
    revert hy
    decide +kernel
  have h2 : (namingL.any fun z => decide (z = y)) = true := List.any_eq_true.mpr ⟨y, hy, decide_eq_true rfl⟩
  rw [plain_eq, if_neg h1, h2, nameD_eq, hx]; rfl
theorem plain_cond {d : D} (h : isPlainB d = true) : isCondB d = true := by
  obtain ⟨x, e, rfl⟩ := plain_form d h
  by_cases hx : x = "not"
  · subst hx; rw [plain_not] at h; cases h
  · rw [cond_eq, if_neg hx]; exact h
theorem plain_asks {d : D} (h : isPlainB d = true) (ha : asks0 d = false) : asksB d = false := by
  obtain ⟨x, e, rfl⟩ := plain_form d h
  by_cases hx : x = "not"
  · subst hx; rw [plain_not] at h; cases h
  · show (if x = "not" then asks0 e else decide (x = "to")) = false
    rw [if_neg hx]; exact ha
def spCond : Sp := fun vs H Q _ => ∃ (a h m : Addr) (n : Int) (to : Bool) (O : List Str), vs = [.ref a, .ref h, .ref m, .bl to] ∧ Hand H a n ∧ n < 2 ^ 39 ∧ NL O H h ∧ NL O H m ∧ h ≠ a ∧ m ≠ a ∧ ∀ v d H', Rep H' v d → (isCondB d = true ∧ condIn O d = true) → (to = false → asksB d = false) → Hand H' a (n + 4) → Keep a H H' → Q v H'
theorem ok_cond (Y : Ev K mg) : FnOk P w K mg base CX0 3 Y.a__law_cond Y.d__law_cond p__law_cond spCond := by
  have G__law_take : FnOk P w K mg base CX0 1 Y.a__law_take Y.d__law_take p__law_take spTake := ok_take Y
  have G__law_pick : FnOk P w K mg base CX0 2 Y.a__law_pick Y.d__law_pick p__law_pick (spPick K) := ok_pick Y
  refine Y._law_cond.fn.okQ c__law_cond (fun vs H Q E h => ?_) (fun cdv A outer s H vs Q E hr h => ?_)
  · obtain ⟨a, h, m, n, to, O, rfl, _⟩ := h; rfl
  · obtain ⟨a, h, m, n, to, O, rfl, hH, hn, hh, hm, nh, nm, q⟩ := h
    refine ⟨_, (b_cons (s_set 4 c__law_cond.nd (q_call G__law_take (hr.mono (by decide)) Y._law_take.mg Y._law_take.kp Y._law_take.b .nil pass0 (a_cons (qv 0) (a_cons (q_op op_add q_int (q_callTy call_int1 Y.int bt_int (a_cons (qv 3) a_nil))) a_nil))))
      (b_cons (s_set 5 c__law_cond.nd (q_tup (a_cons q_str (a_cons (q_call G__law_pick (hr.mono (by decide)) Y._law_pick.mg Y._law_pick.kp Y._law_pick.b .nil pass0 (a_cons (qv 0) (a_cons (qv 1) a_nil))) a_nil))))
      (b_cut (s_if (t_w (w_or (t_cmp op_eq (qv 4) q_int) (w_or1 (t_cmp op_eq (qv 4) q_int)))) (b_one (s_set 5 c__law_cond.nd (q_tup (a_cons q_str (a_cons (q_call G__law_pick (hr.mono (by decide)) Y._law_pick.mg Y._law_pick.kp Y._law_pick.b .nil pass0 (a_cons (qv 0) (a_cons (qv 1) a_nil))) a_nil))))) (b_one (s_if (t_cmp op_eq (qv 4) q_int) (b_one (s_set 5 c__law_cond.nd (q_tup (a_cons q_str (a_cons (q_call G__law_pick (hr.mono (by decide)) Y._law_pick.mg Y._law_pick.kp Y._law_pick.b .nil pass0 (a_cons (qv 0) (a_cons (q_lstC [V.int 0, V.int 1, V.int 2, V.int 3, V.int 4, V.int 99] (by decide +kernel)) a_nil))) a_nil))))) (b_one (s_if (t_cmp op_eq (qv 4) q_int) (b_one (s_set 5 c__law_cond.nd (q_tup (a_cons q_str (a_cons (q_call G__law_pick (hr.mono (by decide)) Y._law_pick.mg Y._law_pick.kp Y._law_pick.b .nil pass0 (a_cons (qv 0) (a_cons (qv 2) a_nil))) a_nil))))) (b_one (s_if (t_cmp op_eq (qv 4) q_int) (b_one (s_set 5 c__law_cond.nd (q_tup (a_cons q_str (a_cons (q_call G__law_pick (hr.mono (by decide)) Y._law_pick.mg Y._law_pick.kp Y._law_pick.b .nil pass0 (a_cons (qv 0) (a_cons (qv 1) a_nil))) a_nil))))) b_nil)))))))
      (b_cut (s_if (t_cmp op_eq (q_call G__law_take (hr.mono (by decide)) Y._law_take.mg Y._law_take.kp Y._law_take.b .nil pass0 (a_cons (qv 0) (a_cons q_int a_nil))) q_int) (b_one (s_set 5 c__law_cond.nd (q_tup (a_cons q_str (a_cons (qv 5) a_nil))))) b_nil)
      (b_one (s_ret (qv 5))))))), ?_⟩
    refine ⟨_, rfl, _, rfl, .inr ⟨to, rfl, _, _, rfl, rfl, a, _, n, rfl, hH, by omega, by split <;> omega, by split <;> omega, fun t H1 t0 t5 hH1 k1 => ?_⟩⟩
    refine ⟨_, rfl, _, rfl, pick_name hH1 (by omega) (hh.keep k1 nh) nh fun x H2 hx hH2 k2 => ⟨few rfl, fun p2 hp2 => ?_⟩⟩
    have mk2 : ∀ {H0 : Hp} {p : Addr} {y x : Str}, y.length ≤ 1000 → (isNameB x = true ∧ x ∈ O) → Rep (upd H0 p (.tup [.str y, .str x])) (.ref p) (.tup [.str y, .str x]) := fun hy hx => .mk2 upd_same (.str _ hy) (.str _ (name_short hx.1))
    have hh2 : NL O (upd H2 p2 (.tup [.str "by", .str x])) h := ((hh.keep k1 nh).keep k2 nh).same (Same.new hp2)
    have hm2 : NL O (upd H2 p2 (.tup [.str "by", .str x])) m := ((hm.keep k1 nm).keep k2 nm).same (Same.new hp2)
    have hH2' := hH2.new (o := .tup [.str "by", .str x]) hp2
    have kp2 : Keep a H (upd H2 p2 (.tup [.str "by", .str x])) := (k1.trans k2).trans (Keep.new hp2)
    refine ⟨fun σ' H' => ∃ v d, σ' = [some (.ref a), some (.ref h), some (.ref m), some (.bl to), some (.int t), some v] ∧ Rep H' v d ∧ (isPlainB d = true ∧ plainIn O d = true) ∧ (to = false → asks0 d = false) ∧ Hand H' a (n + 3) ∧ Keep a H H', ?_, ?_⟩
    · have ap : ∀ {y x : Str}, ¬ y = "to" → asks0 (.tup [.str y, .str x]) = false := fun h => decide_eq_false h
      have br : ∀ {y : Str}, y.length ≤ 1000 → y ∈ namingL → ¬ y = "to" → ∀ (l : Addr), l ≠ a → NL O (upd H2 p2 (.tup [.str "by", .str x])) l → ∀ R : V → Hp → Prop, (∀ v d H', Rep H' v d → (isPlainB d = true ∧ plainIn O d = true) → (to = false → asks0 d = false) → Hand H' a (n + 3) → Keep a H H' → R v H') →
          spPick K [.ref a, .ref l] (upd H2 p2 (.tup [.str "by", .str x])) (fun v H3 => [V.str y, v].length ≤ sizeLine ∧ ∀ p, H3 p = none → R (.ref p) (upd H3 p (.tup [V.str y, v]))) E0 := by
        intro y hy hyn hyt l nl hl R hR
        refine pick_name hH2' (by omega) hl nl fun x3 H3 hx3 hH3 k3 => ⟨few rfl, fun p3 hp3 => ?_⟩
        exact hR _ _ _ (mk2 hy hx3) ⟨plain_name hyn hx3.1, plainIn_str hx3.2⟩ (fun _ => ap hyt) ((hH3.new hp3).mono (by omega)) ((kp2.trans k3).trans (Keep.new hp3))
      have fin : ∀ v d H', Rep H' v d → (isPlainB d = true ∧ plainIn O d = true) → (to = false → asks0 d = false) → Hand H' a (n + 3) → Keep a H H' → (fun (v : V) (H' : Hp) => ∃ v0 d, [some (V.ref a), some (.ref h), some (.ref m), some (.bl to), some (.int t), some v] = [some (.ref a), some (.ref h), some (.ref m), some (.bl to), some (.int t), some v0] ∧ Rep H' v0 d ∧ (isPlainB d = true ∧ plainIn O d = true) ∧ (to = false → asks0 d = false) ∧ Hand H' a (n + 3) ∧ Keep a H H') v H' :=
        fun v d H' h1 h2 h3 h4 h5 => ⟨v, d, rfl, h1, h2, h3, h4, h5⟩
      refine ⟨_, rfl, rfl, _, rfl, ite2 (fun _ => ?_) (fun _ => ⟨_, rfl, rfl, _, rfl, ite2 (fun _ => ?_) (fun _ => ?_)⟩)⟩
      · exact ⟨_, rfl, _, rfl, br (by decide) (by decide) (by decide +kernel) h nh hh2 _ fin⟩
      · exact ⟨_, rfl, _, rfl, br (by decide) (by decide) (by decide +kernel) h nh hh2 _ fin⟩
      refine ⟨_, rfl, rfl, _, rfl, ite2 (fun _ => ?_) (fun _ => ⟨_, rfl, rfl, _, rfl, ite2 (fun _ => ?_) (fun _ => ⟨_, rfl, rfl, _, rfl, ite2 (fun h5 => ?_) (fun _ => ?_)⟩)⟩)⟩
      · refine ⟨_, rfl, by decide, fun pl hpl => ⟨a, n + 2, (hH2'.mono (by omega)).new hpl, by omega, .inl ⟨pl, _, rfl, hH2'.ne hpl, SqL.of upd_same, by decide, by decide, fun v H3 hv hH3 k3 => ⟨few rfl, fun p3 hp3 => ?_⟩⟩⟩⟩
        have hk : ∃ j : Int, v = .int j ∧ 0 ≤ j ∧ j ≤ 99 := by
          simp only [List.mem_cons, List.not_mem_nil, or_false] at hv
          rcases hv with rfl | rfl | rfl | rfl | rfl | rfl <;> exact ⟨_, rfl, by decide, by decide⟩
        obtain ⟨j, rfl, j0, j9⟩ := hk
        refine fin _ (.tup [.str "long", .int j]) _ (.mk2 upd_same (.str _ (by decide)) (.int _)) ?_ (fun _ => (by decide +kernel : decide (("long" : Str) = "to") = false)) ((hH3.new hp3).mono (by omega)) ((kp2.trans ((Keep.new hpl).trans k3)).trans (Keep.new hp3))
        refine ⟨?_, rfl⟩
        rw [plain_eq, if_pos rfl]
        show (decide (0 ≤ j) && decide (j ≤ 99)) = true
        rw [decide_eq_true j0, decide_eq_true j9]; rfl
      · exact ⟨_, rfl, _, rfl, br (by decide) (by decide) (by decide +kernel) m nm hm2 _ fin⟩
      · refine ⟨_, rfl, _, rfl, pick_name hH2' (by omega) hh2 nh fun x3 H3 hx3 hH3 k3 => ⟨few rfl, fun p3 hp3 => ?_⟩⟩
        refine fin _ _ _ (mk2 (by decide) hx3) ⟨plain_name (by decide) hx3.1, plainIn_str hx3.2⟩ (fun z => ?_) ((hH3.new hp3).mono (by omega)) ((kp2.trans k3).trans (Keep.new hp3))
        subst z
        have e5 : t = 5 := V.int.inj (of_decide_eq_true h5)
        simp at t5
        omega
      · exact fin _ _ _ (mk2 (by decide) hx) ⟨plain_name (by decide) hx.1, plainIn_str hx.2⟩ (fun _ => ap (by decide +kernel)) (hH2'.mono (by omega)) kp2
    · rintro σ' H3 ⟨v, d, rfl, hv, hd, hto, hH3, k3⟩
      refine ⟨fun σ' H' => ∃ v d, σ' = [some (.ref a), some (.ref h), some (.ref m), some (.bl to), some (.int t), some v] ∧ Rep H' v d ∧ (isCondB d = true ∧ condIn O d = true) ∧ (to = false → asksB d = false) ∧ Hand H' a (n + 4) ∧ Keep a H H', ?_, ?_⟩
      · refine ⟨_, rfl, a, 4, n + 3, rfl, hH3, by omega, by decide, by decide, fun d4 H4 _ _ hH4 k4 => ⟨rfl, _, rfl, ite2 (fun _ => ?_) (fun _ => ?_)⟩⟩
        · have hv4 := hv.mono (Mono.keep k4 hH3 hH4)
          refine ⟨_, rfl, few rfl, fun p5 hp5 => ⟨_, .tup [.str "not", d], rfl, .mk2 upd_same (.str _ (by decide)) (hv4.mono (.new hp5)), ?_, ?_, (hH4.new hp5).mono (by omega), (k3.trans k4).trans (Keep.new hp5)⟩⟩
          · exact ⟨by rw [cond_eq, if_pos rfl]; exact hd.1, condIn_not hd.2⟩
          · exact fun z => hto z
        · refine ⟨_, d, rfl, hv.mono (Mono.keep k4 hH3 hH4), ⟨plain_cond hd.1, condIn_of hd.1 hd.2⟩, fun z => plain_asks hd.1 (hto z), hH4.mono (by omega), k3.trans k4⟩
      · rintro σ' H4 ⟨v, d, rfl, hv, hd, hto, hH4, k4⟩
        exact ⟨_, rfl, q v d H4 hv hd hto hH4 k4⟩

end
end K38

set_option Elab.async false
set_option linter.all false
set_option maxRecDepth 100000
set_option maxHeartbeats 4000000
namespace K38
open PySem PySem.Spec PyProof.Rows L2 RW
local macro_rules | `(tactic| walk_at "cond") => `(tactic| first | assumption | decide | omega | exact few rfl | exact .inl ⟨by decide, by decide⟩ | exact .inr ⟨by decide, by decide⟩ | exact .inl ⟨by omega, by omega⟩ | exact .inr ⟨by omega, by omega⟩ | exact ⟨by omega, by omega⟩ | exact ⟨by assumption, by assumption⟩ | exact ⟨by decide, by decide, by decide⟩ | exact .inr ⟨by split <;> decide, by split <;> decide⟩)
local macro_rules | `(tactic| walk_at "rd") => `(tactic| first | with_reducible_and_instances refine ⟨_, rfl, ?_⟩ | refine ⟨_, rfl, ?_⟩ | refine ⟨_, _, rfl, rfl, ?_⟩ | refine ⟨_, _, _, _, rfl, rfl, SqL.of (by assumption), rfl, ?_⟩ | refine ⟨_, _, _, _, rfl, rfl, (by assumption), rfl, ?_⟩ | refine .inl ⟨_, rfl, ?_⟩ | refine .inr ⟨_, rfl, ?_⟩ | refine .inl ⟨_, _, rfl, .inl (by assumption), ?_⟩ | refine ⟨(by walk_at "cond"), ?_⟩)
local macro_rules | `(tactic| walk_at "dsp") => `(tactic| repeat' (first | exact dsp_str (by decide) | exact dsp_int | exact dsp_bl | exact dsp_non | exact dsp_neg | exact dspA_nil | exact dsp_dnew | exact dsp_disp rfl | exact dsp_var rfl (by assumption) | refine dspA_cons ?_ ?_ | refine dsp_tup ?_ ?_ | refine dsp_lst' ?_ | refine n_cons ?_ ?_ | exact n_nil | exact v_c | exact v_var rfl | refine v_tup ?_ | refine dspl_lst ?_ ?_ | refine dspl_cat ?_ ?_ ?_ | exact dspl_var rfl (by assumption) (by assumption) | exact Nat.le_of_ble_eq_true rfl))
local macro_rules | `(tactic| walk_at "each") => `(tactic| repeat' (first | exact forall_nil | refine List.forall_mem_append.mpr ⟨?_, ?_⟩ | refine List.forall_mem_cons.mpr ⟨?_, ?_⟩))
section
variable {P : Program} {w : World} {K : PySem.W.Frag} {mg : Str → Option Value} {base : Heap}
theorem conds_mk {ds : List D} (hl : ds.length ≤ 4) (h : ∀ d ∈ ds, isCondB d = true) : areCondsB (.tup ds) = true := by
  rw [conds_eq, decide_eq_true hl, List.all_eq_true.mpr h]; rfl
theorem getD_mem {α : Type} {P : α → Prop} {ds : List α} (h : ∀ (i : Nat) (d : α), ds[i]? = some d → P d) : ∀ d ∈ ds, P d := fun d hd => by
  obtain ⟨i, hi, e⟩ := List.getElem_of_mem hd
  exact h i d (by rw [List.getElem?_eq_getElem hi, e])
def spConds : Sp := fun vs H Q _ => ∃ (a h m : Addr) (n : Int) (to : Bool) (O : List Str), vs = [.ref a, .ref h, .ref m, .bl to] ∧ Hand H a n ∧ n < 2 ^ 38 ∧ NL O H h ∧ NL O H m ∧ h ≠ a ∧ m ≠ a ∧ ∀ v ds H', Rep H' v (.tup ds) → ds.length ≤ 4 → (∀ d ∈ ds, isCondB d = true) → (∀ d ∈ ds, condIn O d = true) → (to = false → ∀ d ∈ ds, asksB d = false) → Hand H' a (n + 17) → Keep a H H' → Q v H'
theorem ok_conds (Y : Ev K mg) : FnOk P w K mg base CX0 4 Y.a__law_conds Y.d__law_conds p__law_conds spConds := by
  have G__law_pick : FnOk P w K mg base CX0 2 Y.a__law_pick Y.d__law_pick p__law_pick (spPick K) := ok_pick Y
  have G__law_cond : FnOk P w K mg base CX0 3 Y.a__law_cond Y.d__law_cond p__law_cond spCond := ok_cond Y
  refine Y._law_conds.fn.okQ c__law_conds (fun vs H Q E h => ?_) (fun cdv A outer s H vs Q E hr h => ?_)
  · obtain ⟨a, h, m, n, to, O, rfl, _⟩ := h; rfl
  · obtain ⟨a, h, m, n, to, O, rfl, hH, hn, hh, hm, nh, nm, q⟩ := h
    refine ⟨_, (b_cons (s_set 4 c__law_conds.nd (q_call G__law_pick (hr.mono (by decide)) Y._law_pick.mg Y._law_pick.kp Y._law_pick.b .nil pass0 (a_cons (qc 0) (a_cons (q_lstC [V.int 1, V.int 1, V.int 1, V.int 2, V.int 0, V.int 4] (by decide +kernel)) a_nil))))
      (b_one (s_ret (q_callTy call_tuple_of Y.tuple bt_tuple (a_cons (q_comp (src := [none, some 0, some 1, some 2, some 3]) o__law_conds_1 rfl rfl (i_rng1 Y.range (a_cons (qv 4) a_nil)) (fun _ _ _ _ _ => (g_name 0 o__law_conds_1.nd)) (fun _ _ _ _ _ => f_nil) (fun _ _ _ _ _ => (q_call G__law_cond (hr.mono (by decide)) Y._law_cond.mg Y._law_cond.kp Y._law_cond.b .nil pass0 (a_cons (qc 1) (a_cons (qc 2) (a_cons (qc 3) (a_cons (qc 4) a_nil))))))) a_nil))))), ?_⟩
    refine ⟨_, rfl, by decide, fun pl hpl => ⟨a, n, hH.new hpl, by omega, .inl ⟨pl, _, rfl, hH.ne hpl, SqL.of upd_same, by decide, by decide, fun v H1 hv hH1 k1 => ?_⟩⟩⟩
    obtain ⟨c, rfl, c4⟩ : ∃ c : Nat, v = .int (c : Int) ∧ c ≤ 4 := by
      simp only [List.mem_cons, List.not_mem_nil, or_false] at hv
      rcases hv with rfl | rfl | rfl | rfl | rfl | rfl
      · exact ⟨1, rfl, by decide⟩
      · exact ⟨1, rfl, by decide⟩
      · exact ⟨1, rfl, by decide⟩
      · exact ⟨2, rfl, by decide⟩
      · exact ⟨0, rfl, by decide⟩
      · exact ⟨4, rfl, by decide⟩
    have kp1 : Keep a H H1 := (Keep.new hpl).trans k1
    have hh1 := (hh.same (Same.new (o := .lst [V.int 1, V.int 1, V.int 1, V.int 2, V.int 0, V.int 4]) hpl)).keep k1 nh
    have hm1 := (hm.same (Same.new (o := .lst [V.int 1, V.int 1, V.int 1, V.int 2, V.int 0, V.int 4]) hpl)).keep k1 nm
    refine ⟨_, rfl, c, rfl, by omega, by omega, ?_⟩
    rw [Int.toNat_natCast]
    refine comp_draws (a := a) (m := n + 1) (c := 4) (Pd := fun _ d => (isCondB d = true ∧ condIn O d = true) ∧ (to = false → asksB d = false)) (σr := [some (.ref a), some (.ref h), some (.ref m), some (.bl to)]) rfl hH1 (by omega) (by decide) (fun j H2 Q1 hj hH2 k2 q1 => ?_) (fun l vs ds H2 hl hl2 r2 hds pd hH2 k2 => ?_)
    · exact ⟨_, rfl, _, rfl, _, rfl, _, rfl, a, h, m, _, to, O, rfl, hH2, by omega, hh1.keep k2 nh, hm1.keep k2 nm, nh, nm, fun v d H3 rv hc ht hH3 k3 => q1 v d H3 rv ⟨hc, ht⟩ hH3 k3⟩
    · refine ⟨l, vs, rfl, .inl ⟨SqL.of hl2, fun p hp => ?_⟩⟩
      have pd' := getD_mem (P := fun d => (isCondB d = true ∧ condIn O d = true) ∧ (to = false → asksB d = false)) pd
      exact q _ ds _ (.mkL upd_same (by omega) (r2.mono (.new hp))) (by omega) (fun d hd => (pd' d hd).1.1) (fun d hd => (pd' d hd).1.2) (fun z d hd => (pd' d hd).2 z) ((hH2.new hp).mono (by omega)) ((kp1.trans k2).trans (Keep.new hp))
/-- a row of rules drawn into a list -/
def Rules (g : D → Bool) (H' : Hp) (ls : Addr) (i : Nat) : Prop := ∃ (zs : List V) (ds : List D), H' ls = some (.lst zs) ∧ RepL H' zs ds ∧ ds.length = i ∧ ∀ d ∈ ds, g d = true
def spRules (g : List Str → D → Bool) : Sp := fun vs H Q _ => ∃ (a h m : Addr) (n : Int) (O : List Str), vs = [.ref a, .ref h, .ref m] ∧ Hand H a n ∧ n < 2 ^ 37 ∧ NL O H h ∧ NL O H m ∧ h ≠ a ∧ m ≠ a ∧ ∀ v ds H', Rep H' v (.tup ds) → ds.length ≤ 12 → (∀ d ∈ ds, g O d = true) → Hand H' a (n + 400) → Keep a H H' → Q v H'
theorem liking_mk {ds : List D} {x : D} (hl : ds.length ≤ 4) (h : ∀ d ∈ ds, isCondB d = true) (ha : ∀ d ∈ ds, asksB d = false) (hx : isWorthB x = true) : isLikingB (.tup [.tup ds, x]) = true := by
  rw [liking_eq, conds_mk hl h, hx]
  have : anyAsks (.tup ds) = false := by
    show ds.any asksB = false
    rw [List.any_eq_false]
    exact fun d hd z => by rw [ha d hd] at z; cases z
  rw [this]; rfl
theorem ok_likings (Y : Ev K mg) : FnOk P w K mg base CX0 5 Y.a__law_likings Y.d__law_likings p__law_likings (spRules likeIn) := by
  have G__law_take : FnOk P w K mg base CX0 1 Y.a__law_take Y.d__law_take p__law_take spTake := ok_take Y
  have G__law_pick : FnOk P w K mg base CX0 2 Y.a__law_pick Y.d__law_pick p__law_pick (spPick K) := ok_pick Y
  have G__law_conds : FnOk P w K mg base CX0 4 Y.a__law_conds Y.d__law_conds p__law_conds spConds := ok_conds Y
  refine Y._law_likings.fn.okQ c__law_likings (fun vs H Q E h => ?_) (fun cdv A outer s H vs Q E hr h => ?_)
  · obtain ⟨a, h, m, n, O, rfl, _⟩ := h; rfl
  · obtain ⟨a, h, m, n, O, rfl, hH, hn, hh, hm, nh, nm, q⟩ := h
    refine ⟨_, (b_cons (s_set 3 c__law_likings.nd (q_lst a_nil))
      (b_cons (s_for PassesOwn.never rfl (i_rng1 Y.range (a_cons (q_op op_add (q_call G__law_take (hr.mono (by decide)) Y._law_take.mg Y._law_take.kp Y._law_take.b .nil pass0 (a_cons (qv 0) (a_cons q_int a_nil))) (q_op op_mul q_int (q_callTy call_int1 Y.int bt_int (a_cons (q_cmp op_eq (q_call G__law_take (hr.mono (by decide)) Y._law_take.mg Y._law_take.kp Y._law_take.b .nil pass0 (a_cons (qv 0) (a_cons q_int a_nil))) q_int) a_nil)))) a_nil)) (g_name 4 c__law_likings.nd) (b_cons (s_set 5 c__law_likings.nd (q_call G__law_pick (hr.mono (by decide)) Y._law_pick.mg Y._law_pick.kp Y._law_pick.b .nil pass0 (a_cons (qv 0) (a_cons (q_lst (a_cons q_int (a_cons q_int (a_cons q_int (a_cons (q_un un_neg q_int) (a_cons q_int (a_cons q_int (a_cons (q_un un_neg q_int) (a_cons q_non a_nil))))))))) a_nil))))
      (b_one (s_expr (q_bm PySem.F.plainAttrs_list PySem.F.slot_list_append PySem.F.type_list_append mt_append (qv 3) (a_cons (q_tup (a_cons (q_call G__law_conds (hr.mono (by decide)) Y._law_conds.mg Y._law_conds.kp Y._law_conds.b .nil pass0 (a_cons (qv 0) (a_cons (qv 1) (a_cons (qv 2) (a_cons q_bl a_nil))))) (a_cons (qv 5) a_nil))) a_nil))))))
      (b_one (s_ret (q_callTy call_tuple_of Y.tuple bt_tuple (a_cons (qv 3) a_nil)))))), ?_⟩
    refine ⟨few rfl, fun ls hls => ?_⟩
    have nls := hH.ne hls
    refine ⟨_, rfl, a, 4, n, rfl, hH.new hls, by omega, by decide, by decide, fun t H1 t0 t4 hH1 k1 => ⟨_, rfl, a, 8, n + 1, rfl, hH1, by omega, by decide, by decide, fun u H2 u0 u8 hH2 k2 => ?_⟩⟩
    have hl1 : H1 ls = some (.lst []) := k1 _ _ nls upd_same
    have hl2 : H2 ls = some (.lst []) := k2 _ _ nls hl1
    have kp2 : Keep a H H2 := ((Keep.new hls).trans k1).trans k2
    refine ⟨rfl, .inr ⟨_, rfl, _, _, rfl, rfl, .inl ⟨by decide, by decide⟩, _, _, rfl, rfl, _, rfl, ?_, ?_, ?_⟩⟩
    · split <;> omega
    · split <;> omega
    have hN : (t + 9 * (if decide (V.int u = V.int 0) = true then (1 : Int) else 0)).toNat ≤ 12 := by split <;> omega
    generalize (t + 9 * (if decide (V.int u = V.int 0) = true then (1 : Int) else 0)).toNat = N at *
    refine for_by wk_rng (fun i σ' H' => (∃ o1 o2, σ' = [some (.ref a), some (.ref h), some (.ref m), some (.ref ls), o1, o2]) ∧ Rules (likeIn O) H' ls i ∧ Hand H' a (n + 2 + 18 * i) ∧ Keep a H H') ?_ (fun _ _ _ _ => trivial) ?_ ?_
    · exact ⟨⟨_, _, rfl⟩, ⟨[], [], hl2, RepL.nil, rfl, fun _ z => nomatch z⟩, hH2.mono (by omega), kp2⟩
    · rintro i y σ' H3 hi rfl ⟨⟨o1, o2, rfl⟩, ⟨zs, ds, hz, rz, hdl, hds⟩, hH3, k3⟩
      have rz1 := rz.1
      refine ⟨_, rfl, cons_L (ds := [.int 5, .int 5, .int 1, .int (-3), .int 0, .int 999, .int (-999), .non]) (by walk_at "dsp") fun l4 vs4 H4 s4 e4 r4 => ?_⟩
      refine ⟨a, _, hH3.same s4, by omega, .inl ⟨l4, _, rfl, hand_three (hH3.same s4) e4 r4 (by decide), SqL.of e4, by rw [r4.1]; decide, by rw [r4.1]; decide, fun v H5 hv hH5 k5 => ?_⟩⟩
      obtain ⟨dn, rn, hw, hwo⟩ : ∃ dn, Rep H5 v dn ∧ isWorthB dn = true ∧ plainIn O dn = true := by
        obtain ⟨j, hj, ej⟩ := List.getElem_of_mem hv
        obtain ⟨d, hd, rd⟩ := r4.get (i := j) (v := v) (by rw [List.getElem?_eq_getElem hj, ej])
        refine ⟨d, rd.mono (.keep k5 (hH3.same s4) hH5), ?_⟩
        have key : ∀ d ∈ ([.int 5, .int 5, .int 1, .int (-3), .int 0, .int 999, .int (-999), .non] : List D), isWorthB d = true ∧ plainIn O d = true := by walk_at "each" <;> exact ⟨by decide, rfl⟩
        exact key d (List.mem_of_getElem? hd)
      have k35 : Keep a H3 H5 := (Keep.of s4).trans k5
      have hz5 := k35 _ _ nls hz
      have hh5 := (hh.keep k3 nh).keep k35 nh
      have hm5 := (hm.keep k3 nm).keep k35 nm
      refine ⟨_, rfl, .inl ⟨rfl, _, SqL.of hz5⟩, _, rfl, _, rfl, _, rfl, a, h, m, _, false, O, rfl, hH5, by omega, hh5, hm5, nh, nm, fun vc dc H6 rc lc hc hco hto hH6 k6 => ⟨_, rfl, few rfl, fun p7 hp7 => ?_⟩⟩
      have m36 : Mono H3 H6 := (Mono.keep k35 hH3 hH5).trans (.keep k6 hH5 hH6)
      have hz7 : upd H6 p7 (.tup [vc, v]) ls = some (.lst zs) := by rw [upd_ne (ne_of_none (k6 _ _ nls hz5) hp7)]; exact k6 _ _ nls hz5
      refine ⟨ls, _, _, rfl, rfl, hz7, small1000 (by omega), ⟨_, _, rfl⟩, ⟨_, ds ++ [.tup [.tup dc, dn]], upd_same, ?_, ?_, ?_⟩, ?_, ?_⟩
      · exact RepL.mono (.append ((rz.mono m36).mono (.new hp7)) (.cons (.mk2 upd_same (rc.mono (.new hp7)) ((rn.mono (.keep k6 hH5 hH6)).mono (.new hp7))) .nil)) (.lset hz7)
      · rw [List.length_append, hdl]; rfl
      · intro d hd
        rcases List.mem_append.mp hd with hd | hd
        · exact hds d hd
        · rw [List.mem_singleton.mp hd]; exact Bool.and_eq_true _ _ ▸ ⟨liking_mk lc hc (hto rfl) hw, ruleIn_mk hco hwo⟩
      · exact ((hH6.new hp7).updNe nls).mono (by rw [show ((i + 1 : Nat) : Int) = (i : Int) + 1 by omega]; omega)
      · exact Keep.updNew ((k3.trans (k35.trans k6)).trans (Keep.new hp7)) hls
    · rintro σ' H3 ⟨⟨o1, o2, rfl⟩, ⟨zs, ds, hz, rz, hdl, hds⟩, hH3, k3⟩
      refine ⟨_, rfl, ls, zs, rfl, .inl ⟨SqL.of hz, fun p hp => ?_⟩⟩
      exact q _ ds _ (.mkL upd_same (by omega) (rz.mono (.new hp))) (by omega) hds ((hH3.new hp).mono (by omega)) (k3.trans (Keep.new hp))
end
end K38

set_option Elab.async false
set_option linter.all false
set_option maxRecDepth 100000
set_option maxHeartbeats 4000000
namespace K38
open PySem PySem.Spec PyProof.Rows L2 RW
local macro_rules | `(tactic| walk_at "cond") => `(tactic| first | assumption | decide | omega | exact few rfl | exact .inl ⟨by decide, by decide⟩ | exact .inr ⟨by decide, by decide⟩ | exact .inl ⟨by omega, by omega⟩ | exact .inr ⟨by omega, by omega⟩ | exact ⟨by omega, by omega⟩ | exact ⟨by assumption, by assumption⟩ | exact ⟨by decide, by decide, by decide⟩ | exact .inr ⟨by split <;> decide, by split <;> decide⟩)
local macro_rules | `(tactic| walk_at "rd") => `(tactic| first | with_reducible_and_instances refine ⟨_, rfl, ?_⟩ | refine ⟨_, rfl, ?_⟩ | refine ⟨_, _, rfl, rfl, ?_⟩ | refine ⟨_, _, _, _, rfl, rfl, SqL.of (by assumption), rfl, ?_⟩ | refine ⟨_, _, _, _, rfl, rfl, (by assumption), rfl, ?_⟩ | refine .inl ⟨_, rfl, ?_⟩ | refine .inr ⟨_, rfl, ?_⟩ | refine .inl ⟨_, _, rfl, .inl (by assumption), ?_⟩ | refine ⟨(by walk_at "cond"), ?_⟩)
local macro_rules | `(tactic| walk_at "dsp") => `(tactic| repeat' (first | exact dsp_str (by decide) | exact dsp_int | exact dsp_bl | exact dsp_non | exact dsp_neg | exact dspA_nil | exact dsp_dnew | exact dsp_disp rfl | exact dsp_var rfl (by assumption) | refine dspA_cons ?_ ?_ | refine dsp_tup ?_ ?_ | refine dsp_lst' ?_ | refine n_cons ?_ ?_ | exact n_nil | exact v_c | exact v_var rfl | refine v_tup ?_ | refine dspl_lst ?_ ?_ | refine dspl_cat ?_ ?_ ?_ | exact dspl_var rfl (by assumption) (by assumption) | exact Nat.le_of_ble_eq_true rfl))
local macro_rules | `(tactic| walk_at "each") => `(tactic| repeat' (first | exact forall_nil | refine List.forall_mem_append.mpr ⟨?_, ?_⟩ | refine List.forall_mem_cons.mpr ⟨?_, ?_⟩))
section
variable {P : Program} {w : World} {K : PySem.W.Frag} {mg : Str → Option Value} {base : Heap}
theorem hand_mk {ds : List D} {x : D} (hl : ds.length ≤ 4) (h : ∀ d ∈ ds, isCondB d = true) (hx : isActB x = true) : isHandB (.tup [.tup ds, x]) = true := by
  rw [hand_eq, conds_mk hl h, hx]; rfl
theorem act_ok {y x : Str} (hx : isNameB x = true) (hy : y = "put" ∨ y = "strike") : isActB (.tup [.str y, .str x]) = true := by
  rw [act_eq, nameD_eq, hx]
  rcases hy with rfl | rfl <;> decide +kernel
theorem ok_hands (Y : Ev K mg) : FnOk P w K mg base CX0 5 Y.a__law_hands Y.d__law_hands p__law_hands (spRules handIn) := by
  have G__law_take : FnOk P w K mg base CX0 1 Y.a__law_take Y.d__law_take p__law_take spTake := ok_take Y
  have G__law_pick : FnOk P w K mg base CX0 2 Y.a__law_pick Y.d__law_pick p__law_pick (spPick K) := ok_pick Y
  have G__law_conds : FnOk P w K mg base CX0 4 Y.a__law_conds Y.d__law_conds p__law_conds spConds := ok_conds Y
  refine Y._law_hands.fn.okQ c__law_hands (fun vs H Q E h => ?_) (fun cdv A outer s H vs Q E hr h => ?_)
  · obtain ⟨a, h, m, n, O, rfl, _⟩ := h; rfl
  · obtain ⟨a, h, m, n, O, rfl, hH, hn, hh, hm, nh, nm, q⟩ := h
    refine ⟨_, (b_cons (s_set 3 c__law_hands.nd (q_lst a_nil))
      (b_cons (s_for PassesOwn.never rfl (i_rng1 Y.range (a_cons (q_op op_add (q_call G__law_pick (hr.mono (by decide)) Y._law_pick.mg Y._law_pick.kp Y._law_pick.b .nil pass0 (a_cons (qv 0) (a_cons (q_lstC [V.int 0, V.int 0, V.int 1, V.int 2] (by decide +kernel)) a_nil))) (q_op op_mul q_int (q_callTy call_int1 Y.int bt_int (a_cons (q_cmp op_eq (q_call G__law_take (hr.mono (by decide)) Y._law_take.mg Y._law_take.kp Y._law_take.b .nil pass0 (a_cons (qv 0) (a_cons q_int a_nil))) q_int) a_nil)))) a_nil)) (g_name 4 c__law_hands.nd) (b_cons (s_set 5 c__law_hands.nd (q_call G__law_pick (hr.mono (by decide)) Y._law_pick.mg Y._law_pick.kp Y._law_pick.b .nil pass0 (a_cons (qv 0) (a_cons (q_lst (a_cons (q_tup (a_cons q_str a_nil)) (a_cons (q_tup (a_cons q_str (a_cons (q_call G__law_pick (hr.mono (by decide)) Y._law_pick.mg Y._law_pick.kp Y._law_pick.b .nil pass0 (a_cons (qv 0) (a_cons (qv 2) a_nil))) a_nil))) (a_cons (q_tup (a_cons q_str (a_cons (q_call G__law_pick (hr.mono (by decide)) Y._law_pick.mg Y._law_pick.kp Y._law_pick.b .nil pass0 (a_cons (qv 0) (a_cons (qv 2) a_nil))) a_nil))) a_nil)))) a_nil))))
      (b_one (s_expr (q_bm PySem.F.plainAttrs_list PySem.F.slot_list_append PySem.F.type_list_append mt_append (qv 3) (a_cons (q_tup (a_cons (q_call G__law_conds (hr.mono (by decide)) Y._law_conds.mg Y._law_conds.kp Y._law_conds.b .nil pass0 (a_cons (qv 0) (a_cons (qv 1) (a_cons (qv 2) (a_cons q_bl a_nil))))) (a_cons (qv 5) a_nil))) a_nil))))))
      (b_one (s_ret (q_callTy call_tuple_of Y.tuple bt_tuple (a_cons (qv 3) a_nil)))))), ?_⟩
    refine ⟨few rfl, fun ls hls => ?_⟩
    have nls := hH.ne hls
    have hH0 := hH.new (o := .lst []) hls
    refine ⟨_, rfl, by decide, fun pk hpk => ⟨a, n, hH0.new hpk, by omega, .inl ⟨pk, _, rfl, hH0.ne hpk, SqL.of upd_same, by decide, by decide, fun v H1 hv hH1 k1 => ?_⟩⟩⟩
    obtain ⟨c, rfl, c0, c4⟩ : ∃ c : Int, v = .int c ∧ 0 ≤ c ∧ c ≤ 4 := by
      simp only [List.mem_cons, List.not_mem_nil, or_false] at hv
      rcases hv with rfl | rfl | rfl | rfl <;> exact ⟨_, rfl, by decide, by decide⟩
    refine ⟨_, rfl, a, 8, n + 1, rfl, hH1, by omega, by decide, by decide, fun u H2 u0 u8 hH2 k2 => ?_⟩
    have hl0 : upd H ls (.lst []) ls = some (.lst []) := upd_same
    have hl1 : H1 ls = some (.lst []) := k1 _ _ nls (by rw [upd_ne (ne_of_none hl0 hpk)]; exact hl0)
    have hl2 : H2 ls = some (.lst []) := k2 _ _ nls hl1
    have kp2 : Keep a H H2 := ((Keep.new hls).trans ((Keep.new hpk).trans k1)).trans k2
    refine ⟨rfl, .inr ⟨_, rfl, _, _, rfl, rfl, .inl ⟨by decide, by decide⟩, _, _, rfl, rfl, _, rfl, ?_, ?_, ?_⟩⟩
    · split <;> omega
    · split <;> omega
    have hN : (c + 8 * (if decide (V.int u = V.int 0) = true then (1 : Int) else 0)).toNat ≤ 12 := by split <;> omega
    generalize (c + 8 * (if decide (V.int u = V.int 0) = true then (1 : Int) else 0)).toNat = N at *
    refine for_by wk_rng (fun i σ' H' => (∃ o1 o2, σ' = [some (.ref a), some (.ref h), some (.ref m), some (.ref ls), o1, o2]) ∧ Rules (handIn O) H' ls i ∧ Hand H' a (n + 2 + 20 * i) ∧ Keep a H H') ?_ (fun _ _ _ _ => trivial) ?_ ?_
    · exact ⟨⟨_, _, rfl⟩, ⟨[], [], hl2, RepL.nil, rfl, fun _ z => nomatch z⟩, hH2.mono (by omega), kp2⟩
    · rintro i y σ' H3 hi rfl ⟨⟨o1, o2, rfl⟩, ⟨zs, ds, hz, rz, hdl, hds⟩, hH3, k3⟩
      have rz1 := rz.1
      refine ⟨_, rfl, few rfl, fun p1 hp1 => ?_⟩
      have S1 : Same H3 (upd H3 p1 (.tup [.str "keep"])) := Same.new hp1
      have hm3 := hm.keep k3 nm
      have hh3 := hh.keep k3 nh
      refine ⟨_, rfl, _, rfl, pick_name (hH3.new hp1) (by omega) (hm3.same S1) nm fun x H4 hx hH4 k4 => ⟨few rfl, fun p2 hp2 => ?_⟩⟩
      have S2 : Same H4 (upd H4 p2 (.tup [.str "put", .str x])) := Same.new hp2
      refine ⟨_, rfl, _, rfl, pick_name (hH4.new hp2) (by omega) (((hm3.same S1).keep k4 nm).same S2) nm fun y H5 hy hH5 k5 => ⟨few rfl, fun p3 hp3 => ⟨few rfl, fun p4 hp4 => ?_⟩⟩⟩
      have S3 : Same H5 (upd H5 p3 (.tup [.str "strike", .str y])) := Same.new hp3
      have S4 : Same (upd H5 p3 (.tup [.str "strike", .str y])) (upd (upd H5 p3 (.tup [.str "strike", .str y])) p4 (.lst [.ref p1, .ref p2, .ref p3])) := Same.new hp4
      have hH6 := (hH5.new (o := .tup [.str "strike", .str y]) hp3).new (o := .lst [.ref p1, .ref p2, .ref p3]) hp4
      refine ⟨a, _, hH6, by omega, .inl ⟨p4, _, rfl, Hand.ne (hH5.new hp3) hp4, SqL.of upd_same, (by decide : 0 < 3), (by decide : 3 < 1000), fun v H7 hv hH7 k7 => ?_⟩⟩
      have M2 : Mono (upd H3 p1 (.tup [.str "keep"])) H4 := Mono.keep k4 (hH3.new hp1) hH4
      have M3 := Mono.keep k5 (hH4.new hp2) hH5
      have M5 := Mono.keep k7 hH6 hH7
      have M45 := ((Mono.of S3).trans (Mono.of S4)).trans M5
      have k37 : Keep a H3 H7 := (((((Keep.of S1).trans k4).trans (Keep.of S2)).trans k5).trans ((Keep.of S3).trans (Keep.of S4))).trans k7
      obtain ⟨da, ra, haa, hao⟩ : ∃ da, Rep H7 v da ∧ isActB da = true ∧ plainIn O da = true := by
        simp only [List.mem_cons, List.not_mem_nil, or_false] at hv
        rcases hv with rfl | rfl | rfl
        · exact ⟨.tup [.str "keep"], Rep.mono (.mk1 upd_same (.str _ (by decide))) (((M2.trans (.of S2)).trans M3).trans M45), by decide +kernel, rfl⟩
        · exact ⟨.tup [.str "put", .str x], Rep.mono (.mk2 upd_same (.str _ (by decide)) (.str _ (name_short hx.1))) (M3.trans M45), act_ok hx.1 (.inl rfl), plainIn_str hx.2⟩
        · exact ⟨.tup [.str "strike", .str y], Rep.mono (.mk2 upd_same (.str _ (by decide)) (.str _ (name_short hy.1))) ((Mono.of S4).trans M5), act_ok hy.1 (.inr rfl), plainIn_str hy.2⟩
      have hz7 := k37 _ _ nls hz
      refine ⟨_, rfl, .inl ⟨rfl, _, SqL.of hz7⟩, _, rfl, _, rfl, _, rfl, a, h, m, _, true, O, rfl, hH7, by omega, hh3.keep k37 nh, hm3.keep k37 nm, nh, nm, fun vc dc H8 rc lc hc hco hto hH8 k8 => ⟨_, rfl, few rfl, fun p9 hp9 => ?_⟩⟩
      have m38 : Mono H3 H8 := (Mono.keep k37 hH3 hH7).trans (.keep k8 hH7 hH8)
      have hz9 : upd H8 p9 (.tup [vc, v]) ls = some (.lst zs) := by rw [upd_ne (ne_of_none (k8 _ _ nls hz7) hp9)]; exact k8 _ _ nls hz7
      refine ⟨ls, _, _, rfl, rfl, hz9, small1000 (by omega), ⟨_, _, rfl⟩, ⟨_, ds ++ [.tup [.tup dc, da]], upd_same, ?_, ?_, ?_⟩, ?_, ?_⟩
      · exact RepL.mono (.append ((rz.mono m38).mono (.new hp9)) (.cons (.mk2 upd_same (rc.mono (.new hp9)) ((ra.mono (.keep k8 hH7 hH8)).mono (.new hp9))) .nil)) (.lset hz9)
      · rw [List.length_append, hdl]; rfl
      · intro d hd
        rcases List.mem_append.mp hd with hd | hd
        · exact hds d hd
        · rw [List.mem_singleton.mp hd]; exact Bool.and_eq_true _ _ ▸ ⟨hand_mk lc hc haa, ruleIn_mk hco hao⟩
      · exact ((hH8.new hp9).updNe nls).mono (by rw [show ((i + 1 : Nat) : Int) = (i : Int) + 1 by omega]; omega)
      · exact Keep.updNew ((k3.trans (k37.trans k8)).trans (Keep.new hp9)) hls
    · rintro σ' H3 ⟨⟨o1, o2, rfl⟩, ⟨zs, ds, hz, rz, hdl, hds⟩, hH3, k3⟩
      refine ⟨_, rfl, ls, zs, rfl, .inl ⟨SqL.of hz, fun p hp => ?_⟩⟩
      exact q _ ds _ (.mkL upd_same (by omega) (rz.mono (.new hp))) (by omega) hds ((hH3.new hp).mono (by omega)) (k3.trans (Keep.new hp))
/-! ties -/
/-- a dict of ties stands at d -/
def TD (H : Hp) (d : Addr) (xs : List Str) (c : Nat) : Prop := ∃ (kvs : List (List Key × V)) (ps : List (Str × Str)), H d = some (.dT kvs) ∧ kvs.map (·.1) = ps.map keyP ∧ ps.length ≤ c ∧ ∀ p ∈ ps, p.1 ∈ xs ∧ p.2 ∈ xs ∧ ltS p.1 p.2 = true
theorem putK_keys {kvs : List (List Key × V)} {k : List Key} {v : V} : (putK kvs k v).map (·.1) = kvs.map (·.1) ∨ (putK kvs k v).map (·.1) = kvs.map (·.1) ++ [k] := by
  unfold putK
  by_cases h : (kvs.any fun kv => decide (kv.1 = k)) = true
  · rw [if_pos h]
    refine .inl ?_
    rw [List.map_map]
    apply List.map_congr_left
    intro x _
    show (if x.1 = k then (x.1, v) else x).1 = x.1
    split <;> rfl
  · rw [if_neg h, List.map_append]
    exact .inr rfl
theorem TD.put {H : Hp} {d : Addr} {xs : List Str} {c : Nat} {p : Str × Str} {v : V} {kvs : List (List Key × V)} {ps : List (Str × Str)} (h1 : kvs.map (·.1) = ps.map keyP) (h2 : ps.length ≤ c) (h3 : ∀ p ∈ ps, p.1 ∈ xs ∧ p.2 ∈ xs ∧ ltS p.1 p.2 = true) (hp : p.1 ∈ xs ∧ p.2 ∈ xs ∧ ltS p.1 p.2 = true) :
    TD (upd H d (.dT (putK kvs (keyP p) v))) d xs (c + 1) := by
  rcases putK_keys (kvs := kvs) (k := keyP p) (v := v) with e | e
  · exact ⟨_, ps, upd_same, e.trans h1, by omega, h3⟩
  · refine ⟨_, ps ++ [p], upd_same, by rw [e, h1, List.map_append]; rfl, by rw [List.length_append]; show ps.length + 1 ≤ _; omega, fun q hq => ?_⟩
    rcases List.mem_append.mp hq with hq | hq
    · exact h3 q hq
    · rw [List.mem_singleton.mp hq]; exact hp
theorem TD.keep {H H' : Hp} {a d : Addr} {xs : List Str} {c : Nat} (h : TD H d xs c) (k : Keep a H H') (n : d ≠ a) : TD H' d xs c := let ⟨kvs, ps, e, r⟩ := h; ⟨kvs, ps, k _ _ n e, r⟩
theorem TD.mono {H : Hp} {d : Addr} {xs : List Str} {c c' : Nat} (h : TD H d xs c) (l : c ≤ c') : TD H d xs c' := let ⟨kvs, ps, e, f, g, r⟩ := h; ⟨kvs, ps, e, f, Nat.le_trans g l, r⟩
theorem minmax {x y : Str} (h : x ≠ y) : ltS (if ltS y x = true then y else x) (if ltS x y = true then y else x) = true := by
  cases e : ltS x y with
  | true => rw [ltS_asy e]; simp only [Bool.false_eq_true, if_false, if_true]; exact e
  | false =>
    have := ltS_tri h e
    rw [this]; simp only [Bool.false_eq_true, if_false, if_true]; exact this
def spLTies : Sp := fun vs H Q _ => ∃ (a h : Addr) (n : Int) (more : Nat) (xs : List Str), vs = [.ref a, .ref h, .int more] ∧ Hand H a n ∧ n < 2 ^ 38 ∧ H h = some (.lst (xs.map V.str)) ∧ h ≠ a ∧ 1 ≤ xs.length ∧ xs.length ≤ 10 ∧ xs.Nodup ∧ (∀ x ∈ xs, isNameB x = true) ∧ more ≤ 30 ∧
  ∀ (v : V) (ps : List (Str × Str)) (H' : Hp), Rep H' v (.tup (ps.map pairD)) → ps.Pairwise (fun a b => ltP a b = true) → (∀ p ∈ ps, p.1 ∈ xs ∧ p.2 ∈ xs ∧ ltS p.1 p.2 = true) → Hand H' a (n + 100) → Keep a H H' → Q v H'
theorem ok_ties (Y : Ev K mg) : FnOk P w K mg base CX0 3 Y.a__law_ties Y.d__law_ties p__law_ties spLTies := by
  have G__law_take : FnOk P w K mg base CX0 1 Y.a__law_take Y.d__law_take p__law_take spTake := ok_take Y
  have G__law_pick : FnOk P w K mg base CX0 2 Y.a__law_pick Y.d__law_pick p__law_pick (spPick K) := ok_pick Y
  refine Y._law_ties.fn.okQ c__law_ties (fun vs H Q E h => ?_) (fun cdv A outer s H vs Q E hr h => ?_)
  · obtain ⟨a, h, n, more, xs, rfl, _⟩ := h; rfl
  · obtain ⟨a, h, n, more, xs, rfl, hH, hn, hh, nh, x1, x10, hnd, hxn, hmore, q⟩ := h
    refine ⟨_, (b_cons (s_set 3 c__law_ties.nd q_dnewT)
      (b_cons (s_for PassesOwn.never rfl (i_rng2 Y.range (a_cons q_int (a_cons (q_callB call_len2 Y.len bt_len (a_cons (qv 1) a_nil)) a_nil))) (g_name 4 c__law_ties.nd) (b_cons (s_par 5 6 c__law_ties.nd (a_cons (q_ix ix_list (qv 1) (qv 4)) (a_cons (q_ix ix_list (qv 1) (q_call G__law_take (hr.mono (by decide)) Y._law_take.mg Y._law_take.kp Y._law_take.b .nil pass0 (a_cons (qv 0) (a_cons (qv 4) a_nil)))) a_nil)))
      (b_one (s_if (t_cmp op_gt (q_call G__law_take (hr.mono (by decide)) Y._law_take.mg Y._law_take.kp Y._law_take.b .nil pass0 (a_cons (qv 0) (a_cons q_int a_nil))) q_int) (b_one (s_dput (hu1 hr) (qv 3) (q_tup (a_cons (q_callB (call_min2S rfl) Y.min bt_min (a_cons (qv 5) (a_cons (qv 6) a_nil))) (a_cons (q_callB (call_max2S rfl) Y.max bt_max (a_cons (qv 5) (a_cons (qv 6) a_nil))) a_nil))) q_bl)) b_nil))))
      (b_cons (s_for PassesOwn.never rfl (i_rng1 Y.range (a_cons (qv 2) a_nil)) (g_name 4 c__law_ties.nd) (b_cons (s_par 5 6 c__law_ties.nd (a_cons (q_call G__law_pick (hr.mono (by decide)) Y._law_pick.mg Y._law_pick.kp Y._law_pick.b .nil pass0 (a_cons (qv 0) (a_cons (qv 1) a_nil))) (a_cons (q_call G__law_pick (hr.mono (by decide)) Y._law_pick.mg Y._law_pick.kp Y._law_pick.b .nil pass0 (a_cons (qv 0) (a_cons (qv 1) a_nil))) a_nil)))
      (b_one (s_if (t_cmp op_ne (qv 5) (qv 6)) (b_one (s_dput (hu1 hr) (qv 3) (q_tup (a_cons (q_callB (call_min2S rfl) Y.min bt_min (a_cons (qv 5) (a_cons (qv 6) a_nil))) (a_cons (q_callB (call_max2S rfl) Y.max bt_max (a_cons (qv 5) (a_cons (qv 6) a_nil))) a_nil))) q_bl)) b_nil))))
      (b_one (s_ret (q_callTy call_tuple_of Y.tuple bt_tuple (a_cons (q_callB (call_sortedT rfl) Y.sorted bt_sorted (a_cons (qv 3) a_nil)) a_nil))))))), ?_⟩
    intro d hd
    have nd := hH.ne hd
    have ndh : d ≠ h := fun z => by rw [z, hh] at hd; cases hd
    have hh0 : upd H d (.dT []) h = some (.lst (xs.map V.str)) := by rw [upd_ne (Ne.symm ndh)]; exact hh
    refine ⟨_, rfl, .inl ⟨h, _, rfl, .inl (SqL.of hh0), 1, _, rfl, ⟨by decide, by decide, by omega, by rw [List.length_map]; omega⟩, ?_⟩⟩
    have hN : (((xs.map V.str).length : Int) - 1).toNat = xs.length - 1 := by rw [List.length_map]; omega
    rw [hN]
    refine for_by wk_rng (fun i σ' H' => (∃ o1 o2 o3, σ' = [some (.ref a), some (.ref h), some (.int more), some (.ref d), o1, o2, o3]) ∧ TD H' d xs i ∧ Hand H' a (n + 2 * i) ∧ Keep a H H') ?_ (fun _ _ _ _ => trivial) ?_ ?_
    · exact ⟨⟨_, _, _, rfl⟩, ⟨[], [], upd_same, rfl, Nat.le_refl _, fun _ z => nomatch z⟩, (hH.new hd).mono (by omega), Keep.new hd⟩
    · rintro i y σ' H1 hi rfl ⟨⟨o1, o2, o3, rfl⟩, td, hH1, k1⟩
      have hh1 := k1 _ _ nh hh
      have g1 : atI (xs.map V.str) (1 + (i : Int)) = some (.str (xs.getD (i + 1) "")) := by
        have hi1 : i + 1 < xs.length := by omega
        rw [Int.add_comm]
        exact atI_nat (j := i + 1) (by simp [hi1, List.getD])
      refine ⟨_, rfl, _, rfl, h, _, _, _, rfl, rfl, SqL.of hh1, g1, _, rfl, _, rfl, _, rfl, a, _, _, rfl, hH1, by omega, by omega, by omega, fun t' H2 t0 t1 hH2 k2 => ?_⟩
      obtain ⟨t, rfl⟩ : ∃ t : Nat, t' = (t : Int) := ⟨t'.toNat, by omega⟩
      have hh2 := k2 _ _ nh hh1
      have ht : t < xs.length := by omega
      have g2 : atI (xs.map V.str) (t : Int) = some (.str (xs.getD t "")) := atI_nat (by simp [ht, List.getD])
      have hne : xs.getD (i + 1) "" ≠ xs.getD t "" := by
        have hi1 : i + 1 < xs.length := by omega
        have := nd_ne hnd hi1 ht (by omega)
        simpa [List.getD, hi1, ht] using this
      have mx1 : xs.getD (i + 1) "" ∈ xs := by have hi1 : i + 1 < xs.length := by omega
                                               simp [List.getD, hi1]
      have mx2 : xs.getD t "" ∈ xs := by simp [List.getD, ht]
      generalize xs.getD (i + 1) "" = x at *
      generalize xs.getD t "" = y at *
      refine ⟨h, _, _, _, rfl, rfl, SqL.of hh2, g2, _, _, rfl, ?_⟩
      have td2 := td.keep k2 nd
      refine ⟨_, rfl, a, 9, _, rfl, hH2, by omega, by decide, by decide, fun u H3 u0 u9 hH3 k3 => ⟨_, _, rfl, rfl, _, rfl, ite2 (fun _ => ?_) (fun _ => ?_)⟩⟩
      · obtain ⟨kvs, ps, hkv, hkk, hpl, hpg⟩ := td2.keep k3 nd
        refine ⟨_, rfl, _, rfl, _, rfl, x, y, rfl, _, rfl, _, rfl, x, y, rfl, few rfl, fun p hp => ?_⟩
        have hkv4 : upd H3 p (.tup [.str (if ltS y x = true then y else x), .str (if ltS x y = true then y else x)]) d = some (.dT kvs) := by rw [upd_ne (ne_of_none hkv hp)]; exact hkv
        have hlk : kvs.length = ps.length := by have := congrArg List.length hkk; simpa using this
        refine ⟨d, _, rfl, DPut.t (k := keyP (if ltS y x = true then y else x, if ltS x y = true then y else x)) hkv4 upd_same (small1000 (by omega)), ⟨_, _, _, rfl⟩, TD.put hkk hpl hpg ⟨?_, ?_, minmax hne⟩, ?_, ?_⟩
        · dsimp only; split <;> assumption
        · dsimp only; split <;> assumption
        · exact ((hH3.new hp).updNe nd).mono (by rw [show ((i + 1 : Nat) : Int) = (i : Int) + 1 by omega]; omega)
        · exact Keep.updNew (((k1.trans k2).trans k3).trans (Keep.new hp)) hd
      · exact ⟨⟨_, _, _, rfl⟩, (td2.keep k3 nd).mono (by omega), hH3.mono (by rw [show ((i + 1 : Nat) : Int) = (i : Int) + 1 by omega]; omega), (k1.trans k2).trans k3⟩
    · rintro σ' H1 ⟨⟨o1, o2, o3, rfl⟩, td, hH1, k1⟩
      refine ⟨_, rfl, more, rfl, by omega, by omega, ?_⟩
      rw [Int.toNat_natCast]
      refine for_by wk_rng (fun i σ' H' => (∃ o1 o2 o3, σ' = [some (.ref a), some (.ref h), some (.int more), some (.ref d), o1, o2, o3]) ∧ TD H' d xs (9 + i) ∧ Hand H' a (n + 20 + 2 * i) ∧ Keep a H H') ?_ (fun _ _ _ _ => trivial) ?_ ?_
      · exact ⟨⟨_, _, _, rfl⟩, td.mono (by omega), hH1.mono (by omega), k1⟩
      · rintro i y σ' H2 hi rfl ⟨⟨o1, o2, o3, rfl⟩, td2, hH2, k2⟩
        have pk : ∀ {H0 : Hp} {n0 : Int} {R : VK}, Hand H0 a n0 → n0 < 2 ^ 40 → H0 h = some (.lst (xs.map V.str)) → (∀ x H', x ∈ xs → Hand H' a (n0 + 1) → Keep a H0 H' → R (.str x) H') → spPick K [.ref a, .ref h] H0 R E0 := fun hH0 hn0 e0 qq =>
          ⟨a, _, hH0, hn0, .inl ⟨h, _, rfl, nh, SqL.of e0, by rw [List.length_map]; omega, by rw [List.length_map]; omega, fun v H' hv hH' k' => by
            obtain ⟨x, hx, rfl⟩ := List.mem_map.mp hv
            exact qq x H' hx hH' k'⟩⟩
        have hh2 := k2 _ _ nh hh
        refine ⟨_, rfl, _, rfl, pk hH2 (by omega) hh2 fun x H3 hx hH3 k3 => ⟨_, rfl, _, rfl, pk hH3 (by omega) (k3 _ _ nh hh2) fun y H4 hy hH4 k4 => ⟨_, _, rfl, _, rfl, _, rfl, rfl, _, rfl, ite2 (fun hc => ?_) (fun _ => ?_)⟩⟩⟩
        · have hne : x ≠ y := fun z => by rw [z] at hc; simp at hc
          obtain ⟨kvs, ps, hkv, hkk, hpl, hpg⟩ := (td2.keep k3 nd).keep k4 nd
          refine ⟨_, rfl, _, rfl, _, rfl, x, y, rfl, _, rfl, _, rfl, x, y, rfl, few rfl, fun p hp => ?_⟩
          have hkv4 : upd H4 p (.tup [.str (if ltS y x = true then y else x), .str (if ltS x y = true then y else x)]) d = some (.dT kvs) := by rw [upd_ne (ne_of_none hkv hp)]; exact hkv
          have hlk : kvs.length = ps.length := by have := congrArg List.length hkk; simpa using this
          refine ⟨d, _, rfl, DPut.t (k := keyP (if ltS y x = true then y else x, if ltS x y = true then y else x)) hkv4 upd_same (small1000 (by omega)), ⟨_, _, _, rfl⟩, TD.put hkk hpl hpg ⟨?_, ?_, minmax hne⟩, ?_, ?_⟩
          · dsimp only; split <;> assumption
          · dsimp only; split <;> assumption
          · exact ((hH4.new hp).updNe nd).mono (by rw [show ((i + 1 : Nat) : Int) = (i : Int) + 1 by omega]; omega)
          · exact Keep.updNew (((k2.trans k3).trans k4).trans (Keep.new hp)) hd
        · exact ⟨⟨_, _, _, rfl⟩, ((td2.keep k3 nd).keep k4 nd).mono (by omega), hH4.mono (by rw [show ((i + 1 : Nat) : Int) = (i : Int) + 1 by omega]; omega), (k2.trans k3).trans k4⟩
      · rintro σ' H2 ⟨⟨o1, o2, o3, rfl⟩, ⟨kvs, ps, hkv, hkk, hpl, hpg⟩, hH2, k2⟩
        refine ⟨_, rfl, d, kvs, ps, rfl, hkv, hkk, by omega, fun ps' vs l hperm hpw hpa hl => ⟨l, vs, rfl, .inl ⟨SqL.of upd_same, fun p hp => ?_⟩⟩⟩
        have S : Same H2 (upd (upd H2 l (.lst vs)) p (.tup vs)) := (Same.new hl).trans (Same.new hp)
        refine q _ ps' _ (.mkL upd_same (by rw [List.length_map, hperm.length_eq]; omega) ⟨by rw [List.length_map]; exact hpa.1, fun i v dd e1 e2 => ?_⟩) hpw (fun p hp => hpg p (hperm.mem_iff.mp hp)) ((hH2.same S).mono (by omega)) (k2.trans (Keep.of S))
        rw [List.getElem?_map] at e2
        cases e3 : ps'[i]? with
        | none => rw [e3] at e2; cases e2
        | some pr =>
          rw [e3] at e2
          cases e2
          obtain ⟨b, rfl, hb⟩ := hpa.2 i v pr e1 e3
          have hpr := hpg pr (hperm.mem_iff.mp (List.mem_of_getElem? e3))
          exact .mk2 (S _ _ hb) (.str _ (name_short (hxn _ hpr.1))) (.str _ (name_short (hxn _ hpr.2.1)))
end
end K38

set_option Elab.async false
set_option linter.all false
set_option maxRecDepth 100000
set_option maxHeartbeats 4000000
namespace K38
open PySem PySem.Spec PyProof.Rows L2 RW
local macro_rules | `(tactic| walk_at "cond") => `(tactic| first | assumption | decide | omega | exact few rfl | exact .inl ⟨by decide, by decide⟩ | exact .inr ⟨by decide, by decide⟩ | exact .inl ⟨by omega, by omega⟩ | exact .inr ⟨by omega, by omega⟩ | exact ⟨by omega, by omega⟩ | exact ⟨by assumption, by assumption⟩ | exact ⟨by decide, by decide, by decide⟩ | exact .inr ⟨by split <;> decide, by split <;> decide⟩)
local macro_rules | `(tactic| walk_at "rd") => `(tactic| first | with_reducible_and_instances refine ⟨_, rfl, ?_⟩ | refine ⟨_, rfl, ?_⟩ | refine ⟨_, _, rfl, rfl, ?_⟩ | refine ⟨_, _, _, _, rfl, rfl, SqL.of (by assumption), rfl, ?_⟩ | refine ⟨_, _, _, _, rfl, rfl, (by assumption), rfl, ?_⟩ | refine .inl ⟨_, rfl, ?_⟩ | refine .inr ⟨_, rfl, ?_⟩ | refine .inl ⟨_, _, rfl, .inl (by assumption), ?_⟩ | refine ⟨(by walk_at "cond"), ?_⟩)
local macro_rules | `(tactic| walk_at "dsp") => `(tactic| repeat' (first | exact dsp_str (by decide) | exact dsp_int | exact dsp_bl | exact dsp_non | exact dsp_neg | exact dspA_nil | exact dsp_dnew | exact dsp_disp rfl | exact dsp_var rfl (by assumption) | refine dspA_cons ?_ ?_ | refine dsp_tup ?_ ?_ | refine dsp_lst' ?_ | refine n_cons ?_ ?_ | exact n_nil | exact v_c | exact v_var rfl | refine v_tup ?_ | refine dspl_lst ?_ ?_ | refine dspl_cat ?_ ?_ ?_ | exact dspl_var rfl (by assumption) (by assumption) | exact Nat.le_of_ble_eq_true rfl))
local macro_rules | `(tactic| walk_at "each") => `(tactic| repeat' (first | exact forall_nil | refine List.forall_mem_append.mpr ⟨?_, ?_⟩ | refine List.forall_mem_cons.mpr ⟨?_, ?_⟩))
section
variable {P : Program} {w : World} {K : PySem.W.Frag} {mg : Str → Option Value} {base : Heap}
def spTown : Sp := fun vs H Q _ => ∃ (a : Addr) (n : Int), vs = [.ref a] ∧ Hand H a n ∧ n < 2 ^ 36 ∧ ∀ (v : V) (g : Str) (hs : List Str) (ps : List (Str × Str)) (lks hds : List D) (H' : Hp), Rep H' v (townD g hs ps lks hds) → TownOk g hs ps lks hds → (∀ x ∈ hs, x ≠ "nowhere") → (∃ O, Pool hs lks hds O) → (∀ d ∈ lks, ∃ ds, d = .tup ds ∧ ds.length ≤ 12) → (∀ d ∈ hds, ∃ ds, d = .tup ds ∧ ds.length ≤ 12) → Hand H' a (n + 9000) → Keep a H H' → Q v H'
theorem rules_likings {d : D} {ds : List D} (e : d = .tup ds) (h : ds.length ≤ 12) {O : List Str} (h2 : ∀ d ∈ ds, likeIn O d = true) : areLikingsB d = true ∧ rulesIn O d = true ∧ ∃ es, d = .tup es ∧ es.length ≤ 12 := by
  subst e
  refine ⟨?_, List.all_eq_true.mpr fun d hd => ((Bool.and_eq_true _ _).mp (h2 d hd)).2, ds, rfl, h⟩
  show (decide (ds.length ≤ 90) && ds.all isLikingB) = true
  rw [decide_eq_true (by omega), List.all_eq_true.mpr fun d hd => ((Bool.and_eq_true _ _).mp (h2 d hd)).1]; rfl
theorem rules_hands {d : D} {ds : List D} (e : d = .tup ds) (h : ds.length ≤ 12) {O : List Str} (h2 : ∀ d ∈ ds, handIn O d = true) : areHandsB d = true ∧ rulesIn O d = true ∧ ∃ es, d = .tup es ∧ es.length ≤ 12 := by
  subst e
  refine ⟨?_, List.all_eq_true.mpr fun d hd => ((Bool.and_eq_true _ _).mp (h2 d hd)).2, ds, rfl, h⟩
  show (decide (ds.length ≤ 90) && ds.all isHandB) = true
  rw [decide_eq_true (by omega), List.all_eq_true.mpr fun d hd => ((Bool.and_eq_true _ _).mp (h2 d hd)).1]; rfl
theorem ok_town (Y : Ev K mg) : FnOk P w K mg base CX0 6 Y.a__law_town Y.d__law_town p__law_town spTown := by
  have G__law_take : FnOk P w K mg base CX0 1 Y.a__law_take Y.d__law_take p__law_take spTake := ok_take Y
  have G__law_pick : FnOk P w K mg base CX0 2 Y.a__law_pick Y.d__law_pick p__law_pick (spPick K) := ok_pick Y
  have G__law_names : FnOk P w K mg base CX0 3 Y.a__law_names Y.d__law_names p__law_names spNames2 := ok_names2 Y
  have G__law_ties : FnOk P w K mg base CX0 3 Y.a__law_ties Y.d__law_ties p__law_ties spLTies := ok_ties Y
  have G__law_likings : FnOk P w K mg base CX0 5 Y.a__law_likings Y.d__law_likings p__law_likings (spRules likeIn) := ok_likings Y
  have G__law_hands : FnOk P w K mg base CX0 5 Y.a__law_hands Y.d__law_hands p__law_hands (spRules handIn) := ok_hands Y
  refine Y._law_town.fn.okQ c__law_town (fun vs H Q E h => ?_) (fun cdv A outer s H vs Q E hr h => ?_)
  · obtain ⟨a, n, rfl, _⟩ := h; rfl
  · obtain ⟨a, n, rfl, hH, hn, q⟩ := h
    refine ⟨_, (b_cons (s_set 1 c__law_town.nd (q_ix ix_list (q_lst (a_cons q_int (a_cons q_int (a_cons q_int (a_cons q_int (a_cons q_int (a_cons q_int (a_cons q_int (a_cons (q_op op_add q_int (q_call G__law_take (hr.mono (by decide)) Y._law_take.mg Y._law_take.kp Y._law_take.b .nil pass0 (a_cons (qc 0) (a_cons q_int a_nil)))) a_nil))))))))) (q_call G__law_take (hr.mono (by decide)) Y._law_take.mg Y._law_take.kp Y._law_take.b .nil pass0 (a_cons (qc 0) (a_cons q_int a_nil)))))
      (b_cons (s_setC 2 c__law_town.nd (q_call G__law_names (hr.mono (by decide)) Y._law_names.mg Y._law_names.kp Y._law_names.b .nil pass0 (a_cons (qc 0) (a_cons (q_op op_add (qv 1) q_int) a_nil))))
      (b_cons (s_asg (q_tup (a_cons (q_sl sl_list (qc 2) o_none (o_some (qv 1))) (a_cons (q_sl sl_list (qc 2) (o_some (qv 1)) o_none) a_nil))) (g_tup 2 rfl (gs_cons (g_name 3 c__law_town.nd) (gs_cons (g_nameC 4 c__law_town.nd) gs_nil))))
      (b_cons (s_set 5 c__law_town.nd (q_call G__law_ties (hr.mono (by decide)) Y._law_ties.mg Y._law_ties.kp Y._law_ties.b .nil pass0 (a_cons (qc 0) (a_cons (qv 3) (a_cons (q_call G__law_take (hr.mono (by decide)) Y._law_take.mg Y._law_take.kp Y._law_take.b .nil pass0 (a_cons (qc 0) (a_cons q_int a_nil))) a_nil)))))
      (b_cons (s_set 6 c__law_town.nd (q_call G__law_pick (hr.mono (by decide)) Y._law_pick.mg Y._law_pick.kp Y._law_pick.b .nil pass0 (a_cons (qc 0) (a_cons (qv 3) a_nil))))
      (b_cons (s_set 7 c__law_town.nd (q_callTy call_tuple_of Y.tuple bt_tuple (a_cons (q_callB call_sortedS Y.sorted bt_sorted (a_cons (qv 3) a_nil)) a_nil)))
      (b_cons (s_set 8 c__law_town.nd (q_callTy call_tuple_of Y.tuple bt_tuple (a_cons (q_comp (src := [none, some 0, some 4, some 2]) o__law_town_1 rfl rfl (i_tup (qv 7)) (fun _ _ _ _ _ => (g_name 0 o__law_town_1.nd)) (fun _ _ _ _ _ => f_nil) (fun _ _ _ _ _ => (q_call G__law_likings (hr.mono (by decide)) Y._law_likings.mg Y._law_likings.kp Y._law_likings.b .nil pass0 (a_cons (qc 1) (a_cons (qc 3) (a_cons (qc 2) a_nil)))))) a_nil)))
      (b_cons (s_set 9 c__law_town.nd (q_callTy call_tuple_of Y.tuple bt_tuple (a_cons (q_comp (src := [none, some 0, some 4, some 2]) o__law_town_2 rfl rfl (i_tup (qv 7)) (fun _ _ _ _ _ => (g_name 0 o__law_town_2.nd)) (fun _ _ _ _ _ => f_nil) (fun _ _ _ _ _ => (q_call G__law_hands (hr.mono (by decide)) Y._law_hands.mg Y._law_hands.kp Y._law_hands.b .nil pass0 (a_cons (qc 1) (a_cons (qc 3) (a_cons (qc 2) a_nil)))))) a_nil)))
      (b_one (s_ret (q_tup (a_cons (qv 6) (a_cons (qv 7) (a_cons (qv 5) (a_cons (qv 8) (a_cons (qv 9) a_nil)))))))))))))))), ?_⟩
    refine ⟨_, rfl, a, 5, n, rfl, hH, by omega, by decide, by decide, fun t H1 t0 t5 hH1 k1 => ⟨_, _, rfl, rfl, few rfl, fun pl hpl => ⟨_, rfl, a, 8, n + 1, rfl, hH1.new hpl, by omega, by decide, by decide, fun u H2 u0 u8 hH2 k2 => ?_⟩⟩⟩
    have hpl2 := k2 _ _ (hH1.ne hpl) (upd_same (o := .lst [V.int 2, V.int 3, V.int 3, V.int 4, V.int 4, V.int 5, V.int 1, V.int (6 + t)]))
    obtain ⟨v, ev, hv⟩ := atI_mem (xs := [V.int 2, V.int 3, V.int 3, V.int 4, V.int 4, V.int 5, V.int 1, V.int (6 + t)]) u0 u8
    obtain ⟨m, rfl, m1, m10⟩ : ∃ m : Nat, v = .int (m : Int) ∧ 1 ≤ m ∧ m ≤ 10 := by
      simp only [List.mem_cons, List.not_mem_nil, or_false] at hv
      rcases hv with rfl | rfl | rfl | rfl | rfl | rfl | rfl | rfl
      · exact ⟨2, rfl, by decide, by decide⟩
      · exact ⟨3, rfl, by decide, by decide⟩
      · exact ⟨3, rfl, by decide, by decide⟩
      · exact ⟨4, rfl, by decide, by decide⟩
      · exact ⟨4, rfl, by decide, by decide⟩
      · exact ⟨5, rfl, by decide, by decide⟩
      · exact ⟨1, rfl, by decide, by decide⟩
      · exact ⟨(6 + t).toNat, by congr 1; omega, by omega, by omega⟩
    have kp2 : Keep a H H2 := (k1.trans (Keep.new hpl)).trans k2
    refine ⟨pl, _, _, _, rfl, rfl, SqL.of hpl2, ev, ?_⟩
    refine ⟨_, rfl, _, rfl, _, _, rfl, rfl, a, n + 1 + 1, m + 3, by push_cast; rfl, hH2, by omega, by omega, by omega, fun ln xs H3 hln hl3 hlen hxn hxd hxw hH3 k3 => ?_⟩
    have nln : ln ≠ a := hH2.ne hln
    refine ⟨_, rfl, _, rfl, _, rfl, ln, _, rfl, SqL.of hl3, fun p1 hp1 => ?_⟩
    have S1 : Same H3 (upd H3 p1 (.lst (cutV (xs.map V.str) none (some (m : Int))))) := Same.new hp1
    refine ⟨_, rfl, _, rfl, _, rfl, ln, _, rfl, SqL.of (S1 _ _ hl3), fun p2 hp2 => ⟨few rfl, fun p3 hp3 => ?_⟩⟩
    have S2 := Same.new (o := .lst (cutV (xs.map V.str) (some (m : Int)) none)) hp2
    have S3 := Same.new (o := .tup [V.ref p1, V.ref p2]) hp3
    have S13 := (S1.trans S2).trans S3
    have hp1' := S3 _ _ (S2 _ _ (upd_same (H := H3) (a := p1) (o := .lst (cutV (xs.map V.str) none (some (m : Int))))))
    have hp2' := S3 _ _ (upd_same (H := upd H3 p1 (.lst (cutV (xs.map V.str) none (some (m : Int))))) (a := p2) (o := .lst (cutV (xs.map V.str) (some (m : Int)) none)))
    refine ⟨p3, _, rfl, .inl (.inl upd_same), rfl, _, _, rfl, _, _, rfl, rfl, ?_⟩
    have hl4 := S13 _ _ hl3
    have hH4 := hH3.same S13
    have np1 : p1 ≠ a := hH3.ne hp1
    have np2 : p2 ≠ a := (hH3.same S1).ne hp2
    have kp4 := (kp2.trans k3).trans (Keep.of S13)
    generalize (upd (upd (upd H3 p1 (HO.lst (cutV (xs.map V.str) none (some (m : Int))))) p2 (HO.lst (cutV (xs.map V.str) (some (m : Int)) none))) p3 (HO.tup [V.ref p1, V.ref p2])) = H4 at *
    rw [cut_take, ← List.map_take] at hp1'
    rw [cut_drop, ← List.map_drop] at hp2'
    have hth : (xs.take m).length = m := by rw [List.length_take]; omega
    have htn : ∀ x ∈ xs.take m, isNameB x = true := fun x hx => hxn x (List.mem_of_mem_take hx)
    have htw : ∀ x ∈ xs.take m, x ≠ "nowhere" := fun x hx => hxw x (List.mem_of_mem_take hx)
    have htd : (xs.take m).Nodup := hxd.sublist (List.take_sublist m xs)
    have hdn : ∀ x ∈ xs.drop m, isNameB x = true := fun x hx => hxn x (List.mem_of_mem_drop hx)
    have hdl : (xs.drop m).length = 3 := by rw [List.length_drop]; omega
    have hto : ∀ x ∈ xs.take m, x ∈ xs := fun x hx => List.mem_of_mem_take hx
    have hdo : ∀ x ∈ xs.drop m, x ∈ xs := fun x hx => List.mem_of_mem_drop hx
    generalize xs.take m = hs at *
    generalize xs.drop m = ms at *
    have NLn : NL xs H4 ln := ⟨xs, hl4, by omega, by omega, fun x hx => ⟨hxn x hx, hx⟩⟩
    have NLm : NL xs H4 p2 := ⟨ms, hp2', by omega, by omega, fun x hx => ⟨hdn x hx, hdo x hx⟩⟩
    -- the ties
    refine ⟨_, rfl, _, rfl, _, rfl, a, 5, _, rfl, hH4, by omega, by decide, by decide, fun mo' H5 mo0 mo5 hH5 k45 => ?_⟩
    obtain ⟨mo, rfl⟩ : ∃ mo : Nat, mo' = (mo : Int) := ⟨mo'.toNat, by omega⟩
    have mo30 : mo ≤ 30 := by omega
    have hp15 := k45 _ _ np1 hp1'
    refine ⟨a, p1, _, mo, hs, rfl, hH5, by omega, hp15, np1, by omega, by omega, htd, htn, mo30, fun vt ps H6 rt hpw hpg hH6 k6 => ?_⟩
    -- the goal
    have hp16 := k6 _ _ np1 hp15
    refine ⟨_, rfl, _, rfl, a, _, hH6, by omega, .inl ⟨p1, _, rfl, np1, SqL.of hp16, by rw [List.length_map]; omega, by rw [List.length_map]; omega, fun vg H7 hvg hH7 k7 => ?_⟩⟩
    obtain ⟨g, hg, rfl⟩ := List.mem_map.mp hvg
    have hp17 := k7 _ _ np1 hp16
    have rt7 := rt.mono (.keep k7 hH6 hH7)
    -- rising
    refine ⟨_, rfl, p1, hs, rfl, SqL.of hp17, by omega, htd, fun hs' l hperm hrise hl => ⟨l, _, rfl, .inl ⟨SqL.of upd_same, fun pr hpr => ?_⟩⟩⟩
    have S8 : Same H7 (upd (upd H7 l (.lst (hs'.map V.str))) pr (.tup (hs'.map V.str))) := (Same.new hl).trans (Same.new hpr)
    have hpr8 : (upd (upd H7 l (.lst (hs'.map V.str))) pr (.tup (hs'.map V.str))) pr = some (.tup (hs'.map V.str)) := upd_same
    have hH8 := hH7.same S8
    have rt8 := rt7.same S8
    have npr : pr ≠ a := (hH7.new hl).ne hpr
    have k48 : Keep a H4 (upd (upd H7 l (.lst (hs'.map V.str))) pr (.tup (hs'.map V.str))) := ((k45.trans k6).trans k7).trans (Keep.of S8)
    have hlen' : hs'.length = m := by rw [hperm.length_eq]; exact hth
    generalize (upd (upd H7 l (HO.lst (hs'.map V.str))) pr (HO.tup (hs'.map V.str))) = H8 at *
    have NLn8 := NLn.keep k48 nln
    have NLm8 := NLm.keep k48 np2
    -- the likings
    refine ⟨_, rfl, pr, rfl, ⟨_, .inl (.inl hpr8)⟩, ?_⟩
    refine comp_drawsW (a := a) (m := n + 300) (c := 400) (Pd := fun _ d => areLikingsB d = true ∧ rulesIn xs d = true ∧ ∃ es, d = .tup es ∧ es.length ≤ 12) (σr := [some (.ref a), some (.ref p2), some (.ref ln)]) (wk_tup (K := K) (xs := hs'.map V.str)) (fun H' k => .inl (.inl (k _ _ npr hpr8))) rfl (hH8.mono (by omega)) (by rw [List.length_map]; omega) (by decide) (fun i x H9 Q1 hi hH9 k9 q1 => ?_) (fun l1 vl lks H9 hl1 hl1' rl hll pl9 hH9 k9 => ?_)
    · rw [List.length_map] at hi
      exact ⟨_, rfl, _, rfl, _, rfl, a, ln, p2, _, xs, rfl, hH9, by omega, NLn8.keep k9 nln, NLm8.keep k9 np2, nln, np2, fun v ds H10 rv hds hg10 hH10 k10 => q1 v _ H10 rv (rules_likings rfl hds hg10) hH10 k10⟩
    refine ⟨l1, vl, rfl, .inl ⟨SqL.of hl1', fun pA hpA => ?_⟩⟩
    rw [List.length_map] at hll hH9
    have SA := Same.new (o := .tup vl) hpA
    have rlA : Rep (upd H9 pA (.tup vl)) (.ref pA) (.tup lks) := .mkL upd_same (by omega) (rl.mono (.new hpA))
    have hHA := hH9.new (o := .tup vl) hpA
    have k8A : Keep a H8 (upd H9 pA (.tup vl)) := k9.trans (Keep.of SA)
    generalize (upd H9 pA (HO.tup vl)) = HA at *
    have hprA := k8A _ _ npr hpr8
    -- the hands
    refine ⟨_, rfl, pr, rfl, ⟨_, .inl (.inl hprA)⟩, ?_⟩
    refine comp_drawsW (a := a) (m := n + 300 + 400 * hs'.length) (c := 400) (Pd := fun _ d => areHandsB d = true ∧ rulesIn xs d = true ∧ ∃ es, d = .tup es ∧ es.length ≤ 12) (σr := [some (.ref a), some (.ref p2), some (.ref ln)]) (wk_tup (K := K) (xs := hs'.map V.str)) (fun H' k => .inl (.inl (k _ _ npr hprA))) rfl hHA (by rw [List.length_map]; omega) (by decide) (fun i x HB Q1 hi hHB kB q1 => ?_) (fun l2 va hds HB hl2 hl2' ra hla plB hHB kB => ?_)
    · rw [List.length_map] at hi
      exact ⟨_, rfl, _, rfl, _, rfl, a, ln, p2, _, xs, rfl, hHB, by omega, (NLn8.keep k8A nln).keep kB nln, (NLm8.keep k8A np2).keep kB np2, nln, np2, fun v ds H10 rv hds hg10 hH10 k10 => q1 v _ H10 rv (rules_hands rfl hds hg10) hH10 k10⟩
    refine ⟨l2, va, rfl, .inl ⟨SqL.of hl2', fun pB hpB => ?_⟩⟩
    rw [List.length_map] at hla hHB
    have SB := Same.new (o := .tup va) hpB
    have mAB : Mono HA (upd HB pB (.tup va)) := (Mono.keep kB hHA hHB).trans (.of SB)
    have raB : Rep (upd HB pB (.tup va)) (.ref pB) (.tup hds) := .mkL upd_same (by omega) (ra.mono (.new hpB))
    have kAB : Keep a HA (upd HB pB (.tup va)) := kB.trans (Keep.of SB)
    have hHB' := hHB.new (o := .tup va) hpB
    have rlB := rlA.mono mAB
    have rtB := (rt8.mono (.keep k8A hH8 hHA)).mono mAB
    have hprB := kAB _ _ npr hprA
    refine ⟨_, rfl, _, rfl, _, rfl, _, rfl, _, rfl, few rfl, fun pT hpT => ?_⟩
    have rr : Rep (upd HB pB (.tup va)) (.ref pr) (.tup (hs'.map D.str)) := by
      refine .mkL hprB (by rw [List.length_map]; omega) ⟨by rw [List.length_map, List.length_map], fun i v d e1 e2 => ?_⟩
      rw [List.getElem?_map] at e1 e2
      cases e3 : hs'[i]? with
      | none => rw [e3] at e1; cases e1
      | some x =>
        rw [e3] at e1 e2
        cases e1
        cases e2
        exact .str x (name_short (htn x (hperm.mem_iff.mp (List.mem_of_getElem? e3))))
    have ST := Mono.new (o := .tup [.str g, .ref pr, vt, .ref pA, .ref pB]) hpT
    have rtown := Rep.mkL (H := upd (upd HB pB (.tup va)) pT (.tup [.str g, .ref pr, vt, .ref pA, .ref pB])) (p := pT) (vs := [.str g, .ref pr, vt, .ref pA, .ref pB]) (ds := [.str g, .tup (hs'.map D.str), .tup (ps.map pairD), .tup lks, .tup hds]) upd_same (Nat.le_of_ble_eq_true rfl) (.cons (.str g (name_short (htn g hg))) (.cons (rr.mono ST) (.cons (rtB.mono ST) (.cons (rlB.mono ST) (.cons (raB.mono ST) .nil)))))
    have pl9' := getD_mem (P := fun d => areLikingsB d = true ∧ rulesIn xs d = true ∧ ∃ es, d = .tup es ∧ es.length ≤ 12) pl9
    have plB' := getD_mem (P := fun d => areHandsB d = true ∧ rulesIn xs d = true ∧ ∃ es, d = .tup es ∧ es.length ≤ 12) plB
    refine q _ g hs' ps lks hds _ rtown ⟨hrise, by omega, by omega, fun x hx => htn x (hperm.mem_iff.mp hx), hperm.mem_iff.mpr hg, hpw, fun p hp => ?_, by omega, by omega, fun d hd => (pl9' d hd).1, fun d hd => (plB' d hd).1⟩ (fun x hx => htw x (hperm.mem_iff.mp hx)) ⟨xs, ⟨by omega, hxn, fun x hx => hto x (hperm.mem_iff.mp hx), fun d hd => (pl9' d hd).2.1, fun d hd => (plB' d hd).2.1⟩⟩ (fun d hd => (pl9' d hd).2.2) (fun d hd => (plB' d hd).2.2) ((hHB'.new hpT).mono (by omega)) (((kp4.trans k48).trans (k8A.trans kAB)).trans (Keep.new hpT))
    obtain ⟨h1, h2, h3⟩ := hpg p hp
    exact ⟨hperm.mem_iff.mpr h1, hperm.mem_iff.mpr h2, h3⟩
end
end K38

set_option Elab.async false
set_option linter.all false
set_option maxRecDepth 100000
set_option maxHeartbeats 4000000
namespace K38
open PySem PySem.Spec PyProof.Rows L2 RW
local macro_rules | `(tactic| walk_at "cond") => `(tactic| first | assumption | decide | omega | exact few rfl | exact .inl ⟨by decide, by decide⟩ | exact .inr ⟨by decide, by decide⟩ | exact .inl ⟨by omega, by omega⟩ | exact .inr ⟨by omega, by omega⟩ | exact ⟨by omega, by omega⟩ | exact ⟨by assumption, by assumption⟩ | exact ⟨by decide, by decide, by decide⟩ | exact .inr ⟨by split <;> decide, by split <;> decide⟩)
local macro_rules | `(tactic| walk_at "rd") => `(tactic| first | with_reducible_and_instances refine ⟨_, rfl, ?_⟩ | refine ⟨_, rfl, ?_⟩ | refine ⟨_, _, rfl, rfl, ?_⟩ | refine ⟨_, _, _, _, rfl, rfl, SqL.of (by assumption), rfl, ?_⟩ | refine ⟨_, _, _, _, rfl, rfl, (by assumption), rfl, ?_⟩ | refine .inl ⟨_, rfl, ?_⟩ | refine .inr ⟨_, rfl, ?_⟩ | refine .inl ⟨_, _, rfl, .inl (by assumption), ?_⟩ | refine ⟨(by walk_at "cond"), ?_⟩)
local macro_rules | `(tactic| walk_at "dsp") => `(tactic| repeat' (first | exact dsp_str (by decide) | exact dsp_int | exact dsp_bl | exact dsp_non | exact dsp_neg | exact dspA_nil | exact dsp_dnew | exact dsp_disp rfl | exact dsp_var rfl (by assumption) | refine dspA_cons ?_ ?_ | refine dsp_tup ?_ ?_ | refine dsp_lst' ?_ | refine n_cons ?_ ?_ | exact n_nil | exact v_c | exact v_var rfl | refine v_tup ?_ | refine dspl_lst ?_ ?_ | refine dspl_cat ?_ ?_ ?_ | exact dspl_var rfl (by assumption) (by assumption) | exact Nat.le_of_ble_eq_true rfl))
local macro_rules | `(tactic| walk_at "each") => `(tactic| repeat' (first | exact forall_nil | refine List.forall_mem_append.mpr ⟨?_, ?_⟩ | refine List.forall_mem_cons.mpr ⟨?_, ?_⟩))
section
variable {P : Program} {w : World} {K : PySem.W.Frag} {mg : Str → Option Value} {base : Heap}
theorem ok_holds_step {k : Nat} {c : D → Bool} {g : List Str → List Str → Option Str → D → Bool} (Y : Ev K mg) (G_holds : FnOk P w K mg base CX0 k Y.a_holds Y.d_holds p_holds (spHolds c g)) (c' : D → Bool) (g' : List Str → List Str → Option Str → D → Bool)
    (hc : ∀ d, c' d = true → ∃ x e, d = .tup [.str x, e]) (h1 : ∀ ws ms to x e, c' (.tup [.str x, e]) = true → x = "not" → c e = true ∧ (!g ws ms to e) = g' ws ms to (.tup [.str x, e]))
    (h2 : ∀ x e, c' (.tup [.str x, e]) = true → ¬ x = "not" → isPlainB (.tup [.str x, e]) = true ∧ ∀ ws ms to, phB ws ms to x e = g' ws ms to (.tup [.str x, e])) :
    FnOk P w K mg base CX0 (k + 1) Y.a_holds Y.d_holds p_holds (spHolds c' g') := by
  refine Y.holds.fn.okQ c_holds (fun vs H Q E h => ?_) (fun cdv A outer s H vs Q E hr h => ?_)
  · obtain ⟨v, d, pw, pm, vt, ws, ms, to, rfl, _⟩ := h; rfl
  · obtain ⟨v, d, pw, pm, vt, ws, ms, to, rfl, hd, hcd, hpw, hpm, hto, nw, nm, w1, lw, lm, q⟩ := h
    obtain ⟨x, e, rfl⟩ := hc d hcd
    obtain ⟨p, v0, v1, rfl, hp, r0, r1⟩ := hd.of2
    cases r0 with
    | str _ hx =>
    refine ⟨_, (b_cons (s_asg (qv 0) (g_tup 2 rfl (gs_cons (g_name 4 c_holds.nd) (gs_cons (g_name 5 c_holds.nd) gs_nil))))
      (b_cons (s_if (t_cmp op_eq (qv 4) q_str) (b_one (s_ret (q_not (q_call G_holds hr Y.holds.mg Y.holds.kp Y.holds.b .nil pass0 (a_cons (qv 5) (a_cons (qv 1) (a_cons (qv 2) (a_cons (qv 3) a_nil)))))))) b_nil)
      (b_cons (s_if (t_cmp op_eq (qv 4) q_str) (b_one (s_ret (q_cmp op_in_seq (qv 5) (qv 1)))) b_nil)
      (b_cons (s_if (t_cmp op_eq (qv 4) q_str) (b_one (s_ret (q_and (q_cmp op_gt (q_callB call_len2 Y.len bt_len (a_cons (qv 1) a_nil)) q_int) (q_one (q_cmp op_eq (q_ix ix_tup (qv 1) q_int) (qv 5)))))) b_nil)
      (b_cons (s_if (t_cmp op_eq (qv 4) q_str) (b_one (s_ret (q_cmp op_eq (qv 3) (qv 5)))) b_nil)
      (b_cons (s_if (t_cmp op_eq (qv 4) q_str) (b_one (s_ret (q_cmp op_in_seq (qv 5) (qv 2)))) b_nil)
      (b_one (s_ret (q_cmp op_ge (q_op op_sub (q_callB call_len2 Y.len bt_len (a_cons (qv 1) a_nil)) q_int) (qv 5)))))))))), ?_⟩
    refine ⟨_, rfl, p, _, rfl, .inl (.inl hp), rfl, _, _, rfl, _, _, rfl, rfl, ?_⟩
    refine ⟨_, rfl, rfl, _, rfl, ite2 (fun el => ?_) (fun el => ?_)⟩
    · obtain ⟨ce, ge⟩ := h1 ws ms to x e hcd (V.str.inj (of_decide_eq_true el))
      refine ⟨_, rfl, _, rfl, _, rfl, _, rfl, v1, e, pw, pm, vt, ws, ms, to, rfl, r1, ce, hpw, hpm, hto, nw, nm, w1, lw, lm, fun H' s' => ⟨_, rfl, ?_⟩⟩
      have q := q H' s'
      rw [← ge] at q
      exact q
    have q := q H (Same.refl H)
    obtain ⟨hpl, ge⟩ := h2 x e hcd fun z => el (decide_eq_true (by rw [z]))
    rw [← ge ws ms to] at q
    have bad : ∀ {y z : Str}, y = z → ¬ decide (V.str y = V.str z) = true → False := fun e h => h (by rw [e]; exact decide_eq_true rfl)
    refine ⟨_, rfl, rfl, _, rfl, ite2 (fun e1 => ?_) (fun e1 => ?_)⟩
    · have e1 := V.str.inj (of_decide_eq_true e1)
      subst e1
      rcases plain_cases hpl with ⟨z, _⟩ | ⟨_, y, rfl, ny⟩
      · exact absurd z (by decide +kernel)
      cases r1 with | str _ _ =>
      rw [ph_by, ← in_strs] at q
      exact ⟨_, rfl, _, rfl, pw, _, rfl, .inr (.inl (.inl hpw)), rfl, flat_strs, q⟩
    refine ⟨_, rfl, rfl, _, rfl, ite2 (fun e2 => ?_) (fun e2 => ?_)⟩
    · have e2 := V.str.inj (of_decide_eq_true e2)
      subst e2
      rcases plain_cases hpl with ⟨z, _⟩ | ⟨_, y, rfl, ny⟩
      · exact absurd z (by decide +kernel)
      cases r1 with | str _ _ =>
      rw [ph_from] at q
      refine ⟨_, rfl, .inl ⟨pw, _, rfl, .inr (.inl (.inl hpw)), _, _, rfl, rfl, _, rfl, ?_⟩⟩
      match ws, hpw, q with
      | [], hpw, q => exact if_f rfl q
      | [a], hpw, q => exact if_f rfl q
      | a :: b :: r, hpw, q =>
        refine if_t (decide_eq_true (by rw [List.length_map, List.length_cons, List.length_cons]; omega)) ?_
        refine ⟨_, rfl, pw, _, 1, _, rfl, rfl, .inl (.inl hpw), at1, _, rfl, rfl, ?_⟩
        rw [dec_str']
        have eb : decide ((a :: b :: r)[1]? = some y) = decide (b = y) := by
          rw [Bool.eq_iff_iff, decide_eq_true_iff, decide_eq_true_iff]; simp
        rw [eb] at q
        exact q
    refine ⟨_, rfl, rfl, _, rfl, ite2 (fun e3 => ?_) (fun e3 => ?_)⟩
    · have e3 := V.str.inj (of_decide_eq_true e3)
      subst e3
      rcases plain_cases hpl with ⟨z, _⟩ | ⟨_, y, rfl, ny⟩
      · exact absurd z (by decide +kernel)
      cases r1 with | str _ _ =>
      obtain ⟨hsc, hde⟩ := hto.eq (y := y)
      rw [ph_to, ← hde] at q
      exact ⟨_, rfl, _, rfl, hsc, q⟩
    refine ⟨_, rfl, rfl, _, rfl, ite2 (fun e4 => ?_) (fun e4 => ?_)⟩
    · have e4 := V.str.inj (of_decide_eq_true e4)
      subst e4
      rcases plain_cases hpl with ⟨z, _⟩ | ⟨_, y, rfl, ny⟩
      · exact absurd z (by decide +kernel)
      cases r1 with | str _ _ =>
      rw [ph_mark, ← in_strs] at q
      exact ⟨_, rfl, _, rfl, pm, _, rfl, .inr (.inl (.inl hpm)), rfl, flat_strs, q⟩
    rcases plain_cases hpl with ⟨rfl, i, rfl, i0, i9⟩ | ⟨hn, y, rfl, ny⟩
    · cases r1 with | int _ =>
      rw [ph_long] at q
      refine ⟨_, rfl, .inl ⟨pw, _, rfl, .inr (.inl (.inl hpw)), _, _, rfl, rfl, _, rfl, _, _, rfl, rfl, ?_⟩⟩
      have eb : decide (i ≤ ((ws.map V.str).length : Int) - 1) = decide (i < (ws.length : Int)) := by
        rw [Bool.eq_iff_iff, decide_eq_true_iff, decide_eq_true_iff, List.length_map]; omega
      rw [← eb] at q
      exact q
    · rcases naming_cases hn with z | z | z | z
      · exact (bad z e1).elim
      · exact (bad z e2).elim
      · exact (bad z e3).elim
      · exact (bad z e4).elim
theorem ok_holds0 (Y : Ev K mg) : FnOk P w K mg base CX0 1 Y.a_holds Y.d_holds p_holds (spHolds (fun _ => false) (fun _ _ _ _ => false)) := by
  refine Y.holds.fn.okQ c_holds (fun vs H Q E h => ?_) (fun cdv A outer s H vs Q E hr h => ?_)
  · obtain ⟨v, d, _, _, _, _, _, _, rfl, _, z, _⟩ := h; cases z
  · obtain ⟨v, d, _, _, _, _, _, _, rfl, _, z, _⟩ := h; cases z
theorem ok_holds (Y : Ev K mg) : FnOk P w K mg base CX0 3 Y.a_holds Y.d_holds p_holds (spHolds isCondB holdsB) := by
  refine ok_holds_step (c := isPlainB) (g := plainH) Y ?_ isCondB holdsB cond_form ?_ ?_
  · refine ok_holds_step Y (ok_holds0 Y) isPlainB plainH plain_form ?_ ?_
    · intro ws ms to x e h z
      subst z
      exact absurd h (by rw [plain_not]; exact Bool.false_ne_true)
    · exact fun x e h _ => ⟨h, fun _ _ _ => rfl⟩
  · intro ws ms to x e h z
    subst z
    rw [cond_eq, if_pos rfl] at h
    exact ⟨h, by show (!plainH ws ms to e) = (if ("not" : Str) = "not" then !plainH ws ms to e else phB ws ms to "not" e); rw [if_pos rfl]⟩
  · intro x e h z
    rw [cond_eq, if_neg z] at h
    exact ⟨h, fun ws ms to => by show phB ws ms to x e = (if x = "not" then !plainH ws ms to e else phB ws ms to x e); rw [if_neg z]⟩
end
end K38

set_option Elab.async false
set_option linter.all false
set_option maxRecDepth 100000
set_option maxHeartbeats 4000000
namespace K38
open PySem PySem.Spec PyProof.Rows L2 RW
local macro_rules | `(tactic| walk_at "cond") => `(tactic| first | assumption | decide | omega | exact few rfl | exact .inl ⟨by decide, by decide⟩ | exact .inr ⟨by decide, by decide⟩ | exact .inl ⟨by omega, by omega⟩ | exact .inr ⟨by omega, by omega⟩ | exact ⟨by omega, by omega⟩ | exact ⟨by assumption, by assumption⟩ | exact ⟨by decide, by decide, by decide⟩ | exact .inr ⟨by split <;> decide, by split <;> decide⟩)
local macro_rules | `(tactic| walk_at "rd") => `(tactic| first | with_reducible_and_instances refine ⟨_, rfl, ?_⟩ | refine ⟨_, rfl, ?_⟩ | refine ⟨_, _, rfl, rfl, ?_⟩ | refine ⟨_, _, _, _, rfl, rfl, SqL.of (by assumption), rfl, ?_⟩ | refine ⟨_, _, _, _, rfl, rfl, (by assumption), rfl, ?_⟩ | refine .inl ⟨_, rfl, ?_⟩ | refine .inr ⟨_, rfl, ?_⟩ | refine .inl ⟨_, _, rfl, .inl (by assumption), ?_⟩ | refine ⟨(by walk_at "cond"), ?_⟩)
local macro_rules | `(tactic| walk_at "dsp") => `(tactic| repeat' (first | exact dsp_str (by decide) | exact dsp_int | exact dsp_bl | exact dsp_non | exact dsp_neg | exact dspA_nil | exact dsp_dnew | exact dsp_disp rfl | exact dsp_var rfl (by assumption) | refine dspA_cons ?_ ?_ | refine dsp_tup ?_ ?_ | refine dsp_lst' ?_ | refine n_cons ?_ ?_ | exact n_nil | exact v_c | exact v_var rfl | refine v_tup ?_ | refine dspl_lst ?_ ?_ | refine dspl_cat ?_ ?_ ?_ | exact dspl_var rfl (by assumption) (by assumption) | exact Nat.le_of_ble_eq_true rfl))
local macro_rules | `(tactic| walk_at "each") => `(tactic| repeat' (first | exact forall_nil | refine List.forall_mem_append.mpr ⟨?_, ?_⟩ | refine List.forall_mem_cons.mpr ⟨?_, ?_⟩))
section
variable {P : Program} {w : World} {K : PySem.W.Frag} {mg : Str → Option Value} {base : Heap}
theorem ok_all_hold (Y : Ev K mg) : FnOk P w K mg base CX0 4 Y.a_all_hold Y.d_all_hold p_all_hold spAllH := by
  have G_holds : FnOk P w K mg base CX0 3 Y.a_holds Y.d_holds p_holds (spHolds isCondB holdsB) := ok_holds Y
  refine Y.all_hold.fn.okQ c_all_hold (fun vs H Q E h => ?_) (fun cdv A outer s H vs Q E hr h => ?_)
  · obtain ⟨v, cs, pw, pm, vt, ws, ms, to, rfl, _⟩ := h; rfl
  · obtain ⟨v, cs, pw, pm, vt, ws, ms, to, rfl, hd, hcs, hpw, hpm, hto, nw, nm, w1, lw, lm, q⟩ := h
    obtain ⟨pc, uc, rfl, hpc, rc, _⟩ := hd.ofT
    refine ⟨_, (b_cons (s_for PassesOwn.never rfl (i_tup (qv 0)) (g_name 4 c_all_hold.nd) (b_one (s_if (t_not (t_val (q_call G_holds (hr.mono (by decide)) Y.holds.mg Y.holds.kp Y.holds.b .nil pass0 (a_cons (qv 4) (a_cons (qv 1) (a_cons (qv 2) (a_cons (qv 3) a_nil))))))) (b_one (s_ret q_bl)) b_nil)))
      (b_one (s_ret q_bl))), ?_⟩
    refine ⟨_, rfl, pc, rfl, ⟨_, .inl (.inl hpc)⟩, ?_⟩
    refine for_by (wk_tup (K := K) (xs := uc)) (fun i σ' H' => (∃ o4, σ' = [some (.ref pc), some (.ref pw), some (.ref pm), some vt, o4]) ∧ (cs.take i).all (holdsB ws ms to) = true ∧ Same H H') ⟨⟨_, rfl⟩, rfl, Same.refl _⟩ (fun i σ' H' z => .inl (.inl (z.2.2 _ _ hpc))) ?_ ?_
    · rintro i y σ' H1 hi hy ⟨⟨o4, rfl⟩, ha, s1⟩
      obtain ⟨c, hc, rcc⟩ := rc.get hy
      have hcm := List.mem_of_getElem? hc
      have tk : (cs.take (i + 1)).all (holdsB ws ms to) = ((cs.take i).all (holdsB ws ms to) && holdsB ws ms to c) := by
        rw [List.take_add_one, hc, List.all_append]; simp
      refine ⟨_, rfl, _, rfl, _, rfl, _, rfl, y, c, pw, pm, vt, ws, ms, to, rfl, rcc.same s1, hcs c hcm, s1 _ _ hpw, s1 _ _ hpm, hto, nw, nm, w1, lw, lm, fun H2 s2 => ⟨_, rfl, ?_⟩⟩
      cases hb : holdsB ws ms to c with
      | false =>
        have e : allH ws ms to cs = false := List.all_eq_false.mpr ⟨c, hcm, by rw [hb]; decide⟩
        have q := q H2 (s1.trans s2)
        rw [e] at q
        exact if_t rfl q
      | true => exact if_f rfl ⟨⟨_, rfl⟩, by rw [tk, ha, hb]; rfl, s1.trans s2⟩
    · rintro σ' H1 ⟨⟨o4, rfl⟩, ha, s1⟩
      rw [rc.1, List.take_length] at ha
      have q := q H1 s1
      have e : allH ws ms to cs = true := ha
      rw [e] at q
      exact q
theorem ok_hands_of (Y : Ev K mg) : FnOk P w K mg base CX0 1 Y.a_hands_of Y.d_hands_of p_hands_of spHd := by
  refine Y.hands_of.fn.okQ c_hands_of (fun vs H Q E h => ?_) (fun cdv A outer s H vs Q E hr h => ?_)
  · obtain ⟨v, x, g, hs, ps, lks, hds, j, rfl, _⟩ := h; rfl
  · obtain ⟨v, x, g, hs, ps, lks, hds, j, rfl, hv, T, hj, q⟩ := h
    obtain ⟨p, pr, pt, pl, pa, vt, vl, va, rfl, hp, hpr, hpt, rt, hpl, rl, hpa, ra⟩ := town_at hv
    have hjl : j < hs.length := by
      rcases Nat.lt_or_ge j hs.length with y | y
      · exact y
      · rw [List.getElem?_eq_none y] at hj; cases hj
    have hjk : j < hds.length := by rw [T.lh]; exact hjl
    have hjv : j < va.length := by rw [ra.1]; exact hjk
    refine ⟨_, (b_one (s_ret (q_ix ix_tup (q_ix ix_tup (qv 0) q_int) (q_bm PySem.F.plainAttrs_tuple PySem.F.slot_tuple_index PySem.F.type_tuple_index mt_indexT (q_ix ix_tup (qv 0) q_int) (a_cons (qv 1) a_nil))))), ?_⟩
    refine ⟨_, rfl, p, _, 4, _, rfl, rfl, .inl (.inl hp), atI_nat (j := 4) rfl, ?_⟩
    refine ⟨_, rfl, p, _, 1, _, rfl, rfl, .inl (.inl hp), atI_nat (j := 1) rfl, ?_⟩
    refine ⟨.inr (.inr (.inr (.inr ⟨rfl, _, hpr⟩))), _, rfl, pr, hs, x, j, rfl, rfl, .inl (.inl hpr), hj, first_of T.hs_nd hj, ?_⟩
    exact ⟨pa, _, _, va[j], rfl, rfl, .inl (.inl hpa), atI_nat (by simp [hjv]), q _ hds[j] (List.getElem?_eq_getElem hjk) (ra.2 j _ _ (List.getElem?_eq_getElem hjv) (List.getElem?_eq_getElem hjk))⟩
theorem ok_marks_behind (Y : Ev K mg) : FnOk P w K mg base CX0 1 Y.a_marks_behind Y.d_marks_behind p_marks_behind spBehind := by
  refine Y.marks_behind.fn.okQ c_marks_behind (fun vs H Q E h => ?_) (fun cdv A outer s H vs Q E hr h => ?_)
  · obtain ⟨pm, v, t, w', m, rfl, _⟩ := h; rfl
  · obtain ⟨pm, v, t, w', m, rfl, hpm, hv, tn, mn, nd, l13, q⟩ := h
    obtain ⟨pa, v0, v1, rfl, hpa, r0, r1⟩ := hv.of2
    cases r0 with | str _ _ =>
    cases r1 with | str _ _ =>
    refine ⟨_, (b_cons (s_asg (qv 1) (g_tup 2 rfl (gs_cons (g_name 2 c_marks_behind.nd) (gs_cons (g_nameC 3 c_marks_behind.nd) gs_nil))))
      (b_cons (s_setcomp 4 (src := [none, some 3]) o_marks_behind_1 rfl rfl c_marks_behind.nd (i_tup (qv 0)) (fun _ _ _ _ _ => (g_name 0 o_marks_behind_1.nd)) (fun _ _ _ _ _ => (f_one (t_cmp op_ne (qv 0) (qc 1)))) (fun _ _ _ _ _ => (qv 0)))
      (b_cons (s_if (t_cmp op_eq (qv 2) q_str) (b_one (s_expr (q_bm PySem.F.plainAttrs_list PySem.F.slot_list_append PySem.F.type_list_append mt_append (qv 4) (a_cons (qc 3) a_nil)))) b_nil)
      (b_one (s_ret (q_callTy call_tuple_of Y.tuple bt_tuple (a_cons (q_callB call_sortedA Y.sorted bt_sorted (a_cons (qv 4) a_nil)) a_nil))))))), ?_⟩
    refine ⟨_, rfl, pa, _, rfl, .inl (.inl hpa), rfl, _, _, rfl, _, _, rfl, rfl, ?_⟩
    refine ⟨_, rfl, pm, rfl, ⟨_, .inl (.inl hpm)⟩, ?_⟩
    refine comp_fm (g := neD m) (f := fun d => d) (σr := [some (.str m)]) (wk_tup (K := K)) (fun H' s' => .inl (.inl (s' _ _ hpm))) (strs_rep fun y hy => name_short (tn y hy)) (by rw [List.length_map]; omega) rfl ?_ (fun x d HA sA rx hd => by walk_at "dsp") fun l1 us H1 s1 hl1 e1 r1 => ?_
    · intro z d HA Q1 sA rz hd q1
      obtain ⟨b, _, rfl⟩ := List.mem_map.mp hd
      cases rz with | str _ _ =>
      refine ⟨_, rfl, _, rfl, rfl, _, rfl, ?_⟩
      rw [dec_str']
      exact q1 HA (Same.refl _)
    rw [ne_map] at r1
    have eus := repL_strs r1
    subst eus
    have lf := List.length_filter_le (fun x => !decide (x = m)) t
    dsimp only [gName]
    have fin : ∀ (H2 : Hp), H2 l1 = some (.lst ((behind t w' m).map V.str)) → Same H H2 → ∀ (ss : List Str) (l2 : Addr), ss.Perm (behind t w' m) → sortedS ss = true → H2 l2 = none → ∃ p ys, [V.ref l2] = [.ref p] ∧ ((SqL K (upd H2 l2 (.lst (ss.map V.str))) p ys ∧ ∀ l, upd H2 l2 (.lst (ss.map V.str)) l = none → Q (.ref l) (upd (upd H2 l2 (.lst (ss.map V.str))) l (.tup ys))) ∨ (SqT K (upd H2 l2 (.lst (ss.map V.str))) p ys ∧ Q (.ref p) (upd H2 l2 (.lst (ss.map V.str))))) := fun H2 e2 s2 ss l2 hp2 hs2 hl2 => ⟨l2, _, rfl, .inl ⟨SqL.of upd_same, fun p hp => by
      have es := srt_eq hp2 hs2 (behind_nd nd)
      subst es
      exact q p _ upd_same ((s2.trans (Same.new hl2)).trans (Same.new hp))⟩⟩
    refine ⟨_, rfl, rfl, _, rfl, ite2 (fun e => ?_) (fun e => ?_)⟩
    · have ew := V.str.inj (of_decide_eq_true e)
      have eb : behind t w' m = t.filter (fun x => !decide (x = m)) ++ [m] := by unfold behind; rw [if_pos ew]
      refine ⟨_, rfl, .inl ⟨rfl, _, SqL.of e1⟩, _, rfl, l1, _, _, rfl, rfl, e1, small1000 (by rw [List.length_map]; omega), ?_⟩
      have e2 : (upd H1 l1 (.lst ((t.filter fun x => !decide (x = m)).map V.str ++ [V.str m]))) l1 = some (.lst ((behind t w' m).map V.str)) := by rw [upd_same, eb, List.map_append]; rfl
      have s2 : Same H (upd H1 l1 (.lst ((t.filter fun x => !decide (x = m)).map V.str ++ [V.str m]))) := fun c o z => by rw [upd_ne (ne_of_none z hl1)]; exact s1 _ _ z
      generalize (upd H1 l1 (HO.lst ((t.filter fun x => !decide (x = m)).map V.str ++ [V.str m]))) = H2 at *
      exact ⟨_, rfl, l1, behind t w' m, rfl, .inl (SqL.of e2), by rw [eb, List.length_append, List.length_singleton]; omega, fin H2 e2 s2⟩
    · have ew : ¬ w' = "put" := fun z => e (decide_eq_true (by rw [z]))
      have eb : behind t w' m = t.filter (fun x => !decide (x = m)) := by unfold behind; rw [if_neg ew, List.append_nil]
      have e2 : H1 l1 = some (.lst ((behind t w' m).map V.str)) := by rw [eb]; exact e1
      exact ⟨_, rfl, l1, behind t w' m, rfl, .inl (SqL.of e2), by rw [eb]; omega, fin H1 e2 s1⟩
theorem ok_handed (Y : Ev K mg) : FnOk P w K mg base CX0 5 Y.a_handed Y.d_handed p_handed spHanded := by
  have G_all_hold : FnOk P w K mg base CX0 4 Y.a_all_hold Y.d_all_hold p_all_hold spAllH := ok_all_hold Y
  have G_hands_of : FnOk P w K mg base CX0 1 Y.a_hands_of Y.d_hands_of p_hands_of spHd := ok_hands_of Y
  have G_marks_behind : FnOk P w K mg base CX0 1 Y.a_marks_behind Y.d_marks_behind p_marks_behind spBehind := ok_marks_behind Y
  refine Y.handed.fn.okQ c_handed (fun vs H Q E h => ?_) (fun cdv A outer s H vs Q E hr h => ?_)
  · obtain ⟨v, pw, pm, vt, x, ws, ms, to, g, hs, ps, lks, hds, j, rs, O, rfl, _⟩ := h; rfl
  · obtain ⟨v, pw, pm, vt, x, ws, ms, to, g, hs, ps, lks, hds, j, rs, O, rfl, hv, T, hj, hdj, HO', O13, On, M0, hpw, hpm, hto, nw, lw, q⟩ := h
    refine ⟨_, (b_cons (s_set 4 c_handed.nd (qv 2))
      (b_cons (s_for PassesOwn.never rfl (i_tup (q_call G_hands_of (hr.mono (by decide)) Y.hands_of.mg Y.hands_of.kp Y.hands_of.b .nil pass0 (a_cons (qv 0) (a_cons (q_ix ix_tup (qv 1) q_int) a_nil)))) (g_tup 2 rfl (gs_cons (g_name 5 c_handed.nd) (gs_cons (g_name 6 c_handed.nd) gs_nil))) (b_cons (s_if (t_not (t_val (q_call G_all_hold (hr.mono (by decide)) Y.all_hold.mg Y.all_hold.kp Y.all_hold.b .nil pass0 (a_cons (qv 5) (a_cons (qv 1) (a_cons (qv 4) (a_cons (qv 3) a_nil))))))) (b_one s_cont) b_nil)
      (b_cons (s_if (t_cmp op_eq (q_ix ix_tup (qv 6) q_int) q_str) (b_one (s_ret q_non)) b_nil)
      (b_one (s_set 4 c_handed.nd (q_call G_marks_behind (hr.mono (by decide)) Y.marks_behind.mg Y.marks_behind.kp Y.marks_behind.b .nil pass0 (a_cons (qv 4) (a_cons (qv 6) a_nil))))))))
      (b_one (s_ret (qv 4))))), ?_⟩
    refine ⟨_, rfl, ?_⟩
    refine ⟨_, rfl, _, rfl, pw, _, 0, _, rfl, rfl, .inl (.inl hpw), at0, v, x, g, hs, ps, lks, hds, j, rfl, hv, T, hj, fun vr d hd rd => ?_⟩
    rw [hdj] at hd
    cases hd
    obtain ⟨pq, us, rfl, hpq, ru, _⟩ := rd.ofT
    refine ⟨pq, rfl, ⟨_, .inl (.inl hpq)⟩, ?_⟩
    refine for_by (wk_tup (K := K) (xs := us)) (fun i σ' H' => (∃ pt t o5 o6, σ' = [some v, some (.ref pw), some (.ref pm), some vt, some (.ref pt), o5, o6] ∧ H' pt = some (.tup (t.map V.str)) ∧ Mk O t ∧ handedOf (x :: ws) to rs ms = handedOf (x :: ws) to (rs.drop i) t) ∧ Same H H') ⟨⟨pm, ms, _, _, rfl, hpm, M0, rfl⟩, Same.refl _⟩ (fun i σ' H' z => .inl (.inl (z.2 _ _ hpq))) ?_ ?_
    · rintro i y σ' H1 hi hy ⟨⟨pt, t, o5, o6, rfl, hpt, Mt, he⟩, s1⟩
      obtain ⟨r, hr', rr⟩ := ru.get hy
      obtain ⟨cs, xa, rfl, hcs, hx⟩ := HO'.2 r (List.mem_of_getElem? hr')
      obtain ⟨q0, v0, v1, rfl, hq0, r0, r1⟩ := (rr.same s1).of2
      have tl := Mt.len O13
      have tn : ∀ y ∈ t, isNameB y = true := fun y hy => On y (Mt.mem y hy)
      refine ⟨q0, _, rfl, .inl (.inl hq0), rfl, _, _, rfl, _, _, rfl, rfl, ?_⟩
      refine ⟨_, rfl, _, rfl, _, rfl, _, rfl, v0, cs, pw, pt, vt, x :: ws, t, to, rfl, r0, hcs, s1 _ _ hpw, hpt, hto, nw, tn, by simp, by simp; omega, by omega, fun H2 s2 => ⟨_, rfl, ?_⟩⟩
      rw [drop_at hr', handedOf] at he
      have er : allH (x :: ws) t to (ruleC (.tup [.tup cs, xa])) = allH (x :: ws) t to cs := rfl
      have et : ruleT (.tup [.tup cs, xa]) = xa := rfl
      rw [er, et] at he
      cases hb : allH (x :: ws) t to cs with
      | false =>
        rw [hb, if_neg (by decide)] at he
        exact if_t rfl ⟨⟨pt, t, _, _, rfl, s2 _ _ hpt, Mt, he⟩, s1.trans s2⟩
      | true =>
        rw [hb, if_pos rfl] at he
        refine if_f rfl ?_
        rcases hx with rfl | ⟨w1, m1, rfl, hw1, hm1⟩
        · obtain ⟨pa, ua, rfl, hpa, ra', _⟩ := (r1.same s2).ofT
          have la : ua.length = 1 := ra'.1
          obtain ⟨u0, rfl⟩ : ∃ u0, ua = [u0] := by
            match ua, la with
            | [u0], _ => exact ⟨u0, rfl⟩
          have h0 := ra'.head.1
          cases h0 with | str _ _ =>
          refine ⟨_, rfl, pa, _, 0, _, rfl, rfl, .inl (.inl hpa), at0, rfl, _, rfl, if_t (by rw [decide_eq_true rfl]) ?_⟩
          exact q .non H2 (by rw [he]; rfl) (s1.trans s2)
        · obtain ⟨pa, z0, z1, rfl, hpa, rz0, rz1⟩ := (r1.same s2).of2
          cases rz0 with | str _ _ =>
          have nk : decide (V.str w1 = V.str "keep") = false := by
            rw [dec_str']
            rcases hw1 with rfl | rfl <;> decide +kernel
          refine ⟨_, rfl, pa, _, 0, _, rfl, rfl, .inl (.inl hpa), at0, rfl, _, rfl, if_f nk ?_⟩
          refine ⟨_, rfl, _, rfl, pt, .ref pa, t, w1, m1, rfl, s2 _ _ hpt, r1.same s2, tn, On m1 hm1, Mt.nd, tl, fun p3 H3 e3 s3 => ?_⟩
          exact ⟨⟨p3, _, _, _, rfl, e3, Mt.next hm1, he⟩, (s1.trans s2).trans s3⟩
    · rintro σ' H1 ⟨⟨pt, t, o5, o6, rfl, hpt, Mt, he⟩, s1⟩
      rw [ru.1, List.drop_length, handedOf] at he
      exact ⟨_, rfl, q _ H1 (by rw [he]; exact ⟨pt, rfl, hpt⟩) s1⟩
end
end K38

set_option Elab.async false
set_option linter.all false
set_option maxRecDepth 100000
set_option maxHeartbeats 4000000
namespace K38
open PySem PySem.Spec PyProof.Rows L2 RW
local macro_rules | `(tactic| walk_at "cond") => `(tactic| first | assumption | decide | omega | exact few rfl | exact .inl ⟨by decide, by decide⟩ | exact .inr ⟨by decide, by decide⟩ | exact .inl ⟨by omega, by omega⟩ | exact .inr ⟨by omega, by omega⟩ | exact ⟨by omega, by omega⟩ | exact ⟨by assumption, by assumption⟩ | exact ⟨by decide, by decide, by decide⟩ | exact .inr ⟨by split <;> decide, by split <;> decide⟩)
local macro_rules | `(tactic| walk_at "rd") => `(tactic| first | with_reducible_and_instances refine ⟨_, rfl, ?_⟩ | refine ⟨_, rfl, ?_⟩ | refine ⟨_, _, rfl, rfl, ?_⟩ | refine ⟨_, _, _, _, rfl, rfl, SqL.of (by assumption), rfl, ?_⟩ | refine ⟨_, _, _, _, rfl, rfl, (by assumption), rfl, ?_⟩ | refine .inl ⟨_, rfl, ?_⟩ | refine .inr ⟨_, rfl, ?_⟩ | refine .inl ⟨_, _, rfl, .inl (by assumption), ?_⟩ | refine ⟨(by walk_at "cond"), ?_⟩)
local macro_rules | `(tactic| walk_at "dsp") => `(tactic| repeat' (first | exact dsp_str (by decide) | exact dsp_int | exact dsp_bl | exact dsp_non | exact dsp_neg | exact dspA_nil | exact dsp_dnew | exact dsp_disp rfl | exact dsp_var rfl (by assumption) | refine dspA_cons ?_ ?_ | refine dsp_tup ?_ ?_ | refine dsp_lst' ?_ | refine n_cons ?_ ?_ | exact n_nil | exact v_c | exact v_var rfl | refine v_tup ?_ | refine dspl_lst ?_ ?_ | refine dspl_cat ?_ ?_ ?_ | exact dspl_var rfl (by assumption) (by assumption) | exact Nat.le_of_ble_eq_true rfl))
local macro_rules | `(tactic| walk_at "each") => `(tactic| repeat' (first | exact forall_nil | refine List.forall_mem_append.mpr ⟨?_, ?_⟩ | refine List.forall_mem_cons.mpr ⟨?_, ?_⟩))
section
variable {P : Program} {w : World} {K : PySem.W.Frag} {mg : Str → Option Value} {base : Heap}
def spTied : Sp := fun vs H Q _ => ∃ (v : V) (x : Str) (g : Str) (hs : List Str) (ps : List (Str × Str)) (lks hds : List D), vs = [v, .str x] ∧ Rep H v (townD g hs ps lks hds) ∧ TownOk g hs ps lks hds ∧ ∀ (l : Addr) (ts : List Str) (H' : Hp), H l = none → H' l = some (.lst (ts.map V.str)) → ts.Perm (nbrs ps x) → sortedS ts = true → Same H H' → Q (.ref l) H'
theorem ok_tied (Y : Ev K mg) : FnOk P w K mg base CX0 1 Y.a_tied Y.d_tied p_tied spTied := by
  refine Y.tied.fn.okQ c_tied (fun vs H Q E h => ?_) (fun cdv A outer s H vs Q E hr h => ?_)
  · obtain ⟨v, x, g, hs, ps, lks, hds, rfl, _⟩ := h; rfl
  · obtain ⟨v, x, g, hs, ps, lks, hds, rfl, hv, T, q⟩ := h
    obtain ⟨p, pr, pt, pl, pa, vt, vl, va, rfl, hp, hpr, hpt, rt, hpl, rl, hpa, ra⟩ := town_at hv
    have TP := T.lp
    refine ⟨_, (b_cons (s_set 2 c_tied.nd (q_ix ix_tup (qv 0) q_int))
      (b_one (s_ret (q_callB call_sortedA Y.sorted bt_sorted (a_cons (q_op op_cat (q_comp (src := [none, none, some 1]) o_tied_1 rfl rfl (i_tup (qv 2)) (fun _ _ _ _ _ => (g_tupK (K := K) 2 rfl rfl (gs_cons (g_name 0 o_tied_1.nd) (gs_cons (g_name 1 o_tied_1.nd) gs_nil)))) (fun _ _ _ _ _ => (f_one (t_cmp op_eq (qv 1) (qc 2)))) (fun _ _ _ _ _ => (qv 0))) (q_comp (src := [none, none, some 1]) o_tied_2 rfl rfl (i_tup (qv 2)) (fun _ _ _ _ _ => (g_tupK (K := K) 2 rfl rfl (gs_cons (g_name 0 o_tied_2.nd) (gs_cons (g_name 1 o_tied_2.nd) gs_nil)))) (fun _ _ _ _ _ => (f_one (t_cmp op_eq (qv 0) (qc 2)))) (fun _ _ _ _ _ => (qv 1)))) a_nil))))), ?_⟩
    refine ⟨_, rfl, p, _, 2, _, rfl, rfl, .inl (.inl hp), atI_nat (j := 2) rfl, ?_⟩
    refine ⟨_, rfl, pt, rfl, ⟨_, .inl (.inl hpt)⟩, ?_⟩
    refine comp_sel (ps := ps) (sel := fun p => decide (p.2 = x)) (f := (·.1)) (fun σ' => ∃ o1 o2, σ' = [o1, o2, some (.str x)]) (wk_tup (K := K)) (fun H' s' => .inl (.inl (s' _ _ hpt))) rt (by omega) ⟨_, _, rfl⟩ ?_ fun l1 H1 s1 hl1 e1 => ?_
    · rintro q p σ' H1 A B ⟨o1, o2, rfl⟩ s1 hq hp1 k
      refine ⟨q, _, rfl, .inl (.inl hq), rfl, _, _, rfl, _, _, rfl, rfl, _, rfl, _, rfl, rfl, _, rfl, ?_⟩
      have k := k [some (.str p.1), some (.str p.2), some (.str x)] ⟨_, _, rfl⟩
      rw [dec_str']
      cases e : decide (p.2 = x) with
      | false => rw [e] at k; exact k
      | true => rw [e] at k; exact ⟨_, rfl, k⟩
    refine ⟨_, rfl, pt, rfl, ⟨_, .inl (.inl (s1 _ _ hpt))⟩, ?_⟩
    refine comp_sel (ps := ps) (sel := fun p => decide (p.1 = x)) (f := (·.2)) (fun σ' => ∃ o1 o2, σ' = [o1, o2, some (.str x)]) (wk_tup (K := K)) (fun H' s' => .inl (.inl (s' _ _ (s1 _ _ hpt)))) (rt.mono (.of s1)) (by omega) ⟨_, _, rfl⟩ ?_ fun l2 H2 s2 hl2 e2 => ?_
    · rintro q p σ' H1 A B ⟨o1, o2, rfl⟩ s1 hq hp1 k
      refine ⟨q, _, rfl, .inl (.inl hq), rfl, _, _, rfl, _, _, rfl, rfl, _, rfl, _, rfl, rfl, _, rfl, ?_⟩
      have k := k [some (.str p.1), some (.str p.2), some (.str x)] ⟨_, _, rfl⟩
      rw [dec_str']
      cases e : decide (p.1 = x) with
      | false => rw [e] at k; exact k
      | true => rw [e] at k; exact ⟨_, rfl, k⟩
    have nl := nbrs_len T x
    have nl' : ((ps.filter fun p => decide (p.2 = x)).map (·.1)).length + ((ps.filter fun p => decide (p.1 = x)).map (·.2)).length ≤ 10 := by rw [← List.length_append]; exact nl
    refine ⟨l1, l2, _, _, rfl, rfl, s2 _ _ e1, e2, Nat.le_of_lt (small1000 (by simp only [List.length_map] at nl' ⊢; omega)), fun l3 hl3 => ?_⟩
    rw [← List.map_append]
    have S3 := Same.new (o := .lst ((nbrs ps x).map V.str)) hl3
    refine ⟨l3, nbrs ps x, rfl, .inl (SqL.of upd_same), by omega, fun ts l4 hp4 hs4 hl4 => q l4 ts _ ?_ upd_same hp4 hs4 (((s1.trans s2).trans S3).trans (Same.new hl4))⟩
    exact none_of_same ((s1.trans s2).trans S3) hl4
end
end K38

set_option Elab.async false
set_option linter.all false
set_option maxRecDepth 100000
set_option maxHeartbeats 4000000
namespace K38
open PySem PySem.Spec PyProof.Rows L2 RW
local macro_rules | `(tactic| walk_at "cond") => `(tactic| first | assumption | decide | omega | exact few rfl | exact .inl ⟨by decide, by decide⟩ | exact .inr ⟨by decide, by decide⟩ | exact .inl ⟨by omega, by omega⟩ | exact .inr ⟨by omega, by omega⟩ | exact ⟨by omega, by omega⟩ | exact ⟨by assumption, by assumption⟩ | exact ⟨by decide, by decide, by decide⟩ | exact .inr ⟨by split <;> decide, by split <;> decide⟩)
local macro_rules | `(tactic| walk_at "rd") => `(tactic| first | with_reducible_and_instances refine ⟨_, rfl, ?_⟩ | refine ⟨_, rfl, ?_⟩ | refine ⟨_, _, rfl, rfl, ?_⟩ | refine ⟨_, _, _, _, rfl, rfl, SqL.of (by assumption), rfl, ?_⟩ | refine ⟨_, _, _, _, rfl, rfl, (by assumption), rfl, ?_⟩ | refine .inl ⟨_, rfl, ?_⟩ | refine .inr ⟨_, rfl, ?_⟩ | refine .inl ⟨_, _, rfl, .inl (by assumption), ?_⟩ | refine ⟨(by walk_at "cond"), ?_⟩)
local macro_rules | `(tactic| walk_at "dsp") => `(tactic| repeat' (first | exact dsp_str (by decide) | exact dsp_int | exact dsp_bl | exact dsp_non | exact dsp_neg | exact dspA_nil | exact dsp_dnew | exact dsp_disp rfl | exact dsp_var rfl (by assumption) | refine dspA_cons ?_ ?_ | refine dsp_tup ?_ ?_ | refine dsp_lst' ?_ | refine n_cons ?_ ?_ | exact n_nil | exact v_c | exact v_var rfl | refine v_tup ?_ | refine dspl_lst ?_ ?_ | refine dspl_cat ?_ ?_ ?_ | exact dspl_var rfl (by assumption) (by assumption) | exact Nat.le_of_ble_eq_true rfl))
local macro_rules | `(tactic| walk_at "each") => `(tactic| repeat' (first | exact forall_nil | refine List.forall_mem_append.mpr ⟨?_, ?_⟩ | refine List.forall_mem_cons.mpr ⟨?_, ?_⟩))
section
variable {P : Program} {w : World} {K : PySem.W.Frag} {mg : Str → Option Value} {base : Heap}
def spAll38 (K : PySem.W.Frag) : Sp := fun vs H Q _ => ∃ (b : Addr) (ns : List Int), vs = [.ref b] ∧ SqL K H b (ns.map V.int) ∧ ns.length ≤ 63 ∧ ∀ a H', H a = none → Hand H' a 0 → Same H H' → Q (.ref a) H'
theorem bits200 {x : Int} {n : Nat} (h0 : 0 ≤ x) (h1 : x < 2 ^ n) (hn : n ≤ 20000) : Builtin.Int.intBits x ≤ 2 ^ 20 := by
  unfold Builtin.Int.intBits
  split
  · exact Nat.zero_le _
  · rename_i hz
    have hz : x ≠ 0 := by simpa using hz
    have : x.natAbs < 2 ^ n := by
      have e : ((2 ^ n : Nat) : Int) = (2 : Int) ^ n := by push_cast; rfl
      omega
    have h2 : x.natAbs.log2 < n := (Nat.log2_lt (by omega)).mpr this
    have h3 : (20000 : Nat) ≤ 2 ^ 20 := by decide
    omega
theorem pow_mul_lt {a b : Int} {p q : Nat} (h0 : 0 ≤ a) (h1 : a < 2 ^ p) (h2 : 0 < b) (h3 : b < 2 ^ q) : a * b < 2 ^ (p + q) := by
  have e1 : a * b < 2 ^ p * b := Int.mul_lt_mul_of_pos_right h1 h2
  have e2 : (2 : Int) ^ p * b ≤ 2 ^ p * 2 ^ q := Int.mul_le_mul_of_nonneg_left (Int.le_of_lt h3) (two_pow_nn p)
  have e3 : (2 : Int) ^ (p + q) = 2 ^ p * 2 ^ q := Int.pow_add 2 p q
  rw [e3]; exact Int.lt_of_lt_of_le e1 e2
theorem ok_all38 (Y : Ev K mg) : FnOk P w K mg base CX0 2 Y.a__law_all Y.d__law_all p__law_all (spAll38 K) := by
  have G__law_hand : FnOk P w K mg base CX0 1 Y.a__law_hand Y.d__law_hand p__law_hand (spHand K) := ok_hand Y
  refine Y._law_all.fn.okQ c__law_all (fun vs H Q E h => ?_) (fun cdv A outer s H vs Q E hr h => ?_)
  · obtain ⟨b, ns, rfl, _⟩ := h; rfl
  · obtain ⟨b, ns, rfl, hS, hns, q⟩ := h
    refine ⟨_, (b_cons (s_set 1 c__law_all.nd (q_call G__law_hand (hr.mono (by decide)) Y._law_hand.mg Y._law_hand.kp Y._law_hand.b .nil pass0 (a_cons (qv 0) (a_cons q_int a_nil))))
      (b_cons (s_set 2 c__law_all.nd (q_op op_mod (q_ix ix_list (qv 1) q_int) (q_op op_pow q_int q_int)))
      (b_cons (s_set 3 c__law_all.nd (q_op op_pow q_int q_int))
      (b_cons (s_for PassesOwn.never rfl (i_rng2 Y.range (a_cons q_int (a_cons (q_callB (call_min2 rfl) Y.min bt_min (a_cons (q_callB call_len2 Y.len bt_len (a_cons (qv 0) a_nil)) (a_cons q_int a_nil))) a_nil))) (g_name 4 c__law_all.nd) (b_cons (s_set 5 c__law_all.nd (q_call G__law_hand (hr.mono (by decide)) Y._law_hand.mg Y._law_hand.kp Y._law_hand.b .nil pass0 (a_cons (qv 0) (a_cons (qv 4) a_nil))))
      (b_cons (s_set 2 c__law_all.nd (q_op op_add (qv 2) (q_op op_mulB (q_op op_mod (q_ix ix_list (qv 5) q_int) (q_op op_pow q_int q_int)) (qv 3))))
      (b_cons (s_set 3 c__law_all.nd (q_op op_mulB (qv 3) (q_op op_pow q_int q_int)))
      (b_one (s_asg (q_op op_mod (q_op op_add (q_op op_mul (q_ix ix_list (qv 1) q_int) q_int) (q_ix ix_list (qv 5) q_int)) q_int) (g_sub (qv 1) q_int set_list)))))))
      (b_cut (s_if (t_cmp op_gt (q_ix ix_list (qv 1) q_int) q_int) (b_one (s_asg (qv 2) (g_sub (qv 1) q_int set_list))) b_nil)
      (b_one (s_ret (qv 1)))))))), ?_⟩
    have cp : CPow 10 60 := ⟨by decide, by decide, by decide⟩
    have p60 : (10 : Int) ^ (60 : Int).toNat < 2 ^ 200 := by decide +kernel
    have p0 : (0 : Int) < (10 : Int) ^ (60 : Int).toNat := by decide +kernel
    refine ⟨_, rfl, b, ns, 0, rfl, hS, by decide, by decide, fun a H1 ha hH1 s1 => ?_⟩
    obtain ⟨x, m, t, h1, m0, m1, t0, t1⟩ := hH1
    refine ⟨_, rfl, a, _, 0, _, rfl, rfl, SqL.of h1, at0, _, _, rfl, rfl, cp, _, _, rfl, rfl, p0, ?_⟩
    refine ⟨_, _, rfl, rfl, cp, ?_⟩
    refine ⟨_, rfl, .inl ⟨b, _, rfl, .inl (s1.seq hS), _, _, rfl, 1, _, rfl, ⟨by decide, by decide, by split <;> omega, by split <;> omega⟩, ?_⟩⟩
    refine for_by wk_rng (fun i σ' H' => ∃ (o4 o5 : Option V) (dg far m : Int), σ' = [some (.ref b), some (.ref a), some (.int dg), some (.int far), o4, o5] ∧ 0 ≤ far ∧ far < 2 ^ (200 * (i + 1)) ∧ H' a = some (.lst [.int x, .int m, .int t]) ∧ 0 ≤ m ∧ m < 2 ^ 63 ∧ Same H H') ?_ (fun _ _ _ _ => trivial) ?_ ?_
    · exact ⟨_, _, _, _, m, rfl, Int.le_of_lt p0, p60, h1, m0, m1, s1⟩
    · rintro i y σ' H2 hi rfl ⟨o4, o5, dg, far, m, rfl, f0, f1, h2, m0, m1, s2⟩
      have hi63 : i < 63 := by
        refine Nat.lt_of_lt_of_le hi ?_
        rw [List.length_map]
        split <;> omega
      refine ⟨_, rfl, _, rfl, b, ns, _, rfl, s2.seq hS, by omega, by omega, fun a2 H3 ha2 hH3 s3 => ?_⟩
      obtain ⟨x3, m3, t3, h3, n0, n1, _, _⟩ := hH3
      have h2' := s3 _ _ h2
      have b1 : Builtin.Int.intBits (x3 % (10 : Int) ^ (60 : Int).toNat) ≤ 2 ^ 20 := bits200 (n := 200) (Int.emod_nonneg _ (Int.ne_of_gt p0)) (Int.lt_trans (Int.emod_lt_of_pos _ p0) p60) (by decide)
      have b2 : Builtin.Int.intBits far ≤ 2 ^ 20 := bits200 f0 f1 (by omega)
      have b3 : Builtin.Int.intBits ((10 : Int) ^ (60 : Int).toNat) ≤ 2 ^ 20 := bits200 (n := 200) (Int.le_of_lt p0) p60 (by decide)
      refine ⟨_, rfl, _, rfl, a2, _, 0, _, rfl, rfl, SqL.of h3, at0, _, _, rfl, rfl, cp, _, _, rfl, rfl, p0, _, rfl, _, _, rfl, rfl, ⟨b1, b2⟩, _, _, rfl, rfl, ?_⟩
      refine ⟨_, rfl, _, _, rfl, rfl, cp, _, _, rfl, rfl, ⟨b2, b3⟩, ?_⟩
      refine ⟨_, rfl, a, _, 1, _, rfl, rfl, SqL.of h2', at1, _, _, rfl, rfl, .inl ⟨by omega, by omega⟩, _, rfl, a2, _, 1, _, rfl, rfl, SqL.of h3, at1, _, _, rfl, rfl, _, _, rfl, rfl, (by decide : (0 : Int) < 2305843009213693951), ?_⟩
      refine ⟨_, rfl, a, _, 1, 1, rfl, rfl, h2', rfl, ?_⟩
      refine ⟨_, _, _, _, _, rfl, Int.mul_nonneg f0 (Int.le_of_lt p0), ?_, upd_same, Int.emod_nonneg _ (by decide), ?_, ?_⟩
      · have := pow_mul_lt f0 f1 p0 p60
        rw [show 200 * (i + 1 + 1) = 200 * (i + 1) + 200 by omega]
        exact this
      · have := Int.emod_lt_of_pos (m * 48271 + m3) (by decide : (0 : Int) < 2305843009213693951)
        exact Int.lt_trans this (by decide)
      · exact fun c o e => by rw [upd_ne (ne_of_none e ha)]; exact s3 _ _ (s2 _ _ e)
    · rintro σ' H2 ⟨o4, o5, dg, far, m, rfl, f0, f1, h2, m0, m1, s2⟩
      refine ⟨fun σ' H' => ∃ (o2 o3 o4 o5 : Option V), σ' = [some (.ref b), some (.ref a), o2, o3, o4, o5] ∧ Hand H' a 0 ∧ Same H H', ?_, ?_⟩
      · refine ⟨_, rfl, a, _, 0, _, rfl, rfl, SqL.of h2, at0, _, _, rfl, rfl, _, rfl, ite2 (fun _ => ?_) (fun _ => ?_)⟩
        · refine ⟨_, rfl, _, rfl, a, _, 0, 0, rfl, rfl, h2, rfl, _, _, _, _, rfl, ⟨_, m, t, upd_same, m0, m1, t0, t1⟩, ?_⟩
          exact fun c o e => by rw [upd_ne (ne_of_none e ha)]; exact s2 _ _ e
        · exact ⟨_, _, _, _, rfl, ⟨x, m, t, h2, m0, m1, t0, t1⟩, s2⟩
      · rintro σ' H3 ⟨o2, o3, o4, o5, rfl, hH3, s3⟩
        exact ⟨_, rfl, q a H3 ha hH3 s3⟩
end
end K38

set_option Elab.async false
set_option linter.all false
set_option maxRecDepth 100000
set_option maxHeartbeats 4000000
namespace K38
open PySem PySem.Spec PyProof.Rows L2 RW
local macro_rules | `(tactic| walk_at "cond") => `(tactic| first | assumption | decide | omega | exact few rfl | exact .inl ⟨by decide, by decide⟩ | exact .inr ⟨by decide, by decide⟩ | exact .inl ⟨by omega, by omega⟩ | exact .inr ⟨by omega, by omega⟩ | exact ⟨by omega, by omega⟩ | exact ⟨by assumption, by assumption⟩ | exact ⟨by decide, by decide, by decide⟩ | exact .inr ⟨by split <;> decide, by split <;> decide⟩)
local macro_rules | `(tactic| walk_at "rd") => `(tactic| first | with_reducible_and_instances refine ⟨_, rfl, ?_⟩ | refine ⟨_, rfl, ?_⟩ | refine ⟨_, _, rfl, rfl, ?_⟩ | refine ⟨_, _, _, _, rfl, rfl, SqL.of (by assumption), rfl, ?_⟩ | refine ⟨_, _, _, _, rfl, rfl, (by assumption), rfl, ?_⟩ | refine .inl ⟨_, rfl, ?_⟩ | refine .inr ⟨_, rfl, ?_⟩ | refine .inl ⟨_, _, rfl, .inl (by assumption), ?_⟩ | refine ⟨(by walk_at "cond"), ?_⟩)
local macro_rules | `(tactic| walk_at "dsp") => `(tactic| repeat' (first | exact dsp_str (by decide) | exact dsp_int | exact dsp_bl | exact dsp_non | exact dsp_neg | exact dspA_nil | exact dsp_dnew | exact dsp_disp rfl | exact dsp_var rfl (by assumption) | refine dspA_cons ?_ ?_ | refine dsp_tup ?_ ?_ | refine dsp_lst' ?_ | refine n_cons ?_ ?_ | exact n_nil | exact v_c | exact v_var rfl | refine v_tup ?_ | refine dspl_lst ?_ ?_ | refine dspl_cat ?_ ?_ ?_ | exact dspl_var rfl (by assumption) (by assumption) | exact Nat.le_of_ble_eq_true rfl))
local macro_rules | `(tactic| walk_at "each") => `(tactic| repeat' (first | exact forall_nil | refine List.forall_mem_append.mpr ⟨?_, ?_⟩ | refine List.forall_mem_cons.mpr ⟨?_, ?_⟩))
section
variable {P : Program} {w : World} {K : PySem.W.Frag} {mg : Str → Option Value} {base : Heap}
def flds (v : V) (nm : Str) (hd td g : Addr) (n : Int) : List (Str × V) := [("place", v), ("name", .str nm), ("hearings", .ref hd), ("tellings", .ref td), ("going", .ref g), ("times", .int n)]
theorem fl_place {v : V} {nm : Str} {hd td g : Addr} {n : Int} : (flds v nm hd td g n).lookup ("place" : Str) = some v := by rfl
theorem fl_name {v : V} {nm : Str} {hd td g : Addr} {n : Int} : (flds v nm hd td g n).lookup ("name" : Str) = some (.str nm) := by rfl
theorem fl_hear {v : V} {nm : Str} {hd td g : Addr} {n : Int} : (flds v nm hd td g n).lookup ("hearings" : Str) = some (.ref hd) := by rfl
theorem fl_tell {v : V} {nm : Str} {hd td g : Addr} {n : Int} : (flds v nm hd td g n).lookup ("tellings" : Str) = some (.ref td) := by rfl
theorem fl_going {v : V} {nm : Str} {hd td g : Addr} {n : Int} : (flds v nm hd td g n).lookup ("going" : Str) = some (.ref g) := by rfl
theorem fl_times {v : V} {nm : Str} {hd td g : Addr} {n : Int} : (flds v nm hd td g n).lookup ("times" : Str) = some (.int n) := by rfl
def lettD (nm o : Str) (ms : List Str) : D := .tup [.str nm, .str o, .int 1, .tup [.str nm], tD ms]
theorem hd_at {g : Str} {hs : List Str} {ps : List (Str × Str)} {lks hds : List D} {O : List Str} (T : TownOk g hs ps lks hds) (PO : Pool hs lks hds O) {x : Str} (h : x ∈ hs) : ∃ (j : Nat) (rs : List D), hs[j]? = some x ∧ hds[j]? = some (.tup rs) ∧ rowsOf hs hds x = rs ∧ HandsOk O rs := by
  obtain ⟨j, d, e1, e2, hm⟩ := hds_at T h
  obtain ⟨rs, rfl, hk⟩ := hands_ok2 (T.hands d hm) (PO.hd d hm)
  exact ⟨j, rs, e1, e2, rows_of T.hs_nd e1 e2, hk⟩
def spInit38 (C : Addr) : Sp := fun vs H Q _ => ∃ (p dx : Addr) (v : V) (nm : Str), vs = [.ref p, v, .str nm] ∧ H p = some (.ins C dx []) ∧ ∀ (hd td g e : Addr) (H' : Hp), H hd = none → H td = none → H g = none → H e = none → hd ≠ td → H' p = some (.ins C dx (flds v nm hd td g 0)) → H' hd = some (.dK []) → H' td = some (.dK []) → H' g = some (.tup [.non, .ref e]) → H' e = some (.tup []) → Keep p H H' → Q .non H'
theorem ok_init38 (Y : Ev K mg) : FnOk P w K mg base CX0 1 Y.a_House___init__ Y.d_House___init__ p_House___init__ (spInit38 Y.c_House) := by
  refine Y.House___init__.fn.okQ c_House___init__ (fun vs H Q E h => ?_) (fun cdv A outer s H vs Q E hr h => ?_)
  · obtain ⟨p, dx, v, nm, rfl, _⟩ := h; rfl
  · obtain ⟨p, dx, v, nm, rfl, hp, q⟩ := h
    refine ⟨_, (b_cons (s_fld (qv 0) (qv 1))
      (b_cons (s_fld (qv 0) (qv 2))
      (b_cons (s_fld (qv 0) q_dnew)
      (b_cons (s_fld (qv 0) q_dnew)
      (b_cons (s_fld (qv 0) (q_tup (a_cons q_non (a_cons (q_tup a_nil) a_nil))))
      (b_one (s_fld (qv 0) q_int))))))), ?_⟩
    refine ⟨_, rfl, _, rfl, p, _, dx, [], rfl, hp, Y.k_House, Y.n_House_place, (by decide : 0 < 1000), ?_⟩
    have s1 : Keep p H (upd H p (.ins Y.c_House dx (putF "place" v []))) := Keep.upd _ _ _
    have p1 : upd H p (.ins Y.c_House dx (putF "place" v [])) p = some (.ins Y.c_House dx [("place", v)]) := upd_same
    generalize upd H p (.ins Y.c_House dx (putF "place" v [])) = H1 at *
    refine ⟨_, rfl, _, rfl, p, _, dx, _, rfl, p1, Y.k_House, Y.n_House_name, (by decide : 1 < 1000), ?_⟩
    have s2 : Keep p H (upd H1 p (.ins Y.c_House dx (putF "name" (.str nm) [("place", v)]))) := s1.trans (Keep.upd _ _ _)
    have p2 : upd H1 p (.ins Y.c_House dx (putF "name" (.str nm) [("place", v)])) p = some (.ins Y.c_House dx [("place", v), ("name", .str nm)]) := upd_same
    generalize upd H1 p (.ins Y.c_House dx (putF "name" (.str nm) [("place", v)])) = H2 at *
    have none_of : ∀ {G : Hp} {b : Addr}, H p = some (.ins Y.c_House dx []) → Keep p H G → G b = none → (∃ o, G p = some o) → H b = none := fun {G b} hp k e ⟨o, ho⟩ => by
      cases z : H b with
      | none => rfl
      | some u =>
        have : b ≠ p := fun y => by rw [y, ho] at e; cases e
        rw [k b u this z] at e; cases e
    refine fun hd hhd => ⟨_, rfl, p, _, dx, _, rfl, Same.new hhd _ _ p2, Y.k_House, Y.n_House_hearings, (by decide : 2 < 1000), ?_⟩
    have h1 := none_of hp s2 hhd ⟨_, p2⟩
    have npd : hd ≠ p := fun z => by rw [z, p2] at hhd; cases hhd
    have s3 : Keep p H (upd (upd H2 hd (.dK [])) p (.ins Y.c_House dx (putF "hearings" (.ref hd) [("place", v), ("name", .str nm)]))) := (s2.trans (Keep.new hhd)).trans (Keep.upd _ _ _)
    have p3 : upd (upd H2 hd (.dK [])) p (.ins Y.c_House dx (putF "hearings" (.ref hd) [("place", v), ("name", .str nm)])) p = some (.ins Y.c_House dx [("place", v), ("name", .str nm), ("hearings", .ref hd)]) := upd_same
    have d3 : upd (upd H2 hd (.dK [])) p (.ins Y.c_House dx (putF "hearings" (.ref hd) [("place", v), ("name", .str nm)])) hd = some (.dK []) := by rw [upd_ne npd]; exact upd_same
    generalize upd (upd H2 hd (.dK [])) p (.ins Y.c_House dx (putF "hearings" (.ref hd) [("place", v), ("name", .str nm)])) = H3 at *
    refine fun td htd => ⟨_, rfl, p, _, dx, _, rfl, Same.new htd _ _ p3, Y.k_House, Y.n_House_tellings, (by decide : 3 < 1000), ?_⟩
    have h2 := none_of hp s3 htd ⟨_, p3⟩
    have npt : td ≠ p := fun z => by rw [z, p3] at htd; cases htd
    have nht : hd ≠ td := ne_of_none d3 htd
    have s4 : Keep p H (upd (upd H3 td (.dK [])) p (.ins Y.c_House dx (putF "tellings" (.ref td) [("place", v), ("name", .str nm), ("hearings", .ref hd)]))) := (s3.trans (Keep.new htd)).trans (Keep.upd _ _ _)
    have p4 : upd (upd H3 td (.dK [])) p (.ins Y.c_House dx (putF "tellings" (.ref td) [("place", v), ("name", .str nm), ("hearings", .ref hd)])) p = some (.ins Y.c_House dx [("place", v), ("name", .str nm), ("hearings", .ref hd), ("tellings", .ref td)]) := upd_same
    have d4 : upd (upd H3 td (.dK [])) p (.ins Y.c_House dx (putF "tellings" (.ref td) [("place", v), ("name", .str nm), ("hearings", .ref hd)])) td = some (.dK []) := by rw [upd_ne npt]; exact upd_same
    have d4' : upd (upd H3 td (.dK [])) p (.ins Y.c_House dx (putF "tellings" (.ref td) [("place", v), ("name", .str nm), ("hearings", .ref hd)])) hd = some (.dK []) := by rw [upd_ne npd]; exact Same.new htd _ _ d3
    generalize upd (upd H3 td (.dK [])) p (.ins Y.c_House dx (putF "tellings" (.ref td) [("place", v), ("name", .str nm), ("hearings", .ref hd)])) = H4 at *
    refine ⟨few rfl, fun e he => ⟨few rfl, fun g hg => ?_⟩⟩
    have S5 := Same.new (o := .tup ([] : List V)) he
    have S6 := Same.new (o := .tup [V.non, .ref e]) hg
    have h3 := none_of hp s4 he ⟨_, p4⟩
    have h4 := none_of hp (s4.trans (Keep.of S5)) hg ⟨_, S5 _ _ p4⟩
    refine ⟨_, rfl, p, _, dx, _, rfl, S6 _ _ (S5 _ _ p4), Y.k_House, Y.n_House_going, (by decide : 4 < 1000), _, rfl, p, _, dx, _, rfl, upd_same, Y.k_House, Y.n_House_times, (by decide : 5 < 1000), ?_⟩
    rw [upd_upd]
    have ng : ∀ {b}, H b = none → b ≠ p := fun {b} e z => by rw [z, hp] at e; cases e
    refine q hd td g e _ h1 h2 h4 h3 nht (by rw [upd_same]; rfl) ?_ ?_ ?_ ?_ ?_
    · rw [upd_ne npd]; exact S6 _ _ (S5 _ _ d4')
    · rw [upd_ne npt]; exact S6 _ _ (S5 _ _ d4)
    · rw [upd_ne (ng h4)]; exact upd_same
    · rw [upd_ne (ng h3)]; exact S6 _ _ upd_same
    · exact (s4.trans (Keep.of (S5.trans S6))).trans (Keep.upd _ _ _)
end
end K38

set_option Elab.async false
set_option linter.all false
set_option maxRecDepth 100000
set_option maxHeartbeats 4000000
namespace K38
open PySem PySem.Spec PyProof.Rows L2 RW
local macro_rules | `(tactic| walk_at "cond") => `(tactic| first | assumption | decide | omega | exact few rfl | exact .inl ⟨by decide, by decide⟩ | exact .inr ⟨by decide, by decide⟩ | exact .inl ⟨by omega, by omega⟩ | exact .inr ⟨by omega, by omega⟩ | exact ⟨by omega, by omega⟩ | exact ⟨by assumption, by assumption⟩ | exact ⟨by decide, by decide, by decide⟩ | exact .inr ⟨by split <;> decide, by split <;> decide⟩)
local macro_rules | `(tactic| walk_at "rd") => `(tactic| first | with_reducible_and_instances refine ⟨_, rfl, ?_⟩ | refine ⟨_, rfl, ?_⟩ | refine ⟨_, _, rfl, rfl, ?_⟩ | refine ⟨_, _, _, _, rfl, rfl, SqL.of (by assumption), rfl, ?_⟩ | refine ⟨_, _, _, _, rfl, rfl, (by assumption), rfl, ?_⟩ | refine .inl ⟨_, rfl, ?_⟩ | refine .inr ⟨_, rfl, ?_⟩ | refine .inl ⟨_, _, rfl, .inl (by assumption), ?_⟩ | refine ⟨(by walk_at "cond"), ?_⟩)
local macro_rules | `(tactic| walk_at "dsp") => `(tactic| repeat' (first | exact dsp_str (by decide) | exact dsp_int | exact dsp_bl | exact dsp_non | exact dsp_neg | exact dspA_nil | exact dsp_dnew | exact dsp_disp rfl | exact dsp_var rfl (by assumption) | refine dspA_cons ?_ ?_ | refine dsp_tup ?_ ?_ | refine dsp_lst' ?_ | refine n_cons ?_ ?_ | exact n_nil | exact v_c | exact v_var rfl | refine v_tup ?_ | refine dspl_lst ?_ ?_ | refine dspl_cat ?_ ?_ ?_ | exact dspl_var rfl (by assumption) (by assumption) | exact Nat.le_of_ble_eq_true rfl))
local macro_rules | `(tactic| walk_at "each") => `(tactic| repeat' (first | exact forall_nil | refine List.forall_mem_append.mpr ⟨?_, ?_⟩ | refine List.forall_mem_cons.mpr ⟨?_, ?_⟩))
section
variable {P : Program} {w : World} {K : PySem.W.Frag} {mg : Str → Option Value} {base : Heap}
def spWay38 (C : Addr) (k : Nat) : Sp := fun vs H Q _ => ∃ (p dx hd td g : Addr) (v : V) (nm : Str) (n : Int) (us : List V) (u : V), vs = [.ref p] ∧ H p = some (.ins C dx (flds v nm hd td g n)) ∧ H g = some (.tup us) ∧ us[k]? = some u ∧ Q u H
theorem ok_way38 (Y : Ev K mg) : FnOk P w K mg base CX0 1 Y.a_House_way Y.d_House_way p_House_way (spWay38 Y.c_House 0) := by
  refine Y.House_way.fn.okQ c_House_way (fun vs H Q E h => ?_) (fun cdv A outer s H vs Q E hr h => ?_)
  · obtain ⟨p, dx, hd, td, g, v, nm, n, us, u, rfl, _⟩ := h; rfl
  · obtain ⟨p, dx, hd, td, g, v, nm, n, us, u, rfl, hp, hg, hu, q⟩ := h
    refine ⟨_, (b_one (s_ret (q_ix ix_tup (q_fld (qv 0)) q_int))), ?_⟩
    exact ⟨_, rfl, p, _, dx, _, _, rfl, hp, Y.k_House, Y.n_House_going, fl_going, g, us, 0, u, rfl, rfl, .inl (.inl hg), atI_nat (j := 0) hu, q⟩
theorem ok_marks38 (Y : Ev K mg) : FnOk P w K mg base CX0 1 Y.a_House_marks Y.d_House_marks p_House_marks (spWay38 Y.c_House 1) := by
  refine Y.House_marks.fn.okQ c_House_marks (fun vs H Q E h => ?_) (fun cdv A outer s H vs Q E hr h => ?_)
  · obtain ⟨p, dx, hd, td, g, v, nm, n, us, u, rfl, _⟩ := h; rfl
  · obtain ⟨p, dx, hd, td, g, v, nm, n, us, u, rfl, hp, hg, hu, q⟩ := h
    refine ⟨_, (b_one (s_ret (q_ix ix_tup (q_fld (qv 0)) q_int))), ?_⟩
    exact ⟨_, rfl, p, _, dx, _, _, rfl, hp, Y.k_House, Y.n_House_going, fl_going, g, us, 1, u, rfl, rfl, .inl (.inl hg), atI_nat (j := 1) hu, q⟩
def spHeard38 (C N : Addr) : Sp := fun vs H Q _ => ∃ (p dx hd td g : Addr) (v : V) (nm o : Str) (n : Int), vs = [.ref p, .str o] ∧ H p = some (.ins C dx (flds v nm hd td g n)) ∧ H hd = some (.dK []) ∧ Q (.ref N) H
theorem ok_heard38 (Y : Ev K mg) : FnOk P w K mg base CX0 1 Y.a_House_heard Y.d_House_heard p_House_heard (spHeard38 Y.c_House Y.a_NOTHING) := by
  refine Y.House_heard.fn.okQ c_House_heard (fun vs H Q E h => ?_) (fun cdv A outer s H vs Q E hr h => ?_)
  · obtain ⟨p, dx, hd, td, g, v, nm, o, n, rfl, _⟩ := h; rfl
  · obtain ⟨p, dx, hd, td, g, v, nm, o, n, rfl, hp, hh, q⟩ := h
    refine ⟨_, (b_one (s_ret (q_dget2 (hu1 hr) (q_fld (qv 0)) (qv 1) (q_glob (v := .ref Y.a_NOTHING) Y.m_NOTHING rfl)))), ?_⟩
    exact ⟨_, rfl, p, _, dx, _, _, rfl, hp, Y.k_House, Y.n_House_hearings, fl_hear, hd, rfl, .inl ⟨_, .inl hh⟩, _, rfl, none, DGet.k (k := Sum.inr o) hh, q⟩
def spGoBy38 (C : Addr) : Sp := fun vs H Q _ => ∃ (p dx hd td g g' wt : Addr) (v m m' : V) (nm x : Str) (n : Int), vs = [.ref p, .ref g'] ∧ H p = some (.ins C dx (flds v nm hd td g n)) ∧ H g = some (.tup [.non, m]) ∧ H g' = some (.tup [.ref wt, m']) ∧ H wt = some (.tup [.str x]) ∧ isNameB x = true ∧ ∀ n' : Int, Q .non (upd H p (.ins C dx (flds v nm hd td g' n')))
theorem ok_goby38 (Y : Ev K mg) : FnOk P w K mg base CX0 1 Y.a_House_go_by Y.d_House_go_by p_House_go_by (spGoBy38 Y.c_House) := by
  refine Y.House_go_by.fn.okQ c_House_go_by (fun vs H Q E h => ?_) (fun cdv A outer s H vs Q E hr h => ?_)
  · obtain ⟨p, dx, hd, td, g, g', wt, v, m, m', nm, x, n, rfl, _⟩ := h; rfl
  · obtain ⟨p, dx, hd, td, g, g', wt, v, m, m', nm, x, n, rfl, hp, hg, hg', hw, hx, q⟩ := h
    refine ⟨_, (b_cut (s_if (t_cmp (op_neC (hu64 hr)) (q_ix ix_tup (qv 1) q_int) (q_ix ix_tup (q_fld (qv 0)) q_int)) (b_one (s_fldaug (qv 0) q_int in_add)) b_nil)
      (b_one (s_fld (qv 0) (qv 1)))), ?_⟩
    refine ⟨fun σ' H' => σ' = [some (.ref p), some (.ref g')] ∧ ∃ n', H' = upd H p (.ins Y.c_House dx (flds v nm hd td g n')), ?_, ?_⟩
    · refine ⟨_, rfl, g', _, 0, _, rfl, rfl, .inl (.inl hg'), at0, _, rfl, p, _, dx, _, _, rfl, hp, Y.k_House, Y.n_House_going, fl_going, g, _, 0, _, rfl, rfl, .inl (.inl hg), at0, .tuple [.str x], .none, .tup (.inl (.inl hw)) rfl (fun i v d e1 e2 => ?_), .non, ?_, _, rfl, ?_⟩
      · match i with
        | 0 => cases e1; cases e2; exact .str x (name_strOk hx)
        | i + 1 => cases e1
      · exact Nat.le_trans (Nat.min_le_right _ _) (by rw [PyData.depth]; decide)
      refine if_t ?_ ⟨_, rfl, p, _, dx, _, _, rfl, hp, Y.k_House, Y.n_House_times, fl_times, _, _, rfl, rfl, dx, _, hp, (by decide : 6 < 1000), rfl, _, rfl⟩
      · rw [PyData.eqv]; rfl
    · rintro σ' H1 ⟨rfl, n', rfl⟩
      refine ⟨_, rfl, _, rfl, p, _, dx, _, rfl, upd_same, Y.k_House, Y.n_House_going, (by decide : 6 < 1000), ?_⟩
      rw [upd_upd]
      exact q n'
end
end K38

set_option Elab.async false
set_option linter.all false
set_option maxRecDepth 100000
set_option maxHeartbeats 4000000
namespace K38
open PySem PySem.Spec PyProof.Rows L2 RW
local macro_rules | `(tactic| walk_at "cond") => `(tactic| first | assumption | decide | omega | exact few rfl | exact .inl ⟨by decide, by decide⟩ | exact .inr ⟨by decide, by decide⟩ | exact .inl ⟨by omega, by omega⟩ | exact .inr ⟨by omega, by omega⟩ | exact ⟨by omega, by omega⟩ | exact ⟨by assumption, by assumption⟩ | exact ⟨by decide, by decide, by decide⟩ | exact .inr ⟨by split <;> decide, by split <;> decide⟩)
local macro_rules | `(tactic| walk_at "rd") => `(tactic| first | with_reducible_and_instances refine ⟨_, rfl, ?_⟩ | refine ⟨_, rfl, ?_⟩ | refine ⟨_, _, rfl, rfl, ?_⟩ | refine ⟨_, _, _, _, rfl, rfl, SqL.of (by assumption), rfl, ?_⟩ | refine ⟨_, _, _, _, rfl, rfl, (by assumption), rfl, ?_⟩ | refine .inl ⟨_, rfl, ?_⟩ | refine .inr ⟨_, rfl, ?_⟩ | refine .inl ⟨_, _, rfl, .inl (by assumption), ?_⟩ | refine ⟨(by walk_at "cond"), ?_⟩)
local macro_rules | `(tactic| walk_at "dsp") => `(tactic| repeat' (first | exact dsp_str (by decide) | exact dsp_int | exact dsp_bl | exact dsp_non | exact dsp_neg | exact dspA_nil | exact dsp_dnew | exact dsp_disp rfl | exact dsp_var rfl (by assumption) | refine dspA_cons ?_ ?_ | refine dsp_tup ?_ ?_ | refine dsp_lst' ?_ | refine n_cons ?_ ?_ | exact n_nil | exact v_c | exact v_var rfl | refine v_tup ?_ | refine dspl_lst ?_ ?_ | refine dspl_cat ?_ ?_ ?_ | exact dspl_var rfl (by assumption) (by assumption) | exact Nat.le_of_ble_eq_true rfl))
local macro_rules | `(tactic| walk_at "each") => `(tactic| repeat' (first | exact forall_nil | refine List.forall_mem_append.mpr ⟨?_, ?_⟩ | refine List.forall_mem_cons.mpr ⟨?_, ?_⟩))
section
variable {P : Program} {w : World} {K : PySem.W.Frag} {mg : Str → Option Value} {base : Heap}
/-- what is offered -/
def OffAt (H : Hp) (q : Addr) (nm : Str) : Option (List Str) → Prop
  | none => ∃ e, H q = some (.tup [.non, .ref e]) ∧ H e = some (.tup [])
  | some ms => ∃ wt mp, H q = some (.tup [.ref wt, .ref mp]) ∧ H wt = some (.tup [.str nm]) ∧ H mp = some (.tup (ms.map V.str))
/-- by which way it goes: none, or itself -/
def GoAt (H : Hp) (g : Addr) (nm : Str) : Bool → Prop
  | false => ∃ e, H g = some (.tup [.non, .ref e]) ∧ H e = some (.tup [])
  | true => ∃ wt mt, H g = some (.tup [.ref wt, .ref mt]) ∧ H wt = some (.tup [.str nm]) ∧ H mt = some (.tup [])
theorem GoAt.mono {H H' : Hp} {g : Addr} {nm : Str} {b : Bool} (h : GoAt H g nm b) (m : ∀ c xs, H c = some (.tup xs) → H' c = some (.tup xs)) : GoAt H' g nm b := by
  cases b with
  | false => obtain ⟨e, h1, h2⟩ := h; exact ⟨e, m _ _ h1, m _ _ h2⟩
  | true => obtain ⟨wt, mt, h1, h2, h3⟩ := h; exact ⟨wt, mt, m _ _ h1, m _ _ h2, m _ _ h3⟩
def offOf (hs : List Str) (hds : List D) (nm o : Str) : Bool → Option (List Str)
  | false => none
  | true => handedOf [nm] (some o) (rowsOf hs hds nm) []
def spOffer38 (C : Addr) : Sp := fun vs H Q _ => ∃ (p dx hd td ga : Addr) (v : V) (nm o : Str) (n : Int) (b : Bool) (g : Str) (hs : List Str) (ps : List (Str × Str)) (lks hds : List D) (O : List Str), vs = [.ref p, .str o] ∧ H p = some (.ins C dx (flds v nm hd td ga n)) ∧ Rep H v (townD g hs ps lks hds) ∧ TownOk g hs ps lks hds ∧ Pool hs lks hds O ∧ nm ∈ hs ∧ o ∈ hs ∧ GoAt H ga nm b ∧ ∀ (q : Addr) (H' : Hp), OffAt H' q nm (offOf hs hds nm o b) → Same H H' → Q (.ref q) H'
theorem ok_offer38 (Y : Ev K mg) : FnOk P w K mg base CX0 6 Y.a_House_offer Y.d_House_offer p_House_offer (spOffer38 Y.c_House) := by
  have G_handed : FnOk P w K mg base CX0 5 Y.a_handed Y.d_handed p_handed spHanded := ok_handed Y
  refine Y.House_offer.fn.okQ c_House_offer (fun vs H Q E h => ?_) (fun cdv A outer s H vs Q E hr h => ?_)
  · obtain ⟨p, dx, hd, td, ga, v, nm, o, n, b, g, hs, ps, lks, hds, O, rfl, _⟩ := h; rfl
  · obtain ⟨p, dx, hd, td, ga, v, nm, o, n, b, g, hs, ps, lks, hds, O, rfl, hp, hv, T, PO, hnm, ho, G, q⟩ := h
    refine ⟨_, (b_cons (s_asg (q_fld (qv 0)) (g_tup 2 rfl (gs_cons (g_name 2 c_House_offer.nd) (gs_cons (g_name 3 c_House_offer.nd) gs_nil))))
      (b_cons (s_set 4 c_House_offer.nd (q_if (t_cmp op_isN (qv 2) q_non) q_non (q_call G_handed (hr.mono (by decide)) Y.handed.mg Y.handed.kp Y.handed.b .nil pass0 (a_cons (q_fld (qv 0)) (a_cons (qv 2) (a_cons (qv 3) (a_cons (qv 1) a_nil)))))))
      (b_one (s_ret (q_if (t_cmp op_isN (qv 4) q_non) (q_tup (a_cons q_non (a_cons (q_tup a_nil) a_nil))) (q_tup (a_cons (qv 2) (a_cons (qv 4) a_nil)))))))), ?_⟩
    cases b with
    | false =>
      obtain ⟨e, h1, h2⟩ := G
      refine ⟨_, rfl, p, _, dx, _, _, rfl, hp, Y.k_House, Y.n_House_going, fl_going, ga, _, rfl, .inl (.inl h1), rfl, _, _, rfl, _, _, rfl, rfl, ?_⟩
      refine ⟨_, rfl, rfl, _, rfl, if_t rfl ?_⟩
      refine ⟨_, rfl, rfl, _, rfl, if_t rfl ⟨few rfl, fun e2 he2 => ⟨few rfl, fun q2 hq2 => ?_⟩⟩⟩
      exact q q2 _ ⟨e2, upd_same, Same.new hq2 _ _ upd_same⟩ ((Same.new he2).trans (Same.new hq2))
    | true =>
      obtain ⟨wt, mt, h1, h2, h3⟩ := G
      obtain ⟨j, rs, hj, hdj, er, hk⟩ := hd_at T PO hnm
      refine ⟨_, rfl, p, _, dx, _, _, rfl, hp, Y.k_House, Y.n_House_going, fl_going, ga, _, rfl, .inl (.inl h1), rfl, _, _, rfl, _, _, rfl, rfl, ?_⟩
      refine ⟨_, rfl, rfl, _, rfl, if_f rfl ?_⟩
      refine ⟨_, rfl, p, _, dx, _, _, rfl, hp, Y.k_House, Y.n_House_place, fl_place, _, rfl, _, rfl, _, rfl, v, wt, mt, .str o, nm, [], [], some o, g, hs, ps, lks, hds, j, rs, O, rfl, hv, T, hj, hdj, hk, PO.few, PO.nm, Mr.nil.toMk, h2, h3, .inr ⟨o, rfl, rfl, T.names o ho⟩, fun z hz => by rw [List.mem_singleton.mp hz]; exact T.names nm hnm, by decide, fun u H1 tu s1 => ?_⟩
      have eo : offOf hs hds nm o true = handedOf [nm] (some o) rs [] := by show handedOf [nm] (some o) (rowsOf hs hds nm) [] = _; rw [er]
      rw [eo] at q
      cases e : handedOf [nm] (some o) rs [] with
      | none =>
        rw [e] at tu q
        cases (show u = .non from tu)
        refine ⟨_, rfl, rfl, _, rfl, if_t rfl ⟨few rfl, fun e2 he2 => ⟨few rfl, fun q2 hq2 => ?_⟩⟩⟩
        exact q q2 _ ⟨e2, upd_same, Same.new hq2 _ _ upd_same⟩ (s1.trans ((Same.new he2).trans (Same.new hq2)))
      | some ms =>
        rw [e] at tu q
        obtain ⟨mp, rfl, hmp⟩ := tu
        refine ⟨_, rfl, rfl, _, rfl, if_f rfl ⟨_, rfl, _, rfl, few rfl, fun q2 hq2 => ?_⟩⟩
        have S2 := Same.new (o := .tup [V.ref wt, V.ref mp]) hq2
        exact q q2 _ ⟨wt, mp, upd_same, S2 _ _ (s1 _ _ h2), S2 _ _ hmp⟩ (s1.trans S2)
end
end K38

set_option Elab.async false
set_option linter.all false
set_option maxRecDepth 100000
set_option maxHeartbeats 4000000
namespace K38
open PySem PySem.Spec PyProof.Rows L2 RW
local macro_rules | `(tactic| walk_at "cond") => `(tactic| first | assumption | decide | omega | exact few rfl | exact .inl ⟨by decide, by decide⟩ | exact .inr ⟨by decide, by decide⟩ | exact .inl ⟨by omega, by omega⟩ | exact .inr ⟨by omega, by omega⟩ | exact ⟨by omega, by omega⟩ | exact ⟨by assumption, by assumption⟩ | exact ⟨by decide, by decide, by decide⟩ | exact .inr ⟨by split <;> decide, by split <;> decide⟩)
local macro_rules | `(tactic| walk_at "rd") => `(tactic| first | with_reducible_and_instances refine ⟨_, rfl, ?_⟩ | refine ⟨_, rfl, ?_⟩ | refine ⟨_, _, rfl, rfl, ?_⟩ | refine ⟨_, _, _, _, rfl, rfl, SqL.of (by assumption), rfl, ?_⟩ | refine ⟨_, _, _, _, rfl, rfl, (by assumption), rfl, ?_⟩ | refine .inl ⟨_, rfl, ?_⟩ | refine .inr ⟨_, rfl, ?_⟩ | refine .inl ⟨_, _, rfl, .inl (by assumption), ?_⟩ | refine ⟨(by walk_at "cond"), ?_⟩)
local macro_rules | `(tactic| walk_at "dsp") => `(tactic| repeat' (first | exact dsp_str (by decide) | exact dsp_int | exact dsp_bl | exact dsp_non | exact dsp_neg | exact dspA_nil | exact dsp_dnew | exact dsp_disp rfl | exact dsp_var rfl (by assumption) | refine dspA_cons ?_ ?_ | refine dsp_tup ?_ ?_ | refine dsp_lst' ?_ | refine n_cons ?_ ?_ | exact n_nil | exact v_c | exact v_var rfl | refine v_tup ?_ | refine dspl_lst ?_ ?_ | refine dspl_cat ?_ ?_ ?_ | exact dspl_var rfl (by assumption) (by assumption) | exact Nat.le_of_ble_eq_true rfl))
local macro_rules | `(tactic| walk_at "each") => `(tactic| repeat' (first | exact forall_nil | refine List.forall_mem_append.mpr ⟨?_, ?_⟩ | refine List.forall_mem_cons.mpr ⟨?_, ?_⟩))
section
variable {P : Program} {w : World} {K : PySem.W.Frag} {mg : Str → Option Value} {base : Heap}
theorem name_short8 {x : Str} (h : isNameB x = true) : x.length ≤ 1000 := by
  unfold isNameB at h
  simp only [Bool.and_eq_true, decide_eq_true_eq] at h
  omega
def letsD (hs : List Str) (hds : List D) (nm : Str) (b : Bool) (ts : List Str) : List D := ts.filterMap fun o => (offOf hs hds nm o b).map (lettD nm o)
theorem lets_snoc {hs : List Str} {hds : List D} {nm : Str} {b : Bool} {ts : List Str} {o : Str} : letsD hs hds nm b (ts ++ [o]) = letsD hs hds nm b ts ++ ((offOf hs hds nm o b).map (lettD nm o)).toList := by
  unfold letsD
  rw [List.filterMap_append]
  congr 1
theorem off_ms {g : Str} {hs : List Str} {ps : List (Str × Str)} {lks hds : List D} {O : List Str} (T : TownOk g hs ps lks hds) (PO : Pool hs lks hds O) {nm o : Str} {b : Bool} {ms : List Str} (hn : nm ∈ hs) (e : offOf hs hds nm o b = some ms) : Mr O ms := by
  obtain ⟨j, rs, hj, hdj, er, hk⟩ := hd_at T PO hn
  cases b with
  | false => cases e
  | true =>
    have e' : handedOf [nm] (some o) (rowsOf hs hds nm) [] = some ms := e
    rw [er] at e'
    exact handed_mr hk.2 Mr.nil e'
def spLett38 (C : Addr) : Sp := fun vs H Q _ => ∃ (p dx hd td ga : Addr) (v : V) (nm : Str) (n : Int) (b : Bool) (g : Str) (hs : List Str) (ps : List (Str × Str)) (lks hds : List D) (O : List Str), vs = [.ref p] ∧ H p = some (.ins C dx (flds v nm hd td ga n)) ∧ H td = some (.dK []) ∧ Rep H v (townD g hs ps lks hds) ∧ TownOk g hs ps lks hds ∧ Pool hs lks hds O ∧ nm ∈ hs ∧ GoAt H ga nm b ∧ ∀ (l : Addr) (us : List V) (H' : Hp), H l = none → H' l = some (.lst us) → RepL H' us (letsD hs hds nm b (due hs ps nm)) → (∃ kvs, H' td = some (.dK kvs)) → Keep td H H' → Q (.ref l) H'
theorem ok_lett38 (Y : Ev K mg) : FnOk P w K mg base CX0 7 Y.a_House_letters Y.d_House_letters p_House_letters (spLett38 Y.c_House) := by
  have G_tied : FnOk P w K mg base CX0 1 Y.a_tied Y.d_tied p_tied spTied := ok_tied Y
  have G_House_offer : FnOk P w K mg base CX0 6 Y.a_House_offer Y.d_House_offer p_House_offer (spOffer38 Y.c_House) := ok_offer38 Y
  refine Y.House_letters.fn.okQ c_House_letters (fun vs H Q E h => ?_) (fun cdv A outer s H vs Q E hr h => ?_)
  · obtain ⟨p, dx, hd, td, ga, v, nm, n, b, g, hs, ps, lks, hds, O, rfl, _⟩ := h; rfl
  · obtain ⟨p, dx, hd, td, ga, v, nm, n, b, g, hs, ps, lks, hds, O, rfl, hp, htd, hv, T, PO, hnm, G, q⟩ := h
    refine ⟨_, (b_cons (s_set 1 c_House_letters.nd (q_lst a_nil))
      (b_cons (s_for PassesOwn.never rfl (i_list (q_call G_tied (hr.mono (by decide)) Y.tied.mg Y.tied.kp Y.tied.b .nil pass0 (a_cons (q_fld (qv 0)) (a_cons (q_fld (qv 0)) a_nil)))) (g_name 2 c_House_letters.nd) (b_cons (s_asg (q_dget2 (hu1 hr) (q_fld (qv 0)) (qv 2) (q_glob (v := .ref Y.a_NOTHING) Y.m_NOTHING rfl)) (g_tup 3 rfl (gs_cons (g_name 3 c_House_letters.nd) (gs_cons (g_name 4 c_House_letters.nd) (gs_cons (g_name 5 c_House_letters.nd) gs_nil)))))
      (b_cons (s_set 6 c_House_letters.nd (q_meth (qv 0) Y.k_House Y.House_offer.m G_House_offer (hr.mono (by decide)) Y.House_offer.b .nil pass0 (a_cons (qv 2) a_nil)))
      (b_one (s_if (t_cmp (op_neC (hu64 hr)) (qv 6) (q_tup (a_cons (qv 4) (a_cons (qv 5) a_nil)))) (b_cons (s_dput (hu1 hr) (q_fld (qv 0)) (qv 2) (q_op op_catA (q_tup (a_cons (q_op op_add (qv 3) q_int) a_nil)) (qv 6)))
      (b_one (s_expr (q_bm PySem.F.plainAttrs_list PySem.F.slot_list_append PySem.F.type_list_append mt_append (qv 1) (a_cons (q_op op_catA (q_tup (a_cons (q_fld (qv 0)) (a_cons (qv 2) (a_cons (q_op op_add (qv 3) q_int) a_nil)))) (qv 6)) a_nil))))) b_nil)))))
      (b_one (s_ret (qv 1))))), ?_⟩
    refine ⟨few rfl, fun lf hlf => ?_⟩
    have S1 := Same.new (o := .lst ([] : List V)) hlf
    have nlt : lf ≠ td := Ne.symm (ne_of_none htd hlf)
    have nlp : p ≠ lf := ne_of_none hp hlf
    refine ⟨_, rfl, p, _, dx, _, _, rfl, S1 _ _ hp, Y.k_House, Y.n_House_place, fl_place, _, rfl, p, _, dx, _, _, rfl, S1 _ _ hp, Y.k_House, Y.n_House_name, fl_name, v, nm, g, hs, ps, lks, hds, rfl, hv.same S1, T, fun lt ts H2 hlt ht2 tp tsr s2 => ?_⟩
    have ets := due_eq T tp tsr
    have tnd : ts.Nodup := tp.nodup_iff.mpr (nbrs_nd T nm)
    have tin : ∀ o ∈ ts, o ∈ hs := fun o ho => nbrs_in T (tp.mem_iff.mp ho)
    have tl : ts.length ≤ 10 := by rw [tp.length_eq]; exact nbrs_len T nm
    rw [← ets] at q
    have nltt : lt ≠ td := fun z => by rw [z, S1 _ _ htd] at hlt; cases hlt
    have nltf : lt ≠ lf := fun z => by rw [z, upd_same] at hlt; cases hlt
    refine ⟨lt, rfl, ⟨_, SqL.of ht2⟩, ?_⟩
    refine for_by (wk_list (K := K) (xs := ts.map V.str)) (fun i σ' H' => (∃ o2 o3 o4 o5 o6, σ' = [some (.ref p), some (.ref lf), o2, o3, o4, o5, o6]) ∧ H' lt = some (.lst (ts.map V.str)) ∧ (∃ kvs us, H' td = some (.dK kvs) ∧ kvs.length ≤ i ∧ (∀ x, valV kvs (Sum.inr x) ≠ none → x ∈ ts.take i) ∧ H' lf = some (.lst us) ∧ RepL H' us (letsD hs hds nm b (ts.take i))) ∧ Keep td H H') ?_ ?_ ?_ ?_
    · refine ⟨⟨_, _, _, _, _, rfl⟩, ht2, ⟨[], [], s2 _ _ (S1 _ _ htd), Nat.le_refl _, fun x z => absurd rfl z, s2 _ _ upd_same, RepL.nil⟩, Keep.of (S1.trans s2)⟩
    · rintro i σ' H' ⟨_, h, _⟩
      exact SqL.of h
    · rintro i y σ' H3 hi hy ⟨⟨o2, o3, o4, o5, o6, rfl⟩, ht3, ⟨kvs, us, hk3, kl, kin, hf3, R3⟩, k3⟩
      obtain ⟨o, ho, rfl⟩ : ∃ o, ts[i]? = some o ∧ y = .str o := by
        rw [List.getElem?_map] at hy
        cases e : ts[i]? with
        | none => rw [e] at hy; cases hy
        | some th => rw [e] at hy; cases hy; exact ⟨th, rfl, rfl⟩
      rw [List.length_map] at hi
      have npt : p ≠ td := ne_of hp htd (fun z => nomatch z)
      have hp3 := k3 _ _ npt hp
      have ohs := tin o (List.mem_of_getElem? ho)
      have hn : valV kvs (Sum.inr o) = none := by
        cases e : valV kvs (Sum.inr o) with
        | none => rfl
        | some u =>
          obtain ⟨j, hj, ej⟩ := List.getElem_of_mem (kin o (by rw [e]; exact fun z => nomatch z))
          rw [List.length_take] at hj
          rw [List.getElem_take] at ej
          have := nodup_ix tnd (show ts[j]? = some o by rw [List.getElem?_eq_getElem (by omega), ej]) ho
          omega
      have g3 := DGet.k (k := Sum.inr o) hk3
      rw [hn] at g3
      have tk : ts.take (i + 1) = ts.take i ++ [o] := by rw [List.take_add_one, ho]; rfl
      have kt : ∀ c xs, H c = some (.tup xs) → H3 c = some (.tup xs) := fun c xs e => k3 _ _ (ne_of e htd (fun z => nomatch z)) e
      have hv3 : Rep H3 v (townD g hs ps lks hds) := by
        refine hv.mono ⟨kt, fun c xs e => ⟨xs, k3 _ _ (ne_of e htd (fun z => nomatch z)) e⟩, fun c xs e => ?_⟩
        by_cases z : c = td
        · rw [z]; exact ⟨kvs, hk3⟩
        · exact ⟨xs, k3 _ _ z e⟩
      refine ⟨_, rfl, p, _, dx, _, _, rfl, hp3, Y.k_House, Y.n_House_tellings, fl_tell, td, rfl, .inl ⟨_, .inl hk3⟩, _, rfl, none, g3, ?_⟩
      refine ⟨Y.a_NOTHING, _, rfl, Y.t_NOTHING _, rfl, _, _, rfl, _, _, rfl, _, _, rfl, rfl, ?_⟩
      refine ⟨_, rfl, p, dx, _, rfl, hp3, rfl, _, rfl, p, dx, hd, td, ga, v, nm, o, n, b, g, hs, ps, lks, hds, O, rfl, hp3, hv3, T, PO, hnm, ohs, G.mono kt, fun qa H4 O4 s4 => ?_⟩
      refine ⟨_, rfl, _, rfl, _, rfl, few rfl, fun p5 hp5 => ?_⟩
      have S5 := Same.new (o := .tup [V.non, V.ref Y.e_NOTHING]) hp5
      have s35 := s4.trans S5
      have tN : TrC K (upd H4 p5 (.tup [V.non, V.ref Y.e_NOTHING])) (.ref p5) (.tuple [.none, .tuple []]) := by
        refine .tup (.inl (.inl upd_same)) rfl fun i v d e1 e2 => ?_
        match i with
        | 0 => cases e1; cases e2; exact .non
        | 1 => cases e1; cases e2; exact .tup (Y.u_NOTHING _) rfl fun i v d e1 => by cases e1
        | i + 2 => cases e1
      have dN : (PyData.tuple [.none, .tuple []]).depth ≤ 60 := by
        rw [PyData.depth, PyData.depthAll, PyData.depthAll, PyData.depthAll, PyData.depth, PyData.depth, PyData.depthAll]; decide
      cases eo : offOf hs hds nm o b with
      | none =>
        rw [eo] at O4
        obtain ⟨e, h1, h2⟩ := O4
        have tO : TrC K (upd H4 p5 (.tup [V.non, V.ref Y.e_NOTHING])) (.ref qa) (.tuple [.none, .tuple []]) := by
          refine .tup (.inl (.inl (S5 _ _ h1))) rfl fun i v d e1 e2 => ?_
          match i with
          | 0 => cases e1; cases e2; exact .non
          | 1 => cases e1; cases e2; exact .tup (.inl (.inl (S5 _ _ h2))) rfl fun i v d e1 => by cases e1
          | i + 2 => cases e1
        refine ⟨_, _, tO, tN, Nat.le_trans (Nat.min_le_right _ _) dN, _, rfl, if_f ?_ ?_⟩
        · rw [PyData.eqv, PyData.eqvAll, PyData.eqvAll, PyData.eqvAll, PyData.eqv, PyData.eqv, PyData.eqvAll]; rfl
        · have ls : letsD hs hds nm b (ts.take (i + 1)) = letsD hs hds nm b (ts.take i) := by rw [tk, lets_snoc, eo]; exact List.append_nil _
          refine ⟨⟨_, _, _, _, _, rfl⟩, s35 _ _ ht3, ⟨kvs, us, s35 _ _ hk3, by omega, fun x z => ?_, s35 _ _ hf3, by rw [ls]; exact R3.mono (.of s35)⟩, k3.trans (Keep.of s35)⟩
          rw [tk]; exact List.mem_append_left _ (kin x z)
      | some ms =>
        rw [eo] at O4
        obtain ⟨wt, mp, h1, h2, h3⟩ := O4
        have M := off_ms T PO hnm eo
        have ml := M.toMk.len PO.few
        have tM : ∀ {H' : Hp}, Same H4 H' → TrC K H' (.ref qa) (.tuple [.tuple [.str nm], .tuple (strsPy ms)]) := fun {H'} S' => by
          refine .tup (.inl (.inl (S' _ _ h1))) rfl fun i v d e1 e2 => ?_
          match i with
          | 0 =>
            cases e1; cases e2
            refine .tup (.inl (.inl (S' _ _ h2))) rfl fun i v d e1 e2 => ?_
            match i with
            | 0 => cases e1; cases e2; exact .str nm (name_strOk (T.names nm hnm))
            | i + 1 => cases e1
          | 1 =>
            cases e1; cases e2
            refine .tup (.inl (.inl (S' _ _ h3))) (by unfold strsPy; rw [List.length_map, List.length_map]) fun i v d e1 e2 => ?_
            unfold strsPy at e2
            rw [List.getElem?_map] at e1 e2
            cases e3 : ms[i]? with
            | none => rw [e3] at e1; cases e1
            | some x => rw [e3] at e1 e2; cases e1; cases e2; exact .str x (name_strOk (PO.nm x (M.mem x (List.mem_of_getElem? e3))))
          | i + 2 => cases e1
        refine ⟨_, _, tM S5, tN, Nat.le_trans (Nat.min_le_right _ _) dN, _, rfl, if_t ?_ ?_⟩
        · rw [PyData.eqv, PyData.eqvAll, PyData.eqv]; rfl
        · refine ⟨_, rfl, _, _, rfl, rfl, few rfl, fun p6 hp6 => ⟨_, rfl, p6, qa, _, _, rfl, rfl, .inl (.inl upd_same), .inl (.inl (Same.new hp6 _ _ (S5 _ _ h1))), (Nat.le_of_lt (small1000 (by decide : 3 ≤ 1000))), (fun z => nomatch z), (fun _ z => nomatch z), fun _ _ p7 hp7 => ?_⟩⟩
          have s37 := s35.trans ((Same.new (o := .tup [V.int (0 + 1)]) hp6).trans (Same.new (o := .tup ([V.int (0 + 1)] ++ [V.ref wt, V.ref mp])) hp7))
          have s47 := S5.trans ((Same.new (o := .tup [V.int (0 + 1)]) hp6).trans (Same.new (o := .tup ([V.int (0 + 1)] ++ [V.ref wt, V.ref mp])) hp7))
          generalize (upd (upd (upd H4 p5 (.tup [V.non, V.ref Y.e_NOTHING])) p6 (.tup [V.int (0 + 1)])) p7 (.tup ([V.int (0 + 1)] ++ [V.ref wt, V.ref mp]))) = H7 at *
          have hp7' := s37 _ _ hp3
          have hk7 := s37 _ _ hk3
          refine ⟨_, rfl, p, _, dx, _, _, rfl, hp7', Y.k_House, Y.n_House_tellings, fl_tell, _, rfl, td, _, rfl, .inl ⟨kvs, Sum.inr o, hk7, rfl, small1000 (by omega), rfl⟩, ?_⟩
          have up8 : ∀ (ob : HO) {c : Addr} {u : HO}, c ≠ td → H7 c = some u → upd H7 td ob c = some u := fun ob {c u} n e => by rw [upd_ne n]; exact e
          have nq : ∀ {c xs}, H7 c = some (.tup xs) → c ≠ td := fun {c xs} e => ne_of e hk7 (fun z => nomatch z)
          have nlf : lf ≠ td := nlt
          have hf7 := s37 _ _ hf3
          refine ⟨_, rfl, .inl ⟨rfl, _, SqL.of (up8 _ nlf hf7)⟩, _, rfl, p, _, dx, _, _, rfl, up8 _ npt hp7', Y.k_House, Y.n_House_name, fl_name, _, rfl, _, rfl, _, _, rfl, rfl, few rfl, fun p9 hp9 => ⟨_, rfl, p9, qa, _, _, rfl, rfl, .inl (.inl upd_same), .inl (.inl (Same.new hp9 _ _ (up8 _ (nq (s47 _ _ h1)) (s47 _ _ h1)))), (Nat.le_of_lt (small1000 (by decide : 5 ≤ 1000))), (fun z => nomatch z), (fun _ z => nomatch z), fun _ _ p10 hp10 => ?_⟩⟩
          have S9 := Same.new (o := .tup [V.str nm, V.str o, V.int (0 + 1)]) hp9
          have S10 := Same.new (o := .tup ([V.str nm, V.str o, V.int (0 + 1)] ++ [V.ref wt, V.ref mp])) hp10
          have s810 := S9.trans S10
          have hf10 := s810 _ _ (up8 _ nlf hf7)
          have ht10 := s810 _ _ (up8 _ nltt (s37 _ _ ht3))
          have hk10 := s810 _ _ (upd_same (H := H7) (a := td) (o := .dK (putK kvs (Sum.inr o) (.ref p7))))
          have hw10 := s810 _ _ (up8 _ (nq (s47 _ _ h2)) (s47 _ _ h2))
          have hm10 := s810 _ _ (up8 _ (nq (s47 _ _ h3)) (s47 _ _ h3))
          have m310 : Mono H3 (upd (upd (upd H7 td (.dK (putK kvs (Sum.inr o) (.ref p7)))) p9 (.tup [V.str nm, V.str o, V.int (0 + 1)])) p10 (.tup ([V.str nm, V.str o, V.int (0 + 1)] ++ [V.ref wt, V.ref mp]))) := by
            refine (Mono.of s37).trans ((⟨fun c xs e => up8 _ (nq e) e, fun c xs e => ⟨xs, up8 _ (ne_of e hk7 (fun z => nomatch z)) e⟩, fun c xs e => ?_⟩ : Mono H7 _).trans (Mono.of s810))
            by_cases z : c = td
            · rw [z]; exact ⟨_, upd_same⟩
            · exact ⟨xs, up8 _ z e⟩
          have k10 : Keep td H (upd (upd (upd H7 td (.dK (putK kvs (Sum.inr o) (.ref p7)))) p9 (.tup [V.str nm, V.str o, V.int (0 + 1)])) p10 (.tup ([V.str nm, V.str o, V.int (0 + 1)] ++ [V.ref wt, V.ref mp]))) := (k3.trans ((Keep.of s37).trans (Keep.upd _ _ _))).trans (Keep.of s810)
          have e10 := upd_same (H := upd (upd H7 td (.dK (putK kvs (Sum.inr o) (.ref p7)))) p9 (.tup [V.str nm, V.str o, V.int (0 + 1)])) (a := p10) (o := .tup ([V.str nm, V.str o, V.int (0 + 1)] ++ [V.ref wt, V.ref mp]))
          generalize (upd (upd (upd H7 td (.dK (putK kvs (Sum.inr o) (.ref p7)))) p9 (.tup [V.str nm, V.str o, V.int (0 + 1)])) p10 (.tup ([V.str nm, V.str o, V.int (0 + 1)] ++ [V.ref wt, V.ref mp]))) = H10 at *
          have nlen := name_short8 (T.names nm hnm)
          have olen := name_short8 (T.names o ohs)
          have r10 : Rep H10 (.ref p10) (lettD nm o ms) := by
            refine .mkL e10 (by decide : 5 ≤ 1000) (.cons (.str nm nlen) (.cons (.str o olen) (.cons (.int 1) (.cons ?_ (.cons ?_ .nil)))))
            · exact .mk1 hw10 (.str nm nlen)
            · exact .mkL hm10 (by rw [List.length_map]; omega) (strs_rep fun x hx => name_short8 (PO.nm x (M.mem x hx)))
          have ul := R3.1
          have lsl : (letsD hs hds nm b (ts.take i)).length ≤ 10 := Nat.le_trans (List.length_filterMap_le _ _) (by rw [List.length_take]; omega)
          refine ⟨lf, us, _, rfl, rfl, hf10, small1000 (by omega), ⟨_, _, _, _, _, rfl⟩, ?_, ⟨putK kvs (Sum.inr o) (.ref p7), _, ?_, ?_, fun x z => ?_, upd_same, ?_⟩, ?_⟩
          · rw [upd_ne nltf]; exact ht10
          · rw [upd_ne (Ne.symm nlf)]; exact hk10
          · have := length_putK kvs (Sum.inr o) (.ref p7); omega
          · rw [valV_put] at z
            rw [tk]
            by_cases y : (Sum.inr x : Key) = Sum.inr o
            · rw [Sum.inr.inj y]; exact List.mem_append_right _ (List.mem_singleton.mpr rfl)
            · rw [if_neg y] at z; exact List.mem_append_left _ (kin x z)
          · have ls : letsD hs hds nm b (ts.take (i + 1)) = letsD hs hds nm b (ts.take i) ++ [lettD nm o ms] := by rw [tk, lets_snoc, eo]; rfl
            rw [ls]
            exact ((R3.mono m310).append (.cons r10 .nil)).mono (.lset hf10)
          · exact fun c u nc e => by rw [upd_ne (ne_of_none e hlf)]; exact k10 c u nc e
    · rintro σ' H3 ⟨⟨o2, o3, o4, o5, o6, rfl⟩, ht3, ⟨kvs, us, hk3, kl, kin, hf3, R3⟩, k3⟩
      rw [List.length_map, List.take_length] at R3
      exact ⟨_, rfl, q lf us H3 hlf hf3 R3 ⟨kvs, hk3⟩ k3⟩
end
end K38

set_option Elab.async false
set_option linter.all false
set_option maxRecDepth 100000
set_option maxHeartbeats 4000000
namespace K38
open PySem PySem.Spec PyProof.Rows L2 RW
local macro_rules | `(tactic| walk_at "cond") => `(tactic| first | assumption | decide | omega | exact few rfl | exact .inl ⟨by decide, by decide⟩ | exact .inr ⟨by decide, by decide⟩ | exact .inl ⟨by omega, by omega⟩ | exact .inr ⟨by omega, by omega⟩ | exact ⟨by omega, by omega⟩ | exact ⟨by assumption, by assumption⟩ | exact ⟨by decide, by decide, by decide⟩ | exact .inr ⟨by split <;> decide, by split <;> decide⟩)
local macro_rules | `(tactic| walk_at "rd") => `(tactic| first | with_reducible_and_instances refine ⟨_, rfl, ?_⟩ | refine ⟨_, rfl, ?_⟩ | refine ⟨_, _, rfl, rfl, ?_⟩ | refine ⟨_, _, _, _, rfl, rfl, SqL.of (by assumption), rfl, ?_⟩ | refine ⟨_, _, _, _, rfl, rfl, (by assumption), rfl, ?_⟩ | refine .inl ⟨_, rfl, ?_⟩ | refine .inr ⟨_, rfl, ?_⟩ | refine .inl ⟨_, _, rfl, .inl (by assumption), ?_⟩ | refine ⟨(by walk_at "cond"), ?_⟩)
local macro_rules | `(tactic| walk_at "dsp") => `(tactic| repeat' (first | exact dsp_str (by decide) | exact dsp_int | exact dsp_bl | exact dsp_non | exact dsp_neg | exact dspA_nil | exact dsp_dnew | exact dsp_disp rfl | exact dsp_var rfl (by assumption) | refine dspA_cons ?_ ?_ | refine dsp_tup ?_ ?_ | refine dsp_lst' ?_ | refine n_cons ?_ ?_ | exact n_nil | exact v_c | exact v_var rfl | refine v_tup ?_ | refine dspl_lst ?_ ?_ | refine dspl_cat ?_ ?_ ?_ | exact dspl_var rfl (by assumption) (by assumption) | exact Nat.le_of_ble_eq_true rfl))
local macro_rules | `(tactic| walk_at "each") => `(tactic| repeat' (first | exact forall_nil | refine List.forall_mem_append.mpr ⟨?_, ?_⟩ | refine List.forall_mem_cons.mpr ⟨?_, ?_⟩))
section
variable {P : Program} {w : World} {K : PySem.W.Frag} {mg : Str → Option Value} {base : Heap}
def spBegin38 (C : Addr) : Sp := fun vs H Q _ => ∃ (p dx hd td ga : Addr) (v : V) (nm : Str) (n : Int) (g : Str) (hs : List Str) (ps : List (Str × Str)) (lks hds : List D) (O : List Str), vs = [.ref p] ∧ H p = some (.ins C dx (flds v nm hd td ga n)) ∧ H td = some (.dK []) ∧ Rep H v (townD g hs ps lks hds) ∧ TownOk g hs ps lks hds ∧ Pool hs lks hds O ∧ nm ∈ hs ∧ GoAt H ga nm false ∧
  ∀ (l ga' : Addr) (us : List V) (n' : Int) (H' : Hp), H l = none → H' l = some (.lst us) → RepL H' us (letsD hs hds nm (decide (nm = g)) (due hs ps nm)) → H' p = some (.ins C dx (flds v nm hd td ga' n')) → GoAt H' ga' nm (decide (nm = g)) → (∀ c o, c ≠ p → c ≠ td → H c = some o → H' c = some o) → Q (.ref l) H'
theorem town_goal {H : Hp} {v : V} {g : Str} {hs : List Str} {ps : List (Str × Str)} {lks hds : List D} (h : Rep H v (townD g hs ps lks hds)) : ∃ pt us, v = .ref pt ∧ H pt = some (.tup us) ∧ us[0]? = some (.str g) := by
  obtain ⟨pt, us, rfl, hp, rr, _⟩ := h.ofT
  have h0 : 0 < us.length := by rw [rr.1]; exact Nat.zero_lt_succ _
  have := rr.2 0 us[0] (.str g) (List.getElem?_eq_getElem h0) rfl
  refine ⟨pt, us, rfl, hp, ?_⟩
  rw [List.getElem?_eq_getElem h0]
  cases hh : us[0] with
  | str y => rw [hh] at this; cases this; rfl
  | _ => rw [hh] at this; cases this
theorem ok_begin38 (Y : Ev K mg) : FnOk P w K mg base CX0 8 Y.a_House_begin Y.d_House_begin p_House_begin (spBegin38 Y.c_House) := by
  have G_House_letters : FnOk P w K mg base CX0 7 Y.a_House_letters Y.d_House_letters p_House_letters (spLett38 Y.c_House) := ok_lett38 Y
  have G_House_go_by : FnOk P w K mg base CX0 1 Y.a_House_go_by Y.d_House_go_by p_House_go_by (spGoBy38 Y.c_House) := ok_goby38 Y
  refine Y.House_begin.fn.okQ c_House_begin (fun vs H Q E h => ?_) (fun cdv A outer s H vs Q E hr h => ?_)
  · obtain ⟨p, dx, hd, td, ga, v, nm, n, g, hs, ps, lks, hds, O, rfl, _⟩ := h; rfl
  · obtain ⟨p, dx, hd, td, ga, v, nm, n, g, hs, ps, lks, hds, O, rfl, hp, htd, hv, T, PO, hnm, G, q⟩ := h
    obtain ⟨pt, us, rfl, hpt, h0⟩ := town_goal hv
    have npt : p ≠ td := ne_of hp htd (fun z => nomatch z)
    refine ⟨_, (b_cut (s_if (t_cmp op_eq (q_fld (qv 0)) (q_ix ix_tup (q_fld (qv 0)) q_int)) (b_one (s_expr (q_meth (qv 0) Y.k_House Y.House_go_by.m G_House_go_by (hr.mono (by decide)) Y.House_go_by.b .nil pass0 (a_cons (q_tup (a_cons (q_tup (a_cons (q_fld (qv 0)) a_nil)) (a_cons (q_tup a_nil) a_nil))) a_nil)))) b_nil)
      (b_one (s_ret (q_meth0 (qv 0) Y.k_House Y.House_letters.m G_House_letters (hr.mono (by decide)) Y.House_letters.b .nil pass0)))), ?_⟩
    refine ⟨fun σ' H' => σ' = [some (.ref p)] ∧ ∃ ga' n', H' p = some (.ins Y.c_House dx (flds (.ref pt) nm hd td ga' n')) ∧ GoAt H' ga' nm (decide (nm = g)) ∧ Keep p H H', ?_, ?_⟩
    · refine ⟨_, rfl, p, _, dx, _, _, rfl, hp, Y.k_House, Y.n_House_name, fl_name, _, rfl, p, _, dx, _, _, rfl, hp, Y.k_House, Y.n_House_place, fl_place, pt, us, 0, _, rfl, rfl, .inl (.inl hpt), atI_nat (j := 0) h0, rfl, _, rfl, ?_⟩
      rw [show decide (V.str nm = V.str g) = decide (nm = g) from decide_eq_decide.mpr ⟨fun z => by injection z, fun z => by rw [z]⟩]
      by_cases e : nm = g
      · rw [decide_eq_true e]
        obtain ⟨eg, h1, h2⟩ := G
        refine if_t rfl ⟨_, rfl, p, dx, _, rfl, hp, rfl, _, rfl, p, _, dx, _, _, rfl, hp, Y.k_House, Y.n_House_name, fl_name, few rfl, fun wt hwt => ⟨few rfl, fun mt hmt => ⟨few rfl, fun g' hg' => ?_⟩⟩⟩
        have S1 := Same.new (o := .tup [V.str nm]) hwt
        have S2 := Same.new (o := .tup ([] : List V)) hmt
        have S3 := Same.new (o := .tup [V.ref wt, V.ref mt]) hg'
        have s13 := S1.trans (S2.trans S3)
        have hp3 := s13 _ _ hp
        have e1 := S3 _ _ (S2 _ _ (upd_same (H := H) (a := wt) (o := .tup [V.str nm])))
        have e2 := S3 _ _ (upd_same (H := upd H wt (.tup [V.str nm])) (a := mt) (o := .tup ([] : List V)))
        refine ⟨p, dx, hd, td, ga, g', wt, .ref pt, .ref eg, .ref mt, nm, nm, n, rfl, hp3, s13 _ _ h1, upd_same, e1, T.names nm hnm, fun n' => ⟨rfl, g', n', upd_same, ⟨wt, mt, ?_, ?_, ?_⟩, (Keep.of s13).trans (Keep.upd _ _ _)⟩⟩
        · rw [upd_ne (ne_of upd_same hp3 (fun z => nomatch z))]; exact upd_same
        · rw [upd_ne (ne_of e1 hp3 (fun z => nomatch z))]; exact e1
        · rw [upd_ne (ne_of e2 hp3 (fun z => nomatch z))]; exact e2
      · rw [decide_eq_false e]
        exact if_f rfl ⟨rfl, ga, n, hp, G, Keep.refl _ _⟩
    · rintro σ' H1 ⟨rfl, ga', n', hp1, G1, k1⟩
      have htd1 := k1 _ _ (Ne.symm npt) htd
      have hv1 : Rep H1 (.ref pt) (townD g hs ps lks hds) := hv.mono ⟨fun c xs e => k1 _ _ (ne_of e hp (fun z => nomatch z)) e, fun c xs e => ⟨xs, k1 _ _ (ne_of e hp (fun z => nomatch z)) e⟩, fun c xs e => ⟨xs, k1 _ _ (ne_of e hp (fun z => nomatch z)) e⟩⟩
      refine ⟨_, rfl, p, dx, _, rfl, hp1, rfl, p, dx, hd, td, ga', .ref pt, nm, n', decide (nm = g), g, hs, ps, lks, hds, O, rfl, hp1, htd1, hv1, T, PO, hnm, G1, fun l us2 H2 hl hl2 R2 _ k2 => ?_⟩
      have hl0 : H l = none := by
        cases z : H l with
        | none => rfl
        | some u =>
          by_cases y : l = p
          · rw [y, hp1] at hl; cases hl
          · rw [k1 l u y z] at hl; cases hl
      exact q l ga' us2 n' H2 hl0 hl2 R2 (k2 _ _ npt hp1) (G1.mono fun c xs e => k2 _ _ (ne_of e htd1 (fun z => nomatch z)) e) fun c o n1 n2 e => k2 c o n2 (k1 c o n1 e)
end
end K38

set_option Elab.async false
set_option linter.all false
set_option maxRecDepth 100000
set_option maxHeartbeats 4000000
namespace K38
open PySem PySem.Spec PyProof.Rows L2 RW
local macro_rules | `(tactic| walk_at "cond") => `(tactic| first | assumption | decide | omega | exact few rfl | exact .inl ⟨by decide, by decide⟩ | exact .inr ⟨by decide, by decide⟩ | exact .inl ⟨by omega, by omega⟩ | exact .inr ⟨by omega, by omega⟩ | exact ⟨by omega, by omega⟩ | exact ⟨by assumption, by assumption⟩ | exact ⟨by decide, by decide, by decide⟩ | exact .inr ⟨by split <;> decide, by split <;> decide⟩)
local macro_rules | `(tactic| walk_at "rd") => `(tactic| first | with_reducible_and_instances refine ⟨_, rfl, ?_⟩ | refine ⟨_, rfl, ?_⟩ | refine ⟨_, _, rfl, rfl, ?_⟩ | refine ⟨_, _, _, _, rfl, rfl, SqL.of (by assumption), rfl, ?_⟩ | refine ⟨_, _, _, _, rfl, rfl, (by assumption), rfl, ?_⟩ | refine .inl ⟨_, rfl, ?_⟩ | refine .inr ⟨_, rfl, ?_⟩ | refine .inl ⟨_, _, rfl, .inl (by assumption), ?_⟩ | refine ⟨(by walk_at "cond"), ?_⟩)
local macro_rules | `(tactic| walk_at "dsp") => `(tactic| repeat' (first | exact dsp_str (by decide) | exact dsp_int | exact dsp_bl | exact dsp_non | exact dsp_neg | exact dspA_nil | exact dsp_dnew | exact dsp_disp rfl | exact dsp_var rfl (by assumption) | refine dspA_cons ?_ ?_ | refine dsp_tup ?_ ?_ | refine dsp_lst' ?_ | refine n_cons ?_ ?_ | exact n_nil | exact v_c | exact v_var rfl | refine v_tup ?_ | refine dspl_lst ?_ ?_ | refine dspl_cat ?_ ?_ ?_ | exact dspl_var rfl (by assumption) (by assumption) | exact Nat.le_of_ble_eq_true rfl))
local macro_rules | `(tactic| walk_at "each") => `(tactic| repeat' (first | exact forall_nil | refine List.forall_mem_append.mpr ⟨?_, ?_⟩ | refine List.forall_mem_cons.mpr ⟨?_, ?_⟩))
section
variable {P : Program} {w : World} {K : PySem.W.Frag} {mg : Str → Option Value} {base : Heap}
def spDue38 : Sp := fun vs H Q _ => ∃ (v : V) (nm : Str) (g : Str) (hs : List Str) (ps : List (Str × Str)) (lks hds : List D) (O : List Str), vs = [v, .str nm] ∧ Rep H v (townD g hs ps lks hds) ∧ TownOk g hs ps lks hds ∧ Pool hs lks hds O ∧ nm ∈ hs ∧ ∀ (l : Addr) (us : List V) (H' : Hp), H l = none → H' l = some (.lst us) → RepL H' us (letsD hs hds nm (decide (nm = g)) (due hs ps nm)) → Same H H' → Q (.ref l) H'
theorem str_at {ts : List Str} {i : Nat} {y : V} (h : (ts.map V.str)[i]? = some y) : ∃ o, ts[i]? = some o ∧ y = .str o := by
  rw [List.getElem?_map] at h
  cases e : ts[i]? with
  | none => rw [e] at h; cases h
  | some th => rw [e] at h; cases h; exact ⟨th, rfl, rfl⟩
theorem ok_due38 (Y : Ev K mg) : FnOk P w K mg base CX0 6 Y.a__law_due Y.d__law_due p__law_due spDue38 := by
  have G_tied : FnOk P w K mg base CX0 1 Y.a_tied Y.d_tied p_tied spTied := ok_tied Y
  have G_handed : FnOk P w K mg base CX0 5 Y.a_handed Y.d_handed p_handed spHanded := ok_handed Y
  refine Y._law_due.fn.okQ c__law_due (fun vs H Q E h => ?_) (fun cdv A outer s H vs Q E hr h => ?_)
  · obtain ⟨v, nm, g, hs, ps, lks, hds, O, rfl, _⟩ := h; rfl
  · obtain ⟨v, nm, g, hs, ps, lks, hds, O, rfl, hv, T, PO, hnm, q⟩ := h
    obtain ⟨pt, us0, rfl, hpt, h0⟩ := town_goal hv
    obtain ⟨j, rs, hj, hdj, er, hk⟩ := hd_at T PO hnm
    refine ⟨_, (b_cons (s_set 2 c__law_due.nd (q_lst a_nil))
      (b_cons (s_for PassesOwn.never rfl (i_list (q_call G_tied (hr.mono (by decide)) Y.tied.mg Y.tied.kp Y.tied.b .nil pass0 (a_cons (qv 0) (a_cons (qv 1) a_nil)))) (g_name 3 c__law_due.nd) (b_one (s_if (t_cmp op_eq (qv 1) (q_ix ix_tup (qv 0) q_int)) (b_cons (s_set 4 c__law_due.nd (q_call G_handed (hr.mono (by decide)) Y.handed.mg Y.handed.kp Y.handed.b .nil pass0 (a_cons (qv 0) (a_cons (q_tup (a_cons (qv 1) a_nil)) (a_cons (q_tup a_nil) (a_cons (qv 3) a_nil))))))
      (b_one (s_if (t_cmp op_notN (qv 4) q_non) (b_one (s_expr (q_bm PySem.F.plainAttrs_list PySem.F.slot_list_append PySem.F.type_list_append mt_append (qv 2) (a_cons (q_tup (a_cons (qv 1) (a_cons (qv 3) (a_cons q_int (a_cons (q_tup (a_cons (qv 1) a_nil)) (a_cons (qv 4) a_nil)))))) a_nil)))) b_nil))) b_nil)))
      (b_one (s_ret (qv 2))))), ?_⟩
    refine ⟨few rfl, fun lf hlf => ?_⟩
    have S1 := Same.new (o := .lst ([] : List V)) hlf
    refine ⟨_, rfl, _, rfl, .ref pt, nm, g, hs, ps, lks, hds, rfl, hv.same S1, T, fun lt ts H2 hlt ht2 tp tsr s2 => ?_⟩
    have ets := due_eq T tp tsr
    have tin : ∀ o ∈ ts, o ∈ hs := fun o ho => nbrs_in T (tp.mem_iff.mp ho)
    have tl : ts.length ≤ 10 := by rw [tp.length_eq]; exact nbrs_len T nm
    rw [← ets] at q
    have nltf : lt ≠ lf := fun z => by rw [z, upd_same] at hlt; cases hlt
    refine ⟨lt, rfl, ⟨_, SqL.of ht2⟩, ?_⟩
    refine for_by (wk_list (K := K) (xs := ts.map V.str)) (fun i σ' H' => (∃ o3 o4, σ' = [some (.ref pt), some (.str nm), some (.ref lf), o3, o4]) ∧ H' lt = some (.lst (ts.map V.str)) ∧ (∃ us, H' lf = some (.lst us) ∧ RepL H' us (letsD hs hds nm (decide (nm = g)) (ts.take i))) ∧ Same H H') ?_ ?_ ?_ ?_
    · exact ⟨⟨_, _, rfl⟩, ht2, ⟨[], s2 _ _ upd_same, RepL.nil⟩, S1.trans s2⟩
    · rintro i σ' H' ⟨_, h, _⟩
      exact SqL.of h
    · rintro i y σ' H3 hi hy ⟨⟨o3, o4, rfl⟩, ht3, ⟨us, hf3, R3⟩, s3⟩
      obtain ⟨o, ho, rfl⟩ := str_at hy
      rw [List.length_map] at hi
      have ohs := tin o (List.mem_of_getElem? ho)
      have tk : ts.take (i + 1) = ts.take i ++ [o] := by rw [List.take_add_one, ho]; rfl
      refine ⟨_, rfl, _, rfl, pt, us0, 0, _, rfl, rfl, .inl (.inl (s3 _ _ hpt)), atI_nat (j := 0) h0, rfl, _, rfl, ?_⟩
      rw [show decide (V.str nm = V.str g) = decide (nm = g) from decide_eq_decide.mpr ⟨fun z => by injection z, fun z => by rw [z]⟩]
      by_cases e : nm = g
      · rw [decide_eq_true e] at R3 ⊢
        refine if_t rfl ⟨_, rfl, _, rfl, few rfl, fun wt hwt => ⟨few rfl, fun mt hmt => ?_⟩⟩
        have S4 := Same.new (o := .tup [V.str nm]) hwt
        have S5 := Same.new (o := .tup ([] : List V)) hmt
        have s35 := S4.trans S5
        refine ⟨_, rfl, .ref pt, wt, mt, .str o, nm, [], [], some o, g, hs, ps, lks, hds, j, rs, O, rfl, hv.same (s3.trans s35), T, hj, hdj, hk, PO.few, PO.nm, Mr.nil.toMk, S5 _ _ upd_same, upd_same, .inr ⟨o, rfl, rfl, T.names o ohs⟩, fun z hz => by rw [List.mem_singleton.mp hz]; exact T.names nm hnm, by decide, fun u H6 tu s6 => ?_⟩
        have eo : offOf hs hds nm o true = handedOf [nm] (some o) rs [] := by show handedOf [nm] (some o) (rowsOf hs hds nm) [] = _; rw [er]
        have s36 := s35.trans s6
        cases eh : handedOf [nm] (some o) rs [] with
        | none =>
          rw [eh] at tu
          cases (show u = .non from tu)
          have ls : letsD hs hds nm true (ts.take (i + 1)) = letsD hs hds nm true (ts.take i) := by rw [tk, lets_snoc, eo, eh]; exact List.append_nil _
          refine ⟨_, rfl, rfl, _, rfl, if_f rfl ⟨⟨_, _, rfl⟩, s36 _ _ ht3, ⟨us, s36 _ _ hf3, by rw [ls]; exact R3.mono (.of s36)⟩, s3.trans s36⟩⟩
        | some ms =>
          rw [eh] at tu
          obtain ⟨mp, rfl, hmp⟩ := tu
          have M := off_ms T PO hnm (eo.trans eh)
          have ml := M.toMk.len PO.few
          refine ⟨_, rfl, rfl, _, rfl, if_t rfl ⟨_, rfl, .inl ⟨rfl, _, SqL.of (s36 _ _ hf3)⟩, _, rfl, _, rfl, _, rfl, few rfl, fun w2 hw2 => ⟨_, rfl, few rfl, fun p8 hp8 => ?_⟩⟩⟩
          have S7 := Same.new (o := .tup [V.str nm]) hw2
          have S8 := Same.new (o := .tup [V.str nm, V.str o, V.int 1, V.ref w2, V.ref mp]) hp8
          have s68 := S7.trans S8
          have s38 := s36.trans s68
          have hf8 := s38 _ _ hf3
          have nlen := name_short8 (T.names nm hnm)
          have r8 : Rep (upd (upd H6 w2 (.tup [V.str nm])) p8 (.tup [V.str nm, V.str o, V.int 1, V.ref w2, V.ref mp])) (.ref p8) (lettD nm o ms) := by
            refine .mkL upd_same (by decide : 5 ≤ 1000) (.cons (.str nm nlen) (.cons (.str o (name_short8 (T.names o ohs))) (.cons (.int 1) (.cons ?_ (.cons ?_ .nil)))))
            · exact .mk1 (S8 _ _ upd_same) (.str nm nlen)
            · exact .mkL (s68 _ _ hmp) (by rw [List.length_map]; omega) (strs_rep fun x hx => name_short8 (PO.nm x (M.mem x hx)))
          have ul := R3.1
          have lsl : (letsD hs hds nm true (ts.take i)).length ≤ 10 := Nat.le_trans (List.length_filterMap_le _ _) (by rw [List.length_take]; omega)
          refine ⟨lf, us, _, rfl, rfl, hf8, small1000 (by omega), ⟨_, _, rfl⟩, ?_, ⟨_, upd_same, ?_⟩, fun c u e => ?_⟩
          · rw [upd_ne nltf]; exact s38 _ _ ht3
          · have ls : letsD hs hds nm true (ts.take (i + 1)) = letsD hs hds nm true (ts.take i) ++ [lettD nm o ms] := by rw [tk, lets_snoc, eo, eh]; rfl
            rw [ls]
            exact ((R3.mono (.of s38)).append (.cons r8 .nil)).mono (.lset hf8)
          · rw [upd_ne (ne_of_none e hlf)]; exact s38 _ _ (s3 _ _ e)
      · rw [decide_eq_false e] at R3 ⊢
        have ls : letsD hs hds nm false (ts.take (i + 1)) = letsD hs hds nm false (ts.take i) := by rw [tk, lets_snoc]; exact List.append_nil _
        exact if_f rfl ⟨⟨_, _, rfl⟩, ht3, ⟨us, hf3, by rw [ls]; exact R3⟩, s3⟩
    · rintro σ' H3 ⟨⟨o3, o4, rfl⟩, ht3, ⟨us, hf3, R3⟩, s3⟩
      rw [List.length_map, List.take_length] at R3
      exact ⟨_, rfl, q lf us H3 hlf hf3 R3 s3⟩
def spDeaf38 (C : Addr) : Sp := fun vs H Q _ => ∃ (v : V) (nm : Str) (p dx hd td ga : Addr) (n : Int) (g : Str) (hs : List Str) (ps : List (Str × Str)) (lks hds : List D), vs = [v, .str nm, .ref p] ∧ Rep H v (townD g hs ps lks hds) ∧ TownOk g hs ps lks hds ∧ H p = some (.ins C dx (flds v nm hd td ga n)) ∧ H hd = some (.dK []) ∧ ∀ H', Same H H' → Q (.bl true) H'
theorem ok_deaf38 (Y : Ev K mg) : FnOk P w K mg base CX0 2 Y.a__law_is_deaf Y.d__law_is_deaf p__law_is_deaf (spDeaf38 Y.c_House) := by
  have G_tied : FnOk P w K mg base CX0 1 Y.a_tied Y.d_tied p_tied spTied := ok_tied Y
  have G_House_heard : FnOk P w K mg base CX0 1 Y.a_House_heard Y.d_House_heard p_House_heard (spHeard38 Y.c_House Y.a_NOTHING) := ok_heard38 Y
  refine Y._law_is_deaf.fn.okQ c__law_is_deaf (fun vs H Q E h => ?_) (fun cdv A outer s H vs Q E hr h => ?_)
  · obtain ⟨v, nm, p, dx, hd, td, ga, n, g, hs, ps, lks, hds, rfl, _⟩ := h; rfl
  · obtain ⟨v, nm, p, dx, hd, td, ga, n, g, hs, ps, lks, hds, rfl, hv, T, hp, hh, q⟩ := h
    refine ⟨_, (b_one (s_ret (q_callB (call_allB rfl) Y.all bt_all (a_cons (q_comp (src := [none, some 2]) o__law_is_deaf_1 rfl rfl (i_list (q_call G_tied (hr.mono (by decide)) Y.tied.mg Y.tied.kp Y.tied.b .nil pass0 (a_cons (qv 0) (a_cons (qv 1) a_nil)))) (fun _ _ _ _ _ => (g_name 0 o__law_is_deaf_1.nd)) (fun _ _ _ _ _ => f_nil) (fun _ _ _ _ _ => (q_cmp (op_eqCK (K := K) rfl (hu64 hr)) (q_meth (qc 1) Y.k_House Y.House_heard.m G_House_heard (hr.mono (by decide)) Y.House_heard.b .nil pass0 (a_cons (qv 0) a_nil)) (q_tup (a_cons q_int (a_cons q_non (a_cons (q_tup a_nil) a_nil))))))) a_nil)))), ?_⟩
    refine ⟨_, rfl, _, rfl, v, nm, g, hs, ps, lks, hds, rfl, hv, T, fun lt ts H2 hlt ht2 tp tsr s2 => ?_⟩
    have tl : ts.length ≤ 10 := by rw [tp.length_eq]; exact nbrs_len T nm
    refine ⟨lt, rfl, ⟨_, SqL.of ht2⟩, ?_⟩
    refine comp_S (xs := ts) (f := fun _ => .bl true) (g := fun _ => true) (σr := [some (.ref p)]) (wk_list (K := K)) (fun H' s => SqL.of (s _ _ ht2)) (by omega) rfl (fun y HA Q1 sA hy k => k HA (Same.refl _)) (fun y HA Q1 sA hy _ k => ?_) fun l2 H3 s3 hl20 hb3 => ?_
    · have hpA := sA _ _ (s2 _ _ hp)
      refine ⟨_, rfl, p, dx, _, rfl, hpA, rfl, _, rfl, p, dx, hd, td, ga, v, nm, y, n, rfl, hpA, sA _ _ (s2 _ _ hh), few rfl, fun e he => ⟨few rfl, fun q2 hq2 => ?_⟩⟩
      have S1 := Same.new (o := .tup ([] : List V)) he
      have S2 := Same.new (o := .tup [V.int 0, V.non, V.ref e]) hq2
      refine ⟨.tuple [.int 0, .none, .tuple []], .tuple [.int 0, .none, .tuple []], .tup (Y.t_NOTHING _) rfl (fun i v d e1 e2 => ?_), .tup (.inl (.inl upd_same)) rfl (fun i v d e1 e2 => ?_), ?_, ?_⟩
      · match i with
        | 0 => cases e1; cases e2; exact .int 0
        | 1 => cases e1; cases e2; exact .non
        | 2 => cases e1; cases e2; exact .tup (Y.u_NOTHING _) rfl fun i v d e1 => by cases e1
        | i + 3 => cases e1
      · match i with
        | 0 => cases e1; cases e2; exact .int 0
        | 1 => cases e1; cases e2; exact .non
        | 2 => cases e1; cases e2; exact .tup (.inl (.inl (S2 _ _ upd_same))) rfl fun i v d e1 => by cases e1
        | i + 3 => cases e1
      · refine Nat.le_trans (Nat.min_le_right _ _) ?_
        rw [PyData.depth, PyData.depthAll, PyData.depthAll, PyData.depthAll, PyData.depthAll, PyData.depth, PyData.depth, PyData.depth, PyData.depthAll]; decide
      · rw [show (PyData.tuple [.int 0, .none, .tuple []]).eqv (.tuple [.int 0, .none, .tuple []]) = true by rw [PyData.eqv, PyData.eqvAll, PyData.eqvAll, PyData.eqvAll, PyData.eqvAll, PyData.eqv, PyData.eqv, PyData.eqv, PyData.eqvAll]; rfl]
        exact k _ (S1.trans S2)
    · refine ⟨l2, ts.map fun _ => true, rfl, SqL.of (by rw [hb3, filt1, List.map_map]; rfl), ?_⟩
      rw [show (ts.map fun _ => true).all id = true by rw [List.all_map]; exact List.all_eq_true.mpr fun _ _ => rfl]
      exact q H3 (s2.trans s3)
def spBare38 (C : Addr) : Sp := fun vs H Q _ => ∃ (v : V) (nm : Str) (p dx hd td ga : Addr) (n : Int) (g : Str) (hs : List Str) (ps : List (Str × Str)) (lks hds : List D), vs = [v, .str nm, .ref p] ∧ Rep H v (townD g hs ps lks hds) ∧ TownOk g hs ps lks hds ∧ H p = some (.ins C dx (flds v nm hd td ga n)) ∧ H hd = some (.dK []) ∧ GoAt H ga nm false ∧ ∀ H', Same H H' → Q (.bl true) H'
theorem eqv00 : (PyData.tuple []).eqv (.tuple []) = true := by rw [PyData.eqv, PyData.eqvAll]
theorem ok_bare38 (Y : Ev K mg) : FnOk P w K mg base CX0 3 Y.a__law_is_bare Y.d__law_is_bare p__law_is_bare (spBare38 Y.c_House) := by
  have G__law_is_deaf : FnOk P w K mg base CX0 2 Y.a__law_is_deaf Y.d__law_is_deaf p__law_is_deaf (spDeaf38 Y.c_House) := ok_deaf38 Y
  have G_House_way : FnOk P w K mg base CX0 1 Y.a_House_way Y.d_House_way p_House_way (spWay38 Y.c_House 0) := ok_way38 Y
  have G_House_marks : FnOk P w K mg base CX0 1 Y.a_House_marks Y.d_House_marks p_House_marks (spWay38 Y.c_House 1) := ok_marks38 Y
  refine Y._law_is_bare.fn.okQ c__law_is_bare (fun vs H Q E h => ?_) (fun cdv A outer s H vs Q E hr h => ?_)
  · obtain ⟨v, nm, p, dx, hd, td, ga, n, g, hs, ps, lks, hds, rfl, _⟩ := h; rfl
  · obtain ⟨v, nm, p, dx, hd, td, ga, n, g, hs, ps, lks, hds, rfl, hv, T, hp, hh, ⟨e, h1, h2⟩, q⟩ := h
    refine ⟨_, (b_cons (s_if (t_w (w_or (t_cmp op_notN (q_meth0 (qv 2) Y.k_House Y.House_way.m G_House_way (hr.mono (by decide)) Y.House_way.b .nil pass0) q_non) (w_or1 (t_cmp (op_neD (hu64 hr)) (q_meth0 (qv 2) Y.k_House Y.House_marks.m G_House_marks (hr.mono (by decide)) Y.House_marks.b .nil pass0) (q_tup a_nil))))) (b_one (s_ret q_bl)) b_nil)
      (b_one (s_ret (q_call G__law_is_deaf (hr.mono (by decide)) Y._law_is_deaf.mg Y._law_is_deaf.kp Y._law_is_deaf.b .nil pass0 (a_cons (qv 0) (a_cons (qv 1) (a_cons (qv 2) a_nil))))))), ?_⟩
    refine ⟨_, rfl, p, dx, _, rfl, hp, rfl, p, dx, hd, td, ga, v, nm, n, _, .non, rfl, hp, h1, rfl, rfl, _, rfl, if_f rfl ?_⟩
    refine ⟨_, rfl, p, dx, _, rfl, hp, rfl, p, dx, hd, td, ga, v, nm, n, _, .ref e, rfl, hp, h1, rfl, few rfl, fun e2 he2 => ?_⟩
    have S2 := Same.new (o := .tup ([] : List V)) he2
    refine ⟨_, _, tr_tup0 (S2 _ _ h2), tr_tup0 upd_same, Nat.le_trans (Nat.min_le_right _ _) depth0, _, rfl, if_f (by rw [eqv00]; rfl) ?_⟩
    exact ⟨_, rfl, _, rfl, _, rfl, v, nm, p, dx, hd, td, ga, n, g, hs, ps, lks, hds, rfl, hv.same S2, T, S2 _ _ hp, S2 _ _ hh, fun H3 s3 => q H3 (S2.trans s3)⟩
end
end K38

set_option Elab.async false
set_option linter.all false
set_option maxRecDepth 100000
set_option maxHeartbeats 4000000
namespace K38
open PySem PySem.Spec PyProof.Rows L2 RW
local macro_rules | `(tactic| walk_at "cond") => `(tactic| first | assumption | decide | omega | exact few rfl | exact .inl ⟨by decide, by decide⟩ | exact .inr ⟨by decide, by decide⟩ | exact .inl ⟨by omega, by omega⟩ | exact .inr ⟨by omega, by omega⟩ | exact ⟨by omega, by omega⟩ | exact ⟨by assumption, by assumption⟩ | exact ⟨by decide, by decide, by decide⟩ | exact .inr ⟨by split <;> decide, by split <;> decide⟩)
local macro_rules | `(tactic| walk_at "rd") => `(tactic| first | with_reducible_and_instances refine ⟨_, rfl, ?_⟩ | refine ⟨_, rfl, ?_⟩ | refine ⟨_, _, rfl, rfl, ?_⟩ | refine ⟨_, _, _, _, rfl, rfl, SqL.of (by assumption), rfl, ?_⟩ | refine ⟨_, _, _, _, rfl, rfl, (by assumption), rfl, ?_⟩ | refine .inl ⟨_, rfl, ?_⟩ | refine .inr ⟨_, rfl, ?_⟩ | refine .inl ⟨_, _, rfl, .inl (by assumption), ?_⟩ | refine ⟨(by walk_at "cond"), ?_⟩)
local macro_rules | `(tactic| walk_at "dsp") => `(tactic| repeat' (first | exact dsp_str (by decide) | exact dsp_int | exact dsp_bl | exact dsp_non | exact dsp_neg | exact dspA_nil | exact dsp_dnew | exact dsp_disp rfl | exact dsp_var rfl (by assumption) | refine dspA_cons ?_ ?_ | refine dsp_tup ?_ ?_ | refine dsp_lst' ?_ | refine n_cons ?_ ?_ | exact n_nil | exact v_c | exact v_var rfl | refine v_tup ?_ | refine dspl_lst ?_ ?_ | refine dspl_cat ?_ ?_ ?_ | exact dspl_var rfl (by assumption) (by assumption) | exact Nat.le_of_ble_eq_true rfl))
local macro_rules | `(tactic| walk_at "each") => `(tactic| repeat' (first | exact forall_nil | refine List.forall_mem_append.mpr ⟨?_, ?_⟩ | refine List.forall_mem_cons.mpr ⟨?_, ?_⟩))
section
variable {P : Program} {w : World} {K : PySem.W.Frag} {mg : Str → Option Value} {base : Heap}
theorem lett_ok {hs : List Str} {hds : List D} {nm : Str} {b : Bool} {ts : List Str} {g : Str} {ps : List (Str × Str)} {lks : List D} {O : List Str} (T : TownOk g hs ps lks hds) (PO : Pool hs lks hds O) (hn : nm ∈ hs) (ht : ∀ o ∈ ts, o ∈ hs) : ∀ d ∈ letsD hs hds nm b ts, okD d = true := by
  intro d hd
  obtain ⟨o, ho, e⟩ := List.mem_filterMap.mp hd
  cases eo : offOf hs hds nm o b with
  | none => rw [eo] at e; cases e
  | some ms =>
    rw [eo] at e
    cases e
    have M := off_ms T PO hn eo
    have h1 := name_strOk (T.names nm hn)
    have h2 := name_strOk (T.names o (ht o ho))
    have h3 : okL (ms.map D.str) = true := okL_of fun d hd => by
      obtain ⟨x, hx, rfl⟩ := List.mem_map.mp hd
      rw [okD]; exact name_strOk (PO.nm x (M.mem x hx))
    show okD (.tup [.str nm, .str o, .int 1, .tup [.str nm], .tup (ms.map D.str)]) = true
    rw [okD, okL, okL, okL, okL, okL, okL, okD, okD, okD, okD, okL, okL, okD, okD, h1, h2, h3]; rfl
theorem lett_dep {nm o : Str} {ms : List Str} : (pyD (lettD nm o ms)).depth ≤ 10 := by
  have key : ∀ xs : List Str, PyData.depthAll (pyL (xs.map D.str)) ≤ 5 := fun xs => by
    induction xs with
    | nil => rw [List.map_nil, pyL, PyData.depthAll]; decide
    | cons x xs ih => rw [List.map_cons, pyL, PyData.depthAll, pyD, PyData.depth]; omega
  have := key ms
  show (pyD (.tup [.str nm, .str o, .int 1, .tup [.str nm], .tup (ms.map D.str)])).depth ≤ 10
  rw [pyD, pyL, pyL, pyL, pyL, pyL, pyL, pyD, pyD, pyD, pyD, pyL, pyL, pyD, pyD, PyData.depth, PyData.depthAll, PyData.depthAll, PyData.depthAll, PyData.depthAll, PyData.depthAll, PyData.depthAll, PyData.depth, PyData.depth, PyData.depth, PyData.depth, PyData.depthAll, PyData.depthAll, PyData.depth, PyData.depth]
  omega
theorem lets_dep {hs : List Str} {hds : List D} {nm : Str} {b : Bool} {ts : List Str} : (PyData.list ((letsD hs hds nm b ts).map pyD)).depth ≤ 60 := by
  have : ∀ ds : List D, (∀ d ∈ ds, (pyD d).depth ≤ 10) → PyData.depthAll (ds.map pyD) ≤ 20 := fun ds => by
    induction ds with
    | nil => intro _; rw [List.map_nil, PyData.depthAll]; decide
    | cons d ds ih =>
      intro h
      have h1 := h d List.mem_cons_self
      have h2 := ih fun x hx => h x (List.mem_cons_of_mem _ hx)
      rw [List.map_cons, PyData.depthAll]; omega
  have := this (letsD hs hds nm b ts) fun d hd => by
    obtain ⟨o, _, e⟩ := List.mem_filterMap.mp hd
    cases eo : offOf hs hds nm o b with
    | none => rw [eo] at e; cases e
    | some ms => rw [eo] at e; cases e; exact lett_dep
  rw [PyData.depth]; omega
def spLaw (K : PySem.W.Frag) : Sp := fun vs H Q _ => ∃ (a : Addr) (ns : List Int), vs = [.ref a] ∧ SqL K H a (ns.map V.int) ∧ ns.length ≤ 63 ∧ ∀ H', Q (.bl true) H'
theorem ok_law_of (Y : Ev K mg) {fl : Addr} {fdl : FuncData} (FL : Fun K "law" "law" s_law fl fdl) : FnOk P w K mg base CX0 9 fl fdl p_law (spLaw K) := by
  have G__law_all : FnOk P w K mg base CX0 2 Y.a__law_all Y.d__law_all p__law_all (spAll38 K) := ok_all38 Y
  have G__law_town : FnOk P w K mg base CX0 6 Y.a__law_town Y.d__law_town p__law_town spTown := ok_town Y
  have G_House___init__ : FnOk P w K mg base CX0 1 Y.a_House___init__ Y.d_House___init__ p_House___init__ (spInit38 Y.c_House) := ok_init38 Y
  have G__law_is_bare : FnOk P w K mg base CX0 3 Y.a__law_is_bare Y.d__law_is_bare p__law_is_bare (spBare38 Y.c_House) := ok_bare38 Y
  have G__law_is_deaf : FnOk P w K mg base CX0 2 Y.a__law_is_deaf Y.d__law_is_deaf p__law_is_deaf (spDeaf38 Y.c_House) := ok_deaf38 Y
  have G_House_begin : FnOk P w K mg base CX0 8 Y.a_House_begin Y.d_House_begin p_House_begin (spBegin38 Y.c_House) := ok_begin38 Y
  have G__law_due : FnOk P w K mg base CX0 6 Y.a__law_due Y.d__law_due p__law_due spDue38 := ok_due38 Y
  have G_House_way : FnOk P w K mg base CX0 1 Y.a_House_way Y.d_House_way p_House_way (spWay38 Y.c_House 0) := ok_way38 Y
  have G_House_marks : FnOk P w K mg base CX0 1 Y.a_House_marks Y.d_House_marks p_House_marks (spWay38 Y.c_House 1) := ok_marks38 Y
  refine FL.okQ c_law (fun vs H Q E h => ?_) (fun cdv A outer s H vs Q E hr h => ?_)
  · obtain ⟨a, ns, rfl, _⟩ := h; rfl
  · obtain ⟨b, ns, rfl, hS, hns, q⟩ := h
    refine ⟨_, (b_cons (s_set 1 c_law.nd (q_call G__law_all (hr.mono (by decide)) Y._law_all.mg Y._law_all.kp Y._law_all.b .nil pass0 (a_cons (qv 0) a_nil)))
      (b_cons (s_set 2 c_law.nd (q_call G__law_town (hr.mono (by decide)) Y._law_town.mg Y._law_town.kp Y._law_town.b .nil pass0 (a_cons (qv 1) a_nil)))
      (b_cons (s_for PassesOwn.never rfl (i_tup (q_ix ix_tup (qv 2) q_int)) (g_name 3 c_law.nd) (b_cons (s_set 4 c_law.nd (q_make Y.mk_House G_House___init__ (hr.mono (by decide)) Y.m_House Y.House___init__.b .nil pass0 (a_cons (qv 2) (a_cons (qv 3) a_nil))))
      (b_cons (s_set 5 c_law.nd (q_make Y.mk_House G_House___init__ (hr.mono (by decide)) Y.m_House Y.House___init__.b .nil pass0 (a_cons (qv 2) (a_cons (qv 3) a_nil))))
      (b_cons (s_if (t_not (t_val (q_call G__law_is_bare (hr.mono (by decide)) Y._law_is_bare.mg Y._law_is_bare.kp Y._law_is_bare.b .nil pass0 (a_cons (qv 2) (a_cons (qv 3) (a_cons (qv 4) a_nil)))))) (b_one (s_ret q_bl)) b_nil)
      (b_cons (s_set 6 c_law.nd (q_meth0 (qv 4) Y.k_House Y.House_begin.m G_House_begin (hr.mono (by decide)) Y.House_begin.b .nil pass0))
      (b_cons (s_if (t_w (w_or (t_not (t_val (q_callB call_isi Y.isinstance bt_isinstance (a_cons (qv 6) (a_cons (q_ty Y.list bt_list) a_nil))))) (w_or (t_cmp (op_neD (hu64 hr)) (qv 6) (q_call G__law_due (hr.mono (by decide)) Y._law_due.mg Y._law_due.kp Y._law_due.b .nil pass0 (a_cons (qv 2) (a_cons (qv 3) a_nil)))) (w_or1 (t_not (t_val (q_call G__law_is_bare (hr.mono (by decide)) Y._law_is_bare.mg Y._law_is_bare.kp Y._law_is_bare.b .nil pass0 (a_cons (qv 2) (a_cons (qv 3) (a_cons (qv 5) a_nil)))))))))) (b_one (s_ret q_bl)) b_nil)
      (b_cons (s_expr (q_bm0 PySem.F.plainAttrs_list PySem.F.slot_list_clear PySem.F.type_list_clear mt_clear (qv 6)))
      (b_cut (s_if (t_cmp op_eq (qv 3) (q_ix ix_tup (qv 2) q_int)) (b_one (s_if (t_w (w_or (t_cmp (op_neD (hu64 hr)) (q_meth0 (qv 4) Y.k_House Y.House_way.m G_House_way (hr.mono (by decide)) Y.House_way.b .nil pass0) (q_tup (a_cons (qv 3) a_nil))) (w_or (t_cmp (op_neD (hu64 hr)) (q_meth0 (qv 4) Y.k_House Y.House_marks.m G_House_marks (hr.mono (by decide)) Y.House_marks.b .nil pass0) (q_tup a_nil)) (w_or1 (t_not (t_val (q_call G__law_is_deaf (hr.mono (by decide)) Y._law_is_deaf.mg Y._law_is_deaf.kp Y._law_is_deaf.b .nil pass0 (a_cons (qv 2) (a_cons (qv 3) (a_cons (qv 4) a_nil)))))))))) (b_one (s_ret q_bl)) b_nil)) (b_one (s_if (t_not (t_val (q_call G__law_is_bare (hr.mono (by decide)) Y._law_is_bare.mg Y._law_is_bare.kp Y._law_is_bare.b .nil pass0 (a_cons (qv 2) (a_cons (qv 3) (a_cons (qv 4) a_nil)))))) (b_one (s_ret q_bl)) b_nil)))
      (b_one (s_if (t_cmp (op_neD (hu64 hr)) (q_meth0 (qv 5) Y.k_House Y.House_begin.m G_House_begin (hr.mono (by decide)) Y.House_begin.b .nil pass0) (q_call G__law_due (hr.mono (by decide)) Y._law_due.mg Y._law_due.kp Y._law_due.b .nil pass0 (a_cons (qv 2) (a_cons (qv 3) a_nil)))) (b_one (s_ret q_bl)) b_nil))))))))))
      (b_one (s_ret q_bl))))), ?_⟩
    refine ⟨_, rfl, b, ns, rfl, hS, hns, fun a H1 ha hH1 s1 => ?_⟩
    refine ⟨_, rfl, a, 0, rfl, hH1, by decide, fun v g hs ps lks hds H2 hv T _ ⟨O, PO⟩ _ _ hH2 k2 => ?_⟩
    obtain ⟨pt, us0, rfl, hpt, h0⟩ := town_goal hv
    obtain ⟨ph, e1, hph⟩ : ∃ ph, us0[1]? = some (.ref ph) ∧ H2 ph = some (.tup (hs.map V.str)) := by
      obtain ⟨pt', us', e, hp', rr, _⟩ := hv.ofT
      cases e
      rw [hpt] at hp'; cases hp'
      have hl : 1 < us0.length := by rw [rr.1]; exact (by decide : 1 < 5)
      obtain ⟨ph, e, hph⟩ := rep_strs (rr.2 1 us0[1] (.tup (hs.map D.str)) (List.getElem?_eq_getElem hl) rfl)
      exact ⟨ph, by rw [List.getElem?_eq_getElem hl, e], hph⟩
    refine ⟨_, rfl, pt, us0, 1, _, rfl, rfl, .inl (.inl hpt), atI_nat (j := 1) e1, ph, rfl, ⟨_, .inl (.inl hph)⟩, ?_⟩
    refine for_by (wk_tup (K := K) (xs := hs.map V.str)) (fun i σ' H' => (∃ o3 o4 o5 o6, σ' = [some (.ref b), some (.ref a), some (.ref pt), o3, o4, o5, o6]) ∧ Same H2 H') ⟨⟨_, _, _, _, rfl⟩, Same.refl _⟩ ?_ ?_ ?_
    · rintro i σ' H' ⟨_, s'⟩
      exact .inl (.inl (s' _ _ hph))
    · rintro i y σ' H3 hi hy ⟨⟨o3, o4, o5, o6, rfl⟩, s3⟩
      obtain ⟨nm, hnm, rfl⟩ := str_at hy
      have hnm := List.mem_of_getElem? hnm
      have dts : ∀ o ∈ due hs ps nm, o ∈ hs := fun o ho => (List.mem_filter.mp ho).1
      refine ⟨_, rfl, _, rfl, fun p dx np ndx nex => ⟨p, dx, .ref pt, nm, rfl, upd_same, fun hd td ga e H4 f1 f2 f3 f4 nht hp4 hh4 ht4 hg4 he4 k4 => ⟨rfl, ?_⟩⟩⟩
      have u34 : Same H3 (upd (upd H3 dx (.own p)) p (.ins Y.c_House dx [])) := fun c o z => by rw [upd_ne (ne_of_none z np), upd_ne (ne_of_none z ndx)]; exact z
      have s34 : Same H3 H4 := fun c o z => k4 c o (ne_of_none z np) (u34 _ _ z)
      have f2' : H3 td = none := u34.free f2
      clear f1 f2 f3 f4 k4 u34
      refine ⟨_, rfl, _, rfl, fun p2 dx2 np2 ndx2 nex2 => ⟨p2, dx2, .ref pt, nm, rfl, upd_same, fun hd2 td2 ga2 e2 H5 g1 g2 g3 g4 nht2 hp5 hh5 ht5 hg5 he5 k5 => ⟨rfl, ?_⟩⟩⟩
      have u45 : Same H4 (upd (upd H4 dx2 (.own p2)) p2 (.ins Y.c_House dx2 [])) := fun c o z => by rw [upd_ne (ne_of_none z np2), upd_ne (ne_of_none z ndx2)]; exact z
      have s45 : Same H4 H5 := fun c o z => k5 c o (ne_of_none z np2) (u45 _ _ z)
      have ntt : td ≠ td2 := ne_of_none (u45 _ _ ht4) g2
      have nth : td ≠ hd2 := ne_of_none (u45 _ _ ht4) g1
      have npp : p ≠ p2 := ne_of_none hp4 np2
      have n2 : H3 p2 = none := s34.free np2
      have n2t : H3 td2 = none := s34.free (u45.free g2)
      clear g1 g2 g3 g4 k5 u45
      have s25 := s3.trans (s34.trans s45)
      refine ⟨_, rfl, _, rfl, _, rfl, .ref pt, nm, p, dx, hd, td, ga, 0, g, hs, ps, lks, hds, rfl, hv.same s25, T, s45 _ _ hp4, s45 _ _ hh4, ⟨e, s45 _ _ hg4, s45 _ _ he4⟩, fun H6 s6 => ⟨_, rfl, if_f rfl ?_⟩⟩
      have s46 := s45.trans s6
      have hp6 := s46 _ _ hp4
      have ht6 := s46 _ _ ht4
      refine ⟨_, rfl, p, dx, _, rfl, hp6, rfl, p, dx, hd, td, ga, .ref pt, nm, 0, g, hs, ps, lks, hds, O, rfl, hp6, ht6, hv.same (s25.trans s6), T, PO, hnm, ⟨e, s46 _ _ hg4, s46 _ _ he4⟩, fun l ga' us n' H7 hl hl7 R7 hp7 G7 k7 => ?_⟩
      have t7 : ∀ {c xs}, H6 c = some (.tup xs) → H7 c = some (.tup xs) := fun {c xs} z => k7 _ _ (ne_of z hp6 (fun z => nomatch z)) (ne_of z ht6 (fun z => nomatch z)) z
      have k37 : ∀ c o, H3 c = some o → H7 c = some o := fun c o z => k7 c o (ne_of_none z np) (ne_of_none z f2') (s46 _ _ (s34 _ _ z))
      have hv7 : Rep H7 (.ref pt) (townD g hs ps lks hds) := (hv.same s3).same k37
      have hl3 : H3 l = none := s34.free (s46.free hl)
      have okl := lett_ok (b := decide (nm = g)) T PO hnm dts
      refine ⟨_, rfl, .ref l, "list", _, true, rfl, .lst hl7, rfl, _, rfl, if_f rfl ?_⟩
      refine ⟨_, rfl, _, rfl, _, rfl, .ref pt, nm, g, hs, ps, lks, hds, O, rfl, hv7, T, PO, hnm, fun l2 us2 H8 hl2 hl8 R8 s8 => ⟨_, _, tr_list (s8 _ _ hl7) (R7.mono (.of s8)) okl, tr_list hl8 R8 okl, Nat.le_trans (Nat.min_le_right _ _) lets_dep, _, rfl, if_f (by rw [eqv_list]; rfl) ?_⟩⟩
      have hp27 := k7 _ _ (Ne.symm npp) (ne_of (s6 _ _ hp5) ht6 (fun z => nomatch z)) (s6 _ _ hp5)
      have hh27 := k7 _ _ (ne_of (s6 _ _ hh5) hp6 (fun z => nomatch z)) (Ne.symm nth) (s6 _ _ hh5)
      have ht27 := k7 _ _ (ne_of (s6 _ _ ht5) hp6 (fun z => nomatch z)) (Ne.symm ntt) (s6 _ _ ht5)
      have hg27 := t7 (s6 _ _ hg5)
      have he27 := t7 (s6 _ _ he5)
      have hh7 := k7 _ _ (ne_of (s46 _ _ hh4) hp6 (fun z => nomatch z)) nht (s46 _ _ hh4)
      refine ⟨_, rfl, _, rfl, _, rfl, .ref pt, nm, p2, dx2, hd2, td2, ga2, 0, g, hs, ps, lks, hds, rfl, hv7.same s8, T, s8 _ _ hp27, s8 _ _ hh27, ⟨e2, s8 _ _ hg27, s8 _ _ he27⟩, fun H9 s9 => ⟨_, rfl, if_f rfl ?_⟩⟩
      have s79 := s8.trans s9
      have hl9 := s79 _ _ hl7
      refine ⟨_, rfl, .inl ⟨rfl, _, SqL.of hl9⟩, l, _, rfl, rfl, hl9, ?_⟩
      have nl : ∀ {c o}, H9 c = some o → (∀ xs, o ≠ .lst xs) → upd H9 l (.lst []) c = some o := fun {c o} z n => by rw [upd_ne (ne_of z hl9 (n _))]; exact z
      have k310 : ∀ c o, H3 c = some o → upd H9 l (.lst []) c = some o := fun c o z => by rw [upd_ne (ne_of_none z hl3)]; exact s79 _ _ (k37 _ _ z)
      have hp10 := nl (s79 _ _ hp7) (fun _ z => nomatch z)
      have hh10 := nl (s79 _ _ hh7) (fun _ z => nomatch z)
      have G10 : GoAt (upd H9 l (.lst [])) ga' nm (decide (nm = g)) := G7.mono fun c xs z => nl (s79 _ _ z) (fun _ z => nomatch z)
      have hp210 := nl (s79 _ _ hp27) (fun _ z => nomatch z)
      have ht210 := nl (s79 _ _ ht27) (fun _ z => nomatch z)
      have hg210 := nl (s79 _ _ hg27) (fun _ z => nomatch z)
      have he210 := nl (s79 _ _ he27) (fun _ z => nomatch z)
      generalize upd H9 l (.lst []) = H10 at *
      have hv10 : Rep H10 (.ref pt) (townD g hs ps lks hds) := (hv.same s3).same k310
      have hpt10 := k310 _ _ (s3 _ _ hpt)
      refine ⟨fun σ' H' => (σ' = [some (.ref b), some (.ref a), some (.ref pt), some (.str nm), some (.ref p), some (.ref p2), some (.ref l)]) ∧ Same H10 H', ?_, ?_⟩
      · refine ⟨_, rfl, _, rfl, pt, us0, 0, _, rfl, rfl, .inl (.inl hpt10), atI_nat (j := 0) h0, rfl, _, rfl, ?_⟩
        rw [show decide (V.str nm = V.str g) = decide (nm = g) from decide_eq_decide.mpr ⟨fun z => by injection z, fun z => by rw [z]⟩]
        by_cases eg : nm = g
        · rw [decide_eq_true eg] at G10 ⊢
          obtain ⟨wt, mt, w1, w2, w3⟩ := G10
          refine if_t rfl ⟨_, rfl, p, dx, _, rfl, hp10, rfl, p, dx, hd, td, ga', .ref pt, nm, n', _, .ref wt, rfl, hp10, w1, rfl, _, rfl, few rfl, fun q1 hq1 => ?_⟩
          have S1 := Same.new (o := .tup [V.str nm]) hq1
          have nlen := name_short8 (T.names nm hnm)
          have okn : okD (.tup [.str nm]) = true := by rw [okD, okL, okL, okD, name_strOk (T.names nm hnm)]; rfl
          refine ⟨_, _, tr_of (.mk1 (S1 _ _ w2) (.str nm nlen)) okn, tr_of (.mk1 upd_same (.str nm nlen)) okn, ?_, _, rfl, if_f (by rw [eqv_pyD]; rfl) ?_⟩
          · refine Nat.le_trans (Nat.min_le_right _ _) ?_
            rw [pyD, pyL, pyL, pyD, PyData.depth, PyData.depthAll, PyData.depthAll, PyData.depth]; decide
          refine ⟨_, rfl, p, dx, _, rfl, S1 _ _ hp10, rfl, p, dx, hd, td, ga', .ref pt, nm, n', _, .ref mt, rfl, S1 _ _ hp10, S1 _ _ w1, rfl, few rfl, fun q2 hq2 => ?_⟩
          have S2 := Same.new (o := .tup ([] : List V)) hq2
          have s12 := S1.trans S2
          refine ⟨_, _, tr_tup0 (s12 _ _ w3), tr_tup0 upd_same, Nat.le_trans (Nat.min_le_right _ _) depth0, _, rfl, if_f (by rw [eqv00]; rfl) ?_⟩
          exact ⟨_, rfl, _, rfl, _, rfl, .ref pt, nm, p, dx, hd, td, ga', n', g, hs, ps, lks, hds, rfl, hv10.same s12, T, s12 _ _ hp10, s12 _ _ hh10, fun H11 s11 => ⟨_, rfl, if_f rfl ⟨rfl, s12.trans s11⟩⟩⟩
        · rw [decide_eq_false eg] at G10 ⊢
          exact if_f rfl ⟨_, rfl, _, rfl, _, rfl, .ref pt, nm, p, dx, hd, td, ga', n', g, hs, ps, lks, hds, rfl, hv10, T, hp10, hh10, G10, fun H11 s11 => ⟨_, rfl, if_f rfl ⟨rfl, s11⟩⟩⟩
      · rintro σ' H11 ⟨rfl, s11⟩
        have hp211 := s11 _ _ hp210
        have ht211 := s11 _ _ ht210
        refine ⟨_, rfl, p2, dx2, _, rfl, hp211, rfl, p2, dx2, hd2, td2, ga2, .ref pt, nm, 0, g, hs, ps, lks, hds, O, rfl, hp211, ht211, hv10.same s11, T, PO, hnm, ⟨e2, s11 _ _ hg210, s11 _ _ he210⟩, fun l5 ga5 us5 n5 H12 hl5 hl12 R12 hp12 G12 k12 => ?_⟩
        have k312 : ∀ c o, H3 c = some o → H12 c = some o := fun c o z => k12 c o (ne_of_none z n2) (ne_of_none z n2t) (s11 _ _ (k310 _ _ z))
        refine ⟨_, rfl, _, rfl, .ref pt, nm, g, hs, ps, lks, hds, O, rfl, (hv.same s3).same k312, T, PO, hnm, fun l6 us6 H13 hl6 hl13 R13 s13 => ⟨_, _, tr_list (s13 _ _ hl12) (R12.mono (.of s13)) okl, tr_list hl13 R13 okl, Nat.le_trans (Nat.min_le_right _ _) lets_dep, _, rfl, if_f (by rw [eqv_list]; rfl) ⟨⟨_, _, _, _, rfl⟩, fun c o z => s13 _ _ (k312 _ _ (s3 _ _ z))⟩⟩⟩
    · rintro σ' H4 _
      exact q H4
end
end K38

set_option Elab.async false
set_option linter.all false
set_option maxRecDepth 100000
set_option maxHeartbeats 4000000
namespace K38
open PySem PySem.Spec PyProof.Rows L2 RW
theorem walk {l : PySem.W.OpenLaw} {q : Program} {loose : List Str} {XP : (Str → Option Value) → Heap → Prop} {YP : World → Heap → Prop} {d : DefRec} {K : Params → PySem.W.Frag} (hn : l.most = some 63) (hdf : d.params.defaults = [])
    (hY : ∀ (w : World) (h : Heap), YP w h → (K w.params).In h)
    (F : ∀ (w : World) (mg : Str → Option Value) (fa : Addr) (h : Heap), (K w.params).In h → h.Ns mainGlobals mg → mg d.name = some (.ref fa) →
      ∃ fd : FuncData, (∀ (s : Shared) (u : Value), BindsTo s fd ⟨[u], []⟩ [("_law_script", u)]) ∧ ∀ base : Heap, (K w.params).In base → base.Ns mainGlobals mg → FnOk l.prog w (K w.params) mg base CX0 9 fa fd ["_law_script"] (spLaw (K w.params))) :
    PySem.W.WalkO q loose XP YP l.row.toRowW d [] (fun f vs => PySem.call f vs) :=
  L2.walk_of (n := 63) (k := 9) (x := "_law_script") (CX := fun _ => CX0) (sp := fun w => spLaw (K w.params)) hn (by decide) hdf ⟨rfl, by decide, by decide, rfl⟩ hY F (fun _ _ a ns hl _ hS => ⟨a, ns, rfl, hS, hl, fun _ => rfl⟩) fun _ _ _ _ _ z => z

theorem all_mk {l : PySem.W.OpenLaw} {w : World} {K : PySem.W.Frag} {h : Heap} {mg : Str → Option Value} {fa : Addr} (X : K.In h) (G : h.Ns mainGlobals mg) (hfa : mg "law" = some (.ref fa))
    {C_House : Addr} (aC_House : PySem.W.nsIn K mainGlobals "House" = some (some (.ref C_House))) (pg_House : PySem.W.plainGet K C_House Str.empty = true) (hd_House : PySem.W.hasDictIn K C_House = true) (po_House : PySem.W.plainOver K C_House = true) (sa_House : PySem.W.findIn K (.ref C_House) "__setattr__" = some (some (.builtin "object.__setattr__"))) (mk_House : PySem.W.makesIn K C_House = true) (kc_House : PySem.W.keepIn K (.ref C_House) = true) (n_House_place : PySem.W.findIn K (.ref C_House) "place" = some none) (n_House_name : PySem.W.findIn K (.ref C_House) "name" = some none) (n_House_hearings : PySem.W.findIn K (.ref C_House) "hearings" = some none) (n_House_tellings : PySem.W.findIn K (.ref C_House) "tellings" = some none) (n_House_going : PySem.W.findIn K (.ref C_House) "going" = some none) (n_House_times : PySem.W.findIn K (.ref C_House) "times" = some none)
    {f1 : Addr} {od1 an1 : Option Addr} {sl1 : Array (Option Value)} {oc1 kV1 dc1 pm1 cd1 ct1 : Value}
    {dt1 : Addr} {odd1 : Option Addr} {nd1 : Nat} {sld1 : Array (Option Value)}
    (a1 : PySem.W.nsIn K mainGlobals "holds" = some (some (.ref f1))) (l1 : K.lookup f1 = some ⟨oc1, od1, .func (PySem.W.fnOf "holds" "holds" (defArgs s_holds) (defBody s_holds) (defScope s_holds) (.ref dt1) kV1 dc1 pm1 an1 cd1 ct1), sl1⟩) (c1 : PySem.W.codeIn K cd1 "holds" = true) (k1 : PySem.W.keepIn K (.ref f1) = true)
    (ld1 : K.lookup dt1 = some ⟨.type "tuple", odd1, .seq #[.none] nd1, sld1⟩)
    {f2 : Addr} {od2 an2 : Option Addr} {sl2 : Array (Option Value)} {oc2 kV2 dc2 pm2 cd2 ct2 : Value}
    {dt2 : Addr} {odd2 : Option Addr} {nd2 : Nat} {sld2 : Array (Option Value)}
    (a2 : PySem.W.nsIn K mainGlobals "all_hold" = some (some (.ref f2))) (l2 : K.lookup f2 = some ⟨oc2, od2, .func (PySem.W.fnOf "all_hold" "all_hold" (defArgs s_all_hold) (defBody s_all_hold) (defScope s_all_hold) (.ref dt2) kV2 dc2 pm2 an2 cd2 ct2), sl2⟩) (c2 : PySem.W.codeIn K cd2 "all_hold" = true) (k2 : PySem.W.keepIn K (.ref f2) = true)
    (ld2 : K.lookup dt2 = some ⟨.type "tuple", odd2, .seq #[.none] nd2, sld2⟩)
    {f3 : Addr} {od3 an3 : Option Addr} {sl3 : Array (Option Value)} {oc3 kV3 dc3 pm3 cd3 ct3 : Value}
    (a3 : PySem.W.nsIn K mainGlobals "hands_of" = some (some (.ref f3))) (l3 : K.lookup f3 = some ⟨oc3, od3, .func (PySem.W.fnOf "hands_of" "hands_of" (defArgs s_hands_of) (defBody s_hands_of) (defScope s_hands_of) .none kV3 dc3 pm3 an3 cd3 ct3), sl3⟩) (c3 : PySem.W.codeIn K cd3 "hands_of" = true) (k3 : PySem.W.keepIn K (.ref f3) = true)
    {f4 : Addr} {od4 an4 : Option Addr} {sl4 : Array (Option Value)} {oc4 kV4 dc4 pm4 cd4 ct4 : Value}
    (a4 : PySem.W.nsIn K mainGlobals "tied" = some (some (.ref f4))) (l4 : K.lookup f4 = some ⟨oc4, od4, .func (PySem.W.fnOf "tied" "tied" (defArgs s_tied) (defBody s_tied) (defScope s_tied) .none kV4 dc4 pm4 an4 cd4 ct4), sl4⟩) (c4 : PySem.W.codeIn K cd4 "tied" = true) (k4 : PySem.W.keepIn K (.ref f4) = true)
    {f5 : Addr} {od5 an5 : Option Addr} {sl5 : Array (Option Value)} {oc5 kV5 dc5 pm5 cd5 ct5 : Value}
    (a5 : PySem.W.nsIn K mainGlobals "marks_behind" = some (some (.ref f5))) (l5 : K.lookup f5 = some ⟨oc5, od5, .func (PySem.W.fnOf "marks_behind" "marks_behind" (defArgs s_marks_behind) (defBody s_marks_behind) (defScope s_marks_behind) .none kV5 dc5 pm5 an5 cd5 ct5), sl5⟩) (c5 : PySem.W.codeIn K cd5 "marks_behind" = true) (k5 : PySem.W.keepIn K (.ref f5) = true)
    {f6 : Addr} {od6 an6 : Option Addr} {sl6 : Array (Option Value)} {oc6 kV6 dc6 pm6 cd6 ct6 : Value}
    (a6 : PySem.W.nsIn K mainGlobals "handed" = some (some (.ref f6))) (l6 : K.lookup f6 = some ⟨oc6, od6, .func (PySem.W.fnOf "handed" "handed" (defArgs s_handed) (defBody s_handed) (defScope s_handed) .none kV6 dc6 pm6 an6 cd6 ct6), sl6⟩) (c6 : PySem.W.codeIn K cd6 "handed" = true) (k6 : PySem.W.keepIn K (.ref f6) = true)
    {f7 : Addr} {od7 an7 : Option Addr} {sl7 : Array (Option Value)} {oc7 kV7 dc7 pm7 cd7 ct7 : Value}
    (a7 : PySem.W.findIn K (.ref C_House) "__init__" = some (some (.ref f7))) (i7 : PySem.W.isFn K (.ref f7) = true) (l7 : K.lookup f7 = some ⟨oc7, od7, .func (PySem.W.fnOf "__init__" "House.__init__" (defArgs s_House___init__) (defBody s_House___init__) (defScope s_House___init__) .none kV7 dc7 pm7 an7 cd7 ct7), sl7⟩) (c7 : PySem.W.codeIn K cd7 "House.__init__" = true) (k7 : PySem.W.keepIn K (.ref f7) = true)
    {f8 : Addr} {od8 an8 : Option Addr} {sl8 : Array (Option Value)} {oc8 kV8 dc8 pm8 cd8 ct8 : Value}
    (a8 : PySem.W.findIn K (.ref C_House) "way" = some (some (.ref f8))) (i8 : PySem.W.isFn K (.ref f8) = true) (l8 : K.lookup f8 = some ⟨oc8, od8, .func (PySem.W.fnOf "way" "House.way" (defArgs s_House_way) (defBody s_House_way) (defScope s_House_way) .none kV8 dc8 pm8 an8 cd8 ct8), sl8⟩) (c8 : PySem.W.codeIn K cd8 "House.way" = true) (k8 : PySem.W.keepIn K (.ref f8) = true)
    {f9 : Addr} {od9 an9 : Option Addr} {sl9 : Array (Option Value)} {oc9 kV9 dc9 pm9 cd9 ct9 : Value}
    (a9 : PySem.W.findIn K (.ref C_House) "marks" = some (some (.ref f9))) (i9 : PySem.W.isFn K (.ref f9) = true) (l9 : K.lookup f9 = some ⟨oc9, od9, .func (PySem.W.fnOf "marks" "House.marks" (defArgs s_House_marks) (defBody s_House_marks) (defScope s_House_marks) .none kV9 dc9 pm9 an9 cd9 ct9), sl9⟩) (c9 : PySem.W.codeIn K cd9 "House.marks" = true) (k9 : PySem.W.keepIn K (.ref f9) = true)
    {f10 : Addr} {od10 an10 : Option Addr} {sl10 : Array (Option Value)} {oc10 kV10 dc10 pm10 cd10 ct10 : Value}
    (a10 : PySem.W.findIn K (.ref C_House) "heard" = some (some (.ref f10))) (i10 : PySem.W.isFn K (.ref f10) = true) (l10 : K.lookup f10 = some ⟨oc10, od10, .func (PySem.W.fnOf "heard" "House.heard" (defArgs s_House_heard) (defBody s_House_heard) (defScope s_House_heard) .none kV10 dc10 pm10 an10 cd10 ct10), sl10⟩) (c10 : PySem.W.codeIn K cd10 "House.heard" = true) (k10 : PySem.W.keepIn K (.ref f10) = true)
    {f11 : Addr} {od11 an11 : Option Addr} {sl11 : Array (Option Value)} {oc11 kV11 dc11 pm11 cd11 ct11 : Value}
    (a11 : PySem.W.findIn K (.ref C_House) "begin" = some (some (.ref f11))) (i11 : PySem.W.isFn K (.ref f11) = true) (l11 : K.lookup f11 = some ⟨oc11, od11, .func (PySem.W.fnOf "begin" "House.begin" (defArgs s_House_begin) (defBody s_House_begin) (defScope s_House_begin) .none kV11 dc11 pm11 an11 cd11 ct11), sl11⟩) (c11 : PySem.W.codeIn K cd11 "House.begin" = true) (k11 : PySem.W.keepIn K (.ref f11) = true)
    {f12 : Addr} {od12 an12 : Option Addr} {sl12 : Array (Option Value)} {oc12 kV12 dc12 pm12 cd12 ct12 : Value}
    (a12 : PySem.W.findIn K (.ref C_House) "go_by" = some (some (.ref f12))) (i12 : PySem.W.isFn K (.ref f12) = true) (l12 : K.lookup f12 = some ⟨oc12, od12, .func (PySem.W.fnOf "go_by" "House.go_by" (defArgs s_House_go_by) (defBody s_House_go_by) (defScope s_House_go_by) .none kV12 dc12 pm12 an12 cd12 ct12), sl12⟩) (c12 : PySem.W.codeIn K cd12 "House.go_by" = true) (k12 : PySem.W.keepIn K (.ref f12) = true)
    {f13 : Addr} {od13 an13 : Option Addr} {sl13 : Array (Option Value)} {oc13 kV13 dc13 pm13 cd13 ct13 : Value}
    (a13 : PySem.W.findIn K (.ref C_House) "offer" = some (some (.ref f13))) (i13 : PySem.W.isFn K (.ref f13) = true) (l13 : K.lookup f13 = some ⟨oc13, od13, .func (PySem.W.fnOf "offer" "House.offer" (defArgs s_House_offer) (defBody s_House_offer) (defScope s_House_offer) .none kV13 dc13 pm13 an13 cd13 ct13), sl13⟩) (c13 : PySem.W.codeIn K cd13 "House.offer" = true) (k13 : PySem.W.keepIn K (.ref f13) = true)
    {f14 : Addr} {od14 an14 : Option Addr} {sl14 : Array (Option Value)} {oc14 kV14 dc14 pm14 cd14 ct14 : Value}
    (a14 : PySem.W.findIn K (.ref C_House) "letters" = some (some (.ref f14))) (i14 : PySem.W.isFn K (.ref f14) = true) (l14 : K.lookup f14 = some ⟨oc14, od14, .func (PySem.W.fnOf "letters" "House.letters" (defArgs s_House_letters) (defBody s_House_letters) (defScope s_House_letters) .none kV14 dc14 pm14 an14 cd14 ct14), sl14⟩) (c14 : PySem.W.codeIn K cd14 "House.letters" = true) (k14 : PySem.W.keepIn K (.ref f14) = true)
    {f15 : Addr} {od15 an15 : Option Addr} {sl15 : Array (Option Value)} {oc15 kV15 dc15 pm15 cd15 ct15 : Value}
    (a15 : PySem.W.nsIn K mainGlobals "_law_hand" = some (some (.ref f15))) (l15 : K.lookup f15 = some ⟨oc15, od15, .func (PySem.W.fnOf "_law_hand" "_law_hand" (defArgs s__law_hand) (defBody s__law_hand) (defScope s__law_hand) .none kV15 dc15 pm15 an15 cd15 ct15), sl15⟩) (c15 : PySem.W.codeIn K cd15 "_law_hand" = true) (k15 : PySem.W.keepIn K (.ref f15) = true)
    {f16 : Addr} {od16 an16 : Option Addr} {sl16 : Array (Option Value)} {oc16 kV16 dc16 pm16 cd16 ct16 : Value}
    (a16 : PySem.W.nsIn K mainGlobals "_law_all" = some (some (.ref f16))) (l16 : K.lookup f16 = some ⟨oc16, od16, .func (PySem.W.fnOf "_law_all" "_law_all" (defArgs s__law_all) (defBody s__law_all) (defScope s__law_all) .none kV16 dc16 pm16 an16 cd16 ct16), sl16⟩) (c16 : PySem.W.codeIn K cd16 "_law_all" = true) (k16 : PySem.W.keepIn K (.ref f16) = true)
    {f17 : Addr} {od17 an17 : Option Addr} {sl17 : Array (Option Value)} {oc17 kV17 dc17 pm17 cd17 ct17 : Value}
    (a17 : PySem.W.nsIn K mainGlobals "_law_take" = some (some (.ref f17))) (l17 : K.lookup f17 = some ⟨oc17, od17, .func (PySem.W.fnOf "_law_take" "_law_take" (defArgs s__law_take) (defBody s__law_take) (defScope s__law_take) .none kV17 dc17 pm17 an17 cd17 ct17), sl17⟩) (c17 : PySem.W.codeIn K cd17 "_law_take" = true) (k17 : PySem.W.keepIn K (.ref f17) = true)
    {f18 : Addr} {od18 an18 : Option Addr} {sl18 : Array (Option Value)} {oc18 kV18 dc18 pm18 cd18 ct18 : Value}
    (a18 : PySem.W.nsIn K mainGlobals "_law_pick" = some (some (.ref f18))) (l18 : K.lookup f18 = some ⟨oc18, od18, .func (PySem.W.fnOf "_law_pick" "_law_pick" (defArgs s__law_pick) (defBody s__law_pick) (defScope s__law_pick) .none kV18 dc18 pm18 an18 cd18 ct18), sl18⟩) (c18 : PySem.W.codeIn K cd18 "_law_pick" = true) (k18 : PySem.W.keepIn K (.ref f18) = true)
    {f19 : Addr} {od19 an19 : Option Addr} {sl19 : Array (Option Value)} {oc19 kV19 dc19 pm19 cd19 ct19 : Value}
    (a19 : PySem.W.nsIn K mainGlobals "_law_names" = some (some (.ref f19))) (l19 : K.lookup f19 = some ⟨oc19, od19, .func (PySem.W.fnOf "_law_names" "_law_names" (defArgs s__law_names) (defBody s__law_names) (defScope s__law_names) .none kV19 dc19 pm19 an19 cd19 ct19), sl19⟩) (c19 : PySem.W.codeIn K cd19 "_law_names" = true) (k19 : PySem.W.keepIn K (.ref f19) = true)
    {f20 : Addr} {od20 an20 : Option Addr} {sl20 : Array (Option Value)} {oc20 kV20 dc20 pm20 cd20 ct20 : Value}
    (a20 : PySem.W.nsIn K mainGlobals "_law_cond" = some (some (.ref f20))) (l20 : K.lookup f20 = some ⟨oc20, od20, .func (PySem.W.fnOf "_law_cond" "_law_cond" (defArgs s__law_cond) (defBody s__law_cond) (defScope s__law_cond) .none kV20 dc20 pm20 an20 cd20 ct20), sl20⟩) (c20 : PySem.W.codeIn K cd20 "_law_cond" = true) (k20 : PySem.W.keepIn K (.ref f20) = true)
    {f21 : Addr} {od21 an21 : Option Addr} {sl21 : Array (Option Value)} {oc21 kV21 dc21 pm21 cd21 ct21 : Value}
    (a21 : PySem.W.nsIn K mainGlobals "_law_conds" = some (some (.ref f21))) (l21 : K.lookup f21 = some ⟨oc21, od21, .func (PySem.W.fnOf "_law_conds" "_law_conds" (defArgs s__law_conds) (defBody s__law_conds) (defScope s__law_conds) .none kV21 dc21 pm21 an21 cd21 ct21), sl21⟩) (c21 : PySem.W.codeIn K cd21 "_law_conds" = true) (k21 : PySem.W.keepIn K (.ref f21) = true)
    {f22 : Addr} {od22 an22 : Option Addr} {sl22 : Array (Option Value)} {oc22 kV22 dc22 pm22 cd22 ct22 : Value}
    (a22 : PySem.W.nsIn K mainGlobals "_law_likings" = some (some (.ref f22))) (l22 : K.lookup f22 = some ⟨oc22, od22, .func (PySem.W.fnOf "_law_likings" "_law_likings" (defArgs s__law_likings) (defBody s__law_likings) (defScope s__law_likings) .none kV22 dc22 pm22 an22 cd22 ct22), sl22⟩) (c22 : PySem.W.codeIn K cd22 "_law_likings" = true) (k22 : PySem.W.keepIn K (.ref f22) = true)
    {f23 : Addr} {od23 an23 : Option Addr} {sl23 : Array (Option Value)} {oc23 kV23 dc23 pm23 cd23 ct23 : Value}
    (a23 : PySem.W.nsIn K mainGlobals "_law_hands" = some (some (.ref f23))) (l23 : K.lookup f23 = some ⟨oc23, od23, .func (PySem.W.fnOf "_law_hands" "_law_hands" (defArgs s__law_hands) (defBody s__law_hands) (defScope s__law_hands) .none kV23 dc23 pm23 an23 cd23 ct23), sl23⟩) (c23 : PySem.W.codeIn K cd23 "_law_hands" = true) (k23 : PySem.W.keepIn K (.ref f23) = true)
    {f24 : Addr} {od24 an24 : Option Addr} {sl24 : Array (Option Value)} {oc24 kV24 dc24 pm24 cd24 ct24 : Value}
    (a24 : PySem.W.nsIn K mainGlobals "_law_ties" = some (some (.ref f24))) (l24 : K.lookup f24 = some ⟨oc24, od24, .func (PySem.W.fnOf "_law_ties" "_law_ties" (defArgs s__law_ties) (defBody s__law_ties) (defScope s__law_ties) .none kV24 dc24 pm24 an24 cd24 ct24), sl24⟩) (c24 : PySem.W.codeIn K cd24 "_law_ties" = true) (k24 : PySem.W.keepIn K (.ref f24) = true)
    {f25 : Addr} {od25 an25 : Option Addr} {sl25 : Array (Option Value)} {oc25 kV25 dc25 pm25 cd25 ct25 : Value}
    (a25 : PySem.W.nsIn K mainGlobals "_law_town" = some (some (.ref f25))) (l25 : K.lookup f25 = some ⟨oc25, od25, .func (PySem.W.fnOf "_law_town" "_law_town" (defArgs s__law_town) (defBody s__law_town) (defScope s__law_town) .none kV25 dc25 pm25 an25 cd25 ct25), sl25⟩) (c25 : PySem.W.codeIn K cd25 "_law_town" = true) (k25 : PySem.W.keepIn K (.ref f25) = true)
    {f26 : Addr} {od26 an26 : Option Addr} {sl26 : Array (Option Value)} {oc26 kV26 dc26 pm26 cd26 ct26 : Value}
    (a26 : PySem.W.nsIn K mainGlobals "_law_due" = some (some (.ref f26))) (l26 : K.lookup f26 = some ⟨oc26, od26, .func (PySem.W.fnOf "_law_due" "_law_due" (defArgs s__law_due) (defBody s__law_due) (defScope s__law_due) .none kV26 dc26 pm26 an26 cd26 ct26), sl26⟩) (c26 : PySem.W.codeIn K cd26 "_law_due" = true) (k26 : PySem.W.keepIn K (.ref f26) = true)
    {f27 : Addr} {od27 an27 : Option Addr} {sl27 : Array (Option Value)} {oc27 kV27 dc27 pm27 cd27 ct27 : Value}
    (a27 : PySem.W.nsIn K mainGlobals "_law_is_bare" = some (some (.ref f27))) (l27 : K.lookup f27 = some ⟨oc27, od27, .func (PySem.W.fnOf "_law_is_bare" "_law_is_bare" (defArgs s__law_is_bare) (defBody s__law_is_bare) (defScope s__law_is_bare) .none kV27 dc27 pm27 an27 cd27 ct27), sl27⟩) (c27 : PySem.W.codeIn K cd27 "_law_is_bare" = true) (k27 : PySem.W.keepIn K (.ref f27) = true)
    {f28 : Addr} {od28 an28 : Option Addr} {sl28 : Array (Option Value)} {oc28 kV28 dc28 pm28 cd28 ct28 : Value}
    (a28 : PySem.W.nsIn K mainGlobals "_law_is_deaf" = some (some (.ref f28))) (l28 : K.lookup f28 = some ⟨oc28, od28, .func (PySem.W.fnOf "_law_is_deaf" "_law_is_deaf" (defArgs s__law_is_deaf) (defBody s__law_is_deaf) (defScope s__law_is_deaf) .none kV28 dc28 pm28 an28 cd28 ct28), sl28⟩) (c28 : PySem.W.codeIn K cd28 "_law_is_deaf" = true) (k28 : PySem.W.keepIn K (.ref f28) = true)
    {f29 : Addr} {od29 an29 : Option Addr} {sl29 : Array (Option Value)} {oc29 kV29 dc29 pm29 cd29 ct29 : Value}
    (a29 : PySem.W.nsIn K mainGlobals "law" = some (some (.ref f29))) (l29 : K.lookup f29 = some ⟨oc29, od29, .func (PySem.W.fnOf "law" "law" (defArgs s_law) (defBody s_law) (defScope s_law) .none kV29 dc29 pm29 an29 cd29 ct29), sl29⟩) (c29 : PySem.W.codeIn K cd29 "law" = true) (k29 : PySem.W.keepIn K (.ref f29) = true)
    {aT_NOTHING eT_NOTHING : Addr} {odT_NOTHING odE_NOTHING : Option Addr} {slT_NOTHING slE_NOTHING : Array (Option Value)} {nT_NOTHING nE_NOTHING : Nat} {tT_NOTHING : Tok} (g_NOTHING : PySem.W.nsIn K mainGlobals "NOTHING" = some (some (.ref aT_NOTHING))) (l_NOTHING : K.lookup aT_NOTHING = some ⟨.type "tuple", odT_NOTHING, .seq #[.int 0 tT_NOTHING, .none, .ref eT_NOTHING] nT_NOTHING, slT_NOTHING⟩) (le_NOTHING : K.lookup eT_NOTHING = some ⟨.type "tuple", odE_NOTHING, .seq #[] nE_NOTHING, slE_NOTHING⟩)
    (z_isinstance : PySem.W.nsIn K mainGlobals "isinstance" = some none)
    (z_len : PySem.W.nsIn K mainGlobals "len" = some none)
    (z_int : PySem.W.nsIn K mainGlobals "int" = some none)
    (z_tuple : PySem.W.nsIn K mainGlobals "tuple" = some none)
    (z_range : PySem.W.nsIn K mainGlobals "range" = some none)
    (z_max : PySem.W.nsIn K mainGlobals "max" = some none)
    (z_min : PySem.W.nsIn K mainGlobals "min" = some none)
    (z_sorted : PySem.W.nsIn K mainGlobals "sorted" = some none)
    (z_all : PySem.W.nsIn K mainGlobals "all" = some none)
    (z_list : PySem.W.nsIn K mainGlobals "list" = some none)
    (z_str : PySem.W.nsIn K mainGlobals "str" = some none)
    : ∃ fd : FuncData, (∀ (s : Shared) (v : Value), BindsTo s fd ⟨[v], []⟩ [("_law_script", v)]) ∧ ∀ base : Heap, K.In base → base.Ns mainGlobals mg → FnOk l.prog w K mg base CX0 9 fa fd ["_law_script"] (spLaw K) := by
  have e := hfa.symm.trans (PySem.W.mg_of X G a29)
  cases e
  have F1 := funD_mk (st := s_holds) l1 ld1 c1 k1
  have F2 := funD_mk (st := s_all_hold) l2 ld2 c2 k2
  have F3 := fun_mk (st := s_hands_of) l3 c3 k3
  have F4 := fun_mk (st := s_tied) l4 c4 k4
  have F5 := fun_mk (st := s_marks_behind) l5 c5 k5
  have F6 := fun_mk (st := s_handed) l6 c6 k6
  have F7 := fun_mk (st := s_House___init__) l7 c7 k7
  have F8 := fun_mk (st := s_House_way) l8 c8 k8
  have F9 := fun_mk (st := s_House_marks) l9 c9 k9
  have F10 := fun_mk (st := s_House_heard) l10 c10 k10
  have F11 := fun_mk (st := s_House_begin) l11 c11 k11
  have F12 := fun_mk (st := s_House_go_by) l12 c12 k12
  have F13 := fun_mk (st := s_House_offer) l13 c13 k13
  have F14 := fun_mk (st := s_House_letters) l14 c14 k14
  have F15 := fun_mk (st := s__law_hand) l15 c15 k15
  have F16 := fun_mk (st := s__law_all) l16 c16 k16
  have F17 := fun_mk (st := s__law_take) l17 c17 k17
  have F18 := fun_mk (st := s__law_pick) l18 c18 k18
  have F19 := fun_mk (st := s__law_names) l19 c19 k19
  have F20 := fun_mk (st := s__law_cond) l20 c20 k20
  have F21 := fun_mk (st := s__law_conds) l21 c21 k21
  have F22 := fun_mk (st := s__law_likings) l22 c22 k22
  have F23 := fun_mk (st := s__law_hands) l23 c23 k23
  have F24 := fun_mk (st := s__law_ties) l24 c24 k24
  have F25 := fun_mk (st := s__law_town) l25 c25 k25
  have F26 := fun_mk (st := s__law_due) l26 c26 k26
  have F27 := fun_mk (st := s__law_is_bare) l27 c27 k27
  have F28 := fun_mk (st := s__law_is_deaf) l28 c28 k28
  have F29 := fun_mk (st := s_law) l29 c29 k29
  have b1 := F1.binds (ps := p_holds) (ds := []) 4 rfl fun _ _ _ _ _ _ _ => of4 (fun _ _ _ _ => ⟨_, rfl, rfl⟩)
  have e1 := F1.binds (ps := p_holds) (ds := [.none]) 3 rfl fun _ _ _ _ _ _ _ => of3 (fun _ _ _ => ⟨_, rfl, rfl⟩)
  have b2 := F2.binds (ps := p_all_hold) (ds := []) 4 rfl fun _ _ _ _ _ _ _ => of4 (fun _ _ _ _ => ⟨_, rfl, rfl⟩)
  have e2 := F2.binds (ps := p_all_hold) (ds := [.none]) 3 rfl fun _ _ _ _ _ _ _ => of3 (fun _ _ _ => ⟨_, rfl, rfl⟩)
  have b3 := F3.binds (ps := p_hands_of) fun _ _ _ _ _ _ => of2 (fun _ _ => rfl)
  have b4 := F4.binds (ps := p_tied) fun _ _ _ _ _ _ => of2 (fun _ _ => rfl)
  have b5 := F5.binds (ps := p_marks_behind) fun _ _ _ _ _ _ => of2 (fun _ _ => rfl)
  have b6 := F6.binds (ps := p_handed) fun _ _ _ _ _ _ => of4 (fun _ _ _ _ => rfl)
  have b7 := F7.binds (ps := p_House___init__) fun _ _ _ _ _ _ => of3 (fun _ _ _ => rfl)
  have b8 := F8.binds (ps := p_House_way) fun _ _ _ _ _ _ => of1 (fun _ => rfl)
  have b9 := F9.binds (ps := p_House_marks) fun _ _ _ _ _ _ => of1 (fun _ => rfl)
  have b10 := F10.binds (ps := p_House_heard) fun _ _ _ _ _ _ => of2 (fun _ _ => rfl)
  have b11 := F11.binds (ps := p_House_begin) fun _ _ _ _ _ _ => of1 (fun _ => rfl)
  have b12 := F12.binds (ps := p_House_go_by) fun _ _ _ _ _ _ => of2 (fun _ _ => rfl)
  have b13 := F13.binds (ps := p_House_offer) fun _ _ _ _ _ _ => of2 (fun _ _ => rfl)
  have b14 := F14.binds (ps := p_House_letters) fun _ _ _ _ _ _ => of1 (fun _ => rfl)
  have b15 := F15.binds (ps := p__law_hand) fun _ _ _ _ _ _ => of2 (fun _ _ => rfl)
  have b16 := F16.binds (ps := p__law_all) fun _ _ _ _ _ _ => of1 (fun _ => rfl)
  have b17 := F17.binds (ps := p__law_take) fun _ _ _ _ _ _ => of2 (fun _ _ => rfl)
  have b18 := F18.binds (ps := p__law_pick) fun _ _ _ _ _ _ => of2 (fun _ _ => rfl)
  have b19 := F19.binds (ps := p__law_names) fun _ _ _ _ _ _ => of2 (fun _ _ => rfl)
  have b20 := F20.binds (ps := p__law_cond) fun _ _ _ _ _ _ => of4 (fun _ _ _ _ => rfl)
  have b21 := F21.binds (ps := p__law_conds) fun _ _ _ _ _ _ => of4 (fun _ _ _ _ => rfl)
  have b22 := F22.binds (ps := p__law_likings) fun _ _ _ _ _ _ => of3 (fun _ _ _ => rfl)
  have b23 := F23.binds (ps := p__law_hands) fun _ _ _ _ _ _ => of3 (fun _ _ _ => rfl)
  have b24 := F24.binds (ps := p__law_ties) fun _ _ _ _ _ _ => of3 (fun _ _ _ => rfl)
  have b25 := F25.binds (ps := p__law_town) fun _ _ _ _ _ _ => of1 (fun _ => rfl)
  have b26 := F26.binds (ps := p__law_due) fun _ _ _ _ _ _ => of2 (fun _ _ => rfl)
  have b27 := F27.binds (ps := p__law_is_bare) fun _ _ _ _ _ _ => of3 (fun _ _ _ => rfl)
  have b28 := F28.binds (ps := p__law_is_deaf) fun _ _ _ _ _ _ => of3 (fun _ _ _ => rfl)
  have b29 := F29.binds (ps := p_law) fun _ _ _ _ _ _ => of1 (fun _ => rfl)
  have Y : Ev K mg := {
    c_House := C_House, k_House := ⟨pg_House, hd_House, po_House, sa_House⟩, m_House := PySem.W.mg_of X G aC_House, n_House_place := n_House_place, n_House_name := n_House_name, n_House_hearings := n_House_hearings, n_House_tellings := n_House_tellings, n_House_going := n_House_going, n_House_times := n_House_times,
    mk_House := ⟨mk_House, a7, i7, kc_House⟩,
    a_NOTHING := _, e_NOTHING := _, m_NOTHING := PySem.W.mg_of X G g_NOTHING, t_NOTHING := fun H => .inr ⟨_, _, nT_NOTHING, l_NOTHING, rfl, rfl, by show 3 ≤ sizeLine; decide, .cons ⟨tT_NOTHING, rfl⟩ (.cons rfl (.cons rfl .nil))⟩, u_NOTHING := fun H => .inr ⟨_, _, nE_NOTHING, le_NOTHING, rfl, rfl, by show 0 ≤ sizeLine; decide, .nil⟩,
    a_holds := f1, d_holds := _, holds := ⟨F1, b1, e1, PySem.W.mg_of X G a1, k1⟩,
    a_all_hold := f2, d_all_hold := _, all_hold := ⟨F2, b2, e2, PySem.W.mg_of X G a2, k2⟩,
    a_hands_of := f3, d_hands_of := _, hands_of := ⟨F3, b3, PySem.W.mg_of X G a3, k3⟩,
    a_tied := f4, d_tied := _, tied := ⟨F4, b4, PySem.W.mg_of X G a4, k4⟩,
    a_marks_behind := f5, d_marks_behind := _, marks_behind := ⟨F5, b5, PySem.W.mg_of X G a5, k5⟩,
    a_handed := f6, d_handed := _, handed := ⟨F6, b6, PySem.W.mg_of X G a6, k6⟩,
    a_House___init__ := f7, d_House___init__ := _, House___init__ := ⟨F7, b7, ⟨a7, i7, k7⟩⟩,
    a_House_way := f8, d_House_way := _, House_way := ⟨F8, b8, ⟨a8, i8, k8⟩⟩,
    a_House_marks := f9, d_House_marks := _, House_marks := ⟨F9, b9, ⟨a9, i9, k9⟩⟩,
    a_House_heard := f10, d_House_heard := _, House_heard := ⟨F10, b10, ⟨a10, i10, k10⟩⟩,
    a_House_begin := f11, d_House_begin := _, House_begin := ⟨F11, b11, ⟨a11, i11, k11⟩⟩,
    a_House_go_by := f12, d_House_go_by := _, House_go_by := ⟨F12, b12, ⟨a12, i12, k12⟩⟩,
    a_House_offer := f13, d_House_offer := _, House_offer := ⟨F13, b13, ⟨a13, i13, k13⟩⟩,
    a_House_letters := f14, d_House_letters := _, House_letters := ⟨F14, b14, ⟨a14, i14, k14⟩⟩,
    a__law_hand := f15, d__law_hand := _, _law_hand := ⟨F15, b15, PySem.W.mg_of X G a15, k15⟩,
    a__law_all := f16, d__law_all := _, _law_all := ⟨F16, b16, PySem.W.mg_of X G a16, k16⟩,
    a__law_take := f17, d__law_take := _, _law_take := ⟨F17, b17, PySem.W.mg_of X G a17, k17⟩,
    a__law_pick := f18, d__law_pick := _, _law_pick := ⟨F18, b18, PySem.W.mg_of X G a18, k18⟩,
    a__law_names := f19, d__law_names := _, _law_names := ⟨F19, b19, PySem.W.mg_of X G a19, k19⟩,
    a__law_cond := f20, d__law_cond := _, _law_cond := ⟨F20, b20, PySem.W.mg_of X G a20, k20⟩,
    a__law_conds := f21, d__law_conds := _, _law_conds := ⟨F21, b21, PySem.W.mg_of X G a21, k21⟩,
    a__law_likings := f22, d__law_likings := _, _law_likings := ⟨F22, b22, PySem.W.mg_of X G a22, k22⟩,
    a__law_hands := f23, d__law_hands := _, _law_hands := ⟨F23, b23, PySem.W.mg_of X G a23, k23⟩,
    a__law_ties := f24, d__law_ties := _, _law_ties := ⟨F24, b24, PySem.W.mg_of X G a24, k24⟩,
    a__law_town := f25, d__law_town := _, _law_town := ⟨F25, b25, PySem.W.mg_of X G a25, k25⟩,
    a__law_due := f26, d__law_due := _, _law_due := ⟨F26, b26, PySem.W.mg_of X G a26, k26⟩,
    a__law_is_bare := f27, d__law_is_bare := _, _law_is_bare := ⟨F27, b27, PySem.W.mg_of X G a27, k27⟩,
    a__law_is_deaf := f28, d__law_is_deaf := _, _law_is_deaf := ⟨F28, b28, PySem.W.mg_of X G a28, k28⟩,
    a_law := fa, d_law := _, law := ⟨F29, b29, PySem.W.mg_of X G a29, k29⟩,
    isinstance := PySem.W.mg_none_of X G z_isinstance,
    len := PySem.W.mg_none_of X G z_len,
    int := PySem.W.mg_none_of X G z_int,
    tuple := PySem.W.mg_none_of X G z_tuple,
    range := PySem.W.mg_none_of X G z_range,
    max := PySem.W.mg_none_of X G z_max,
    min := PySem.W.mg_none_of X G z_min,
    sorted := PySem.W.mg_none_of X G z_sorted,
    all := PySem.W.mg_none_of X G z_all,
    list := PySem.W.mg_none_of X G z_list,
    str := PySem.W.mg_none_of X G z_str }
  exact ⟨PySem.W.fnOf "law" "law" (defArgs s_law) (defBody s_law) (defScope s_law) .none kV29 dc29 pm29 an29 cd29 ct29, fun s v => .of_eq rfl, fun base _ _ => ok_law_of Y F29⟩
end K38
open PySem PySem.W PyProof.Rows
set_option maxRecDepth 100000 in
set_option maxHeartbeats 0 in
theorem PySem.Challenge.cw_restways_k38_houses_begin_holds : PySem.Challenge.rw_restways_k38_houses_begin.Holds := by
  w_on; o_law; k_head; (case hw => w_witness2)
  k_fill
  refine K38.walk (l := PySem.Challenge.rw_restways_k38_houses_begin) rfl rfl (fun w h Y => PySem.W.kIn_of Y) ?F
  case F =>
    intro w mg fa h KX G hmg
    refine' K38.all_mk KX G hmg ?aC_House ?pg_House ?hd_House ?po_House ?sa_House ?mk_House ?kc_House ?n_House_place ?n_House_name ?n_House_hearings ?n_House_tellings ?n_House_going ?n_House_times ?a1 ?l1 ?c1 ?k1 ?ld1 ?a2 ?l2 ?c2 ?k2 ?ld2 ?a3 ?l3 ?c3 ?k3 ?a4 ?l4 ?c4 ?k4 ?a5 ?l5 ?c5 ?k5 ?a6 ?l6 ?c6 ?k6 ?a7 ?i7 ?l7 ?c7 ?k7 ?a8 ?i8 ?l8 ?c8 ?k8 ?a9 ?i9 ?l9 ?c9 ?k9 ?a10 ?i10 ?l10 ?c10 ?k10 ?a11 ?i11 ?l11 ?c11 ?k11 ?a12 ?i12 ?l12 ?c12 ?k12 ?a13 ?i13 ?l13 ?c13 ?k13 ?a14 ?i14 ?l14 ?c14 ?k14 ?a15 ?l15 ?c15 ?k15 ?a16 ?l16 ?c16 ?k16 ?a17 ?l17 ?c17 ?k17 ?a18 ?l18 ?c18 ?k18 ?a19 ?l19 ?c19 ?k19 ?a20 ?l20 ?c20 ?k20 ?a21 ?l21 ?c21 ?k21 ?a22 ?l22 ?c22 ?k22 ?a23 ?l23 ?c23 ?k23 ?a24 ?l24 ?c24 ?k24 ?a25 ?l25 ?c25 ?k25 ?a26 ?l26 ?c26 ?k26 ?a27 ?l27 ?c27 ?k27 ?a28 ?l28 ?c28 ?k28 ?a29 ?l29 ?c29 ?k29 ?g_NOTHING ?l_NOTHING ?le_NOTHING ?z_isinstance ?z_len ?z_int ?z_tuple ?z_range ?z_max ?z_min ?z_sorted ?z_all ?z_list ?z_str
    (case aC_House => k_is)
    (case pg_House => k_is)
    (case hd_House => k_is)
    (case po_House => k_is)
    (case sa_House => k_is)
    (case mk_House => k_is)
    (case kc_House => k_is)
    (case n_House_place => k_is)
    (case n_House_name => k_is)
    (case n_House_hearings => k_is)
    (case n_House_tellings => k_is)
    (case n_House_going => k_is)
    (case n_House_times => k_is)
    (case a1 => k_is)
    (case l1 => k_is)
    (case c1 => k_is)
    (case k1 => k_is)
    (case ld1 => k_is)
    (case a2 => k_is)
    (case l2 => k_is)
    (case c2 => k_is)
    (case k2 => k_is)
    (case ld2 => k_is)
    (case a3 => k_is)
    (case l3 => k_is)
    (case c3 => k_is)
    (case k3 => k_is)
    (case a4 => k_is)
    (case l4 => k_is)
    (case c4 => k_is)
    (case k4 => k_is)
    (case a5 => k_is)
    (case l5 => k_is)
    (case c5 => k_is)
    (case k5 => k_is)
    (case a6 => k_is)
    (case l6 => k_is)
    (case c6 => k_is)
    (case k6 => k_is)
    (case a7 => k_is)
    (case i7 => k_is)
    (case l7 => k_is)
    (case c7 => k_is)
    (case k7 => k_is)
    (case a8 => k_is)
    (case i8 => k_is)
    (case l8 => k_is)
    (case c8 => k_is)
    (case k8 => k_is)
    (case a9 => k_is)
    (case i9 => k_is)
    (case l9 => k_is)
    (case c9 => k_is)
    (case k9 => k_is)
    (case a10 => k_is)
    (case i10 => k_is)
    (case l10 => k_is)
    (case c10 => k_is)
    (case k10 => k_is)
    (case a11 => k_is)
    (case i11 => k_is)
    (case l11 => k_is)
    (case c11 => k_is)
    (case k11 => k_is)
    (case a12 => k_is)
    (case i12 => k_is)
    (case l12 => k_is)
    (case c12 => k_is)
    (case k12 => k_is)
    (case a13 => k_is)
    (case i13 => k_is)
    (case l13 => k_is)
    (case c13 => k_is)
    (case k13 => k_is)
    (case a14 => k_is)
    (case i14 => k_is)
    (case l14 => k_is)
    (case c14 => k_is)
    (case k14 => k_is)
    (case a15 => k_is)
    (case l15 => k_is)
    (case c15 => k_is)
    (case k15 => k_is)
    (case a16 => k_is)
    (case l16 => k_is)
    (case c16 => k_is)
    (case k16 => k_is)
    (case a17 => k_is)
    (case l17 => k_is)
    (case c17 => k_is)
    (case k17 => k_is)
    (case a18 => k_is)
    (case l18 => k_is)
    (case c18 => k_is)
    (case k18 => k_is)
    (case a19 => k_is)
    (case l19 => k_is)
    (case c19 => k_is)
    (case k19 => k_is)
    (case a20 => k_is)
    (case l20 => k_is)
    (case c20 => k_is)
    (case k20 => k_is)
    (case a21 => k_is)
    (case l21 => k_is)
    (case c21 => k_is)
    (case k21 => k_is)
    (case a22 => k_is)
    (case l22 => k_is)
    (case c22 => k_is)
    (case k22 => k_is)
    (case a23 => k_is)
    (case l23 => k_is)
    (case c23 => k_is)
    (case k23 => k_is)
    (case a24 => k_is)
    (case l24 => k_is)
    (case c24 => k_is)
    (case k24 => k_is)
    (case a25 => k_is)
    (case l25 => k_is)
    (case c25 => k_is)
    (case k25 => k_is)
    (case a26 => k_is)
    (case l26 => k_is)
    (case c26 => k_is)
    (case k26 => k_is)
    (case a27 => k_is)
    (case l27 => k_is)
    (case c27 => k_is)
    (case k27 => k_is)
    (case a28 => k_is)
    (case l28 => k_is)
    (case c28 => k_is)
    (case k28 => k_is)
    (case a29 => k_is)
    (case l29 => k_is)
    (case c29 => k_is)
    (case k29 => k_is)
    (case g_NOTHING => k_is)
    (case l_NOTHING => k_is)
    (case le_NOTHING => k_is)
    (case z_isinstance => k_is)
    (case z_len => k_is)
    (case z_int => k_is)
    (case z_tuple => k_is)
    (case z_range => k_is)
    (case z_max => k_is)
    (case z_min => k_is)
    (case z_sorted => k_is)
    (case z_all => k_is)
    (case z_list => k_is)
    (case z_str => k_is)
