import PyProof.Rows.All
import Wide.All
import OpenK.AllK
import Wide.FinOn
import Lean
import PyProof.EqAt
import PyProof.EqKinds
import PyProof.TupleCall
import KE.KSortTup
import KE.KDictSum
import PyProof.Rows.SortStr
import PyProof.AutoSeq1
import PyProof.ZipIter
import PyProof.Rows.FStr
import PyProof.Rows.FStrParts
import PyProof.AttrMissHeap
import KE.KDictOf
import PyProof.StrCalls
import KE.KStrOpen
import KE.KRevIter
import PyProof.WalkInts
import KE.KDictList
import PyProof.Rows.SetFrom
import PyProof.SetRoads
import PyProof.DictCompW
import PySem.Challenge.RW_restways_k63_rings_of_elders
set_option Elab.async false
set_option linter.all false
set_option maxRecDepth 100000
/-! THE HAND LAYER, for ints, bools, texts, own classes, LISTS and tuples (index, slices, in, append, pop ..), calls, loops. Paste it whole ahead of your own text; what your proof does not reach may be deleted. -/
namespace L2
open PySem PySem.Spec PyProof.Rows

/-- a key: an int or a str -/
abbrev Key := Sum Int Str
def keyIs : Key → Value → Bool
  | .inl k, v => Value.isInt k v
  | .inr x, v => Value.isStrOf x v
def keyH (w : World) : Key → Int
  | .inl k => hashInt k
  | .inr x => hashStr w x
theorem keyIs_shape : ∀ {k : Key} {v : Value}, keyIs k v = true → (∃ i t, k = Sum.inl i ∧ v = Value.int i t) ∨ (∃ x t, k = Sum.inr x ∧ v = Value.str x t)
  | .inl i, v, h => by
    obtain ⟨t, e⟩ := Value.isInt_shape (k := i) (v := v) h
    exact .inl ⟨i, t, rfl, e⟩
  | .inr x, v, h => by
    obtain ⟨t, e⟩ := Value.isStrOf_shape (x := x) (v := v) h
    exact .inr ⟨x, t, rfl, e⟩
theorem keyIs_int (i : Int) (t : Tok) : keyIs (.inl i) (.int i t) = true := by simp [keyIs, Value.isInt]
theorem keyIs_str (x : Str) (t : Tok) : keyIs (.inr x) (.str x t) = true := by simp [keyIs, Value.isStrOf]
theorem key_ll (a b : Int) : decide ((Sum.inl a : Key) = Sum.inl b) = (a == b) := by
  by_cases e : a = b
  · subst e; simp
  · have h : ¬ (Sum.inl a : Key) = Sum.inl b := fun q => e (Sum.inl.inj q)
    rw [decide_eq_false h]
    exact (beq_eq_false_iff_ne.mpr e).symm
theorem key_rr (a b : Str) : decide ((Sum.inr a : Key) = Sum.inr b) = decide (a = b) := by
  by_cases e : a = b
  · subst e; simp
  · have h : ¬ (Sum.inr a : Key) = Sum.inr b := fun q => e (Sum.inr.inj q)
    rw [decide_eq_false h, decide_eq_false e]
theorem key_lr (a : Int) (b : Str) : decide ((Sum.inl a : Key) = Sum.inr b) = false := decide_eq_false (fun q => nomatch q)
theorem key_rl (a : Str) (b : Int) : decide ((Sum.inr a : Key) = Sum.inl b) = false := decide_eq_false (fun q => nomatch q)

def mixKind (prog : Program) (w : World) : PySem.KeyKind prog w Key where
  is := keyIs
  hash := keyH w
  inj := fun v a b ha hb => by
    rcases keyIs_shape ha with ⟨i, t, rfl, rfl⟩ | ⟨x, t, rfl, rfl⟩
    · rcases keyIs_shape hb with ⟨j, u, rfl, e⟩ | ⟨y, u, rfl, e⟩
      · injection e with e1 _; rw [e1]
      · exact nomatch e
    · rcases keyIs_shape hb with ⟨j, u, rfl, e⟩ | ⟨y, u, rfl, e⟩
      · exact nomatch e
      · injection e with e1 _; rw [e1]
  byValue := fun k v h => by
    rcases keyIs_shape h with ⟨i, t, rfl, rfl⟩ | ⟨x, t, rfl, rfl⟩ <;> rfl
  pyHash := fun hv h => by
    rcases keyIs_shape hv with ⟨i, t, rfl, rfl⟩ | ⟨x, t, rfl, rfl⟩
    · exact wpAny_pyHash_int h
    · exact wpAny_pyHash_str h
  eqBool := fun hu hv h => by
    rcases keyIs_shape hu with ⟨i, t, rfl, rfl⟩ | ⟨x, t, rfl, rfl⟩
    · rcases keyIs_shape hv with ⟨j, u, rfl, rfl⟩ | ⟨y, u, rfl, rfl⟩
      · rw [key_ll] at h; exact wpAny_eqBool_int h
      · rw [key_lr] at h; exact SeqAt.EqAt.int_str i t y u _ _ _ _ h
    · rcases keyIs_shape hv with ⟨j, u, rfl, rfl⟩ | ⟨y, u, rfl, rfl⟩
      · rw [key_rl] at h; exact SeqAt.EqAt.str_int x t j u _ _ _ _ h
      · rw [key_rr] at h; exact wpAny_eqBool_str h
  «strs» := fun k x t v h => by
    rcases keyIs_shape h with ⟨i, u, rfl, e⟩ | ⟨y, u, rfl, e⟩
    · exact nomatch e
    · injection e with e1 _
      subst e1
      cases v <;> rfl

theorem mixKind_int (prog : Program) (w : World) (i : Int) (t : Tok) : (mixKind prog w).is (.inl i) (.int i t) = true := keyIs_int i t
theorem mixKind_str (prog : Program) (w : World) (x : Str) (t : Tok) : (mixKind prog w).is (.inr x) (.str x t) = true := keyIs_str x t
end L2

namespace L2
open PySem PySem.Spec PyProof.Rows

/-- a value, without the heap -/
inductive V where
  | non | bl (b : Bool) | int (i : Int) | str (x : Str) | byt (b : Array UInt8) | flt (b : UInt64) | ref (a : Addr) | ty (n : String)
  deriving DecidableEq

def RelV : V → Value → Prop
  | .non, u => u = Value.none
  | .bl b, u => u = Value.bool b
  | .int i, u => ∃ t, u = Value.int i t
  | .str x, u => ∃ t, u = Value.str x t
  | .byt b, u => ∃ t, u = Value.bytes b t
  | .flt b, u => ∃ t, u = Value.float b t
  | .ref a, u => u = Value.ref a
  | .ty n, u => u = Value.type n

abbrev Vals : List V → List Value → Prop := Paired RelV
theorem Vals.length {xs : List V} {us : List Value} (r : Vals xs us) : xs.length = us.length := Paired.length r
theorem Vals.get : ∀ {xs : List V} {us : List Value} {i : Nat} {x : V}, Vals xs us → xs[i]? = some x → ∃ u, us[i]? = some u ∧ RelV x u
  | _, _, _, _, .nil, e => by simp at e
  | _, _, 0, _, .cons r _, e => by simp at e; subst e; exact ⟨_, rfl, r⟩
  | _, _, i + 1, x, .cons _ t, e => by
    obtain ⟨u, h1, h2⟩ := Vals.get (i := i) (x := x) t (by simpa using e)
    exact ⟨u, by simpa using h1, h2⟩
theorem Vals.set {x : V} {u : Value} (r : RelV x u) : ∀ {xs : List V} {us : List Value} (i : Nat), Vals xs us → Vals (xs.set i x) (us.set i u)
  | _, _, _, .nil => .nil
  | _, _, 0, .cons _ t => .cons r t
  | _, _, i + 1, .cons q t => .cons q (Vals.set r i t)
theorem Vals.append : ∀ {xs ys : List V} {us ws : List Value}, Vals xs us → Vals ys ws → Vals (xs ++ ys) (us ++ ws)
  | _, _, _, _, .nil, s => s
  | _, _, _, _, .cons r t, s => .cons r (Vals.append t s)
theorem Vals.take : ∀ {xs : List V} {us : List Value} (n : Nat), Vals xs us → Vals (xs.take n) (us.take n)
  | _, _, 0, _ => .nil
  | _, _, _ + 1, .nil => .nil
  | _, _, n + 1, .cons r t => .cons r (Vals.take n t)
theorem Vals.drop : ∀ {xs : List V} {us : List Value} (n : Nat), Vals xs us → Vals (xs.drop n) (us.drop n)
  | _, _, 0, r => r
  | _, _, _ + 1, .nil => .nil
  | _, _, n + 1, .cons _ t => Vals.drop n t

def RelO : Option V → Option Value → Prop
  | some v, some u => RelV v u
  | none, none => True
  | _, _ => False
def KV {κ : Type} : List (κ × V) → List (κ × Value) → Prop := Paired fun (p : κ × V) (q : κ × Value) => p.1 = q.1 ∧ RelV p.2 q.2

/-- a key of a dict (00_mix): an int or a text -/
def kV : Key → V
  | .inl i => .int i
  | .inr x => .str x

/-- what stands at a tracked address -/
inductive HO where
  /-- a list -/
  | lst (xs : List V)
  /-- a tuple (never changes) -/
  | tup (xs : List V)
  /-- a dict whose keys are ints and texts; one whose keys are tuples of ints and texts (the empty one is both) -/
  | dK (kvs : List (Key × V)) | dT (kvs : List (List Key × V))
  /-- a set of ints: its members, its size -/
  | set (S : Int → Bool) (n : Nat)
  /-- an instance of the class at C, its dict at dx, its attributes -/
  | ins (C dx : Addr) (fs : List (Str × V))
  /-- the dict of the instance at x -/
  | own (x : Addr)
  /-- the dict of an exception -/
  | xd (fs : List (Str × V))
  /-- a bound method, f of x -/
  | met (f x : Addr)
  /-- a range object lo, lo + 1, .. below hi -/
  | rng (lo hi : Int)
  /-- a thing that is known to the object (the script; a dict while a loop walks it): read, never written while it is so -/
  | frz (o : Obj) (u : HO)
  /-- a code object's table -/
  | tbl (ps : Array Value)
  /-- any other thing, by what is true of its one object (a def of one's own: SetO a S n := HO.ext fun h => ..) -/
  | ext (φ : Heap → Prop)

abbrev Hp := Addr → Option HO
def upd (H : Hp) (a : Addr) (o : HO) : Hp := fun b => if b = a then some o else H b
theorem upd_same {H : Hp} {a : Addr} {o : HO} : upd H a o a = some o := by unfold upd; rw [if_pos rfl]
theorem upd_ne {H : Hp} {a b : Addr} {o : HO} (h : b ≠ a) : upd H a o b = H b := by unfold upd; rw [if_neg h]
theorem upd_upd {H : Hp} {a : Addr} {o u : HO} : upd (upd H a o) a u = upd H a u := by
  funext b; unfold upd; split <;> rfl
/-- two objects of different content stand apart -/
theorem ne_of {H : Hp} {a b : Addr} {o u : HO} (h : H a = some o) (h' : H b = some u) (d : o ≠ u) : a ≠ b := by
  intro e; subst e; rw [h] at h'; exact d (Option.some.inj h')
theorem ne_of_none {H : Hp} {a b : Addr} {o : HO} (h : H a = some o) (h' : H b = none) : a ≠ b := by
  intro e; subst e; rw [h] at h'; cases h'

section
variable (P : Program) (w : World)
/-- nothing hangs at it -/
def NoDict (h : Heap) (a : Addr) : Prop := ∀ o, h.get? a = some o → o.dict = none
theorem NoDict.new {h : Heap} {o : Obj} (e : o.dict = none) (f : (h.push o).get? h.objs.size = some o) : NoDict (h.push o) h.objs.size := fun o' z => by rw [f] at z; cases z; exact e
def ObjOk (H : Hp) (h : Heap) (a : Addr) : HO → Prop
  | .lst xs => xs.length ≤ sizeLine ∧ ∃ (its : List Value) (n : Nat), Vals xs its ∧ h.get? a = some { cls := .type "list", data := .seq its.toArray n }
  | .tup xs => xs.length ≤ sizeLine ∧ ∃ its : List Value, Vals xs its ∧ IsTup h a its.toArray ∧ NoDict h a
  | .dK kvs => kvs.length ≤ sizeLine ∧ (a == sysModules) = false ∧ ∃ vs, KV kvs vs ∧ h.DictOf (mixKind P w) a vs
  | .dT kvs => kvs.length ≤ sizeLine ∧ (a == sysModules) = false ∧ ∃ xs : List (List Key × Addr × Value),
      Paired (fun (p : List Key × V) (q : List Key × Addr × Value) => p.1 = q.1 ∧ H q.2.1 = some (.tup (p.1.map kV)) ∧ RelV p.2 q.2.2) kvs xs ∧
      ∃ o es ep, h.get? a = some o ∧ o.ExactDict ∧ o.data = .dict es ep ∧ es.toList = xs.map (entryOfKey (tupleKind (mixKind P w))) ∧ (xs.map (·.1)).Nodup
  | .set S n => h.SetOf (intKind P w) a S n
  | .ins C dx fs => H dx = some (.own a) ∧ fs.length ≤ 1000 ∧ dx ≠ a ∧ h.get? a = some (PySem.W.instObj C dx) ∧
      ∃ mA, h.Ns1 dx mA ∧ (∀ f, RelO (fs.lookup f) (mA f)) ∧ PySem.Within mA (fs.map (·.1))
  | .own _ => ∃ o, h.get? a = some o
  | .xd fs => ∃ mA, h.Ns1 a mA ∧ ∀ f, RelO (fs.lookup f) (mA f)
  | .rng lo hi => ∃ t u v, h.get? a = some { cls := .type "range", data := .fields #[.int lo t, .int hi u, .int 1 v] }
  | .frz o u => h.get? a = some o ∧ ObjOk H h a u
  | .tbl ps => h.get? a = some { cls := .none, data := .fields ps }
  | .met f x => h.get? a = some (PySem.W.methodObj (.ref f) (.ref x))
  | .ext φ => φ h ∧ (∃ o, h.get? a = some o) ∧ ∀ h1 h2 : Heap, φ h1 → (∀ o, h1.get? a = some o → h2.get? a = some o) → φ h2
/-- the abstract heap is held -/
def HOk (H : Hp) (h : Heap) : Prop := ∀ a o, H a = some o → ObjOk P w H h a o
end

section
variable {P : Program} {w : World} {H H' : Hp} {h h' : Heap} {a : Addr} {o : HO}
theorem ObjOk.lt (x : ObjOk P w H h a o) : a < h.objs.size := by
  cases o with
  | lst xs => obtain ⟨_, _, _, _, e⟩ := x; exact Heap.lt_size e
  | tup xs => obtain ⟨_, _, _, p, _⟩ := x; exact p.lt
  | dK kvs => obtain ⟨_, _, _, _, o, _, _, e, _⟩ := x; exact Heap.lt_size e
  | dT kvs => obtain ⟨_, _, _, _, o, _, _, e, _⟩ := x; exact Heap.lt_size e
  | set S n => obtain ⟨o, _, _, _, e, _⟩ := x; exact Heap.lt_size e
  | ins C dx fs => obtain ⟨_, _, _, e, _⟩ := x; exact Heap.lt_size e
  | own y => obtain ⟨_, e⟩ := x; exact Heap.lt_size e
  | xd fs => obtain ⟨_, ⟨_, _, _, e, _⟩, _⟩ := x; exact Heap.lt_size e
  | rng lo hi => obtain ⟨_, _, _, e⟩ := x; exact Heap.lt_size e
  | frz ob u => obtain ⟨e, _⟩ := x; exact Heap.lt_size e
  | tbl ps => exact Heap.lt_size (show h.get? a = some _ from x)
  | met f y => exact Heap.lt_size (show h.get? a = some _ from x)
  | ext φ => obtain ⟨_, ⟨_, e⟩, _⟩ := x; exact Heap.lt_size e
theorem Paired.mapP {α β : Type} {F G : α → β → Prop} : ∀ {l₁ : List α} {l₂ : List β}, Paired F l₁ l₂ → (∀ a b, F a b → G a b) → Paired G l₁ l₂
  | _, _, .nil, _ => .nil
  | _, _, .cons r t, f => .cons (f _ _ r) (Paired.mapP t f)
/-- what an object's description leans on: its own object, its own dict, the tuples -/
theorem ObjOk.stay (x : ObjOk P w H h a o) (k : ∀ b u, (b = a ∨ H b = some (.own a)) → h.get? b = some u → h'.get? b = some u)
    (ho : ∀ b, H b = some (.own a) → H' b = some (.own a)) (ht : ∀ b xs, H b = some (.tup xs) → H' b = some (.tup xs)) : ObjOk P w H' h' a o := by
  induction o with
  | lst xs => obtain ⟨z, its, n, r, e⟩ := x; exact ⟨z, its, n, r, k _ _ (.inl rfl) e⟩
  | tup xs => obtain ⟨z, its, r, ⟨ob, e, c⟩, nd⟩ := x; exact ⟨z, its, r, ⟨ob, k _ _ (.inl rfl) e, c⟩, fun o q => by rw [k _ _ (.inl rfl) e] at q; cases q; exact nd _ e⟩
  | dK kvs => obtain ⟨z, y, vs, r, ob, es, ep, e, c⟩ := x; exact ⟨z, y, vs, r, ob, es, ep, k _ _ (.inl rfl) e, c⟩
  | dT kvs =>
    obtain ⟨z, y, xs, r, ob, es, ep, e, c⟩ := x
    exact ⟨z, y, xs, Paired.mapP r fun p q z => ⟨z.1, ht _ _ z.2.1, z.2.2⟩, ob, es, ep, k _ _ (.inl rfl) e, c⟩
  | set S n => obtain ⟨ob, es, ep, t, e, c⟩ := x; exact ⟨ob, es, ep, t, k _ _ (.inl rfl) e, c⟩
  | ins C dx fs =>
    obtain ⟨d, z, ne, e, mA, ⟨od, es, ep, e2, c⟩, r⟩ := x
    exact ⟨ho _ d, z, ne, k _ _ (.inl rfl) e, mA, ⟨od, es, ep, k _ _ (.inr d) e2, c⟩, r⟩
  | own y => obtain ⟨ob, e⟩ := x; exact ⟨ob, k _ _ (.inl rfl) e⟩
  | xd fs => obtain ⟨mA, ⟨od, es, ep, e, c⟩, r⟩ := x; exact ⟨mA, ⟨od, es, ep, k _ _ (.inl rfl) e, c⟩, r⟩
  | rng lo hi => obtain ⟨t, u, v, e⟩ := x; exact ⟨t, u, v, k _ _ (.inl rfl) e⟩
  | frz ob u ih => obtain ⟨e, q⟩ := x; exact ⟨k _ _ (.inl rfl) e, ih q⟩
  | tbl ps =>
    have e : h.get? a = some { cls := .none, data := .fields ps } := x
    show h'.get? a = some { cls := .none, data := .fields ps }
    exact k a _ (.inl rfl) e
  | met f y =>
    have e : h.get? a = some (PySem.W.methodObj (.ref f) (.ref y)) := x
    show h'.get? a = some (PySem.W.methodObj (.ref f) (.ref y))
    exact k a _ (.inl rfl) e
  | ext φ => obtain ⟨p, ⟨o, e⟩, st⟩ := x; exact ⟨st _ _ p fun o q => k _ _ (.inl rfl) q, ⟨o, k _ _ (.inl rfl) e⟩, st⟩
theorem HOk.lt (x : HOk P w H h) (e : H a = some o) : a < h.objs.size := (x a o e).lt
theorem HOk.fresh (x : HOk P w H h) (e : h.objs.size ≤ a) : H a = none := by
  cases q : H a with
  | none => rfl
  | some u => exact absurd (Nat.lt_of_lt_of_le (x.lt q) e) (Nat.lt_irrefl _)
/-- every object of the heap is kept -/
theorem HOk.kept (x : HOk P w H h) (k : ∀ b u, h.get? b = some u → h'.get? b = some u) : HOk P w H h' := fun a o e =>
  (x a o e).stay (fun b u _ q => k b u q) (fun _ q => q) fun _ _ q => q
/-- a new object is laid and tracked -/
theorem HOk.laid (x : HOk P w H h) (k : ∀ b u, h.get? b = some u → h'.get? b = some u) (hp : h.objs.size ≤ a) (new : ObjOk P w (upd H a o) h' a o) : HOk P w (upd H a o) h' := fun b u e => by
  have hn := x.fresh hp
  by_cases hb : b = a
  · subst hb; rw [upd_same] at e; cases e; exact new
  · rw [upd_ne hb] at e
    exact (x b u e).stay (fun c v _ q => k c v q) (fun c q => by rw [upd_ne (ne_of_none q hn)]; exact q) fun c xs q => by rw [upd_ne (ne_of_none q hn)]; exact q
end

/-- what may be read as u: it is u, or a known u -/
def Rd (H : Hp) (a : Addr) (u : HO) : Prop := H a = some u ∨ ∃ o, H a = some (.frz o u)
theorem Rd.ok {P : Program} {w : World} {H : Hp} {h : Heap} {a : Addr} {u : HO} (r : Rd H a u) (x : HOk P w H h) : ObjOk P w H h a u := by
  rcases r with r | ⟨o, r⟩
  · exact x a u r
  · obtain ⟨_, q⟩ := x a _ r
    exact q
/-- what may be written -/
def Mut : Option HO → Prop
  | some (.lst _) => True
  | some (.dK _) => True
  | some (.dT _) => True
  | some (.set _ _) => True
  | some (.ins _ _ _) => True
  | some (.ext _) => True
  | _ => False
section
variable {P : Program} {w : World} {H : Hp} {h h' : Heap} {x e : Addr} {o' : HO}
/-- the object at e is changed: x itself, or the dict of the instance x -/
theorem HOk.write (ok : HOk P w H h) (mu : Mut (H x)) (he : e = x ∨ H e = some (.own x)) (k : ∀ b u, b ≠ e → h.get? b = some u → h'.get? b = some u) (heo : ∃ u, h'.get? e = some u)
    (new : ObjOk P w (upd H x o') h' x o') : HOk P w (upd H x o') h' := fun b u q => by
  have nown : ∀ c y, H c = some (.own y) → c ≠ x := fun c y r z => by subst z; rw [r] at mu; exact mu
  have ntup : ∀ c xs, H c = some (.tup xs) → c ≠ x := fun c xs r z => by subst z; rw [r] at mu; exact mu
  by_cases hb : b = x
  · subst hb; rw [upd_same] at q; cases q; exact new
  · rw [upd_ne hb] at q
    by_cases hbe : b = e
    · have q' : H b = some (.own x) := by
        rcases he with z | z
        · exact absurd (hbe.trans z) hb
        · rw [hbe]; exact z
      rw [q] at q'; cases q'
      obtain ⟨v, hv⟩ := heo
      exact ⟨v, by rw [hbe]; exact hv⟩
    · refine (ok b u q).stay (fun c v hc r => k c v ?_ r) (fun c r => by rw [upd_ne (nown c b r)]; exact r) fun c xs r => by rw [upd_ne (ntup c xs r)]; exact r
      rcases hc with rfl | hc
      · exact hbe
      · rintro rfl
        rcases he with z | z
        · exact nown c b hc z
        · rw [hc] at z; cases z; exact hb rfl
end

/-! ### kept unless tracked; of the frames at fs (the callers') the slots may change (an exception that passes writes there); of the records at ex (iterators) nothing is said -/
structure Un (fs ex : List Addr) (H H' : Hp) (h h' : Heap) : Prop where
  keep : ∀ b o, h.get? b = some o → H b = none → b ∉ fs → b ∉ ex → h'.get? b = some o
  slot : ∀ b o, h.get? b = some o → H b = none → b ∈ fs → b ∉ ex → ∃ sl, h'.get? b = some { o with slots := sl }
  free : ∀ b o, h.get? b = some o → H b = none → b ∉ ex → H' b = none
  there : ∀ b o, h.get? b = some o → b ∉ ex → ∃ o', h'.get? b = some o'
  tups : ∀ b xs, H b = some (.tup xs) → H' b = some (.tup xs)
  frzs : ∀ b o u, H b = some (.frz o u) → H' b = some (.frz o u)
  tbls : ∀ b ps, H b = some (.tbl ps) → ∃ more, H' b = some (.tbl (ps ++ more))
section
variable {fs fs' ex ex' : List Addr} {H H1 H2 : Hp} {h h1 h2 h' : Heap} {a x e : Addr} {o : HO}
theorem Un.any (u : Un fs ex H H1 h h1) {b : Addr} {ob : Obj} (q : h.get? b = some ob) (n : H b = none) (hx : b ∉ ex) : ∃ sl, h1.get? b = some { ob with slots := sl } := by
  by_cases hb : b ∈ fs
  · exact u.slot b ob q n hb hx
  · exact ⟨ob.slots, u.keep b ob q n hb hx⟩
theorem Un.kept (k : ∀ b u, h.get? b = some u → h'.get? b = some u) : Un fs ex H H h h' :=
  ⟨fun b ob q _ _ _ => k b ob q, fun b ob q _ _ _ => ⟨ob.slots, k b ob q⟩, fun _ _ _ n _ => n, fun b ob q _ => ⟨ob, k b ob q⟩, fun _ _ q => q, fun _ _ _ q => q, fun _ ps q => ⟨#[], by rw [q]; simp⟩⟩
theorem Un.refl : Un fs ex H H h h := Un.kept fun _ _ q => q
theorem Un.laid (k : ∀ b u, h.get? b = some u → h'.get? b = some u) (hp : h.objs.size ≤ a) (hn : H a = none) : Un fs ex H (upd H a o) h h' where
  keep := fun b u q _ _ _ => k b u q
  slot := fun b u q _ _ _ => ⟨u.slots, k b u q⟩
  free := fun b u q n _ => by rw [upd_ne (Nat.ne_of_lt (Nat.lt_of_lt_of_le (Heap.lt_size q) hp))]; exact n
  there := fun b u q _ => ⟨u, k b u q⟩
  tups := fun b xs q => by rw [upd_ne (ne_of_none q hn)]; exact q
  frzs := fun b u xs q => by rw [upd_ne (ne_of_none q hn)]; exact q
  tbls := fun b ps q => ⟨#[], by rw [upd_ne (ne_of_none q hn), q]; simp⟩
theorem Un.write (mu : Mut (H x)) (he : e = x ∨ H e = some (.own x)) (k : ∀ b u, b ≠ e → h.get? b = some u → h'.get? b = some u) (heo : ∃ u, h'.get? e = some u) : Un fs ex H (upd H x o) h h' := by
  have hx : ∀ b, H b = none → b ≠ x := fun b n z => by subst z; rw [n] at mu; exact mu
  have hb : ∀ b, H b = none → b ≠ e := fun b n z => by
    subst z
    rcases he with r | r
    · exact hx b n r
    · rw [n] at r; cases r
  have hm : ∀ b u, H b = some u → ¬ Mut (some u) → b ≠ x := fun b u q nm z => by subst z; rw [q] at mu; exact nm mu
  refine ⟨fun b u q n _ _ => k b u (hb b n) q, fun b u q n _ _ => ⟨u.slots, k b u (hb b n) q⟩, fun b u q n _ => by rw [upd_ne (hx b n)]; exact n, fun b u q _ => ?_,
    fun b xs q => by rw [upd_ne (hm b _ q fun z => z)]; exact q, fun b u xs q => by rw [upd_ne (hm b _ q fun z => z)]; exact q, fun b ps q => ⟨#[], by rw [upd_ne (hm b _ q fun z => z), q]; simp⟩⟩
  by_cases hbe : b = e
  · subst hbe; exact heo
  · exact ⟨u, k b u hbe q⟩
end

/-! ### the heap without what is tracked -/
def trk (h : Heap) (H : Hp) : List Addr := (List.range h.objs.size).filter fun a => (H a).isSome
def hidT (h : Heap) (H : Hp) : Heap := PySem.W.hideAll h (trk h H)
theorem hidT_size (h : Heap) (H : Hp) : (hidT h H).objs.size = h.objs.size := PySem.W.hideAll_size _ _
theorem hidT_get {h : Heap} {H : Hp} {b : Addr} {o : Obj} (e : h.get? b = some o) (n : H b = none) : (hidT h H).get? b = some o :=
  PySem.W.hideAll_get _ e fun hm => by
    have q : (H b).isSome = true := (List.mem_filter.mp hm).2
    rw [n] at q; simp at q
theorem of_hidT {h : Heap} {H : Hp} {b : Addr} {o : Obj} (e : (hidT h H).get? b = some o) : h.get? b = some o ∧ H b = none := by
  have e' : h.get? b = some o := PySem.W.of_hideAll (trk h H) e
  refine ⟨e', ?_⟩
  cases q : H b with
  | none => rfl
  | some x =>
    have hm : b ∈ trk h H := List.mem_filter.mpr ⟨List.mem_range.mpr (Heap.lt_size e'), by simp [q]⟩
    have z : (hidT h H).get? b = none := PySem.W.hideAll_none (trk h H) hm
    rw [z] at e; cases e

/-! ### OpenK's ledger, filled with every new object but one -/
end L2

namespace L2
open PySem PySem.Spec PyProof.Rows

/-- the module's facts, over the base: the heap at the law's entry without what is tracked there -/
structure Mod (K : PySem.W.Frag) (mg : Str → Option Value) (base : Heap) : Prop where
  kin : K.In base
  glob : base.Ns mainGlobals mg
  blt : ∃ mb, base.Ns builtinsNs mb ∧ ∀ x : Str, x ≠ "__name__" → mb x = bootBuiltins x
  nolimit : base.NoLimit

/-- the context: a def's body (or a comprehension's block) running. base: fixed through the whole law; s₀, H₀: the entry; outer: the frames whose slots others may change (a def's callers); stack: all frames that run;
   ex: iterators that were made ahead of the entry and are walked here (a comprehension's); fn: the names whose cells were made at the entry (a def: all; a comprehension's block: its own); calm: not within an except suite; pn: pins that every state bears; xe: what is wanted of an exception that leaves the code -/
structure Cx where
  prog : Program
  w : World
  K : PySem.W.Frag
  mg : Str → Option Value
  base : Heap
  A : Around
  N : List Str
  s₀ : Shared
  H₀ : Hp
  env : Env
  outer : List Env
  stack : List Env
  ex : List Addr
  fn : Str → Bool
  calm : Bool
  pn : List (Addr × Obj)
  xe : Value → Shared → Prop
/-- the callers' frames -/
def frs (l : List Env) : List Addr := l.filterMap (·.frame)
abbrev Cx.fs (X : Cx) : List Addr := frs X.outer

def Vis (sc : Scope) (x : Str) : Prop := sc.names.lookup x = some .local ∨ sc.names.lookup x = some .cell ∨ sc.names.lookup x = some .free
def Loc (sc : Scope) (x : Str) : Prop := sc.names.lookup x = some .local ∨ sc.names.lookup x = some .cell
def Look (env : Env) (h : Heap) (m : Str → Option Value) (x : Str) (u : Value) : Prop :=
  (env.kindOf x = some .local ∧ m x = some u) ∨ ((env.kindOf x = some .cell ∨ env.kindOf x = some .free) ∧ ∃ c, env.cells.lookup x = some c ∧ h.IsCell c (some u))

structure Cx.Ok (X : Cx) : Prop where
  mod : Mod X.K X.mg X.base
  kind : X.env.scope.kind = .function
  glob : X.env.globals = mainGlobals
  blt : X.env.builtins = builtinsNs
  above : X.s₀.heap.objs.size ≤ X.env.locals
  inj : ∀ x y c, X.env.cells.lookup x = some c → X.env.cells.lookup y = some c → x = y
  has : ∀ x, (X.env.kindOf x = some .cell ∨ X.env.kindOf x = some .free) → ∃ c, X.env.cells.lookup x = some c
  cab : ∀ x c, X.fn x = true → X.env.cells.lookup x = some c → X.s₀.heap.objs.size ≤ c
  hd : X.calm = true → X.A.handled = none
  frames : X.A.frames = some X.stack
  stk : X.stack = X.outer ∨ (X.stack = X.env :: X.outer ∧ X.env.frame = some X.env.locals)
  exf : ∀ b ∈ X.ex, b ≠ X.env.locals ∧ ∀ x c, X.env.cells.lookup x = some c → c ≠ b
  bs : ∀ b o, X.base.get? b = some o → X.s₀.heap.get? b = some o ∧ X.H₀ b = none
  bsz : X.base.objs.size ≤ X.s₀.heap.objs.size
  noex : ∀ b o, X.base.get? b = some o → b ∉ X.ex
  exfs : ∀ b ∈ X.ex, b ∉ X.fs
  funs : X.s₀.heap.FunFrames X.base X.outer
  frf : ∀ b ∈ X.fs, X.H₀ b = none

structure Inv (X : Cx) (pins : List (Addr × Obj)) (σ : List (Option V)) (H : Hp) (s : Shared) : Prop where
  ok : X.Ok
  os : s.os = X.s₀.os
  bare : AllBare s.gens
  base : Un X.fs X.ex X.H₀ H X.s₀.heap s.heap
  loc : ∃ m, s.heap.Ns X.env.locals m ∧ ∀ (i : Nat) (x : Str) (v : V), X.N[i]? = some x → σ[i]? = some (some v) → Vis X.env.scope x → ∃ u, RelV v u ∧ Look X.env s.heap m x u
  cell : ∀ x c, X.env.cells.lookup x = some c → ∃ v, s.heap.IsCell c v
  free : H X.env.locals = none
  freeC : ∀ x c, X.env.cells.lookup x = some c → H c = none
  pin : ∀ p ∈ X.pn ++ pins, s.heap.get? p.1 = some p.2 ∧ H p.1 = none ∧ p.1 ≠ X.env.locals ∧ p.1 ∉ X.fs ∧ ∀ v, p.2.data ≠ .cell v
  hok : HOk X.prog X.w H s.heap
  len : σ.length = X.N.length

section
variable {X : Cx} {pins : List (Addr × Obj)} {σ : List (Option V)} {H H' : Hp} {s : Shared} {h' : Heap}

theorem Cx.Ok.nofr (ok : X.Ok) {b : Addr} {o : Obj} (e : X.base.get? b = some o) : b ∉ X.fs := fun hb => by
  have := (ok.funs.mem hb).1
  rw [e] at this; cases this
theorem Inv.bs (I : Inv X pins σ H s) : ∀ b o, X.base.get? b = some o → s.heap.get? b = some o ∧ H b = none := fun b o e =>
  ⟨I.base.keep b o (I.ok.bs b o e).1 (I.ok.bs b o e).2 (I.ok.nofr e) (I.ok.noex b o e), I.base.free b o (I.ok.bs b o e).1 (I.ok.bs b o e).2 (I.ok.noex b o e)⟩
theorem Inv.bk (I : Inv X pins σ H s) : ∀ b o, X.base.get? b = some o → s.heap.get? b = some o := fun b o e => (I.bs b o e).1
theorem Inv.mod (I : Inv X pins σ H s) : Mod X.K X.mg X.base := I.ok.mod
theorem Inv.kIn (I : Inv X pins σ H s) : X.K.In s.heap := I.ok.mod.kin.keeps I.bk
theorem Inv.lt (I : Inv X pins σ H s) : X.env.locals < s.heap.objs.size := let ⟨_, hn, _⟩ := I.loc; hn.lt
theorem Inv.sz (I : Inv X pins σ H s) : X.s₀.heap.objs.size ≤ s.heap.objs.size := Nat.le_trans I.ok.above (Nat.le_of_lt I.lt)
theorem Inv.nofs (I : Inv X pins σ H s) {a : Addr} (h : s.heap.objs.size ≤ a) : a ∉ X.fs := fun hb => by
  obtain ⟨_, o, ho, _⟩ := I.ok.funs.mem hb
  exact absurd (Nat.lt_of_lt_of_le (Heap.lt_size ho) (Nat.le_trans I.sz h)) (Nat.lt_irrefl _)
theorem Inv.cne (I : Inv X pins σ H s) : ∀ x c, X.env.cells.lookup x = some c → c ≠ X.env.locals := fun x c e z => by
  obtain ⟨v, o, ho, hd⟩ := I.cell x c e
  obtain ⟨m, ⟨o', es, ep, ho', hd', _⟩, _⟩ := I.loc
  rw [z, ho'] at ho; cases ho; rw [hd'] at hd; cases hd
theorem Inv.funs (I : Inv X pins σ H s) : s.heap.FunFrames X.base X.outer := by
  have all : ∀ (l : List Env), (∀ b ∈ frs l, b ∈ X.fs) → X.s₀.heap.FunFrames X.base l → s.heap.FunFrames X.base l := by
    intro l
    induction l with
    | nil => intro _ _; trivial
    | cons env r ih =>
      intro hs hl
      obtain ⟨hk, ⟨L, o, hf, hn, ho, hd⟩, hr⟩ := hl
      have hL : L ∈ X.fs := hs L (by unfold frs; rw [List.filterMap_cons, hf]; exact List.mem_cons_self)
      obtain ⟨sl, e⟩ := I.base.slot L o ho (I.ok.frf L hL) hL fun z => I.ok.exfs L z hL
      exact ⟨hk, ⟨L, _, hf, hn, e, hd⟩, ih (fun b hb => hs b (by unfold frs; rw [List.filterMap_cons, hf]; exact List.mem_cons_of_mem _ hb)) hr⟩
  exact all X.outer (fun _ hb => hb) I.ok.funs

/-- the frames that run, for a call -/
theorem Inv.stack (I : Inv X pins σ H s) : s.heap.FunFrames X.base X.stack := by
  rcases I.ok.stk with e | ⟨e, hf⟩
  · rw [e]; exact I.funs
  · rw [e]
    obtain ⟨m, hn, _⟩ := I.loc
    refine .cons (by rw [I.ok.kind]; decide) hf hn ?_ I.funs
    exact Heap.get?_none_of_le (Nat.le_trans I.ok.bsz I.ok.above)
theorem Inv.stkSub (I : Inv X pins σ H s) : ∀ b ∈ frs X.stack, b ∈ X.env.locals :: X.fs := fun b hb => by
  rcases I.ok.stk with e | ⟨e, hf⟩
  · rw [e] at hb; exact List.mem_cons_of_mem _ hb
  · rw [e] at hb
    unfold frs at hb
    rw [List.filterMap_cons, hf] at hb
    exact hb
theorem Inv.stkFree (I : Inv X pins σ H s) : ∀ b ∈ frs X.stack, H b = none := fun b hb => by
  rcases List.mem_cons.mp (I.stkSub b hb) with e | hb
  · rw [e]; exact I.free
  · obtain ⟨_, o, ho, _⟩ := I.ok.funs.mem hb
    exact I.base.free b o ho (I.ok.frf b hb) fun z => I.ok.exfs b z hb

/-- THE STEP: the untracked objects but the frame and the records at ch are kept (the callers' frames up to slots), the frame's map is kept, the new abstract heap is held -/
theorem Inv.step {g' : Array GenState} {t' : Nat} {d' : Drawn} {ch : List Addr} (I : Inv X pins σ H s)
    (hch : ∀ b ∈ ch, (b ∈ X.ex ∨ X.s₀.heap.objs.size ≤ b) ∧ b ≠ X.env.locals ∧ (∀ x c, X.env.cells.lookup x = some c → c ≠ b) ∧ ∀ p ∈ X.pn ++ pins, p.1 ≠ b)
    (keep : ∀ b o, b ≠ X.env.locals → b ∉ X.fs → b ∉ ch → s.heap.get? b = some o → H b = none → h'.get? b = some o)
    (slot : ∀ b o, b ≠ X.env.locals → b ∈ X.fs → b ∉ ch → s.heap.get? b = some o → H b = none → ∃ sl, h'.get? b = some { o with slots := sl }) (free : ∀ b o, b ∉ ch → s.heap.get? b = some o → H b = none → H' b = none)
    (there : ∀ b o, b ∉ ch → s.heap.get? b = some o → ∃ o', h'.get? b = some o')
    (tups : ∀ b xs, H b = some (.tup xs) → H' b = some (.tup xs)) (frzs : ∀ b o u, H b = some (.frz o u) → H' b = some (.frz o u)) (tbls : ∀ b ps, H b = some (.tbl ps) → ∃ more, H' b = some (.tbl (ps ++ more)))
    (ns : ∀ m, s.heap.Ns X.env.locals m → h'.Ns X.env.locals m) (hok : HOk X.prog X.w H' h') (hg : AllBare g') :
    Inv X pins σ H' { s with heap := h', gens := g', drawn := d', toks := t' } := by
  have neL : ∀ b o, X.s₀.heap.get? b = some o → b ≠ X.env.locals := fun b o e => Nat.ne_of_lt (Nat.lt_of_lt_of_le (Heap.lt_size e) I.ok.above)
  have neC : ∀ b o, X.s₀.heap.get? b = some o → b ∉ X.ex → b ∉ ch := fun b o e hx hb => by
    rcases (hch b hb).1 with z | z
    · exact hx z
    · exact absurd (Nat.lt_of_lt_of_le (Heap.lt_size e) z) (Nat.lt_irrefl _)
  have cellK : ∀ x c, X.env.cells.lookup x = some c → ∀ v, s.heap.IsCell c v → h'.IsCell c v := fun x c e v ⟨o, ho, hd⟩ => by
    have nch : c ∉ ch := fun z => (hch c z).2.2.1 x c e rfl
    by_cases hc : c ∈ X.fs
    · obtain ⟨sl, q⟩ := slot c o (I.cne x c e) hc nch ho (I.freeC x c e)
      exact ⟨_, q, hd⟩
    · exact ⟨o, keep c o (I.cne x c e) hc nch ho (I.freeC x c e), hd⟩
  refine ⟨I.ok, I.os, hg, ⟨fun b o e n hb hx => ?_, fun b o e n hb hx => ?_, fun b o e n hx => ?_, fun b o e hx => ?_, fun b xs e => tups b xs (I.base.tups b xs e), fun b o xs e => frzs b o xs (I.base.frzs b o xs e), fun b ps e => ?_⟩, ?_, fun x c e => ?_, ?_, fun x c e => ?_, fun p hp => ?_, hok, I.len⟩
  · exact keep b o (neL b o e) hb (neC b o e hx) (I.base.keep b o e n hb hx) (I.base.free b o e n hx)
  · obtain ⟨sl, e1⟩ := I.base.slot b o e n hb hx
    obtain ⟨sl', e2⟩ := slot b _ (neL b o e) hb (neC b o e hx) e1 (I.base.free b o e n hx)
    exact ⟨sl', e2⟩
  · obtain ⟨o', e1⟩ := I.base.there b o e hx
    exact free b o' (neC b o e hx) e1 (I.base.free b o e n hx)
  · obtain ⟨o', e1⟩ := I.base.there b o e hx
    exact there b o' (neC b o e hx) e1
  · obtain ⟨m1, e1⟩ := I.base.tbls b ps e
    obtain ⟨m2, e2⟩ := tbls b _ e1
    exact ⟨m1 ++ m2, by rw [e2, Array.append_assoc]⟩
  · obtain ⟨m, hn, hl⟩ := I.loc
    refine ⟨m, ns m hn, fun i x v e1 e2 e3 => ?_⟩
    obtain ⟨u, r, l⟩ := hl i x v e1 e2 e3
    refine ⟨u, r, ?_⟩
    rcases l with l | ⟨k, c, e, z⟩
    · exact .inl l
    · exact .inr ⟨k, c, e, cellK x c e _ z⟩
  · obtain ⟨v, z⟩ := I.cell x c e
    exact ⟨v, cellK x c e v z⟩
  · obtain ⟨m, ⟨o, _, _, ho, _⟩, _⟩ := I.loc
    exact free _ o (fun z => (hch _ z).2.1 rfl) ho I.free
  · obtain ⟨v, o, ho, hd⟩ := I.cell x c e
    exact free c o (fun z => (hch c z).2.2.1 x c e rfl) ho (I.freeC x c e)
  · obtain ⟨e, n, ne, nf, d⟩ := I.pin p hp
    have nch : p.1 ∉ ch := fun z => (hch p.1 z).2.2.2 p hp rfl
    exact ⟨keep p.1 p.2 ne nf nch e n, free p.1 p.2 nch e n, ne, nf, d⟩
/-- .. where the frame's own object is kept too -/
theorem Inv.un {t' : Nat} (I : Inv X pins σ H s) (u : Un X.fs [] H H' s.heap h') (hok : HOk X.prog X.w H' h') : Inv X pins σ H' { s with heap := h', toks := t' } := by
  obtain ⟨m, ⟨o, es, ep, ho, r⟩, _⟩ := id I.loc
  obtain ⟨sl, hL⟩ := u.any ho I.free (by simp)
  exact I.step (g' := s.gens) (d' := s.drawn) (ch := []) (fun _ z => nomatch z) (fun b o _ hb _ e n => u.keep b o e n hb (by simp)) (fun b o _ hb _ e n => u.slot b o e n hb (by simp)) (fun b o _ e n => u.free b o e n (by simp)) (fun b o _ e => u.there b o e (by simp)) u.tups u.frzs u.tbls (fun m' hm => by
    obtain ⟨o', es', ep', ho', r'⟩ := hm
    rw [ho] at ho'; cases ho'
    exact ⟨_, es', ep', hL, r'⟩) hok I.bare
/-- behind a call (or a comprehension's block): the slots of this frame may have changed too, the records at ch may have turned -/
theorem Inv.call {g' : Array GenState} {t' : Nat} {d' : Drawn} {ch : List Addr} (I : Inv X pins σ H s) (u : Un (frs X.stack) ch H H' s.heap h') (hok : HOk X.prog X.w H' h') (hg : AllBare g')
    (hch : ∀ b ∈ ch, (b ∈ X.ex ∨ X.s₀.heap.objs.size ≤ b) ∧ b ≠ X.env.locals ∧ (∀ x c, X.env.cells.lookup x = some c → c ≠ b) ∧ ∀ p ∈ X.pn ++ pins, p.1 ≠ b) :
    Inv X pins σ H' { s with heap := h', gens := g', drawn := d', toks := t' } := by
  obtain ⟨m, ⟨o, es, ep, ho, r⟩, _⟩ := id I.loc
  obtain ⟨sl, hL⟩ := u.any ho I.free fun z => (hch _ z).2.1 rfl
  exact I.step (ch := ch) hch (fun b o hL hb hc e n => u.keep b o e n (fun z => (List.mem_cons.mp (I.stkSub b z)).elim hL hb) hc) (fun b o _ _ hc e n => u.any e n hc) (fun b o hc e n => u.free b o e n hc) (fun b o hc e => u.there b o e hc) u.tups u.frzs u.tbls (fun m' hm => by
    obtain ⟨o', es', ep', ho', r'⟩ := hm
    rw [ho] at ho'; cases ho'
    exact ⟨_, es', ep', hL, r'⟩) hok hg
/-- an untracked record of ours (an iterator) has turned -/
theorem Inv.turned {t' : Nat} {it : Addr} (I : Inv X pins σ H s) (k : ∀ b o, b ≠ it → s.heap.get? b = some o → h'.get? b = some o) (hn : H it = none) (hL : it ≠ X.env.locals)
    (h1 : it ∈ X.ex ∨ X.s₀.heap.objs.size ≤ it) (h2 : ∀ x c, X.env.cells.lookup x = some c → c ≠ it) (h3 : ∀ p ∈ X.pn ++ pins, p.1 ≠ it) : Inv X pins σ H { s with heap := h', toks := t' } := by
  have nit : ∀ b u, H b = some u → b ≠ it := fun b u e z => by rw [z, hn] at e; cases e
  refine I.step (g' := s.gens) (d' := s.drawn) (ch := [it]) (fun b hb => ?_) (fun b o _ _ hc e _ => k b o (fun z => hc (by simp [z])) e) (fun b o _ _ hc e _ => ⟨o.slots, k b o (fun z => hc (by simp [z])) e⟩) (fun _ _ _ _ n => n)
    (fun b o hc e => ⟨o, k b o (fun z => hc (by simp [z])) e⟩) (fun _ _ e => e) (fun _ _ _ e => e) (fun b ps e => ⟨#[], by rw [e]; simp⟩) (fun m hm => ?_) (fun b u e => ?_) I.bare
  · have e : b = it := by simpa using hb
    subst e
    exact ⟨h1, hL, h2, h3⟩
  · obtain ⟨o, es, ep, ho, r⟩ := hm
    exact ⟨o, es, ep, k _ o (Ne.symm hL) ho, r⟩
  · refine (I.hok b u e).stay (fun c v hc q => k c v ?_ q) (fun _ q => q) fun _ _ q => q
    rcases hc with z | z
    · rw [z]; exact nit b u e
    · exact nit c _ z
theorem Inv.tok (I : Inv X pins σ H s) (t : Nat) : Inv X pins σ H { s with toks := t } := I.un (h' := s.heap) (t' := t) Un.refl I.hok
/-- all objects kept -/
theorem Inv.kept {t' : Nat} (I : Inv X pins σ H s) (k : ∀ b u, s.heap.get? b = some u → h'.get? b = some u) : Inv X pins σ H { s with heap := h', toks := t' } := I.un (Un.kept k) (I.hok.kept k)
/-- a new object laid and tracked -/
theorem Inv.laid {a : Addr} {o : HO} {t' : Nat} (I : Inv X pins σ H s) (k : ∀ b u, s.heap.get? b = some u → h'.get? b = some u) (hp : s.heap.objs.size ≤ a) (new : ObjOk X.prog X.w (upd H a o) h' a o) :
    Inv X pins σ (upd H a o) { s with heap := h', toks := t' } := I.un (Un.laid k hp (I.hok.fresh hp)) (I.hok.laid k hp new)
/-- an object written -/
theorem Inv.write {x e : Addr} {o : HO} {t' : Nat} (I : Inv X pins σ H s) (mu : Mut (H x)) (he : e = x ∨ H e = some (.own x)) (k : ∀ b u, b ≠ e → s.heap.get? b = some u → h'.get? b = some u) (heo : ∃ u, h'.get? e = some u)
    (new : ObjOk X.prog X.w (upd H x o) h' x o) : Inv X pins σ (upd H x o) { s with heap := h', toks := t' } := I.un (Un.write mu he k heo) (I.hok.write mu he k heo new)
theorem Inv.pins_of {pins' : List (Addr × Obj)} (I : Inv X pins σ H s) (h : ∀ p ∈ pins', s.heap.get? p.1 = some p.2 ∧ H p.1 = none ∧ p.1 ≠ X.env.locals ∧ p.1 ∉ X.fs ∧ ∀ v, p.2.data ≠ .cell v) : Inv X pins' σ H s :=
  ⟨I.ok, I.os, I.bare, I.base, I.loc, I.cell, I.free, I.freeC, fun p hp => (List.mem_append.mp hp).elim (fun z => I.pin p (List.mem_append_left _ z)) (h p), I.hok, I.len⟩

theorem nodup_ix {N : List Str} (hN : N.Nodup) {i j : Nat} {x : Str} (a : N[i]? = some x) (b : N[j]? = some x) : i = j := by
  obtain ⟨h1, e1⟩ := List.getElem?_eq_some_iff.mp a
  obtain ⟨h2, e2⟩ := List.getElem?_eq_some_iff.mp b
  exact (List.getElem_inj hN).mp (e1.trans e2.symm)

/-- a name is stored; what changed -/
theorem store_ok2 {M : Model} {A : Around} {E : Value → Shared → Prop} {i : Nat} {x : Str} {v : V} {u : Value} {Q : Unit → Shared → Prop} (I : Inv X pins σ H s) (hN : X.N.Nodup) (hi : X.N[i]? = some x) (hx : Loc X.env.scope x) (r : RelV v u)
    (h : ∀ s', Inv X pins (σ.set i (some v)) H s' → (∃ a, Heap.SameBut a s.heap s'.heap ∧ (a = X.env.locals ∨ X.env.cells.lookup x = some a)) → Q () s') (hf : X.fn x = true ∨ X.env.scope.names.lookup x = some .local := by first | exact .inl rfl | exact .inr rfl | assumption) : wpAny M A (storeName X.env x u) Q E s := by
  obtain ⟨m, hn, hl⟩ := id I.loc
  have hcls : (X.env.scope.kind == .class || (X.env.scope.kind == .module && X.env.locals != X.env.globals)) = false := by rw [I.ok.kind]; rfl
  have hiσ : i < σ.length := by rw [I.len]; exact (List.getElem?_eq_some_iff.mp hi).1
  have cne := I.cne
  have tracked : ∀ {a : Addr} {h' : Heap}, (∃ o, s.heap.get? a = some o ∧ H a = none) → Heap.SameBut a s.heap h' → HOk X.prog X.w H h' := fun {a h'} ha hs b ob e => by
    obtain ⟨_, _, hfree⟩ := ha
    refine (I.hok b ob e).stay (fun c w' hc q => (hs.2 c ?_).trans q) (fun _ q => q) fun _ _ q => q
    rintro rfl
    rcases hc with rfl | hc
    · rw [hfree] at e; cases e
    · rw [hfree] at hc; cases hc
  rcases hx with hk | hk
  · refine wpAny_storeName_local hk hn (fun h' hn' hs => ?_) hcls
    obtain ⟨oL, _, _, hoL, _⟩ := id hn
    refine h _ ⟨I.ok, I.os, I.bare, ⟨fun b o e n hb hx => ?_, fun b o e n hb hx => ?_, I.base.free, fun b o e hx => ?_, I.base.tups, I.base.frzs, I.base.tbls⟩, ⟨_, hn', fun j y v' e1 e2 e3 => ?_⟩, fun y c e => ?_, I.free, I.freeC, fun p hp => ?_, tracked ⟨oL, hoL, I.free⟩ hs, by simpa using I.len⟩ ⟨_, hs, .inl rfl⟩
    · exact (hs.2 b (Nat.ne_of_lt (Nat.lt_of_lt_of_le (Heap.lt_size e) I.ok.above))).trans (I.base.keep b o e n hb hx)
    · obtain ⟨sl, e1⟩ := I.base.slot b o e n hb hx
      exact ⟨sl, (hs.2 b (Nat.ne_of_lt (Nat.lt_of_lt_of_le (Heap.lt_size e) I.ok.above))).trans e1⟩
    · obtain ⟨o', e1⟩ := I.base.there b o e hx
      exact ⟨o', (hs.2 b (Nat.ne_of_lt (Nat.lt_of_lt_of_le (Heap.lt_size e) I.ok.above))).trans e1⟩
    · by_cases hj : j = i
      · subst hj
        rw [hi] at e1; cases e1
        rw [List.getElem?_set_self hiσ] at e2
        cases e2
        exact ⟨u, r, .inl ⟨hk, by simp⟩⟩
      · rw [List.getElem?_set_ne (Ne.symm hj)] at e2
        obtain ⟨u', r', q⟩ := hl j y v' e1 e2 e3
        refine ⟨u', r', ?_⟩
        rcases q with ⟨k, e⟩ | ⟨k, c, e, z⟩
        · refine .inl ⟨k, ?_⟩
          have : y ≠ x := fun e => hj (nodup_ix hN e1 (e ▸ hi))
          simp [this, e]
        · exact .inr ⟨k, c, e, z.sameBut hs (cne y c e)⟩
    · obtain ⟨w', z⟩ := I.cell y c e
      exact ⟨w', z.sameBut hs (cne y c e)⟩
    · obtain ⟨e, n, ne, nf, d⟩ := I.pin p hp
      exact ⟨(hs.2 p.1 ne).trans e, n, ne, nf, d⟩
  · have hfn : X.fn x = true := by
      rcases hf with z | z
      · exact z
      · rw [z] at hk; cases hk
    obtain ⟨c, hc⟩ := I.ok.has x (.inl hk)
    obtain ⟨w', z⟩ := I.cell x c hc
    refine wpAny_storeName_cell I.ok.kind hk hc z (fun h' hc' hs => ?_)
    obtain ⟨oc, hoc, hocd⟩ := id z
    refine h { s with heap := h' } ⟨I.ok, I.os, I.bare, ⟨fun b o e n hb hx => ?_, fun b o e n hb hx => ?_, I.base.free, fun b o e hx => ?_, I.base.tups, I.base.frzs, I.base.tbls⟩, ⟨m, hn.sameBut hs (Ne.symm (cne x c hc)), fun j y v' e1 e2 e3 => ?_⟩, fun y c' e => ?_, I.free, I.freeC, fun p hp => ?_, tracked ⟨oc, hoc, I.freeC x c hc⟩ hs, by simpa using I.len⟩ ⟨c, hs, .inr hc⟩
    · exact (hs.2 b (Nat.ne_of_lt (Nat.lt_of_lt_of_le (Heap.lt_size e) (I.ok.cab x c hfn hc)))).trans (I.base.keep b o e n hb hx)
    · obtain ⟨sl, e1⟩ := I.base.slot b o e n hb hx
      exact ⟨sl, (hs.2 b (Nat.ne_of_lt (Nat.lt_of_lt_of_le (Heap.lt_size e) (I.ok.cab x c hfn hc)))).trans e1⟩
    · obtain ⟨o', e1⟩ := I.base.there b o e hx
      exact ⟨o', (hs.2 b (Nat.ne_of_lt (Nat.lt_of_lt_of_le (Heap.lt_size e) (I.ok.cab x c hfn hc)))).trans e1⟩
    · by_cases hj : j = i
      · subst hj
        rw [hi] at e1; cases e1
        rw [List.getElem?_set_self hiσ] at e2
        cases e2
        exact ⟨u, r, .inr ⟨.inl hk, c, hc, hc'⟩⟩
      · rw [List.getElem?_set_ne (Ne.symm hj)] at e2
        obtain ⟨u', r', q⟩ := hl j y v' e1 e2 e3
        refine ⟨u', r', ?_⟩
        rcases q with q | ⟨k, c', e, z'⟩
        · exact .inl q
        · refine .inr ⟨k, c', e, z'.sameBut hs ?_⟩
          rintro rfl
          exact hj (nodup_ix hN e1 (I.ok.inj _ _ _ e hc ▸ hi))
    · by_cases hcc : c' = c
      · subst hcc; exact ⟨_, hc'⟩
      · obtain ⟨w2, z2⟩ := I.cell y c' e
        exact ⟨w2, z2.sameBut hs hcc⟩
    · obtain ⟨e, n, ne, nf, d⟩ := I.pin p hp
      refine ⟨(hs.2 p.1 ?_).trans e, n, ne, nf, d⟩
      intro q
      rw [q, hoc] at e
      have q' : oc = p.2 := Option.some.inj e
      exact d w' (by rw [← q']; exact hocd)
theorem store_ok {M : Model} {A : Around} {E : Value → Shared → Prop} {i : Nat} {x : Str} {v : V} {u : Value} {Q : Unit → Shared → Prop} (I : Inv X pins σ H s) (hN : X.N.Nodup) (hi : X.N[i]? = some x) (hx : Loc X.env.scope x) (r : RelV v u)
    (h : ∀ s', Inv X pins (σ.set i (some v)) H s' → Q () s') (hf : X.fn x = true ∨ X.env.scope.names.lookup x = some .local := by first | exact .inl rfl | exact .inr rfl | assumption) : wpAny M A (storeName X.env x u) Q E s :=
  store_ok2 I hN hi hx r (fun s' I' _ => h s' I') hf
/-- behind a call or a block, the state as it is -/
theorem Inv.call' {s' : Shared} {ch : List Addr} (I : Inv X pins σ H s) (ho : s'.os = s.os) (u : Un (frs X.stack) ch H H' s.heap s'.heap) (hok : HOk X.prog X.w H' s'.heap) (hg : AllBare s'.gens)
    (hch : ∀ b ∈ ch, (b ∈ X.ex ∨ X.s₀.heap.objs.size ≤ b) ∧ b ≠ X.env.locals ∧ (∀ x c, X.env.cells.lookup x = some c → c ≠ b) ∧ ∀ p ∈ X.pn ++ pins, p.1 ≠ b) : Inv X pins σ H' s' := by
  obtain ⟨h', g', d', t', o'⟩ := s'
  have e : o' = s.os := ho
  subst e
  exact I.call (g' := g') (t' := t') (d' := d') u hok hg hch
end

/-! ### the judgements -/
/-- an exception: its class, its own dict's address (where it has one), the abstract heap behind it -/
abbrev XK := Value → Option Addr → Hp → Prop
abbrev St := List (Option V)
abbrev VK := V → Hp → Prop
/-- an expression's reading; a test's; an argument list's -/
abbrev TE := St → Hp → VK → Prop
abbrev TT := St → Hp → (Bool → Hp → Prop) → Prop
abbrev TA := St → Hp → (List V → Hp → Prop) → Prop
/-- what is wanted behind a statement -/
structure Ends where
  nx : St → Hp → Prop
  rt : VK
  bk : St → Hp → Prop := fun _ _ => False
  ct : St → Hp → Prop := fun _ _ => False
abbrev TS := Ends → St → Hp → Prop

def EP (X : Cx) (pins : List (Addr × Obj)) (σ : St) (Q : VK) (u : Value) (s' : Shared) : Prop := ∃ v H', Inv X pins σ H' s' ∧ RelV v u ∧ Q v H'
def TP (X : Cx) (pins : List (Addr × Obj)) (σ : St) (Q : Bool → Hp → Prop) (b : Bool) (s' : Shared) : Prop := ∃ H', Inv X pins σ H' s' ∧ Q b H'
def AP (X : Cx) (pins : List (Addr × Obj)) (σ : St) (Q : List V → Hp → Prop) (us : List Value) (s' : Shared) : Prop := ∃ vs H', Inv X pins σ H' s' ∧ Vals vs us ∧ Q vs H'
def SP (X : Cx) (pins : List (Addr × Obj)) (D : Ends) (f : Flow) (s' : Shared) : Prop :=
  match f with
  | .next => ∃ σ' H', Inv X pins σ' H' s' ∧ D.nx σ' H'
  | .brk => ∃ σ' H', Inv X pins σ' H' s' ∧ D.bk σ' H'
  | .cont => ∃ σ' H', Inv X pins σ' H' s' ∧ D.ct σ' H'
  | .ret u => ∃ v σ' H', Inv X pins σ' H' s' ∧ RelV v u ∧ D.rt v H'

def PE (X : Cx) (e : Expr) (t : TE) : Prop :=
  ∀ (pins : List (Addr × Obj)) (s : Shared) (σ : St) (H : Hp) (Q : VK), Inv X pins σ H s → t σ H Q → wpAny (model X.prog X.w) X.A (eval e X.env) (EP X pins σ Q) X.xe s
def PT (X : Cx) (e : Expr) (t : TT) : Prop :=
  ∀ (pins : List (Addr × Obj)) (s : Shared) (σ : St) (H : Hp) (Q : Bool → Hp → Prop), Inv X pins σ H s → t σ H Q → wpAny (model X.prog X.w) X.A (isTrue e X.env (eval e X.env)) (TP X pins σ Q) X.xe s
/-- a test whatever its 'whole' is (and, or) -/
def PW (X : Cx) (e : Expr) (t : TT) : Prop :=
  ∀ (whole : Sem Value) (pins : List (Addr × Obj)) (s : Shared) (σ : St) (H : Hp) (Q : Bool → Hp → Prop), Inv X pins σ H s → t σ H Q → wpAny (model X.prog X.w) X.A (isTrue e X.env whole) (TP X pins σ Q) X.xe s
theorem PW.pt {X : Cx} {e : Expr} {t : TT} (h : PW X e t) : PT X e t := h _
/-- an argument list (no star), from the left -/
def PA (X : Cx) (es : List Expr) (t : TA) : Prop :=
  ∀ (pos : Pos) (pins : List (Addr × Obj)) (s : Shared) (σ : St) (H : Hp) (Q : List V → Hp → Prop), Inv X pins σ H s → t σ H Q → wpAny (model X.prog X.w) X.A (spliced (backTo pos (starEach es X.env))) (AP X pins σ Q) X.xe s
def PS (X : Cx) (st : Stmt) (t : TS) : Prop :=
  ∀ (pins : List (Addr × Obj)) (s : Shared) (σ : St) (H : Hp) (D : Ends), Inv X pins σ H s → t D σ H → wpAny (model X.prog X.w) X.A (exec st X.env) (SP X pins D) X.xe s
def PSs (X : Cx) (st : List Stmt) (t : TS) : Prop :=
  ∀ (pins : List (Addr × Obj)) (s : Shared) (σ : St) (H : Hp) (D : Ends), Inv X pins σ H s → t D σ H → wpAny (model X.prog X.w) X.A (execs st X.env) (SP X pins D) X.xe s
/-- weaken the end -/
theorem thn {α : Type} {t : Sem α} {Q Q' : α → Shared → Prop} {M : Model} {A : Around} {E : Value → Shared → Prop} {s : Shared} (h : wpAny M A t Q E s) (hQ : ∀ a s, Q a s → Q' a s) : wpAny M A t Q' E s := wpAny_mono h hQ fun _ _ x => x
end L2

namespace L2
open PySem PySem.Spec PyProof.Rows
section
variable {X : Cx}

/-- two expressions in a row -/
theorem bin {a b : Expr} {ta tb : TE} (ha : PE X a ta) (hb : PE X b tb) {pins : List (Addr × Obj)} {s : Shared} {σ : St} {H : Hp} {R : V → V → Hp → Prop} (I : Inv X pins σ H s) (h : ta σ H fun x H1 => tb σ H1 fun y H2 => R x y H2)
    {α : Type} {Q : α → Shared → Prop} {f : Value → Value → Sem α}
    (hf : ∀ v u s2 x y H2, Inv X pins σ H2 s2 → RelV x v → RelV y u → R x y H2 → wpAny (model X.prog X.w) X.A (f v u) Q X.xe s2) :
    wpAny (model X.prog X.w) X.A (eval a X.env) (fun v s₁ => wpAny (model X.prog X.w) X.A (eval b X.env) (fun u s₂ => wpAny (model X.prog X.w) X.A (f v u) Q X.xe s₂) X.xe s₁) X.xe s := by
  refine thn (ha pins s σ H _ I h) fun v s1 ⟨x, H1, I1, r1, q1⟩ => ?_
  refine thn (hb pins s1 σ H1 _ I1 q1) fun u s2 ⟨y, H2, I2, r2, q2⟩ => ?_
  exact hf v u s2 x y H2 I2 r1 r2 q2

/-! ### names and constants -/
def tVar (i : Nat) : TE := fun σ H Q => ∃ v, σ[i]? = some (some v) ∧ Q v H
def tC (v : V) : TE := fun _ H Q => Q v H
theorem pe_var {i : Nat} {x : Str} {pos : Pos} (hN : X.N[i]? = some x) (hv : Vis X.env.scope x) (hd : (x == ("__debug__" : Str)) = false := by decide) (hcd : (x == ("__classdict__" : Str)) = false := by decide) : PE X (.Name x pos) (tVar i) := by
  intro pins s σ H Q I h
  obtain ⟨v, e, h⟩ := h
  obtain ⟨m, hn, hl⟩ := I.loc
  obtain ⟨u, r, l⟩ := hl i x v hN e hv
  have fin : EP X pins σ Q u s := ⟨v, H, I, r, h⟩
  rcases l with ⟨hk, hm⟩ | ⟨hk, c, hc, hcell⟩
  · exact wpAny_Name (wpAny_loadName_local I.ok.kind hk hn hm fin) hd
  · rcases hk with hk | hk
    · exact wpAny_Name (wpAny_loadName_cell I.ok.kind hk hc hcell fin) hd
    · exact wpAny_Name (wpAny_loadName_free I.ok.kind hk hc hcell fin hcd) hd
theorem pe_int {i j pos} : PE X (.Constant (.int i) j pos) (tC (.int i)) := fun _ _ _ H _ I h => wpAny_Constant_int ⟨.int i, H, I.tok _, ⟨_, rfl⟩, h⟩
theorem pe_bl {b j pos} : PE X (.Constant (.bool b) j pos) (tC (.bl b)) := fun _ _ _ H _ I h => Constant_bool ⟨.bl b, H, I, rfl, h⟩
theorem pe_non {j pos} : PE X (.Constant .none j pos) (tC .non) := fun _ _ _ H _ I h => Constant_none ⟨.non, H, I, rfl, h⟩
theorem pe_str {x j pos} : PE X (.Constant (.str x) j pos) (tC (.str x)) := fun _ _ _ H _ I h => Calls.Constant_str ⟨.str x, H, I.tok _, ⟨_, rfl⟩, h⟩

/-- a global name of the def -/
def Gl (X : Cx) (x : Str) : Prop := X.env.kindOf x = some .globalImplicit
theorem ld_glob {E : Value → Shared → Prop} {pins : List (Addr × Obj)} {s : Shared} {σ : St} {H : Hp} {x : Str} {u : Value} {pos : Pos} {Q : Value → Shared → Prop} (I : Inv X pins σ H s) (hg : Gl X x) (hm : X.mg x = some u) (h : Q u s)
    (hd : (x == ("__debug__" : Str)) = false := by decide) : wpAny (model X.prog X.w) X.A (eval (.Name x pos) X.env) Q E s :=
  Calls.Name_function_global I.ok.kind hg (Calls.loadGlobal_global (by rw [I.ok.glob]; exact I.mod.glob.keeps I.bk) hm h) hd
theorem ld_blt {E : Value → Shared → Prop} {pins : List (Addr × Obj)} {s : Shared} {σ : St} {H : Hp} {x : Str} {u : Value} {pos : Pos} {Q : Value → Shared → Prop} (I : Inv X pins σ H s) (hg : Gl X x) (hm : X.mg x = none) (hv : bootBuiltins x = some u) (h : Q u s)
    (hn : x ≠ "__name__" := by decide) (hd : (x == ("__debug__" : Str)) = false := by decide) : wpAny (model X.prog X.w) X.A (eval (.Name x pos) X.env) Q E s := by
  obtain ⟨mb, h1, h2⟩ := I.mod.blt
  exact Calls.Name_function_global I.ok.kind hg (Calls.loadGlobal_builtin (by rw [I.ok.glob]; exact I.mod.glob.keeps I.bk) hm (by rw [I.ok.blt]; exact h1.keeps I.bk) ((h2 x hn).trans hv) h) hd
theorem pe_bltn {x : Str} {v : V} {u : Value} {pos : Pos} (hg : Gl X x) (hm : X.mg x = none) (hv : bootBuiltins x = some u) (r : RelV v u) (hn : x ≠ "__name__" := by decide) (hd : (x == ("__debug__" : Str)) = false := by decide) : PE X (.Name x pos) (tC v) :=
  fun _ _ _ H _ I h => ld_blt I hg hm hv ⟨v, H, I, r, h⟩ hn hd

/-! ### arithmetic -/
variable {a b : Expr} {ta tb : TE} {pos : Pos}

/-! ### comparisons -/
def PC (X : Cx) (op : CmpOp) (a b : Expr) (t : TE) : Prop :=
  ∀ (pins : List (Addr × Obj)) (s : Shared) (σ : St) (H : Hp) (Q : VK), Inv X pins σ H s → t σ H Q →
    wpAny (model X.prog X.w) X.A (eval a X.env) (fun v s₁ => wpAny (model X.prog X.w) X.A (eval b X.env) (fun u s₂ => wpAny (model X.prog X.w) X.A (compareOp op v u) (EP X pins σ Q) X.xe s₂) X.xe s₁) X.xe s
/-- a comparison as a value, as a test -/
def tB (t : TE) : TT := fun σ H Q => t σ H fun x H1 => ∃ c, x = .bl c ∧ Q c H1
theorem pt_cmp {op : CmpOp} {t : TE} (h : PC X op a b t) (h1 : behindInMarks op b = false := by first | exact nobehind _ (by decide) (by decide) | rfl) : PT X (.Compare a [op] [b] pos) (tB t) := by
  intro pins s σ H Q I hw
  refine wpAny_isTrue_Compare1 (thn (h pins s σ H _ I hw) fun v s1 h1 => thn h1 fun u s2 h2 => thn h2 fun c s3 ⟨x, H1, I1, r1, q1⟩ => ?_) h1
  obtain ⟨d, rfl, q⟩ := q1
  cases r1
  exact wpAny_truthy_bool ⟨H1, I1, q⟩
/-- an expression whose value is a bool, as a test -/
theorem pt_val {e : Expr} {t : TE} (h : PE X e t) (he : ∀ whole, isTrue e X.env whole = (do let v ← whole; standAt e.pos; holding [v] (truthy v)) := by intro _; rfl) : PT X e (tB t) := by
  intro pins s σ H Q I hw
  refine isTrue_plain (thn (h pins s σ H _ I hw) fun v s1 ⟨x, H1, I1, r1, q1⟩ => ?_) (he _)
  obtain ⟨d, rfl, q⟩ := q1
  cases r1
  exact wpAny_truthy_bool ⟨H1, I1, q⟩

/-! ### and, or, not -/
variable {tA tB' : TT} {rest : List Expr}
def tAnd (t u : TT) : TT := fun σ H Q => t σ H fun c H1 => if c = true then u σ H1 Q else Q false H1
def tOr (t u : TT) : TT := fun σ H Q => t σ H fun c H1 => if c = true then Q true H1 else u σ H1 Q
def tNot (t : TT) : TT := fun σ H Q => t σ H fun c H1 => Q (!c) H1
theorem pw_and1 (ha : PT X a tA) : PW X (.BoolOp .And [a] pos) tA := by
  intro wh pins s σ H Q I h
  refine isTrue_and (thn (ha pins s σ H Q I h) fun c s1 e => ?_)
  cases c with
  | true => exact isTrue_and_nil e
  | false => exact e
theorem pw_or1 (ha : PT X a tA) : PW X (.BoolOp .Or [a] pos) tA := by
  intro wh pins s σ H Q I h
  refine isTrue_or (thn (ha pins s σ H Q I h) fun c s1 e => ?_)
  cases c with
  | false => exact isTrue_or_nil e
  | true => exact e
theorem pw_and (ha : PT X a tA) (hb : PW X (.BoolOp .And (b :: rest) pos) tB') : PW X (.BoolOp .And (a :: b :: rest) pos) (tAnd tA tB') := by
  intro wh pins s σ H Q I h
  refine isTrue_and (thn (ha pins s σ H _ I h) fun c s1 ⟨H1, I1, q1⟩ => ?_)
  cases c with
  | true => exact hb wh pins s1 σ H1 Q I1 q1
  | false => exact ⟨H1, I1, q1⟩
theorem pw_or (ha : PT X a tA) (hb : PW X (.BoolOp .Or (b :: rest) pos) tB') : PW X (.BoolOp .Or (a :: b :: rest) pos) (tOr tA tB') := by
  intro wh pins s σ H Q I h
  refine isTrue_or (thn (ha pins s σ H _ I h) fun c s1 ⟨H1, I1, q1⟩ => ?_)
  cases c with
  | true => exact ⟨H1, I1, q1⟩
  | false => exact hb wh pins s1 σ H1 Q I1 q1
theorem pt_not (ha : PT X a tA) : PT X (.UnaryOp .Not a pos) (tNot tA) := by
  intro pins s σ H Q I h
  exact isTrue_not (ha pins s σ H (fun c H1 => Q (!c) H1) I h)
end
end L2

namespace L2
open PySem PySem.Spec PyProof.Rows

/-! ### a list, a tuple that is read: tracked, frozen, or an object of the module -/
def SqL (K : PySem.W.Frag) (H : Hp) (a : Addr) (xs : List V) : Prop :=
  Rd H a (.lst xs) ∨
    ∃ (o : Obj) (its : Array Value) (n : Nat), K.lookup a = some o ∧ o.cls = .type "list" ∧ o.dict = none ∧ o.data = .seq its n ∧ its.size ≤ sizeLine ∧ Vals xs its.toList
def SqT (K : PySem.W.Frag) (H : Hp) (a : Addr) (xs : List V) : Prop :=
  Rd H a (.tup xs) ∨
    ∃ (o : Obj) (its : Array Value) (n : Nat), K.lookup a = some o ∧ o.cls = .type "tuple" ∧ o.data = .seq its n ∧ its.size ≤ sizeLine ∧ Vals xs its.toList
def absV : Value → Option V
  | .none => some .non
  | .bool b => some (.bl b)
  | .int i _ => some (.int i)
  | .str x _ => some (.str x)
  | .bytes b _ => some (.byt b)
  | .float b _ => some (.flt b)
  | .ref a => some (.ref a)
  | .type n => some (.ty n)
  | _ => none
theorem RelV.abs {x : V} {u : Value} (r : RelV x u) : absV u = some x := by
  cases x with
  | non => cases r; rfl
  | bl _ => cases r; rfl
  | int _ => obtain ⟨t, rfl⟩ := r; rfl
  | str _ => obtain ⟨t, rfl⟩ := r; rfl
  | byt _ => obtain ⟨t, rfl⟩ := r; rfl
  | flt _ => obtain ⟨t, rfl⟩ := r; rfl
  | ref _ => cases r; rfl
  | ty _ => cases r; rfl
theorem RelV.inj {x y : V} {u : Value} (r : RelV x u) (q : RelV y u) : x = y := Option.some.inj (r.abs.symm.trans q.abs)
theorem Vals.inj : ∀ {xs ys : List V} {us : List Value}, Vals xs us → Vals ys us → xs = ys
  | _, _, _, .nil, .nil => rfl
  | _, _, _, .cons r t, .cons r' t' => by rw [r.inj r', Vals.inj t t']
section
variable {X : Cx} {pins : List (Addr × Obj)} {σ : St} {H : Hp} {s : Shared} {a : Addr} {xs ys : List V}
theorem SqL.of {K : PySem.W.Frag} (h : H a = some (.lst xs)) : SqL K H a xs := .inl (.inl h)
theorem SqT.of {K : PySem.W.Frag} (h : H a = some (.tup xs)) : SqT K H a xs := .inl (.inl h)
theorem Inv.list (I : Inv X pins σ H s) (h : SqL X.K H a xs) : ∃ its : List Value, Vals xs its ∧ PlainL s.heap a its.toArray ∧ xs.length ≤ sizeLine := by
  rcases h with h | ⟨o, its, n, hk, hc, hd, hs, hz, r⟩
  · obtain ⟨z, its, n, r, e⟩ := h.ok I.hok
    exact ⟨its, r, ⟨_, n, e, rfl, rfl, rfl⟩, z⟩
  · refine ⟨its.toList, r, ⟨o, n, I.kIn a o hk, hc, hd, by simpa using hs⟩, ?_⟩
    have e := r.length
    simp only [Array.length_toList] at e
    omega
theorem Inv.tuple (I : Inv X pins σ H s) (h : SqT X.K H a xs) : ∃ its : List Value, Vals xs its ∧ IsTup s.heap a its.toArray ∧ xs.length ≤ sizeLine := by
  rcases h with h | ⟨o, its, n, hk, hc, hs, hz, r⟩
  · obtain ⟨z, its, r, p, _⟩ := h.ok I.hok
    exact ⟨its, r, p, z⟩
  · refine ⟨its.toList, r, ⟨o, I.kIn a o hk, hc, n, by simpa using hs⟩, ?_⟩
    have e := r.length
    simp only [Array.length_toList] at e
    omega
theorem Inv.list_inj (I : Inv X pins σ H s) (h : SqL X.K H a xs) (h' : SqL X.K H a ys) : xs = ys := by
  obtain ⟨its, r, ⟨o, n, e, _, _, d⟩, _⟩ := I.list h
  obtain ⟨its', r', ⟨o', n', e', _, _, d'⟩, _⟩ := I.list h'
  rw [e] at e'; cases e'
  rw [d] at d'
  injection d' with d1 _
  have : its = its' := by simpa using congrArg Array.toList d1
  subst this
  exact r.inj r'
theorem Inv.tuple_inj (I : Inv X pins σ H s) (h : SqT X.K H a xs) (h' : SqT X.K H a ys) : xs = ys := by
  obtain ⟨its, r, ⟨o, e, _, n, d⟩, _⟩ := I.tuple h
  obtain ⟨its', r', ⟨o', e', _, n', d'⟩, _⟩ := I.tuple h'
  rw [e] at e'; cases e'
  rw [d] at d'
  injection d' with d1 _
  have : its = its' := by simpa using congrArg Array.toList d1
  subst this
  exact r.inj r'
end

/-! ### another wish about exceptions -/
abbrev Cx.wish (X : Cx) (E : Value → Shared → Prop) : Cx := { X with xe := E }
/-- no exception leaves -/
abbrev Cx.nox (X : Cx) : Cx := X.wish fun _ _ => False
theorem Cx.Ok.wish {X : Cx} (ok : X.Ok) (E : Value → Shared → Prop) : (X.wish E).Ok :=
  ⟨ok.mod, ok.kind, ok.glob, ok.blt, ok.above, ok.inj, ok.has, ok.cab, ok.hd, ok.frames, ok.stk, ok.exf, ok.bs, ok.bsz, ok.noex, ok.exfs, ok.funs, ok.frf⟩
theorem Cx.Ok.unwish {X : Cx} {E : Value → Shared → Prop} (ok : (X.wish E).Ok) : X.Ok :=
  ⟨ok.mod, ok.kind, ok.glob, ok.blt, ok.above, ok.inj, ok.has, ok.cab, ok.hd, ok.frames, ok.stk, ok.exf, ok.bs, ok.bsz, ok.noex, ok.exfs, ok.funs, ok.frf⟩
section
variable {X : Cx} {pins : List (Addr × Obj)} {σ : St} {H : Hp} {s : Shared} {E : Value → Shared → Prop}
theorem Inv.wish (I : Inv X pins σ H s) (E : Value → Shared → Prop) : Inv (X.wish E) pins σ H s := ⟨I.ok.wish E, I.os, I.bare, I.base, I.loc, I.cell, I.free, I.freeC, I.pin, I.hok, I.len⟩
theorem Inv.unwish (I : Inv (X.wish E) pins σ H s) : Inv X pins σ H s := ⟨I.ok.unwish, I.os, I.bare, I.base, I.loc, I.cell, I.free, I.freeC, I.pin, I.hok, I.len⟩
theorem SP.unwish {D : Ends} {f : Flow} {s' : Shared} (h : SP (X.wish E) pins D f s') : SP X pins D f s' := by
  cases f with
  | next => obtain ⟨σ', H', I, q⟩ := h; exact ⟨σ', H', I.unwish, q⟩
  | brk => obtain ⟨σ', H', I, q⟩ := h; exact ⟨σ', H', I.unwish, q⟩
  | cont => obtain ⟨σ', H', I, q⟩ := h; exact ⟨σ', H', I.unwish, q⟩
  | ret u => obtain ⟨v, σ', H', I, r, q⟩ := h; exact ⟨v, σ', H', I.unwish, r, q⟩
theorem PSs.nox {st : List Stmt} {t : TS} (h : PSs X.nox st t) : PSs X st t := fun pins s σ H D I hw =>
  wpAny_mono (h pins s σ H D (I.wish _) hw) (fun _ _ q => q.unwish) fun _ _ z => False.elim z
end

/-! ### blocks and small statements -/
section
variable {X : Cx} {st : Stmt} {rest : List Stmt} {t u : TS} {e : Expr} {te : TE} {pos : Pos}
def tNext : TS := fun D σ H => D.nx σ H
def tSeq (t u : TS) : TS := fun D σ H => t { D with nx := u D } σ H
theorem pss_nil : PSs X [] tNext := fun _ _ σ H _ I h => wpAny_execs_nil ⟨σ, H, I, h⟩
theorem pss_cons (h1 : PS X st t) (h2 : PSs X rest u) : PSs X (st :: rest) (tSeq t u) := by
  intro pins s σ H D I h
  refine wpAny_execs_cons (thn (h1 pins s σ H { D with nx := u D } I h) fun f s1 q => ?_)
  cases f with
  | next =>
    obtain ⟨σ', H', I', q⟩ := q
    exact h2 pins s1 σ' H' D I' q
  | ret v => exact q
  | brk => exact q
  | cont => exact q
theorem pss_one (h1 : PS X st t) : PSs X [st] t := by
  intro pins s σ H D I h
  refine wpAny_execs_cons (thn (h1 pins s σ H D I h) fun f s1 q => ?_)
  cases f with
  | next => exact wpAny_execs_nil q
  | ret v => exact q
  | brk => exact q
  | cont => exact q
/-- in a def's body nothing is shown -/
theorem Inv.quiet {pins : List (Addr × Obj)} {σ : St} {H : Hp} {s : Shared} (I : Inv X pins σ H s) : interactive X.env = false := by simp [interactive, I.ok.kind]
/-- an expression whose value is dropped -/
def tDrop (te : TE) : TS := fun D σ H => te σ H fun _ H1 => D.nx σ H1
theorem ps_expr (he : PE X e te) (hs : swapsWith e none pos.line X.env = pure false := by rfl) : PS X (.Expr e pos) (tDrop te) := by
  intro pins s σ H D I h
  exact wpAny_Expr_any (thn (he pins s σ H _ I h) fun v s1 ⟨x, H1, I1, r1, q1⟩ => ⟨σ, H1, I1, q1⟩) I.quiet hs
def tRet (te : TE) : TS := fun D σ H => te σ H D.rt
theorem ps_ret (he : PE X e te) : PS X (.Return (some e) pos) (tRet te) := by
  intro pins s σ H D I h
  exact wpAny_Return_some (thn (he pins s σ H _ I h) fun v s1 ⟨x, H1, I1, r1, q1⟩ => ⟨x, σ, H1, I1, r1, q1⟩)
def tIfS (c : TT) (t u : TS) : TS := fun D σ H => c σ H fun b H1 => if b = true then t D σ H1 else u D σ H1
theorem ps_if {c : Expr} {a b : List Stmt} {tc : TT} (hc : PT X c tc) (ha : PSs X a t) (hb : PSs X b u) : PS X (.If c a b pos) (tIfS tc t u) := by
  intro pins s σ H D I h
  refine wpAny_If (thn (hc pins s σ H _ I h) fun d s1 ⟨H1, I1, q1⟩ => ?_)
  cases d with
  | true => exact ha pins s1 σ H1 D I1 q1
  | false => exact hb pins s1 σ H1 D I1 q1
end

/-! ### targets -/
abbrev TG := V → St → Hp → (St → Hp → Prop) → Prop
abbrev TGs := List V → St → Hp → (St → Hp → Prop) → Prop
def PG (X : Cx) (target : Expr) (t : TG) : Prop :=
  ∀ (pins : List (Addr × Obj)) (s : Shared) (σ : St) (H : Hp) (v : V) (u : Value) (Q : St → Hp → Prop), Inv X pins σ H s → RelV v u → t v σ H Q →
    wpAny (model X.prog X.w) X.A (assign target X.env u) (fun _ s' => ∃ σ' H', Inv X pins σ' H' s' ∧ Q σ' H') X.xe s
/-- several targets, one after another -/
def PGs (X : Cx) (ts : List Expr) (t : TGs) : Prop :=
  ∀ (pins : List (Addr × Obj)) (s : Shared) (σ : St) (H : Hp) (vs : List V) (us : List Value) (Q : St → Hp → Prop), Inv X pins σ H s → Vals vs us → t vs σ H Q →
    wpAny (model X.prog X.w) X.A (assignInOrder ((assignEach ts X.env).map (·.2)) us) (fun _ s' => ∃ σ' H', Inv X pins σ' H' s' ∧ Q σ' H') X.xe s
/-- o[i] = v, by values -/
abbrev TSet := V → V → V → Hp → (Hp → Prop) → Prop
def PSet (X : Cx) (t : TSet) : Prop :=
  ∀ (pins : List (Addr × Obj)) (s : Shared) (σ : St) (H : Hp) (o i v : V) (ov iv u : Value) (Q : Hp → Prop), Inv X pins σ H s → RelV o ov → RelV i iv → RelV v u → t o i v H Q →
    wpAny (model X.prog X.w) X.A (setItem ov iv u) (fun _ s' => ∃ H', Inv X pins σ H' s' ∧ Q H') X.xe s
section
variable {X : Cx} {pos : Pos}
def gName (i : Nat) : TG := fun v σ H Q => Q (σ.set i (some v)) H
theorem pg_name {i : Nat} {x : Str} (hN : X.N.Nodup) (hi : X.N[i]? = some x) (hx : Loc X.env.scope x) (hf : X.fn x = true ∨ X.env.scope.names.lookup x = some .local := by first | exact .inl rfl | exact .inr rfl | assumption) : PG X (.Name x pos) (gName i) := by
  intro pins s σ H v u Q I r h
  exact wpAny_assign_Name (store_ok I hN hi hx r (fun s' I' => ⟨_, H, I', h⟩) hf)
def gNil : TGs := fun vs σ H Q => vs = [] ∧ Q σ H
def gCons (t : TG) (u : TGs) : TGs := fun vs σ H Q => ∃ v r, vs = v :: r ∧ t v σ H fun σ' H' => u r σ' H' Q
theorem pgs_nil : PGs X [] gNil := by
  intro pins s σ H vs us Q I r h
  obtain ⟨e, h⟩ := h
  subst e
  cases r
  exact assignInOrder_nil ⟨σ, H, I, h⟩
theorem pgs_cons {e : Expr} {es : List Expr} {t : TG} {u : TGs} (h1 : PG X e t) (h2 : PGs X es u)
    (hs : (assignEach (e :: es) X.env).map (·.2) = assign e X.env :: (assignEach es X.env).map (·.2) := by rfl) : PGs X (e :: es) (gCons t u) := by
  intro pins s σ H vs us Q I r h
  obtain ⟨v, vr, e1, h⟩ := h
  subst e1
  cases r with
  | cons r rr =>
    rw [hs]
    refine assignInOrder_cons (thn (h1 pins s σ H _ _ _ I r h) fun _ s1 ⟨σ1, H1, I1, q1⟩ => ?_)
    exact h2 pins s1 σ1 H1 _ _ Q I1 rr q1
/-- (a, b, ..) = a tuple of that length -/
def gTup (K : PySem.W.Frag) (n : Nat) (t : TGs) : TG := fun v σ H Q => ∃ a xs, v = .ref a ∧ SqT K H a xs ∧ xs.length = n ∧ t xs σ H Q
theorem pg_tup {es : List Expr} {k : Nat} {t : TGs} {n : Nat} (hc : X.calm = true) (h : PGs X es t)
    (hn : (assignEach es X.env).length = n := by rfl) (hst : (assignEach es X.env).findIdx? (·.1) = none := by rfl) : PG X (.Tuple es k pos) (gTup X.K n t) := by
  intro pins s σ H v u Q I r hw
  obtain ⟨a, xs, e1, hq, hl, hw⟩ := hw
  subst e1
  cases r
  obtain ⟨its, rv, ht, hz⟩ := I.tuple hq
  refine assign_Tuple_tuple (I.ok.hd hc) ht (by simp [hn, ← hl, rv.length]) hst fun h' hx => ?_
  have I1 : Inv X pins σ H { s with heap := h' } := I.kept (t' := s.toks) fun b o e => hx b o (Nat.ne_of_lt (Heap.lt_size e)) e
  exact h pins _ σ H xs _ Q I1 (by simpa using rv) hw
/-- o[i] = .. -/
def gSub (to ti : TE) (t : TSet) : TG := fun v σ H Q => to σ H fun o H1 => ti σ H1 fun i H2 => t o i v H2 fun H3 => Q σ H3
theorem pg_sub {o i : Expr} {to ti : TE} {t : TSet} (ho : PE X o to) (hi : PE X i ti) (hs : PSet X t)
    (ha : ∀ v, assign (.Subscript o i pos) X.env v = (do
      let ov ← holding [v] (eval o X.env)
      let iv ← holding [v, ov] (eval i X.env)
      standAt pos
      holding [v, ov, iv] (setItem ov iv v)
      release [v, ov, iv] []) := by intro _; rfl) : PG X (.Subscript o i pos) (gSub to ti t) := by
  intro pins s σ H v u Q I r h
  rw [ha]
  refine wpAny_bind (wpAny_holding (thn (ho pins s σ H _ I h) fun ov s1 ⟨x, H1, I1, r1, q1⟩ => ?_))
  refine wpAny_bind (wpAny_holding (thn (hi pins s1 σ H1 _ I1 q1) fun iv s2 ⟨y, H2, I2, r2, q2⟩ => ?_))
  refine wpAny_bind (wpAny_standAt (wpAny_bind (wpAny_holding (thn (hs pins s2 σ H2 x y v ov iv u _ I2 r1 r2 r q2) fun _ s3 ⟨H3, I3, q3⟩ => ?_))))
  exact wpAny_release ⟨σ, H3, I3, q3⟩
/-- target = value -/
def tAsg (te : TE) (g : TG) : TS := fun D σ H => te σ H fun x H1 => g x σ H1 D.nx
theorem ps_asg {tg e : Expr} {te : TE} {g : TG} (he : PE X e te) (hg : PG X tg g) (hs : swapsWithSole [tg] e pos.line X.env = pure false := by rfl) (hw : swappedStores [tg] e X.env = pure none := by rfl)
    (h1 : (assignEach [tg] X.env).map (·.2) = [assign tg X.env] := by rfl) : PS X (.Assign [tg] e pos) (tAsg te g) := by
  intro pins s σ H D I h
  refine wpAny_Assign_stores (thn (he pins s σ H _ I h) fun v s1 ⟨x, H1, I1, r1, q1⟩ => ?_) hs hw
  rw [h1]
  exact thn (hg pins s1 σ H1 x v _ I1 r1 q1) fun _ s2 q => q
/-- name = value -/
theorem ps_set {i : Nat} {x : Str} {e : Expr} {te : TE} {pos' : Pos} (hN : X.N.Nodup) (hi : X.N[i]? = some x) (hx : Loc X.env.scope x) (he : PE X e te) (hs : swapsWith e (some (.Name x pos')) pos.line X.env = pure false := by rfl) (hf : X.fn x = true ∨ X.env.scope.names.lookup x = some .local := by first | exact .inl rfl | exact .inr rfl | assumption) :
    PS X (.Assign [.Name x pos'] e pos) (tAsg te (gName i)) := by
  intro pins s σ H D I h
  refine wpAny_Assign_Name (thn (he pins s σ H _ I h) fun v s1 ⟨y, H1, I1, r1, q1⟩ => ?_) hs
  exact store_ok I1 hN hi hx r1 (fun s2 I2 => ⟨_, H1, I2, q1⟩) hf
/-- a, b = x, y with plain local names: stored from the right; the pair itself is not tracked (the opening rows as in PyProof/Rows/TupAssign.lean:23) -/
def tPar (i j : Nat) (ta : TA) : TS := fun D σ H => ta σ H fun vs H1 => ∃ v w, vs = [v, w] ∧ D.nx ((σ.set i (some v)).set j (some w)) H1
theorem ps_par {i j : Nat} {x y : Str} {a b : Expr} {ta : TA} {px py pt : Pos} {kt k2 pt2} (hc : X.calm = true) (hN : X.N.Nodup) (hi : X.N[i]? = some x) (hj : X.N[j]? = some y) (hij : i ≠ j)
    (hx : X.env.scope.names.lookup x = some .local) (hy : X.env.scope.names.lookup y = some .local) (ha : PA X [a, b] ta)
    (hw : swappedStores [.Tuple [.Name x px, .Name y py] kt pt] (.Tuple [a, b] k2 pt2) X.env = pure (some [x, y]))
    (hs : swapsWithSole [.Tuple [.Name x px, .Name y py] kt pt] (.Tuple [a, b] k2 pt2) pos.line X.env = pure false := by rfl) :
    PS X (.Assign [.Tuple [.Name x px, .Name y py] kt pt] (.Tuple [a, b] k2 pt2) pos) (tPar i j ta) := by
  intro pins s σ H D I h
  rw [exec_Assign_arm]
  refine wpAny_bind (wpAny_standAt ?_)
  rw [hs]
  refine wpAny_bind (wpAny_pure ?_)
  rw [if_neg (by decide)]
  refine wpAny_bind (Tuple_ (thn (ha _ pins s σ H _ I h) fun us s1 ⟨vs, H1, I1, r1, q1⟩ => ?_))
  obtain ⟨v, w, e1, q1⟩ := q1
  subst e1
  obtain ⟨u1, u2, rfl, rv, rw'⟩ : ∃ u1 u2, us = [u1, u2] ∧ RelV v u1 ∧ RelV w u2 := by
    cases r1 with
    | cons p q =>
      cases q with
      | cons p' q' =>
        cases q'
        exact ⟨_, _, rfl, p, p'⟩
  refine wpAny_newObj_type ?_ (by show 2 ≤ sizeLine; decide)
  have I2 : Inv X pins σ H1 { s1 with heap := s1.heap.push { cls := .type "tuple", data := .seq [u1, u2].toArray } } := I1.kept (t' := s1.toks) fun b o e => Heap.get?_push_of_some _ e
  rw [hw]
  refine wpAny_bind (wpAny_pure ?_)
  show wpAny (model X.prog X.w) X.A (do rule "assign.swapped-stores"; let items ← unpackItems (.ref s1.heap.objs.size) 2 none; assignInOrder [fun v => bindName X.env y v, fun v => bindName X.env x v] items.reverse; pure Flow.next) _ _ _
  refine wpAny_bind (wpAny_rule (wpAny_bind (unpackItems_tuple (items := #[u1, u2]) (I.ok.hd hc) (IsTup.new s1.heap _) fun h' hx' => ?_)))
  have I3 := I2.kept (h' := h') (t' := s1.toks) fun b o e => hx' b o (Nat.ne_of_lt (Heap.lt_size e)) e
  show wpAny _ _ (assignInOrder [fun v => bindName X.env y v, fun v => bindName X.env x v] [u2, u1] >>= fun _ => pure Flow.next) _ _ _
  refine wpAny_bind (assignInOrder_cons (wpAny_bindName (store_ok I3 hN hj (.inl hy) rw' (fun s2 I4 => ?_) (.inr hy))))
  refine assignInOrder_cons (wpAny_bindName (store_ok I4 hN hi (.inl hx) rv (fun s3 I5 => assignInOrder_nil (wpAny_pure ?_)) (.inr hx)))
  rw [List.set_comm _ _ (Ne.symm hij)] at I5
  exact ⟨_, H1, I5, q1⟩
end

/-! ### while -/
section
variable {X : Cx} {pos : Pos}
/-- the invariant W with its measure -/
def tWhile (c : TT) (tb : TS) : TS := fun D σ H => ∃ W : Nat → St → Hp → Prop, (∃ m, W m σ H) ∧ ∀ m σ H, W m σ H →
  c σ H fun b H1 => if b = true then ∃ N : St → Hp → Prop, (∀ σ' H', N σ' H' → ∃ m', m' < m ∧ W m' σ' H') ∧ tb { D with nx := N, ct := N, bk := D.nx } σ H1 else D.nx σ H1
theorem ps_while {c : Expr} {body : List Stmt} {tc : TT} {tb : TS} (hp : PassesOwn (model X.prog X.w) X.A X.env X.xe) (hc : PT X c tc) (hb : PSs X body tb) : PS X (.While c body [] pos) (tWhile tc tb) := by
  intro pins s σ H D I h
  obtain ⟨W, ⟨m0, w0⟩, turn⟩ := h
  refine wpAny_While (codeAny_whileLoop (fun n s' => ∃ σ' H', Inv X pins σ' H' s' ∧ W n σ' H') ?_ m0 ⟨σ, H, I, w0⟩)
  rintro n s1 ⟨σ1, H1, I1, w1⟩
  refine wpAny_passesOwn hp (thn (hc pins s1 σ1 H1 _ I1 (turn n σ1 H1 w1)) fun b s2 ⟨H2, I2, q2⟩ => ?_)
  cases b with
  | true =>
    obtain ⟨N, hN, q2⟩ := q2
    rw [if_pos rfl]
    refine wpAny_passesOwn hp (thn (hb pins s2 σ1 H2 _ I2 q2) fun f s3 q3 => ?_)
    cases f with
    | next =>
      obtain ⟨σ3, H3, I3, n3⟩ := q3
      obtain ⟨m', hm, w3⟩ := hN σ3 H3 n3
      exact ⟨m', hm, σ3, H3, I3, w3⟩
    | cont =>
      obtain ⟨σ3, H3, I3, n3⟩ := q3
      obtain ⟨m', hm, w3⟩ := hN σ3 H3 n3
      exact ⟨m', hm, σ3, H3, I3, w3⟩
    | brk => exact q3
    | ret v => exact q3
  | false =>
    rw [if_neg Bool.false_ne_true]
    exact wpAny_execs_nil ⟨σ1, H2, I2, q2⟩
end

/-! ### what a loop or a comprehension walks -/
/-- at turn i: it yields x (the heap may grow), or it stops -/
structure It where
  go : Nat → Hp → Prop
  yld : Nat → Hp → V → Hp → Prop
  stop : Nat → Hp → Prop
/-- the iterator's own objects may turn: they are not the frame's, not pinned, younger than the entry (or a comprehension's own) -/
def FpOk (X : Cx) (pins : List (Addr × Obj)) (H : Hp) (b : Addr) : Prop :=
  H b = none ∧ b ≠ X.env.locals ∧ b ∉ X.fs ∧ (b ∈ X.ex ∨ X.s₀.heap.objs.size ≤ b) ∧ (∀ x c, X.env.cells.lookup x = some c → c ≠ b) ∧ ∀ p ∈ X.pn ++ pins, p.1 ≠ b
theorem Inv.fpOk {X : Cx} {pins : List (Addr × Obj)} {σ : St} {H H' : Hp} {s : Shared} {b : Addr} (I : Inv X pins σ H s) (hb : s.heap.objs.size ≤ b) (hn : H' b = none) : FpOk X pins H' b := by
  refine ⟨hn, Nat.ne_of_gt (Nat.lt_of_lt_of_le I.lt hb), I.nofs hb, .inr (Nat.le_trans I.sz hb), fun x c e z => ?_, fun p hp z => ?_⟩
  · obtain ⟨v, q⟩ := I.cell x c e
    exact absurd (Nat.lt_of_lt_of_le q.lt (by rw [z]; exact hb)) (Nat.lt_irrefl _)
  · exact absurd (Nat.lt_of_lt_of_le (Heap.lt_size (I.pin p hp).1) (by rw [z]; exact hb)) (Nat.lt_irrefl _)
structure Turn (P : Program) (w : World) (K : PySem.W.Frag) (tg : Expr) (J : It) (fp : List Addr) (it : Addr) (tn : Nat → Heap → Prop) : Prop where
  mem : it ∈ fp
  obj : ∀ i h, tn i h → ∀ b ∈ fp, ∃ o, h.get? b = some o ∧ ∀ v, o.data ≠ .cell v
  keep : ∀ i h h', tn i h → (∀ b ∈ fp, ∀ o, h.get? b = some o → h'.get? b = some o) → tn i h'
  item : ∀ (X : Cx), X.prog = P → X.w = w → X.K = K → X.calm = true → ∀ (i : Nat) (pins : List (Addr × Obj)) (s : Shared) (σ : St) (H : Hp) (E : Value → Shared → Prop), Inv X pins σ H s → (∀ b ∈ fp, FpOk X pins H b) → tn i s.heap → J.go i H →
    wpAny (model P w) X.A (pyNext (.ref it)) (fun r s1 => ∃ u, r = some u ∧
      wpAny (model P w) X.A (letOwnedTupleGo tg (.ref it) u) (fun _ s2 => ∃ x H', Inv X pins σ H' s2 ∧ RelV x u ∧ J.yld i H x H' ∧ tn (i + 1) s2.heap ∧ ∀ b ∈ fp, H' b = none) E s1) E s
  done : ∀ (X : Cx), X.prog = P → X.w = w → X.K = K → X.calm = true → ∀ (i : Nat) (pins : List (Addr × Obj)) (s : Shared) (σ : St) (H : Hp) (E : Value → Shared → Prop), Inv X pins σ H s → (∀ b ∈ fp, FpOk X pins H b) → tn i s.heap → J.stop i H →
    wpAny (model P w) X.A (pyNext (.ref it)) (fun r s1 => r = none ∧ Inv X pins σ H s1) E s
  self : ∀ (A : Around) (i : Nat) (s : Shared) (Q : Value → Shared → Prop) (E : Value → Shared → Prop), tn i s.heap → Q (.ref it) s → wpAny (model P w) A (pyIter (.ref it)) Q E s
abbrev TI := St → Hp → (It → Hp → Prop) → Prop
/-- an iterator has come -/
def PIE (X : Cx) (pins : List (Addr × Obj)) (σ : St) (tg : Expr) (R : It → Hp → Prop) (itv : Value) (s2 : Shared) : Prop :=
  ∃ (it : Addr) (fp : List Addr) (tn : Nat → Heap → Prop) (J : It) (H' : Hp), itv = .ref it ∧ Inv X pins σ H' s2 ∧ Turn X.prog X.w X.K tg J fp it tn ∧ tn 0 s2.heap ∧ (∀ b ∈ fp, FpOk X pins H' b) ∧ R J H'
def PI (X : Cx) (tg iter : Expr) (wi : TI) : Prop :=
  ∀ (pins : List (Addr × Obj)) (s : Shared) (σ : St) (H : Hp) (R : It → Hp → Prop), Inv X pins σ H s → wi σ H R →
    wpAny (model X.prog X.w) X.A (eval iter X.env) (fun v s1 => wpAny (model X.prog X.w) X.A (pyIter v) (PIE X pins σ tg R) X.xe s1) X.xe s

/-- the step ahead of the store is nothing for an iterator that keeps no tuple -/
theorem go_of {M : Model} {A : Around} {E : Value → Shared → Prop} {s : Shared} {tg : Expr} {it : Addr} {u : Value} {o : Obj} {n : String} {vs : Array Value} {Q : Unit → Shared → Prop} (ho : s.heap.get? it = some o) (hc : o.cls = .type n) (hd : o.data = .fields vs)
    (hn : ["enumerate", "zip", "dict_itemiterator", "dict_reverseitemiterator", "odict_iterator", "itertools.zip_longest", "itertools.pairwise"].contains n = false) (hQ : Q () s) : wpAny M A (letOwnedTupleGo tg (.ref it) u) Q E s := by
  unfold letOwnedTupleGo
  cases tg <;> first
    | exact wpAny_pure hQ
    | (cases u <;> first
        | exact wpAny_pure hQ
        | (refine wpAny_bind (wpAny_load ho ?_)
           rw [hc, hd]
           show wpAny M A (if (["enumerate", "zip", "dict_itemiterator", "dict_reverseitemiterator", "odict_iterator", "itertools.zip_longest", "itertools.pairwise"].contains n && vs[0]? == some (rawInt _)) = true then _ else _) Q E s
           rw [if_neg (by intro h; rw [hn, Bool.false_and] at h; cases h)]
           exact wpAny_pure hQ))

/-- the list at a, as it stands at each turn (a loop may append to it) -/
def Itl (K : PySem.W.Frag) (a : Addr) : It :=
  ⟨fun i H => ∃ xs x, SqL K H a xs ∧ xs[i]? = some x, fun i H x H' => H' = H ∧ ∀ xs, SqL K H a xs → xs[i]? = some x, fun i H => ∃ xs, SqL K H a xs ∧ xs.length ≤ i⟩
def Itt (K : PySem.W.Frag) (a : Addr) : It :=
  ⟨fun i H => ∃ xs x, SqT K H a xs ∧ xs[i]? = some x, fun i H x H' => H' = H ∧ ∀ xs, SqT K H a xs → xs[i]? = some x, fun i H => ∃ xs, SqT K H a xs ∧ xs.length ≤ i⟩
/-- lo, lo + 1, .. (n of them) -/
def Itr (lo : Int) (n : Nat) : It := ⟨fun i _ => i < n, fun i H x H' => H' = H ∧ x = .int (lo + i), fun i _ => n ≤ i⟩
theorem turn_list {P : Program} {w : World} {K : PySem.W.Frag} {tg : Expr} (a it : Addr) : Turn P w K tg (Itl K a) [it] it (fun i h => h.IsListIter it a i) where
  mem := by simp
  obj := fun i h st b hb => by
    have e : b = it := by simpa using hb
    subst e
    obtain ⟨o, e, c, d⟩ := st
    exact ⟨o, e, fun v z => by rw [d] at z; cases z⟩
  keep := fun i h h' st k => st.at fun o e => k it (by simp) o e
  item := by
    intro X hP hw hK hc i pins s σ H E I hf st hg
    subst hP hw hK
    obtain ⟨xs, x, hq, hx⟩ := hg
    obtain ⟨its, rv, p, hz⟩ := I.list hq
    obtain ⟨u, hu, ru⟩ := rv.get hx
    obtain ⟨f0, f1, f2, f3, f4, f5⟩ := hf it (by simp)
    refine wpAny_pyNext_list_item st p.isList (x := u) (by simpa using hu) fun h' st' sb => ?_
    have I1 : Inv X pins σ H { s with heap := h' } := I.turned (t' := s.toks) (fun b o hb e => (sb.2 b hb).trans e) f0 f1 f3 f4 f5
    obtain ⟨o, e, c, d⟩ := id st'
    exact ⟨u, rfl, go_of (s := { s with heap := h' }) e c d (by decide) ⟨x, H, I1, ru, ⟨rfl, fun ys hy => by rw [I.list_inj hy hq]; exact hx⟩, st', fun b hb => (hf b hb).1⟩⟩
  done := by
    intro X hP hw hK hc i pins s σ H E I hf st hg
    subst hP hw hK
    obtain ⟨xs, hq, hx⟩ := hg
    obtain ⟨its, rv, p, hz⟩ := I.list hq
    obtain ⟨f0, f1, f2, f3, f4, f5⟩ := hf it (by simp)
    have hl := rv.length
    exact wpAny_pyNext_list_end (I.ok.hd hc) st p.isList (by simp; omega) fun h' eb => ⟨rfl, I.turned (t' := s.toks) (fun b o hb e => eb b o hb e) f0 f1 f3 f4 f5⟩
  self := fun _ _ _ _ _ st h => wpAny_pyIter_listiter st h
theorem turn_tuple {P : Program} {w : World} {K : PySem.W.Frag} {tg : Expr} (a it : Addr) : Turn P w K tg (Itt K a) [it] it (fun i h => h.IsTupleIter it a i) where
  mem := by simp
  obj := fun i h st b hb => by
    have e : b = it := by simpa using hb
    subst e
    obtain ⟨o, e, c, d⟩ := st
    exact ⟨o, e, fun v z => by rw [d] at z; cases z⟩
  keep := fun i h h' st k => st.at fun o e => k it (by simp) o e
  item := by
    intro X hP hw hK hc i pins s σ H E I hf st hg
    subst hP hw hK
    obtain ⟨xs, x, hq, hx⟩ := hg
    obtain ⟨its, rv, p, hz⟩ := I.tuple hq
    obtain ⟨u, hu, ru⟩ := rv.get hx
    obtain ⟨f0, f1, f2, f3, f4, f5⟩ := hf it (by simp)
    refine wpAny_pyNext_tuple_item st (show s.heap.IsTuple a its.toArray from p) (x := u) (by simpa using hu) fun h' st' sb => ?_
    have I1 : Inv X pins σ H { s with heap := h' } := I.turned (t' := s.toks) (fun b o hb e => (sb.2 b hb).trans e) f0 f1 f3 f4 f5
    obtain ⟨o, e, c, d⟩ := id st'
    exact ⟨u, rfl, go_of (s := { s with heap := h' }) e c d (by decide) ⟨x, H, I1, ru, ⟨rfl, fun ys hy => by rw [I.tuple_inj hy hq]; exact hx⟩, st', fun b hb => (hf b hb).1⟩⟩
  done := by
    intro X hP hw hK hc i pins s σ H E I hf st hg
    subst hP hw hK
    obtain ⟨xs, hq, hx⟩ := hg
    obtain ⟨its, rv, p, hz⟩ := I.tuple hq
    obtain ⟨f0, f1, f2, f3, f4, f5⟩ := hf it (by simp)
    have hl := rv.length
    exact wpAny_pyNext_tuple_end (I.ok.hd hc) st (show s.heap.IsTuple a its.toArray from p) (by simp; omega) fun h' eb => ⟨rfl, I.turned (t' := s.toks) (fun b o hb e => eb b o hb e) f0 f1 f3 f4 f5⟩
  self := fun _ _ _ _ _ st h => wpAny_pyIter_tupleiter st h
theorem turn_range {P : Program} {w : World} {K : PySem.W.Frag} {tg : Expr} (it : Addr) (lo : Int) (n : Nat) : Turn P w K tg (Itr lo n) [it] it (fun i h => IsRangeIter h it (lo + (i : Nat) * 1) ((n : Int) - (i : Nat)) 1) where
  mem := by simp
  obj := fun i h st b hb => by
    have e : b = it := by simpa using hb
    subst e
    exact ⟨_, st, fun v z => by
      have z' : Data.fields _ = Data.cell v := z
      cases z'⟩
  keep := fun i h h' st k => k it (by simp) _ st
  item := by
    intro X hP hw hK hc i pins s σ H E I hf st hg
    subst hP hw hK
    obtain ⟨f0, f1, f2, f3, f4, f5⟩ := hf it (by simp)
    have W := Walks.range (prog := X.prog) (w := X.w) (I.ok.hd hc) it lo 1 n
    refine W.item i s _ _ hg st fun v h' tk hv st' kk => ?_
    obtain ⟨t, rfl⟩ := hv
    have I1 : Inv X pins σ H { s with heap := h', toks := tk } := I.turned (fun b o hb e => kk b o (by simpa using hb) e) f0 f1 f3 f4 f5
    refine ⟨_, rfl, go_of (s := { s with heap := h', toks := tk }) (n := "range_iterator") st' rfl rfl (by decide) ⟨.int (lo + i), H, I1, ⟨t, ?_⟩, ⟨rfl, rfl⟩, st', fun b hb => (hf b hb).1⟩⟩
    rw [Int.mul_one]
  done := by
    intro X hP hw hK hc i pins s σ H E I hf st hg
    subst hP hw hK
    obtain ⟨f0, f1, f2, f3, f4, f5⟩ := hf it (by simp)
    exact wpAny_pyNext_range_end (I.ok.hd hc) st (by have : n ≤ i := hg; omega) fun h' eb => ⟨rfl, I.turned (t' := s.toks) (fun b o hb e => eb b o hb e) f0 f1 f3 f4 f5⟩
  self := fun _ _ _ _ _ st h => wpAny_pyIter_rangeiter st h
end L2

namespace L2
open PySem PySem.Spec PyProof.Rows
section
variable {X : Cx} {tg : Expr}
def iList (K : PySem.W.Frag) (tl : TE) : TI := fun σ H R => tl σ H fun x H1 => ∃ a, x = .ref a ∧ (∃ xs, SqL K H1 a xs) ∧ R (Itl K a) H1
def iTup (K : PySem.W.Frag) (tl : TE) : TI := fun σ H R => tl σ H fun x H1 => ∃ a, x = .ref a ∧ (∃ xs, SqT K H1 a xs) ∧ R (Itt K a) H1
theorem pi_list {l : Expr} {tl : TE} (hl : PE X l tl) : PI X tg l (iList X.K tl) := by
  intro pins s σ H R I h
  refine thn (hl pins s σ H _ I h) fun v s1 ⟨x, H1, I1, r1, q1⟩ => ?_
  obtain ⟨a, e, ⟨xs, hq⟩, q⟩ := q1
  subst e
  cases r1
  obtain ⟨its, rv, p, hz⟩ := I1.list hq
  refine wpAny_pyIter_list p.isList ?_
  refine ⟨s1.heap.objs.size, [s1.heap.objs.size], _, _, H1, rfl, I1.kept (t' := s1.toks) fun b o e => Heap.get?_push_of_some _ e, turn_list a _, ⟨_, Heap.get?_push_size _ rfl, rfl, rfl⟩, fun b hb => ?_, q⟩
  have e : b = s1.heap.objs.size := by simpa using hb
  subst e
  exact I1.fpOk (Nat.le_refl _) (I1.hok.fresh (Nat.le_refl _))
theorem pi_tup {l : Expr} {tl : TE} (hl : PE X l tl) : PI X tg l (iTup X.K tl) := by
  intro pins s σ H R I h
  refine thn (hl pins s σ H _ I h) fun v s1 ⟨x, H1, I1, r1, q1⟩ => ?_
  obtain ⟨a, e, ⟨xs, hq⟩, q⟩ := q1
  subst e
  cases r1
  obtain ⟨its, rv, p, hz⟩ := I1.tuple hq
  refine wpAny_pyIter_tuple (show s1.heap.IsTuple a its.toArray from p) ?_
  refine ⟨s1.heap.objs.size, [s1.heap.objs.size], _, _, H1, rfl, I1.kept (t' := s1.toks) fun b o e => Heap.get?_push_of_some _ e, turn_tuple a _, ⟨_, Heap.get?_push_size _ rfl, rfl, rfl⟩, fun b hb => ?_, q⟩
  have e : b = s1.heap.objs.size := by simpa using hb
  subst e
  exact I1.fpOk (Nat.le_refl _) (I1.hok.fresh (Nat.le_refl _))
/-- a range object just made, walked -/
theorem range_it {pins : List (Addr × Obj)} {σ : St} {H : Hp} {s : Shared} {R : It → Hp → Prop} {E : Value → Shared → Prop} {lo hi : Int} {t u v : Tok} {tk : Nat} (I : Inv X pins σ H s) (h1 : -(2 ^ 62) ≤ lo) (h2 : lo < 2 ^ 62) (h3 : -(2 ^ 62) ≤ hi) (h4 : hi < 2 ^ 62)
    (q : R (Itr lo (hi - lo).toNat) H) : wpAny (model X.prog X.w) X.A (pyIter (.ref s.heap.objs.size)) (PIE X pins σ tg R) E { s with heap := s.heap.push { cls := .type "range", data := .fields #[.int lo t, .int hi u, .int 1 v] }, toks := tk } := by
  refine wpAny_pyIter_range (IsRange.new ..) (small_one h1 h2 h3 h4) ?_
  have I1 : Inv X pins σ H { s with heap := s.heap.push { cls := .type "range", data := .fields #[.int lo t, .int hi u, .int 1 v] }, toks := tk } := I.kept fun b o e => Heap.get?_push_of_some _ e
  refine ⟨(s.heap.push { cls := .type "range", data := .fields #[.int lo t, .int hi u, .int 1 v] }).objs.size, [(s.heap.push { cls := .type "range", data := .fields #[.int lo t, .int hi u, .int 1 v] }).objs.size], _, _, H, rfl,
    I1.kept (t' := tk) fun b o e => Heap.get?_push_of_some _ e, turn_range _ lo (hi - lo).toNat, ?_, fun b hb => ?_, q⟩
  · have e1 : lo + ((0 : Nat) : Int) * 1 = lo := by simp
    have e2 : (((hi - lo).toNat : Nat) : Int) - ((0 : Nat) : Int) = Builtin.Range.rangeSize lo hi 1 := by rw [rangeSize_one]; split <;> omega
    show IsRangeIter _ _ (lo + ((0 : Nat) : Int) * 1) ((((hi - lo).toNat : Nat) : Int) - ((0 : Nat) : Int)) 1
    rw [e1, e2]
    exact Heap.get?_push_size _ rfl
  · have e : b = (s.heap.push { cls := .type "range", data := .fields #[.int lo t, .int hi u, .int 1 v] }).objs.size := by simpa using hb
    subst e
    exact I1.fpOk (Nat.le_refl _) (I1.hok.fresh (Nat.le_refl _))
def iRng1 (ta : TA) : TI := fun σ H R => ta σ H fun vs H1 => ∃ j : Int, vs = [.int j] ∧ -(2 ^ 62) ≤ j ∧ j < 2 ^ 62 ∧ R (Itr 0 j.toNat) H1
def iRng2 (ta : TA) : TI := fun σ H R => ta σ H fun vs H1 => ∃ i j : Int, vs = [.int i, .int j] ∧ (-(2 ^ 62) ≤ i ∧ i < 2 ^ 62 ∧ -(2 ^ 62) ≤ j ∧ j < 2 ^ 62) ∧ R (Itr i (j - i).toNat) H1
theorem pi_range1 {a : Expr} {ta : TA} {p pos : Pos} (hg : Gl X "range") (hm : X.mg "range" = none) (ha : PA X [a] ta) (hs : starEach [a] X.env = [(false, eval a X.env)] := by rfl) : PI X tg (.Call (.Name "range" p) [a] [] pos) (iRng1 ta) := by
  intro pins s σ H R I h
  refine Call_ (ld_blt I hg hm boot_range (PyProof.Rows.callWith_type1 (thn (ha pos pins s σ H _ I h) fun us s1 ⟨vs, H1, I1, r1, q1⟩ => ?_) hs rfl))
  obtain ⟨j, e, q1, q2, q⟩ := q1
  subst e
  cases r1 with
  | cons r rr =>
    cases rr
    obtain ⟨t, rfl⟩ := r
    exact call_range_1 (range_it I1 (by omega) (by omega) q1 q2 (by simpa using q))
theorem pi_range2 {a b : Expr} {ta : TA} {p pos : Pos} (hg : Gl X "range") (hm : X.mg "range" = none) (ha : PA X [a, b] ta) (hs : starEach [a, b] X.env = [(false, eval a X.env), (false, eval b X.env)] := by rfl) (hs2 : starEach [b] X.env = [(false, eval b X.env)] := by rfl) :
    PI X tg (.Call (.Name "range" p) [a, b] [] pos) (iRng2 ta) := by
  intro pins s σ H R I h
  refine Call_ (ld_blt I hg hm boot_range (PyProof.Rows.callWith_type1 (thn (ha pos pins s σ H _ I h) fun us s1 ⟨vs, H1, I1, r1, q1⟩ => ?_) (by rw [hs, hs2]) (by rw [hs2]; rfl)))
  obtain ⟨i, j, e, ⟨q1, q2, q3, q4⟩, q⟩ := q1
  subst e
  cases r1 with
  | cons r rr =>
    cases rr with
    | cons r' rr =>
      cases rr
      obtain ⟨t, rfl⟩ := r
      obtain ⟨t', rfl⟩ := r'
      exact call_range_2 (range_it I1 q1 q2 q3 q4 q)

/-! ### for -/
/-- W: the invariant by the turn and a measure; N: what the body is to reach -/
def tFor (wi : TI) (g : TG) (tb : TS) : TS := fun D σ H => wi σ H fun J H1 => ∃ W : Nat → Nat → St → Hp → Prop, (∃ m, W 0 m σ H1) ∧ ∀ i m σ H, W i m σ H →
  (J.stop i H ∧ D.nx σ H) ∨ (J.go i H ∧ ∃ N : St → Hp → Prop, (∀ σ' H', N σ' H' → ∃ m', m' < m ∧ W (i + 1) m' σ' H') ∧ ∀ x H', J.yld i H x H' → g x σ H' fun σ2 H2 => tb { D with nx := N, ct := N, bk := D.nx } σ2 H2)
/-- the records at fp as they stand -/
def pinsAt (fp : List Addr) (h : Heap) : List (Addr × Obj) := fp.filterMap fun b => (h.get? b).map fun o => (b, o)
theorem mem_pinsAt {fp : List Addr} {h : Heap} {b : Addr} {o : Obj} (hb : b ∈ fp) (e : h.get? b = some o) : (b, o) ∈ pinsAt fp h := List.mem_filterMap.mpr ⟨b, hb, by rw [e]; rfl⟩
theorem of_pinsAt {fp : List Addr} {h : Heap} {p : Addr × Obj} (hp : p ∈ pinsAt fp h) : p.1 ∈ fp ∧ h.get? p.1 = some p.2 := by
  obtain ⟨b, hb, e⟩ := List.mem_filterMap.mp hp
  cases q : h.get? b with
  | none => rw [q] at e; cases e
  | some o =>
    rw [q] at e
    have e' : (b, o) = p := Option.some.inj e
    subst e'
    exact ⟨hb, q⟩
theorem Inv.pinned {pins : List (Addr × Obj)} {σ : St} {H : Hp} {s : Shared} {fp : List Addr} (I : Inv X pins σ H s) (hf : ∀ b ∈ fp, FpOk X pins H b) (ho : ∀ b ∈ fp, ∃ o, s.heap.get? b = some o ∧ ∀ v, o.data ≠ .cell v) : Inv X (pins ++ pinsAt fp s.heap) σ H s :=
  I.pins_of fun p hp => (List.mem_append.mp hp).elim (fun z => I.pin p (List.mem_append_right _ z)) fun z => by
    obtain ⟨hb, e⟩ := of_pinsAt z
    obtain ⟨f0, f1, f2, _⟩ := hf p.1 hb
    obtain ⟨o, e', d⟩ := ho p.1 hb
    rw [e] at e'; cases e'
    exact ⟨e, f0, f1, f2, d⟩
theorem Inv.unpinned {pins pl : List (Addr × Obj)} {σ : St} {H : Hp} {s : Shared} (I : Inv X (pins ++ pl) σ H s) : Inv X pins σ H s := I.pins_of fun p hp => I.pin p (List.mem_append_right _ (List.mem_append_left _ hp))
theorem ps_for {iter : Expr} {body : List Stmt} {wi : TI} {g : TG} {tb : TS} {pos : Pos} (hp : PassesOwn (model X.prog X.w) X.A X.env X.xe) (hc : X.calm = true) (hi : PI X tg iter wi) (hg : PG X tg g) (hb : PSs X body tb)
    (hs : ∀ x, foldedSetIterable iter X.env x = pure x := by intro _; rfl) : PS X (.For tg iter body [] pos) (tFor wi g tb) := by
  intro pins s σ H D I h
  refine wpAny_For (thn (hi pins s σ H _ I h) fun v s1 h1 => thn h1 fun itv s2 h2 => ?_) hs
  obtain ⟨it, fp, tn, J, H2, e, I2, T, st2, f2, W, ⟨m0, w0⟩, turn⟩ := h2
  subst e
  -- what stays true of the iterator's objects through the loop
  have stat : ∀ {H' : Hp}, (∀ b ∈ fp, H' b = none) → ∀ b ∈ fp, FpOk X pins H' b := fun hn b hb => ⟨hn b hb, (f2 b hb).2⟩
  refine codeAny_forLoop_any (fun n s' => ∃ i σ' H', Inv X pins σ' H' s' ∧ tn i s'.heap ∧ (∀ b ∈ fp, H' b = none) ∧ W i n σ' H') ?_ m0 ⟨0, σ, H2, I2, st2, fun b hb => (f2 b hb).1, w0⟩
  rintro n s3 ⟨i, σ3, H3, I3, st3, fr3, w3⟩
  rcases turn i n σ3 H3 w3 with ⟨stop, qn⟩ | ⟨go, N, hN, step⟩
  · refine wpAny_passesOwn hp (thn (T.done X rfl rfl rfl hc i pins s3 σ3 H3 X.xe I3 (stat fr3) st3 stop) fun r s4 ⟨hr, I4⟩ => ?_)
    subst hr
    exact wpAny_execs_nil ⟨σ3, H3, I4, qn⟩
  · refine wpAny_passesOwn hp (thn (T.item X rfl rfl rfl hc i pins s3 σ3 H3 X.xe I3 (stat fr3) st3 go) fun r s4 ⟨u, hr, h4⟩ => ?_)
    subst hr
    refine wpAny_passesOwn hp (thn h4 fun _ s5 ⟨x, H5, I5, r5, y5, st5, fr5⟩ => ?_)
    have I5' := I5.pinned (stat fr5) (T.obj _ _ st5)
    refine wpAny_passesOwn hp (thn (hg _ s5 σ3 H5 x u _ I5' r5 (step x H5 y5)) fun _ s6 ⟨σ6, H6, I6, q6⟩ => ?_)
    refine wpAny_passesOwn hp (thn (hb _ s6 σ6 H6 _ I6 q6) fun f s7 q7 => ?_)
    have again : ∀ {σ7 : St} {H7 : Hp}, Inv X (pins ++ pinsAt fp s5.heap) σ7 H7 s7 → N σ7 H7 → ∃ m, m < n ∧ ∃ i σ' H', Inv X pins σ' H' s7 ∧ tn i s7.heap ∧ (∀ b ∈ fp, H' b = none) ∧ W i m σ' H' := fun {σ7 H7} I7 n7 => by
      obtain ⟨m', hm, w7⟩ := hN σ7 H7 n7
      refine ⟨m', hm, i + 1, σ7, H7, I7.unpinned, T.keep _ _ _ st5 fun b hb o e => (I7.pin (b, o) (List.mem_append_right _ (List.mem_append_right _ (mem_pinsAt hb e)))).1, fun b hb => ?_, w7⟩
      obtain ⟨o, e, d⟩ := T.obj _ _ st5 b hb
      exact (I7.pin (b, o) (List.mem_append_right _ (List.mem_append_right _ (mem_pinsAt hb e)))).2.1
    cases f with
    | next => obtain ⟨σ7, H7, I7, n7⟩ := q7; exact again I7 n7
    | cont => obtain ⟨σ7, H7, I7, n7⟩ := q7; exact again I7 n7
    | brk => obtain ⟨σ7, H7, I7, q7⟩ := q7; exact ⟨σ7, H7, I7.unpinned, q7⟩
    | ret v => obtain ⟨x7, σ7, H7, I7, r7, q7⟩ := q7; exact ⟨x7, σ7, H7, I7.unpinned, r7, q7⟩
end

/-! ### the forms one uses -/
end L2

namespace L2
open PySem PySem.Spec PyProof.Rows

abbrev R2 := V → V → Hp → VK → Prop
/-- a two-place operation on values: f is binaryOp op, inplaceOp op or compareOp op -/
def OpR (X : Cx) (f : Value → Value → Sem Value) (r : R2) : Prop :=
  ∀ (pins : List (Addr × Obj)) (s : Shared) (σ : St) (H : Hp) (x y : V) (v u : Value) (Q : VK), Inv X pins σ H s → RelV x v → RelV y u → r x y H Q →
    wpAny (model X.prog X.w) X.A (f v u) (EP X pins σ Q) X.xe s
/-- a one-place operation -/
def UnR (X : Cx) (f : Value → Sem Value) (r : V → Hp → VK → Prop) : Prop :=
  ∀ (pins : List (Addr × Obj)) (s : Shared) (σ : St) (H : Hp) (x : V) (v : Value) (Q : VK), Inv X pins σ H s → RelV x v → r x H Q →
    wpAny (model X.prog X.w) X.A (f v) (EP X pins σ Q) X.xe s
/-- a call of a value that is known (a builtin, a type) with values -/
def CallR (X : Cx) (f : Value) (r : List V → Hp → VK → Prop) : Prop :=
  ∀ (pins : List (Addr × Obj)) (s : Shared) (σ : St) (H : Hp) (xs : List V) (us : List Value) (Q : VK), Inv X pins σ H s → Vals xs us → r xs H Q →
    wpAny (model X.prog X.w) X.A (call f us) (EP X pins σ Q) X.xe s
/-- a value's truth -/
def TruR (X : Cx) (r : V → Hp → (Bool → Hp → Prop) → Prop) : Prop :=
  ∀ (pins : List (Addr × Obj)) (s : Shared) (σ : St) (H : Hp) (x : V) (v : Value) (Q : Bool → Hp → Prop), Inv X pins σ H s → RelV x v → r x H Q →
    wpAny (model X.prog X.w) X.A (truthy v) (TP X pins σ Q) X.xe s

def tOp (r : R2) (ta tb : TE) : TE := fun σ H Q => ta σ H fun x H1 => tb σ H1 fun y H2 => r x y H2 Q
def tUn (r : V → Hp → VK → Prop) (ta : TE) : TE := fun σ H Q => ta σ H fun x H1 => r x H1 Q
/-- ints in, under C, and a value out -/
def rI (C : Int → Int → Prop) (g : Int → Int → V) : R2 := fun x y H Q => ∃ i j, x = .int i ∧ y = .int j ∧ C i j ∧ Q (g i j) H
def rI0 (g : Int → Int → V) : R2 := fun x y H Q => ∃ i j, x = .int i ∧ y = .int j ∧ Q (g i j) H
def rU (g : Int → V) : V → Hp → VK → Prop := fun x H Q => ∃ i, x = .int i ∧ Q (g i) H

section
variable {X : Cx} {a b c : Expr} {ta tb tc : TE} {pos : Pos}

theorem binT (ha : PE X a ta) (hb : PE X b tb) {pins : List (Addr × Obj)} {s : Shared} {σ : St} {H : Hp} {R : V → V → Hp → Prop} (I : Inv X pins σ H s)
    (h : ta σ H fun x H1 => tb σ H1 fun y H2 => R x y H2) {Q : Value → Shared → Prop} {f : Value → Value → Sem Value}
    (hf : ∀ v u s2 x y H2, Inv X pins σ H2 s2 → RelV x v → RelV y u → R x y H2 → wpAny (model X.prog X.w) X.A (f v u) Q X.xe s2) :
    wpAny (model X.prog X.w) X.A (eval a X.env) (fun v s₁ => wpAny (model X.prog X.w) X.A (eval b X.env) (fun u s₂ => wpAny (model X.prog X.w) X.A (f v u) Q X.xe s₂) X.xe s₁) X.xe s := by
  refine thn (ha pins s σ H _ I h) fun v s1 ⟨x, H1, I1, r1, q1⟩ => ?_
  refine thn (hb pins s1 σ H1 _ I1 q1) fun u s2 ⟨y, H2, I2, r2, q2⟩ => ?_
  exact hf v u s2 x y H2 I2 r1 r2 q2

theorem pe_op {op : Operator} {r : R2} (ho : OpR X (binaryOp op) r) (ha : PE X a ta) (hb : PE X b tb) : PE X (.BinOp a op b pos) (tOp r ta tb) := by
  intro pins s σ H Q I h
  exact wpAny_BinOp (binT ha hb I h fun v u s2 x y H2 I2 rx ry q => ho pins s2 σ H2 x y v u Q I2 rx ry q)
theorem pe_un {op : UnaryOp} {r : V → Hp → VK → Prop} (ho : UnR X (unaryOp op) r) (ha : PE X a ta) : PE X (.UnaryOp op a pos) (tUn r ta) := by
  intro pins s σ H Q I h
  exact UnaryOp_ (thn (ha pins s σ H _ I h) fun v s1 ⟨x, H1, I1, r1, q1⟩ => ho pins s1 σ H1 x v Q I1 r1 q1)

/-! ### ints -/
theorem opI {f : Value → Value → Sem Value} {C : Int → Int → Prop} {g : Int → Int → Int}
    (rule : ∀ (i j : Int) (t u : Tok) (s : Shared) (Q : Value → Shared → Prop) (E : Value → Shared → Prop), C i j → Q (.int (g i j) s.toks) { s with toks := s.toks + 1 } → wpAny (model X.prog X.w) X.A (f (.int i t) (.int j u)) Q E s) :
    OpR X f (rI C fun i j => .int (g i j)) := by
  intro pins s σ H x y v u Q I rx ry h
  obtain ⟨i, j, rfl, rfl, hc, q⟩ := h
  obtain ⟨t, rfl⟩ := rx
  obtain ⟨t', rfl⟩ := ry
  exact rule i j t t' s _ _ hc ⟨.int (g i j), H, I.tok _, ⟨_, rfl⟩, q⟩
theorem opI0 {f : Value → Value → Sem Value} {g : Int → Int → Int}
    (rule : ∀ (i j : Int) (t u : Tok) (s : Shared) (Q : Value → Shared → Prop) (E : Value → Shared → Prop), Q (.int (g i j) s.toks) { s with toks := s.toks + 1 } → wpAny (model X.prog X.w) X.A (f (.int i t) (.int j u)) Q E s) :
    OpR X f (rI0 fun i j => .int (g i j)) := by
  intro pins s σ H x y v u Q I rx ry h
  obtain ⟨i, j, rfl, rfl, q⟩ := h
  obtain ⟨t, rfl⟩ := rx
  obtain ⟨t', rfl⟩ := ry
  exact rule i j t t' s _ _ ⟨.int (g i j), H, I.tok _, ⟨_, rfl⟩, q⟩
theorem opB0 {f : Value → Value → Sem Value} {g : Int → Int → Bool}
    (rule : ∀ (i j : Int) (t u : Tok) (s : Shared) (Q : Value → Shared → Prop) (E : Value → Shared → Prop), Q (.bool (g i j)) s → wpAny (model X.prog X.w) X.A (f (.int i t) (.int j u)) Q E s) :
    OpR X f (rI0 fun i j => .bl (g i j)) := by
  intro pins s σ H x y v u Q I rx ry h
  obtain ⟨i, j, rfl, rfl, q⟩ := h
  obtain ⟨t, rfl⟩ := rx
  obtain ⟨t', rfl⟩ := ry
  exact rule i j t t' s _ _ ⟨.bl (g i j), H, I, rfl, q⟩

def CDiv (i j : Int) : Prop := 0 < j ∧ j < 1073741824
def CPow (i j : Int) : Prop := 0 ≤ j ∧ j ≤ 1000000 ∧ i.natAbs < 2 ^ 64
def CMul (i j : Int) : Prop := (-(2 ^ 64) < i ∧ i < 2 ^ 64) ∨ (-(2 ^ 64) < j ∧ j < 2 ^ 64)
theorem CMul.ok {i j : Int} (h : CMul i j) : IntMulOk i j := by
  rcases h with ⟨h1, h2⟩ | ⟨h1, h2⟩
  · exact .of_left (intBits_le_64 h1 h2)
  · exact .of_right (intBits_le_64 h1 h2)

theorem op_add : OpR X (binaryOp .Add) (rI0 fun i j => .int (i + j)) := opI0 fun _ _ _ _ _ _ _ q => add_int q
theorem op_sub : OpR X (binaryOp .Sub) (rI0 fun i j => .int (i - j)) := opI0 fun _ _ _ _ _ _ _ q => sub_int q
theorem op_mul : OpR X (binaryOp .Mult) (rI CMul fun i j => .int (i * j)) := opI fun _ _ _ _ _ _ _ hc q => mul_int q hc.ok
/-- // by a positive divisor -/
theorem op_fdiv : OpR X (binaryOp .FloorDiv) (rI CDiv fun i j => .int (i / j)) := opI fun i j _ _ _ _ _ hc q => by
  have h1 : (0 : Int) < j := hc.1
  have h2 : j < 1073741824 := hc.2
  exact floordiv_int (by omega) (by rw [Int.fdiv_eq_ediv_of_nonneg i (by omega)]; exact q) (.inl (PyProof.noPylong_small (by omega)))
/-- % by a positive divisor of any size -/
theorem op_mod : OpR X (binaryOp .Mod) (rI (fun _ j => 0 < j) fun i j => .int (i % j)) := opI fun i j _ _ _ _ _ hc q => by
  have h1 : (0 : Int) < j := hc
  exact mod_int' (by omega) (by rw [Int.fmod_eq_emod_of_nonneg i (by omega)]; exact q)
theorem op_pow : OpR X (binaryOp .Pow) (rI CPow fun i j => .int (i ^ j.toNat)) := opI fun _ _ _ _ _ _ _ hc q => pow_int_small hc.1 hc.2.1 hc.2.2 q


theorem unI {f : Value → Sem Value} {g : Int → Int}
    (rule : ∀ (i : Int) (t : Tok) (s : Shared) (Q : Value → Shared → Prop) (E : Value → Shared → Prop), Q (.int (g i) s.toks) { s with toks := s.toks + 1 } → wpAny (model X.prog X.w) X.A (f (.int i t)) Q E s) :
    UnR X f (rU fun i => .int (g i)) := by
  intro pins s σ H x v Q I rx h
  obtain ⟨i, rfl, q⟩ := h
  obtain ⟨t, rfl⟩ := rx
  exact rule i t s _ _ ⟨.int (g i), H, I.tok _, ⟨_, rfl⟩, q⟩
theorem un_neg : UnR X (unaryOp .USub) (rU fun i => .int (-i)) := unI fun _ _ _ _ _ q => neg_int q

/-! ### bools among ints: n += (a < b) -/
end

/-! ### comparisons -/
/-- the scalars that == tells apart as data does -/
def scal : V → V → Bool
  | .non, .non => true | .non, .int _ => true | .int _, .non => true | .non, .bl _ => true | .bl _, .non => true | .non, .str _ => true | .str _, .non => true
  | .int _, .int _ => true | .bl _, .bl _ => true | .str _, .str _ => true | .byt _, .byt _ => true
  | .int _, .str _ => true | .str _, .int _ => true | .bl _, .str _ => true | .str _, .bl _ => true
  | _, _ => false
def rEq : R2 := fun x y H Q => scal x y = true ∧ Q (.bl (decide (x = y))) H
def rNe : R2 := fun x y H Q => scal x y = true ∧ Q (.bl (!decide (x = y))) H

theorem dec_int {i j : Int} : decide (V.int i = V.int j) = (i == j) := by
  rw [Bool.eq_iff_iff]
  simp
theorem dec_bl {i j : Bool} : decide (V.bl i = V.bl j) = (i == j) := by
  rw [Bool.eq_iff_iff]
  simp
theorem dec_str {i j : Str} : decide (V.str i = V.str j) = (i == j) := by
  rw [Bool.eq_iff_iff]
  simp
theorem dec_byt {i j : Array UInt8} : decide (V.byt i = V.byt j) = (i.toList == j.toList) := by
  rw [Bool.eq_iff_iff]
  cases i
  cases j
  simp

section
variable {X : Cx} {a b c : Expr} {ta tb tc : TE} {pos : Pos}
theorem fin_bl {pins : List (Addr × Obj)} {σ : St} {H : Hp} {s : Shared} {Q : VK} {k k' : Bool} (I : Inv X pins σ H s) (q : Q (.bl k) H) (e : k = k') : EP X pins σ Q (.bool k') s := by
  subst e
  exact ⟨.bl k, H, I, rfl, q⟩
theorem op_eq : OpR X (compareOp .Eq) rEq := by
  intro pins s σ H x y v u Q I rx ry h
  obtain ⟨hs, q⟩ := h
  cases x with
  | non =>
    cases rx
    cases y with
    | non => cases ry; exact PySem.EqNone.eq_none_none (fin_bl I q (by simp))
    | bl j => cases ry; exact PySem.EqNone.eq_none_bool (fin_bl I q (by simp))
    | int j => obtain ⟨t', rfl⟩ := ry; exact PySem.EqNone.eq_none_int (fin_bl I q (by simp))
    | str j => obtain ⟨t', rfl⟩ := ry; exact PySem.EqNone.eq_none_str (fin_bl I q (by simp))
    | _ => exact absurd (show false = true from hs) Bool.false_ne_true
  | bl i =>
    cases rx
    cases y with
    | non => cases ry; exact PySem.EqNone.eq_bool_none (fin_bl I q (by simp))
    | bl j => cases ry; exact eq_bool (fin_bl I q dec_bl)
    | str j => obtain ⟨t', rfl⟩ := ry; exact PySem.EqMixed.eq_bool_str (fin_bl I q (by simp))
    | _ => exact absurd (show false = true from hs) Bool.false_ne_true
  | int i =>
    obtain ⟨t, rfl⟩ := rx
    cases y with
    | non => cases ry; exact PySem.EqNone.eq_int_none (fin_bl I q (by simp))
    | int j => obtain ⟨t', rfl⟩ := ry; exact eq_int (fin_bl I q dec_int)
    | str j => obtain ⟨t', rfl⟩ := ry; exact PySem.EqMixed.eq_int_str (fin_bl I q (by simp))
    | _ => exact absurd (show false = true from hs) Bool.false_ne_true
  | str i =>
    obtain ⟨t, rfl⟩ := rx
    cases y with
    | non => cases ry; exact PySem.EqNone.eq_str_none (fin_bl I q (by simp))
    | bl j => cases ry; exact PySem.EqMixed.eq_str_bool (fin_bl I q (by simp))
    | int j => obtain ⟨t', rfl⟩ := ry; exact PySem.EqMixed.eq_str_int (fin_bl I q (by simp))
    | str j => obtain ⟨t', rfl⟩ := ry; exact eq_str (fin_bl I q dec_str)
    | _ => exact absurd (show false = true from hs) Bool.false_ne_true
  | byt i =>
    obtain ⟨t, rfl⟩ := rx
    cases y with
    | byt j => obtain ⟨t', rfl⟩ := ry; exact PySem.W.eq_bytes (fin_bl I q dec_byt)
    | _ => exact absurd (show false = true from hs) Bool.false_ne_true
  | _ => cases y <;> exact absurd (show false = true from hs) Bool.false_ne_true
theorem op_ne : OpR X (compareOp .NotEq) rNe := by
  intro pins s σ H x y v u Q I rx ry h
  obtain ⟨hs, q⟩ := h
  cases x with
  | non =>
    cases rx
    cases y with
    | non => cases ry; exact PySem.EqNone.ne_none_none (fin_bl I q (by simp))
    | bl j => cases ry; exact PySem.EqNone.ne_none_bool (fin_bl I q (by simp))
    | int j => obtain ⟨t', rfl⟩ := ry; exact PySem.EqNone.ne_none_int (fin_bl I q (by simp))
    | str j => obtain ⟨t', rfl⟩ := ry; exact PySem.EqNone.ne_none_str (fin_bl I q (by simp))
    | _ => exact absurd (show false = true from hs) Bool.false_ne_true
  | bl i =>
    cases rx
    cases y with
    | non => cases ry; exact PySem.EqNone.ne_bool_none (fin_bl I q (by simp))
    | bl j => cases ry; exact ne_bool (fin_bl I q (congrArg not dec_bl))
    | str j => obtain ⟨t', rfl⟩ := ry; exact PySem.EqMixed.ne_bool_str (fin_bl I q (by simp))
    | _ => exact absurd (show false = true from hs) Bool.false_ne_true
  | int i =>
    obtain ⟨t, rfl⟩ := rx
    cases y with
    | non => cases ry; exact PySem.EqNone.ne_int_none (fin_bl I q (by simp))
    | int j => obtain ⟨t', rfl⟩ := ry; exact ne_int (fin_bl I q (congrArg not dec_int))
    | str j => obtain ⟨t', rfl⟩ := ry; exact PySem.EqMixed.ne_int_str (fin_bl I q (by simp))
    | _ => exact absurd (show false = true from hs) Bool.false_ne_true
  | str i =>
    obtain ⟨t, rfl⟩ := rx
    cases y with
    | non => cases ry; exact PySem.EqNone.ne_str_none (fin_bl I q (by simp))
    | bl j => cases ry; exact PySem.EqMixed.ne_str_bool (fin_bl I q (by simp))
    | int j => obtain ⟨t', rfl⟩ := ry; exact PySem.EqMixed.ne_str_int (fin_bl I q (by simp))
    | str j => obtain ⟨t', rfl⟩ := ry; exact ne_str (fin_bl I q (congrArg not dec_str))
    | _ => exact absurd (show false = true from hs) Bool.false_ne_true
  | byt i =>
    obtain ⟨t, rfl⟩ := rx
    cases y with
    | byt j => obtain ⟨t', rfl⟩ := ry; exact PySem.W.ne_bytes (fin_bl I q (congrArg not dec_byt))
    | _ => exact absurd (show false = true from hs) Bool.false_ne_true
  | _ => cases y <;> exact absurd (show false = true from hs) Bool.false_ne_true

theorem op_lt : OpR X (compareOp .Lt) (rI0 fun i j => .bl (decide (i < j))) := opB0 fun _ _ _ _ _ _ _ q => lt_int q
theorem op_gt : OpR X (compareOp .Gt) (rI0 fun i j => .bl (decide (j < i))) := opB0 fun _ _ _ _ _ _ _ q => gt_int q
theorem op_ge : OpR X (compareOp .GtE) (rI0 fun i j => .bl (decide (j ≤ i))) := opB0 fun _ _ _ _ _ _ _ q => ge_int q

/-- is None, is not None: the right side a value none -/
theorem op_isN : OpR X (compareOp .Is) (fun x y H Q => y = .non ∧ Q (.bl (decide (x = .non))) H) := by
  intro pins s σ H x y v u Q I rx ry h
  obtain ⟨rfl, q⟩ := h
  cases ry
  refine is_none_gen (fin_bl I q ?_)
  cases x <;> first
    | (cases rx; rfl)
    | (obtain ⟨t, rfl⟩ := rx; rfl)
theorem op_notN : OpR X (compareOp .IsNot) (fun x y H Q => y = .non ∧ Q (.bl (!decide (x = .non))) H) := by
  intro pins s σ H x y v u Q I rx ry h
  obtain ⟨rfl, q⟩ := h
  cases ry
  refine isnot_none_gen (fin_bl I q ?_)
  cases x <;> first
    | (cases rx; rfl)
    | (obtain ⟨t, rfl⟩ := rx; rfl)



/-- a comparison as a value; hm: nomark b, or (for in, not in) by with_unfolding_all rfl -/
theorem pe_cmpR {op : CmpOp} {r : R2} (ho : OpR X (compareOp op) r) (ha : PE X a ta) (hb : PE X b tb) (hm : behindInMarks op b = false) : PE X (.Compare a [op] [b] pos) (tOp r ta tb) := by
  intro pins s σ H Q I h
  exact wpAny_Compare1 (binT ha hb I h fun v u s2 x y H2 I2 rx ry q => ho pins s2 σ H2 x y v u Q I2 rx ry q) hm
/-- a reading of a value as a test -/
def tTest (t : TE) : TT := fun σ H Q => t σ H fun x H' => ∃ k, x = .bl k ∧ Q k H'
theorem pt_cmpR {op : CmpOp} {r : R2} (ho : OpR X (compareOp op) r) (ha : PE X a ta) (hb : PE X b tb) (hm : behindInMarks op b = false) : PT X (.Compare a [op] [b] pos) (tTest (tOp r ta tb)) := by
  intro pins s σ H Q I h
  refine wpAny_isTrue_Compare1 (thn (ha pins s σ H _ I h) fun v s1 ⟨x, H1, I1, r1, q1⟩ => thn (hb pins s1 σ H1 _ I1 q1) fun u s2 ⟨y, H2, I2, r2, q2⟩ =>
    thn (ho pins s2 σ H2 x y v u _ I2 r1 r2 q2) fun c s3 ⟨z, H3, I3, r3, k, e, q3⟩ => ?_) hm
  subst e
  cases r3
  exact wpAny_truthy_bool ⟨H3, I3, q3⟩

/-! ### truth -/
/-- a value's truth by the abstract heap -/
def TruV (K : PySem.W.Frag) (x : V) (H : Hp) (k : Bool) : Prop :=
  match x with
  | .non => k = false
  | .bl b => k = b
  | .int i => k = (i != 0)
  | .str y => y.length ≤ sizeLine ∧ k = ((y.length : Int) != 0)
  | .byt y => y.size ≤ sizeLine ∧ k = ((y.size : Int) != 0)
  | .ref p => (∃ xs, SqL K H p xs ∧ k = !xs.isEmpty) ∨ (∃ xs, SqT K H p xs ∧ k = !xs.isEmpty) ∨ ∃ kvs, H p = some (.dK kvs) ∧ k = !kvs.isEmpty
  | _ => False
theorem isEmpty_kv {κ : Type} {kvs : List (κ × V)} {vs : List (κ × Value)} (r : KV kvs vs) : (!vs.isEmpty) = !kvs.isEmpty := by
  cases r <;> rfl
theorem isEmpty_of {xs : List V} {its : List Value} (r : Vals xs its) : (!its.toArray.isEmpty) = !xs.isEmpty := by
  cases r <;> simp
theorem line63 : (sizeLine : Nat) < 2 ^ 63 := by rw [sizeLine_eq]; decide
theorem tru_ok : TruR X (fun x H Q => ∃ k, TruV X.K x H k ∧ Q k H) := by
  intro pins s σ H x v Q I rx h
  obtain ⟨k, e, q⟩ := h
  have hl := line63
  have hs : sizeLine = 16777216 := sizeLine_eq
  cases x with
  | non =>
    cases rx
    have e' : k = false := e
    subst e'
    exact truthy_none ⟨H, I, q⟩
  | bl b =>
    cases rx
    have e' : k = b := e
    subst e'
    exact wpAny_truthy_bool ⟨H, I, q⟩
  | int i =>
    obtain ⟨t, rfl⟩ := rx
    have e' : k = (i != 0) := e
    subst e'
    exact PySem.P.truthy_int ⟨H, I, q⟩
  | str y =>
    obtain ⟨t, rfl⟩ := rx
    obtain ⟨hy, e'⟩ : y.length ≤ sizeLine ∧ k = ((y.length : Int) != 0) := e
    subst e'
    exact PySem.P.truthy_str (by omega) ⟨H, I.tok _, q⟩
  | byt y =>
    obtain ⟨t, rfl⟩ := rx
    obtain ⟨hy, e'⟩ : y.size ≤ sizeLine ∧ k = ((y.size : Int) != 0) := e
    subst e'
    exact PySem.W.truthy_bytes (by omega) ⟨H, I.tok _, q⟩
  | ref p =>
    cases rx
    have e' : (∃ xs, SqL X.K H p xs ∧ k = !xs.isEmpty) ∨ (∃ xs, SqT X.K H p xs ∧ k = !xs.isEmpty) ∨ ∃ kvs, H p = some (.dK kvs) ∧ k = !kvs.isEmpty := e
    rcases e' with ⟨xs, hx, e'⟩ | ⟨xs, hx, e'⟩ | ⟨kvs, hx, e'⟩
    · subst e'
      obtain ⟨its, r, pl, hz⟩ := I.list hx
      have hlen := r.length
      exact wpAny_truthy_list pl.isList (by simp only [List.size_toArray]; omega) ⟨H, I.tok _, by rw [isEmpty_of r]; exact q⟩
    · subst e'
      obtain ⟨its, r, pl, hz⟩ := I.tuple hx
      have hlen := r.length
      exact truthy_tuple pl (by simp only [List.size_toArray]; omega) ⟨H, I.tok _, by rw [isEmpty_of r]; exact q⟩
    · subst e'
      obtain ⟨hz, hS, vs, r, m⟩ : kvs.length ≤ sizeLine ∧ (p == sysModules) = false ∧ ∃ vs, KV kvs vs ∧ s.heap.DictOf (mixKind X.prog X.w) p vs := I.hok p _ hx
      have hlen : kvs.length = vs.length := Paired.length r
      exact wpAny_truthy_dict hS m (by omega) ⟨H, I.tok _, by rw [isEmpty_kv r]; exact q⟩
  | _ => exact (show False from e).elim
/-- any expression whose test is its value's truth (a name, a call, a subscript, a field ..: he by fun _ => rfl) -/
theorem pt_truth (ha : PE X a ta) (he : ∀ whole, isTrue a X.env whole = (do let v ← whole; standAt a.pos; holding [v] (truthy v))) :
    PT X a (fun σ H Q => ta σ H fun x H' => ∃ k, TruV X.K x H' k ∧ Q k H') := by
  intro pins s σ H Q I h
  exact isTrue_plain (thn (ha pins s σ H _ I h) fun v s1 ⟨x, H1, I1, r1, q1⟩ => tru_ok pins s1 σ H1 x v Q I1 r1 q1) (he _)

/-! ### strs and bytes -/


/-! ### scalar builtins, by CallR -/
theorem vals1 {x : V} {us : List Value} (r : Vals [x] us) : ∃ u, us = [u] ∧ RelV x u := by
  cases r with
  | cons r1 r2 => cases r2; exact ⟨_, rfl, r1⟩
theorem vals2 {x y : V} {us : List Value} (r : Vals [x, y] us) : ∃ u w', us = [u, w'] ∧ RelV x u ∧ RelV y w' := by
  cases r with
  | cons r1 r2 =>
    cases r2 with
    | cons r3 r4 => cases r4; exact ⟨_, _, rfl, r1, r3⟩
theorem call_max2 (hc : X.calm = true) : CallR X (.builtin "max") (fun xs H Q => ∃ i j, xs = [.int i, .int j] ∧ Q (.int (if j > i then j else i)) H) := by
  intro pins s σ H xs us Q I r h
  obtain ⟨i, j, rfl, q⟩ := h
  obtain ⟨u, w', rfl, ⟨t, rfl⟩, ⟨t', rfl⟩⟩ := vals2 r
  refine max_two_ints (I.ok.hd hc) fun h' tk k => ⟨_, H, I.kept k, ?_, q⟩
  by_cases hj : j > i
  · rw [if_pos hj, if_pos hj]; exact ⟨_, rfl⟩
  · rw [if_neg hj, if_neg hj]; exact ⟨_, rfl⟩
theorem call_min2 (hc : X.calm = true) : CallR X (.builtin "min") (fun xs H Q => ∃ i j, xs = [.int i, .int j] ∧ Q (.int (if j < i then j else i)) H) := by
  intro pins s σ H xs us Q I r h
  obtain ⟨i, j, rfl, q⟩ := h
  obtain ⟨u, w', rfl, ⟨t, rfl⟩, ⟨t', rfl⟩⟩ := vals2 r
  refine min_two_ints (I.ok.hd hc) fun h' tk k => ⟨_, H, I.kept k, ?_, q⟩
  by_cases hj : j < i
  · rw [if_pos hj, if_pos hj]; exact ⟨_, rfl⟩
  · rw [if_neg hj, if_neg hj]; exact ⟨_, rfl⟩
theorem call_int1 : CallR X (.type "int") (fun xs H Q => (∃ i, xs = [.int i] ∧ Q (.int i) H) ∨ ∃ k, xs = [.bl k] ∧ Q (.int (if k then 1 else 0)) H) := by
  intro pins s σ H xs us Q I r h
  rcases h with ⟨i, rfl, q⟩ | ⟨k, rfl, q⟩
  · obtain ⟨u, rfl, t, rfl⟩ := vals1 r
    exact call_int_int ⟨.int i, H, I, ⟨_, rfl⟩, q⟩
  · obtain ⟨u, rfl, r1⟩ := vals1 r
    cases r1
    exact call_int_bool ⟨.int (if k then 1 else 0), H, I.tok _, ⟨_, rfl⟩, q⟩
end
end L2

namespace L2
open PySem PySem.Spec PyProof.Rows

/-! ### an instance, its attributes a map -/
structure ObjM (h : Heap) (x dx C : Addr) (mA : Str → Option Value) : Prop where
  obj : h.get? x = some (PySem.W.instObj C dx)
  ns : h.Ns1 dx mA
  ne : dx ≠ x

theorem lookIn_ns {h : Heap} {dx : Addr} {mA : Str → Option Value} (n : h.Ns1 dx mA) : ∃ od, h.get? dx = some od ∧ ∀ name, PySem.W.lookIn name od = some (mA name) := by
  obtain ⟨o, es, ep, ho, hd, hk, _, hm⟩ := n
  refine ⟨o, ho, fun name => ?_⟩
  have e := hm name
  unfold nsFind findBy at e
  rw [← Array.find?_toList] at e
  unfold PySem.W.lookIn
  rw [hd]
  dsimp only
  split
  · rename_i y q
    rw [q] at e
    exact congrArg some e
  · rename_i q
    rw [q] at e
    have a : es.toList.any (·.refKey) = false := by
      rw [List.any_eq_false]
      intro y hy
      obtain ⟨z, t, hkey⟩ := hk y (Array.mem_toList_iff.mp hy)
      simp [DictEntry.refKey, hkey]
    have a' : ¬ es.toList.any (·.refKey) = true := by rw [a]; exact Bool.false_ne_true
    rw [if_neg a']
    exact congrArg some e

theorem ObjM.look {h : Heap} {x dx C : Addr} {mA : Str → Option Value} (I : ObjM h x dx C mA) : ∃ od, PySem.W.InstAt h x (PySem.W.instObj C dx) C (some od) ∧ ∀ name, PySem.W.lookIn name od = some (mA name) :=
  let ⟨od, ho, hl⟩ := lookIn_ns I.ns
  ⟨od, ⟨I.obj, rfl, rfl, ho⟩, hl⟩

section
variable {prog : Program} {w : World} {A : Around} {E : Value → Shared → Prop} {s : Shared} {K : PySem.W.Frag} {x dx C f : Addr} {mA : Str → Option Value} {name : Str} {v : Value}





end

/-! ### the attributes as a list of pairs -/

theorem RelO.some_of {v : V} {o : Option Value} (r : RelO (some v) o) : ∃ u, o = some u ∧ RelV v u := by
  cases o with
  | none => exact (show False from r).elim
  | some u => exact ⟨u, rfl, r⟩

section
variable {P : Program} {w : World} {H H' : Hp} {h h' : Heap} {a C dx : Addr} {fs fs' : List (Str × V)}
theorem ins_get (hok : HOk P w H h) (e : H a = some (.ins C dx fs)) : ∃ mA, ObjM h a dx C mA ∧ (∀ f, RelO (fs.lookup f) (mA f)) ∧ PySem.Within mA (fs.map (·.1)) ∧ fs.length ≤ 1000 ∧ H dx = some (.own a) := by
  obtain ⟨d, z, ne, ob, mA, n, r, q⟩ := (show ObjOk P w H h a (.ins C dx fs) from hok a _ e)
  exact ⟨mA, ⟨ob, n, ne⟩, r, q, z, d⟩
end

/-! ### what of the text a class must have -/
structure Cls (K : PySem.W.Frag) (C : Addr) : Prop where
  pg : PySem.W.plainGet K C Str.empty = true
  hd : PySem.W.hasDictIn K C = true
  po : PySem.W.plainOver K C = true
  sa : PySem.W.findIn K (.ref C) "__setattr__" = some (some (.builtin "object.__setattr__"))
theorem Cls.get {K : PySem.W.Frag} {C : Addr} (c : Cls K C) (f : Str) : PySem.W.plainGet K C f = true := c.pg
/-- a constant of the class -/
structure Con (K : PySem.W.Frag) (C : Addr) (f : Str) (v : V) (u : Value) : Prop where
  at_ : PySem.W.findIn K (.ref C) f = some (some u)
  rel : RelV v u
  get : PySem.W.specialIn K u "__get__" = some none
  cp : PySem.W.copiedNames.contains f = false
/-- a method: a plain def of the class or of one above it -/
structure Meth (K : PySem.W.Frag) (C : Addr) (m : Str) (f : Addr) : Prop where
  at_ : PySem.W.findIn K (.ref C) m = some (some (.ref f))
  fn : PySem.W.isFn K (.ref f) = true
  kp : PySem.W.keepIn K (.ref f) = true

section
variable {X : Cx} {pins : List (Addr × Obj)} {σ : St} {H : Hp} {s : Shared} {a C dx : Addr} {fs : List (Str × V)} {f : Str} {v : V} {A : Around} {E : Value → Shared → Prop}






end

/-! ### readings and rules -/

section
variable {X : Cx} {o e value : Expr} {f : Str} {pos pos' tpos : Pos} {ta tv : TE}

end

/-! ### isinstance -/
section
variable {X : Cx} {pins : List (Addr × Obj)} {σ : St} {H : Hp} {s : Shared} {A : Around} {E : Value → Shared → Prop} {Q : Value → Shared → Prop} {c : Value} {b : Bool}
/-- the type of a value, as the fragment's deciders take it; for an instance its class -/
inductive TyOf (K : PySem.W.Frag) (H : Hp) : V → Value → Prop where
  | non : TyOf K H .non (.type "NoneType")
  | bl (x : Bool) : TyOf K H (.bl x) (.type "bool")
  | int (i : Int) : TyOf K H (.int i) (.type "int")
  | str (x : Str) : TyOf K H (.str x) (.type "str")
  | flt (x : UInt64) : TyOf K H (.flt x) (.type "float")
  | lst {a : Addr} {xs : List V} (e : H a = some (.lst xs)) : TyOf K H (.ref a) (.type "list")
  | frz {a : Addr} {o : Obj} {xs : List V} (e : H a = some (.frz o (.lst xs))) : TyOf K H (.ref a) (.type "list")
  | tup {a : Addr} {xs : List V} (e : H a = some (.tup xs)) : TyOf K H (.ref a) (.type "tuple")
  | dK {a : Addr} {kvs : List (Key × V)} (e : H a = some (.dK kvs)) : TyOf K H (.ref a) (.type "dict")
  | dT {a : Addr} {kvs : List (List Key × V)} (e : H a = some (.dT kvs)) : TyOf K H (.ref a) (.type "dict")
  | ins {a C dx : Addr} {fs : List (Str × V)} (e : H a = some (.ins C dx fs)) (cl : Cls K C) (ha : PySem.W.findIn K (.ref C) "__class__" = some (some (.builtin "object.__class__")))
      (hn : PySem.W.specialIn K (.builtin "object.__class__") "__get__" = some (some (.builtin "getset_descriptor.__get__"))) (htk : PySem.W.takesIn K (.builtin "object.__class__") = some true)
      (hm : PySem.W.mroIn K C (.type "object") = some true) : TyOf K H (.ref a) (.ref C)
/-- isinstance(x, c) for one class c, a built-in or an own one: kitOne's answer -/
theorem isinst_ok {x : V} {u t : Value} (I : Inv X pins σ H s) (rx : RelV x u) (ty : TyOf X.K H x t) (e : PySem.W.kitOne X.K t c = some b) (h : ∀ tk, Q (.bool b) { s with toks := tk }) :
    wpAny (model X.prog X.w) A (call (.builtin "isinstance") [u, c]) Q E s := by
  cases ty with
  | non => cases (show u = Value.none from rx); exact PySem.W.kia_one PySem.W.kitx_none I.kIn True.intro e (fun z => nomatch z) h
  | bl y => cases (show u = Value.bool y from rx); exact PySem.W.kia_one PySem.W.kitx_bool I.kIn True.intro e (fun z => nomatch z) h
  | int i => obtain ⟨t, q⟩ := (show ∃ t, u = Value.int i t from rx); cases q; exact PySem.W.kia_one PySem.W.kitx_int I.kIn True.intro e (fun z => nomatch z) h
  | str y => obtain ⟨t, q⟩ := (show ∃ t, u = Value.str y t from rx); cases q; exact PySem.W.kia_one PySem.W.kitx_str I.kIn True.intro e (fun z => nomatch z) h
  | flt y => obtain ⟨t, q⟩ := (show ∃ t, u = Value.float y t from rx); cases q; exact PySem.W.kia_one PySem.W.kitx_float I.kIn True.intro e (fun z => nomatch z) h
  | @lst a xs ea =>
    cases (show u = Value.ref a from rx)
    obtain ⟨_, _, n, _, h1⟩ := (show ObjOk X.prog X.w H s.heap a (.lst xs) from I.hok a _ ea)
    exact PySem.W.kia_one PySem.W.kitx_list I.kIn ⟨_, h1, rfl⟩ e (fun z => nomatch z) h
  | @frz a ob xs ea =>
    cases (show u = Value.ref a from rx)
    obtain ⟨_, _, _, n, _, h1⟩ := (show ObjOk X.prog X.w H s.heap a (.frz ob (.lst xs)) from I.hok a _ ea)
    exact PySem.W.kia_one PySem.W.kitx_list I.kIn ⟨_, h1, rfl⟩ e (fun z => nomatch z) h
  | @tup a xs ea =>
    cases (show u = Value.ref a from rx)
    obtain ⟨_, _, _, p, _⟩ := (show ObjOk X.prog X.w H s.heap a (.tup xs) from I.hok a _ ea)
    obtain ⟨o, h1, h2, _⟩ := p
    exact PySem.W.kia_one PySem.W.kitx_tuple I.kIn ⟨o, h1, h2⟩ e (fun z => nomatch z) h
  | @dK a kvs ea =>
    cases (show u = Value.ref a from rx)
    obtain ⟨_, _, vs, _, p⟩ := (show ObjOk X.prog X.w H s.heap a (.dK kvs) from I.hok a _ ea)
    obtain ⟨o, es, ep, h1, h2, _⟩ := p
    exact PySem.W.kia_one PySem.W.kitx_dict I.kIn ⟨o, h1, h2.1⟩ e (fun z => nomatch z) h
  | @dT a kvs ea =>
    cases (show u = Value.ref a from rx)
    obtain ⟨_, _, xs, _, o, es, ep, h1, h2, _⟩ := (show ObjOk X.prog X.w H s.heap a (.dT kvs) from I.hok a _ ea)
    exact PySem.W.kia_one PySem.W.kitx_dict I.kIn ⟨o, h1, h2.1⟩ e (fun z => nomatch z) h
  | @ins a C dx fs ea cl ha hn htk hm =>
    cases (show u = Value.ref a from rx)
    obtain ⟨mA, O, _⟩ := ins_get I.hok ea
    obtain ⟨od, J, _⟩ := O.look
    exact PySem.W.kia_one (PySem.W.kitx_own (cl.get _) cl.hd ha hn htk hm) I.kIn J e (fun z => nomatch z) h
end
end L2

namespace L2
open PySem PySem.Spec PyProof.Rows

/-! ### room -/
structure Room (k : Nat) (A : Around) : Prop where
  hd : A.handled = none
  dp : A.depth + 3 * k + 5 < recursionLimit
  un : A.units + 16 * k + 200 < cLine
  gd : A.guards = some []
theorem Room.mono {j k : Nat} {A : Around} (r : Room k A) (h : j ≤ k) : Room j A := ⟨r.hd, by have := r.dp; omega, by have := r.un; omega, r.gd⟩
theorem Room.deeper {k : Nat} {A : Around} (r : Room (k + 1) A) (env : Env) : Room k (A.deeper env) :=
  ⟨r.hd, by have := r.dp; show A.depth + 1 + 3 * k + 5 < _; omega, by have := r.un; show A.units + 3 + 16 * k + 200 < _; omega, r.gd⟩
theorem Room.depth {k : Nat} {A : Around} (r : Room k A) : A.depth < recursionLimit := by have := r.dp; omega
theorem Room.units {k : Nat} {A : Around} (r : Room k A) : A.units + 64 < cLine := by have := r.un; omega

/-! ### argument lists and displays -/
def tNil : TA := fun _ H Q => Q [] H
def tCons (ta : TE) (tr : TA) : TA := fun σ H Q => ta σ H fun x H1 => tr σ H1 fun xs H2 => Q (x :: xs) H2
section
variable {X : Cx} {e : Expr} {es : List Expr} {te : TE} {t : TA} {pos : Pos}
theorem pa_nil : PA X [] tNil := fun _ _ _ _ H Q I h => Calls.spliced_nil ⟨[], H, I, .nil, h⟩
theorem pa_cons (ha : PE X e te) (hr : PA X es t) (hs : starEach (e :: es) X.env = (false, eval e X.env) :: starEach es X.env := by rfl) : PA X (e :: es) (tCons te t) := by
  intro pos pins s σ H Q I h
  rw [hs]
  show wpAny _ _ (spliced ((false, eval e X.env) :: backTo pos (starEach es X.env))) _ _ s
  refine Calls.spliced_cons (thn (ha pins s σ H _ I h) fun u s1 ⟨x, H1, I1, r1, q1⟩ => ?_)
  exact thn (hr pos pins s1 σ H1 _ I1 q1) fun us s2 ⟨xs, H2, I2, r2, q2⟩ => ⟨x :: xs, H2, I2, .cons r1 r2, q2⟩

/-- a tuple, a list of written items -/
def tTup (t : TA) : TE := fun σ H Q => t σ H fun xs H1 => xs.length ≤ sizeLine ∧ ∀ p, H1 p = none → Q (.ref p) (upd H1 p (.tup xs))
def tLst (t : TA) : TE := fun σ H Q => t σ H fun xs H1 => xs.length ≤ sizeLine ∧ ∀ p, H1 p = none → Q (.ref p) (upd H1 p (.lst xs))
theorem pe_tup {x1} (h : PA X es t) : PE X (.Tuple es x1 pos) (tTup t) := by
  intro pins s σ H Q I hq
  refine wpAny_Tuple_spliced (thn (h pos pins s σ H _ I hq) fun us s1 ⟨xs, H1, I1, r, z, q⟩ => ⟨by rw [← r.length]; exact z, ?_⟩)
  have hf : H1 s1.heap.objs.size = none := I1.hok.fresh (Nat.le_refl _)
  refine ⟨.ref s1.heap.objs.size, upd H1 s1.heap.objs.size (.tup xs), I1.laid (t' := s1.toks) (fun b u e => Heap.get?_push_of_some _ e) (Nat.le_refl _) ?_, rfl, q _ hf⟩
  exact ⟨z, us, r, ⟨_, Heap.get?_push_size _ rfl, rfl, _, rfl⟩, NoDict.new rfl (Heap.get?_push_size _ rfl)⟩
theorem pe_lst (h : PA X es t) : PE X (.List es pos) (tLst t) := by
  intro pins s σ H Q I hq
  refine wpAny_List_spliced (thn (h pos pins s σ H _ I hq) fun us s1 ⟨xs, H1, I1, r, z, q⟩ => ⟨by rw [← r.length]; exact z, ?_⟩)
  have hf : H1 s1.heap.objs.size = none := I1.hok.fresh (Nat.le_refl _)
  refine ⟨.ref s1.heap.objs.size, upd H1 s1.heap.objs.size (.lst xs), I1.laid (t' := s1.toks) (fun b u e => Heap.get?_push_of_some _ e) (Nat.le_refl _) ?_, rfl, q _ hf⟩
  exact ⟨z, us, 0, r, Heap.get?_push_size _ rfl⟩
end

/-! ### what a def promises -/
/-- a def's promise: the bound arguments in the parameters' order, the heap, the wanted end, the wanted exception -/
abbrev Sp := List V → Hp → VK → XK → Prop
/-- how an exception lies behind a call (file 08 gives it): the callers' frames, abstract heap and state ahead of the call, the wish, the exception, the state -/
abbrev CXT := List Env → Hp → Shared → XK → Value → Shared → Prop

/-- the state at a call -/
structure Env0 (P : Program) (w : World) (K : PySem.W.Frag) (mg : Str → Option Value) (base : Heap) (A : Around) (outer : List Env) (s : Shared) (H : Hp) : Prop where
  frames : A.frames = some outer
  mod : Mod K mg base
  bs : ∀ b o, base.get? b = some o → s.heap.get? b = some o ∧ H b = none
  bsz : base.objs.size ≤ s.heap.objs.size
  funs : s.heap.FunFrames base outer
  frf : ∀ b ∈ frs outer, H b = none
  hok : HOk P w H s.heap
  bare : AllBare s.gens
/-- a call's end -/
def CE (outer : List Env) (P : Program) (w : World) (H : Hp) (s : Shared) (Q : VK) (u : Value) (s' : Shared) : Prop :=
  ∃ v H', s'.os = s.os ∧ AllBare s'.gens ∧ Un (frs outer) [] H H' s.heap s'.heap ∧ HOk P w H' s'.heap ∧ RelV v u ∧ Q v H'
def CR (CX : CXT) (outer : List Env) (P : Program) (w : World) (H : Hp) (s : Shared) (Q : VK) (E : XK) (r : Result) (s' : Shared) : Prop :=
  match r with
  | .ok (.ret u) => CE outer P w H s Q u s'
  | .ok _ => False
  | .error e => CX outer H s E e s'
structure FnOk (P : Program) (w : World) (K : PySem.W.Frag) (mg : Str → Option Value) (base : Heap) (CX : CXT) (k : Nat) (f : Addr) (fd : FuncData) (ps : List Str) (sp : Sp) : Prop where
  len : ∀ vs H Q E, sp vs H Q E → vs.length = ps.length
  run : ∀ (A : Around) (outer : List Env) (s : Shared) (H : Hp) (args : Args) (us : List Value) (vs : List V) (Q : VK) (E : XK), Room k A → Env0 P w K mg base A outer s H → BindsTo s fd args (ps.zip us) → Vals vs us → sp vs H Q E →
    codeAny (model P w) A (.call (.ref f) args) (CR CX outer P w H s Q E) s


section
variable {X : Cx} {pins : List (Addr × Obj)} {σ : St} {H : Hp} {s s' : Shared}
/-- from a body: what a callee wants -/
theorem Inv.env0 (I : Inv X pins σ H s) : Env0 X.prog X.w X.K X.mg X.base X.A X.stack s H :=
  ⟨I.ok.frames, I.ok.mod, I.bs, Nat.le_trans I.ok.bsz I.sz, I.stack, I.stkFree, I.hok, I.bare⟩
/-- behind a call -/
theorem Inv.after {Q : VK} {u : Value} (I : Inv X pins σ H s) (h : CE X.stack X.prog X.w H s Q u s') : EP X pins σ Q u s' := by
  obtain ⟨v, H', os, bare, un, hok, r, q⟩ := h
  obtain ⟨hh, g, d, t, os'⟩ := s'
  obtain rfl : os' = s.os := os
  exact ⟨v, H', I.call (h' := hh) (g' := g) (d' := d) (t' := t) (ch := []) un hok bare (fun b z => absurd z (by simp)), r, q⟩
end

/-! ### calls -/
/-- f(..): the written arguments, then the defaults dvs; E: what is wanted of an exception -/
def tCall (sp : Sp) (dvs : List V) (E : XK) (t : TA) : TE := fun σ H Q => t σ H fun vs H1 => sp (vs ++ dvs) H1 Q E

/-- how the parameters are bound: us the positional arguments, kw the keywords' values by name, ds the defaults that fill up -/
def Binds (K : PySem.W.Frag) (fd : FuncData) (ps : List Str) (ds : List Value) : Prop :=
  ∀ (s : Shared) (us : List Value), K.In s.heap → (us ++ ds).length = ps.length → BindsTo s fd ⟨us, []⟩ (ps.zip (us ++ ds))
/-- every parameter is given -/
theorem Binds.all {K : PySem.W.Frag} {fd : FuncData} {ps : List Str} (h : ∀ us : List Value, us.length = ps.length → bindArgs fd ⟨us, []⟩ = pure (ps.zip us)) : Binds K fd ps [] := fun s us _ hl => by
  rw [List.append_nil] at hl ⊢
  exact .of_eq (h us hl)

/-- an exception of a callee reaches what this body wants of exceptions -/
def Passes (CX : CXT) (X : Cx) (E : XK) : Prop := ∀ (pins : List (Addr × Obj)) (σ : St) (H : Hp) (s : Shared) (e : Value) (s' : Shared), Inv X pins σ H s → CX X.stack H s E e s' → X.xe e s'

section
variable {X : Cx} {CX : CXT} {k : Nat} {f C : Addr} {fd : FuncData} {ps : List Str} {sp : Sp} {dvs : List V} {ds : List Value} {E : XK} {x m : Str} {p pos apos : Pos} {e o : Expr} {es : List Expr} {ta : TE} {t : TA}

/-- the callee runs -/
theorem run_fn {pins : List (Addr × Obj)} {σ : St} {H : Hp} {s : Shared} {Q : VK} {us : List Value} {vs : List V} (F : FnOk X.prog X.w X.K X.mg X.base CX k f fd ps sp) (hr : Room k X.A) (hb : Binds X.K fd ps ds) (hd : Vals dvs ds) (hx : Passes CX X E)
    (I : Inv X pins σ H s) (r : Vals vs us) (h : sp (vs ++ dvs) H Q E) : wpAny (model X.prog X.w) X.A (call (.ref f) us) (EP X pins σ Q) X.xe s := by
  have r2 : Vals (vs ++ dvs) (us ++ ds) := r.append hd
  have hl : (us ++ ds).length = ps.length := by rw [← r2.length]; exact F.len _ _ _ _ h
  refine wpAny_call (codeAny_mono (F.run X.A X.stack s H ⟨us, []⟩ (us ++ ds) (vs ++ dvs) Q E hr I.env0 (hb s us I.kIn hl) r2 h) fun r s' hq => ?_)
  cases r with
  | error e => exact hx pins σ H s e s' I hq
  | ok fl =>
    cases fl with
    | ret u => exact I.after hq
    | next => exact False.elim hq
    | brk => exact False.elim hq
    | cont => exact False.elim hq

theorem pe_call (F : FnOk X.prog X.w X.K X.mg X.base CX k f fd ps sp) (hr : Room k X.A) (hg : Gl X x) (hm : X.mg x = some (.ref f)) (hk : PySem.W.keepIn X.K (.ref f) = true) (hb : Binds X.K fd ps ds) (hd : Vals dvs ds) (hx : Passes CX X E)
    (ha : PA X (e :: es) t) (hdb : (x == ("__debug__" : Str)) = false := by decide) (he : starEach (e :: es) X.env = (false, eval e X.env) :: starEach es X.env := by rfl) (hpl : (backTo pos (starEach es X.env)).any (·.1) = false := by rfl) :
    PE X (.Call (.Name x p) (e :: es) [] pos) (tCall sp dvs E t) := by
  intro pins s σ H Q I h
  refine wpAny_Call_Name_kw (ld_glob I hg hm ?_ hdb)
  refine PySem.W.callWith_K (h₀ := X.base) I.ok.mod.kin hk (thn (ha pos pins s σ H _ I h) fun us s1 ⟨vs, H1, I1, r, q⟩ => ⟨I1.kIn, ?_⟩) he hpl
  exact run_fn F hr hb hd hx I1 r q


/-- what a class must have to be made -/
structure Mk (K : PySem.W.Frag) (C f : Addr) : Prop where
  makes : PySem.W.makesIn K C = true
  init : PySem.W.findIn K (.ref C) "__init__" = some (some (.ref f))
  fn : PySem.W.isFn K (.ref f) = true
  kp : PySem.W.keepIn K (.ref C) = true

end

/-! ### keywords -/
section
variable {X : Cx} {CX : CXT} {k : Nat} {f C : Addr} {fd : FuncData} {ps ks : List Str} {sp : Sp} {E : XK} {x m : Str} {p pos apos kpos : Pos} {e o : Expr} {es : List Expr} {kws : List Keyword} {te ta : TE} {t tk : TA} {nm : Option Str}

/-- how a call with keywords binds: g puts the positional values us and the keywords' values ws (names ks) in the parameters' order, defaults among them -/
structure KBinds (K : PySem.W.Frag) (fd : FuncData) (ps ks : List Str) (g : List Value → List Value → List Value) (gV : List V → List V → List V) : Prop where
  to : ∀ (s : Shared) (us ws : List Value), K.In s.heap → (g us ws).length = ps.length → BindsTo s fd ⟨us, ks.zip ws⟩ (ps.zip (g us ws))
  rel : ∀ {vs : List V} {us : List Value} {zs : List V} {ws : List Value}, Vals vs us → Vals zs ws → Vals (gV vs zs) (g us ws)
variable {g : List Value → List Value → List Value} {gV : List V → List V → List V}
end

/-! ### a def's body keeps its promise -/
/-- names: the parameters first -/
structure FnScope (N P : List Str) (sc : Scope) : Prop where
  kind : sc.kind = .function
  co : sc.isCoroutine = false
  gen : sc.isGenerator = false
  nd : N.Nodup
  pre : N.take P.length = P
  par : ∀ x ∈ P, sc.names.lookup x = some .local ∨ sc.names.lookup x = some .cell
  nofree : ∀ y ∈ sc.names, y.2 ≠ .free

theorem bindL_out {kindOf : Str → Option NameKind} {x : Str} : ∀ {binds : List (Str × Value)} {m : Str → Option Value}, (∀ v, (x, v) ∉ binds) → bindL kindOf binds m x = m x
  | [], _, _ => rfl
  | (n, v) :: r, m, h => by
    unfold bindL
    rw [bindL_out fun w hw => h w (List.mem_cons_of_mem _ hw)]
    split
    · have : x ≠ n := by rintro rfl; exact h v List.mem_cons_self
      simp [this]
    · rfl
theorem bindC_out {kindOf : Str → Option NameKind} {x : Str} : ∀ {binds : List (Str × Value)} {m : Str → Option Value}, (∀ v, (x, v) ∉ binds) → bindC kindOf binds m x = m x
  | [], _, _ => rfl
  | (n, v) :: r, m, h => by
    unfold bindC
    rw [bindC_out fun w hw => h w (List.mem_cons_of_mem _ hw)]
    split
    · rfl
    · have : x ≠ n := by rintro rfl; exact h v List.mem_cons_self
      simp [this]
theorem bindL_get {kindOf : Str → Option NameKind} {x : Str} {v : Value} : ∀ {P : List Str} {vs : List Value} {i : Nat} {m : Str → Option Value}, P.Nodup → P[i]? = some x → vs[i]? = some v → kindOf x = some .local →
    bindL kindOf (P.zip vs) m x = some v
  | [], _, _, _, _, h, _, _ => by simp at h
  | _ :: _, [], _, _, _, _, h, _ => by simp at h
  | p :: P, w :: vs, 0, m, nd, h1, h2, hk => by
    simp at h1 h2; subst h1; subst h2
    show bindL kindOf ((p, w) :: P.zip vs) m p = _
    unfold bindL
    rw [bindL_out fun v hv => (List.nodup_cons.mp nd).1 (List.of_mem_zip hv).1, if_pos hk]
    simp
  | p :: P, w :: vs, i + 1, m, nd, h1, h2, hk => by
    show bindL kindOf ((p, w) :: P.zip vs) m x = _
    unfold bindL
    exact bindL_get (i := i) (List.nodup_cons.mp nd).2 (by simpa using h1) (by simpa using h2) hk
theorem bindC_get {kindOf : Str → Option NameKind} {x : Str} {v : Value} : ∀ {P : List Str} {vs : List Value} {i : Nat} {m : Str → Option Value}, P.Nodup → P[i]? = some x → vs[i]? = some v → kindOf x ≠ some .local →
    bindC kindOf (P.zip vs) m x = some v
  | [], _, _, _, _, h, _, _ => by simp at h
  | _ :: _, [], _, _, _, _, h, _ => by simp at h
  | p :: P, w :: vs, 0, m, nd, h1, h2, hk => by
    simp at h1 h2; subst h1; subst h2
    show bindC kindOf ((p, w) :: P.zip vs) m p = _
    unfold bindC
    rw [bindC_out fun v hv => (List.nodup_cons.mp nd).1 (List.of_mem_zip hv).1, if_neg hk]
    simp
  | p :: P, w :: vs, i + 1, m, nd, h1, h2, hk => by
    show bindC kindOf ((p, w) :: P.zip vs) m x = _
    unfold bindC
    exact bindC_get (i := i) (List.nodup_cons.mp nd).2 (by simpa using h1) (by simpa using h2) hk

/-- the names' values at the entry -/
def start (N : List Str) (vs : List V) : St := vs.map some ++ List.replicate (N.length - vs.length) none

/-- the context of a def's body, at its entry; an exception leaves the frame, then lies as CX says -/
def cxOf (CX : CXT) (P : Program) (w : World) (K : PySem.W.Frag) (mg : Str → Option Value) (base : Heap) (N : List Str) (qual : Str) (scope : Scope) (f : Addr) (cd : Value) (A : Around) (outer : List Env) (s : Shared) (H : Hp) (E : XK) : Cx where
  prog := P
  w := w
  K := K
  mg := mg
  base := base
  A := A.deeper (envOfC qual scope s.heap.objs.size f cd)
  N := N
  s₀ := s
  H₀ := H
  env := envOfC qual scope s.heap.objs.size f cd
  outer := outer
  stack := envOfC qual scope s.heap.objs.size f cd :: outer
  ex := []
  calm := true
  fn := fun _ => true
  pn := []
  xe := fun e s' => wpAny (model P w) (A.deeper (envOfC qual scope s.heap.objs.size f cd)) (leaving (envOfC qual scope s.heap.objs.size f cd) e) (fun _ s'' => CX outer H s E e s'') (fun e' s'' => CX outer H s E e' s'') s'

theorem cell_has {sc : Scope} {n : Nat} {x : Str} (h : sc.names.lookup x = some .cell) : ∃ c, (cellsFrom n sc.names []).lookup x = some c := by
  have q := PySem.W.cellsFrom_some sc.names n [] (.inl h)
  exact Option.isSome_iff_exists.mp q

theorem inv_start {CX : CXT} {P : Program} {w : World} {K : PySem.W.Frag} {mg : Str → Option Value} {base : Heap} {N ps : List Str} {qual : Str} {scope : Scope} {f : Addr} {cd : Value} {A : Around} {outer : List Env} {s s1 : Shared} {H : Hp} {E : XK} {us : List Value} {vs : List V}
    (S : FnScope N ps scope) (hd : A.handled = none) (e0 : Env0 P w K mg base A outer s H) (hl : vs.length = ps.length) (r : Vals vs us)
    (x : InCallC s s.heap.objs.size (bindL (envOfC qual scope s.heap.objs.size f cd).kindOf (ps.zip us) fun _ => none) (cellsFrom (s.heap.objs.size + 1) scope.names []) (bindC (envOfC qual scope s.heap.objs.size f cd).kindOf (ps.zip us) fun _ => none) s1) :
    Inv (cxOf CX P w K mg base N qual scope f cd A outer s H E) [] (start N vs) H s1 := by
  have hpl : ps.length ≤ N.length := by have := congrArg List.length S.pre; rw [List.length_take] at this; omega
  obtain ⟨h1, tk, rfl, hk⟩ := x.done
  have noA : ∀ b : Addr, b ∉ (cxOf CX P w K mg base N qual scope f cd A outer s H E).ex := fun b z => absurd (show b ∈ ([] : List Addr) from z) (by simp)
  refine ⟨⟨e0.mod, S.kind, rfl, rfl, Nat.le_refl _, fun y z c h1 h2 => ?_, fun y hy => ?_, fun y c _ h => ?_, fun _ => hd, Around.frames_deeper e0.frames, .inr ⟨rfl, rfl⟩, fun b z => absurd z (noA b), e0.bs, e0.bsz, fun b _ _ => noA b, fun b z => absurd z (noA b), e0.funs, e0.frf⟩,
    rfl, e0.bare, Un.kept hk, ⟨_, x.toInCall.ns, fun i y v h1 h2 h3 => ?_⟩, fun y c h => ⟨_, x.cell y c h⟩, e0.hok.fresh (Nat.le_refl _), fun y c h => ?_, fun p hp => absurd (show p ∈ ([] : List (Addr × Obj)) from hp) (by simp), e0.hok.kept hk, ?_⟩
  · exact name_of_addr x.apart (PySem.mem_of_lookup h1) (PySem.mem_of_lookup h2)
  · have hy : scope.names.lookup y = some .cell ∨ scope.names.lookup y = some .free := hy
    rcases hy with hy | hy
    · exact cell_has hy
    · exact absurd rfl (S.nofree _ (PySem.mem_of_lookup hy))
  · exact Nat.le_of_lt (x.above y c (PySem.mem_of_lookup h))
  · have hi : i < vs.length := by
      unfold start at h2
      by_cases hi : i < vs.length
      · exact hi
      · rw [List.getElem?_append_right (by simpa using hi)] at h2
        rw [List.getElem?_replicate] at h2
        split at h2 <;> cases h2
    have ha : vs[i]? = some v := by
      unfold start at h2
      rw [List.getElem?_append_left (by simpa using hi), List.getElem?_map] at h2
      cases e : vs[i]? with
      | none => rw [e] at h2; cases h2
      | some a => rw [e] at h2; cases h2; rfl
    obtain ⟨u, hu, rv⟩ := r.get ha
    have hp : ps[i]? = some y := by
      rw [← S.pre, List.getElem?_take_of_lt (by omega)]; exact h1
    have ndP : ps.Nodup := by rw [← S.pre]; exact S.nd.sublist (List.take_sublist _ _)
    refine ⟨u, rv, ?_⟩
    rcases S.par y (List.mem_of_getElem? hp) with k | k
    · exact .inl ⟨k, bindL_get ndP hp hu k⟩
    · obtain ⟨c, e⟩ := cell_has (n := s.heap.objs.size + 1) k
      refine .inr ⟨.inl k, c, e, ?_⟩
      have q := x.cell y c e
      rw [bindC_get ndP hp hu (by show scope.names.lookup y ≠ _; rw [k]; decide)] at q
      exact q
  · exact e0.hok.fresh (Nat.le_of_lt (x.above y c (PySem.mem_of_lookup h)))
  · unfold start
    show _ = N.length
    rw [List.length_append, List.length_map, List.length_replicate]
    omega

/-- THE RULE: a def (or a method) of the text, by its body. The body's reading t is chosen for each entry; it is run at the parameters' values -/
theorem fn_of {CX : CXT} {P : Program} {w : World} {K : PySem.W.Frag} {mg : Str → Option Value} {base : Heap} {k : Nat} {f : Addr} {name qual : Str} {params : Arguments} {body : List Stmt} {scope : Scope} {dV kV doc pm cdv ct oc : Value} {an od : Option Addr}
    {osl : Array (Option Value)} {N ps : List Str} {sp : Sp} (lk : K.lookup f = some ⟨oc, od, .func (PySem.W.fnOf name qual params body scope dV kV doc pm an cdv ct), osl⟩) (hcd : PySem.W.codeIn K cdv qual = true) (S : FnScope N ps scope)
    (len : ∀ vs H Q E, sp vs H Q E → vs.length = ps.length)
    (hbody : ∀ (A : Around) (outer : List Env) (s : Shared) (H : Hp) (vs : List V) (Q : VK) (E : XK), Room k (A.deeper (envOfC qual scope s.heap.objs.size f cdv)) → sp vs H Q E →
      ∃ t, PSs (cxOf CX P w K mg base N qual scope f cdv A outer s H E) body t ∧ t { nx := fun _ H' => Q .non H', rt := Q } (start N vs) H) :
    FnOk P w K mg base CX (k + 1) f (PySem.W.fnOf name qual params body scope dV kV doc pm an cdv ct) ps sp := by
  refine ⟨len, fun A outer s H args us vs Q E hr e0 hb r hsp => ?_⟩
  have hl := len _ _ _ _ hsp
  have KX : K.In s.heap := e0.mod.kin.keeps fun b o e => (e0.bs b o e).1
  have lim : s.heap.NoLimit := e0.mod.nolimit.keeps fun b o e => (e0.bs b o e).1
  have hkind : ∀ y ∈ ps.zip us, scope.names.lookup y.1 = some .local ∨ (scope.names.lookup y.1 = some .cell ∧ ((cellsFrom (s.heap.objs.size + 1) scope.names []).lookup y.1).isSome = true) := fun ⟨n, v⟩ hy => by
    rcases S.par n (List.of_mem_zip hy).1 with q | q
    · exact .inl q
    · exact .inr ⟨q, PySem.W.cellsFrom_some _ _ _ (.inl q)⟩
  refine codeAny_call_function hr.depth (KX _ _ lk) rfl S.co S.gen rfl (PySem.W.codeRec_of KX hcd) (hb _ _ _ _ ?_)
  refine wpAny_newFunctionEnv_cells S.kind hkind fun env he s1 x => ?_
  subst he
  refine ⟨lim.keeps x.toInCall.keep, codeAny_func ?_⟩
  obtain ⟨t, ht, hq⟩ := hbody A outer s H vs Q E (hr.deeper _) hsp
  have I : Inv (cxOf CX P w K mg base N qual scope f cdv A outer s H E) [] (start N vs) H s1 := inv_start S hr.hd e0 hl r x
  refine wpAny_mono (ht [] s1 (start N vs) H _ I hq) (fun fl s' hs => ?_) fun e s' hs => hs
  have fin : ∀ {σ' : St} {H' : Hp} {v : V} {u : Value}, Inv (cxOf CX P w K mg base N qual scope f cdv A outer s H E) [] σ' H' s' → RelV v u → Q v H' → CE outer P w H s Q u s' :=
    fun {σ' H' v u} J rv q => ⟨v, H', J.os, J.bare, J.base, J.hok, rv, q⟩
  cases fl with
  | ret u =>
    obtain ⟨v, σ', H', J, rv, q⟩ := hs
    exact fin J rv q
  | next =>
    obtain ⟨σ', H', J, q⟩ := hs
    exact fin (v := V.non) (u := Value.none) J rfl q
  | brk =>
    obtain ⟨_, _, _, q⟩ := hs
    exact False.elim q
  | cont =>
    obtain ⟨_, _, _, q⟩ := hs
    exact False.elim q
end L2

namespace L2
open PySem PySem.Spec PyProof.Rows
section
variable {X : Cx} {x : Str} {p pos : Pos} {e : Expr} {es : List Expr} {t : TA} {id T : String} {r : List V → Hp → VK → Prop}

def tCB (r : List V → Hp → VK → Prop) (t : TA) : TE := fun σ H Q => t σ H fun vs H1 => r vs H1 Q
/-- f(e, ..), f a built-in function -/
theorem pe_callB (hc : CallR X (.builtin id) r) (hg : Gl X x) (hm : X.mg x = none) (hv : bootBuiltins x = some (.builtin id)) (ha : PA X (e :: es) t) (hn : x ≠ "__name__" := by decide) (hdb : (x == ("__debug__" : Str)) = false := by decide)
    (he : starEach (e :: es) X.env = (false, eval e X.env) :: starEach es X.env := by rfl) (hpl : (backTo pos (starEach es X.env)).any (·.1) = false := by rfl) : PE X (.Call (.Name x p) (e :: es) [] pos) (tCB r t) := by
  intro pins s σ H Q I h
  refine wpAny_Call_Name_kw (ld_blt I hg hm hv ?_ hn hdb)
  exact PyProof.Rows.callWith_builtin1 (thn (ha pos pins s σ H _ I h) fun us s1 ⟨vs, H1, I1, r1, q1⟩ => hc pins s1 σ H1 vs us Q I1 r1 q1) he hpl
/-- T(e, ..), T a built-in type -/
theorem pe_callTy (hc : CallR X (.type T) r) (hg : Gl X x) (hm : X.mg x = none) (hv : bootBuiltins x = some (.type T)) (ha : PA X (e :: es) t) (hn : x ≠ "__name__" := by decide) (hdb : (x == ("__debug__" : Str)) = false := by decide)
    (he : starEach (e :: es) X.env = (false, eval e X.env) :: starEach es X.env := by rfl) (hpl : (backTo pos (starEach es X.env)).any (·.1) = false := by rfl) : PE X (.Call (.Name x p) (e :: es) [] pos) (tCB r t) := by
  intro pins s σ H Q I h
  refine wpAny_Call_Name_kw (ld_blt I hg hm hv ?_ hn hdb)
  exact PyProof.Rows.callWith_type1 (thn (ha pos pins s σ H _ I h) fun us s1 ⟨vs, H1, I1, r1, q1⟩ => hc pins s1 σ H1 vs us Q I1 r1 q1) he hpl
end
end L2

namespace HT
open PySem PyProof.Rows



section
open PySem.SeqAt
open PySem.AutoSeq1 (wpAny_loadPart')
open PySem.MeetsSeq PySem.MeetsSeq2 PySem.MeetsSeq3

end

section
variable {prog : Program} {w : World} {A : Around} {E : Value → Shared → Prop} {s : Shared}



/-! ### t[a:b], not the whole -/
/-- a slice's bound as a place among n (d where it is left out) -/
def sIx (n d : Nat) : Option Int → Nat
  | none => d
  | some v => if v < 0 then (v + (n : Int)).toNat else min v.toNat n
theorem sIx_le (n d : Nat) (hd : d ≤ n) (o : Option Int) : sIx n d o ≤ n := by
  cases o with
  | none => exact hd
  | some v =>
    show (if v < 0 then (v + (n : Int)).toNat else min v.toNat n) ≤ n
    by_cases hv : v < 0
    · rw [if_pos hv]; omega
    · rw [if_neg hv]; exact Nat.min_le_right _ _
theorem clip_eq (v : Int) (n d : Nat) : (if v < 0 then max (v + (n : Int)) 0 else min v (n : Int)) = ((sIx n d (some v) : Nat) : Int) := by
  show (if v < 0 then max (v + (n : Int)) 0 else min v (n : Int)) = (((if v < 0 then (v + (n : Int)).toNat else min v.toNat n) : Nat) : Int)
  by_cases hv : v < 0
  · simp only [if_pos hv]; omega
  · simp only [if_neg hv]; omega
theorem adjust_gen (lo hi : Option Int) (n : Nat) : Builtin.Slice.sliceAdjust lo hi 1 (n : Int) = (((sIx n 0 lo : Nat) : Int), ((sIx n n hi : Nat) : Int)) := by
  have h1 : ¬ ((1 : Int) < 0) := by omega
  unfold Builtin.Slice.sliceAdjust
  simp only [h1, if_false]
  refine Prod.ext ?_ ?_
  · cases lo with
    | none => rfl
    | some v => exact clip_eq v n 0
  · cases hi with
    | none => rfl
    | some v => exact clip_eq v n n
theorem places_gen (i j : Nat) : Builtin.Slice.slicePlaces (i : Int) (j : Int) 1 = j - i := by
  unfold Builtin.Slice.slicePlaces
  have h1 : (1 : Int) > 0 := by omega
  simp only [h1, if_true, Int.ediv_one]
  split <;> omega
theorem slicePart_ {v : Value} {o : Option Int} {Q : Option Int → Shared → Prop} (p : IsPart v o) (h : Q o s) : wpAny (model prog w) A (Builtin.Slice.slicePartIndex v) Q E s := by
  cases p with
  | none => exact slicePart_none h
  | int i t => exact slicePart_int h
theorem sliceApplied_gen {sl : Addr} {vl vu : Value} {lo hi : Option Int} {n : Nat} {Q : Int × Int × Nat → Shared → Prop} (hs : s.heap.IsSliceOf sl vl vu .none) (pl : IsPart vl lo) (pu : IsPart vu hi)
    (h : Q (((sIx n 0 lo : Nat) : Int), 1, sIx n n hi - sIx n 0 lo) s) : wpAny (model prog w) A (Builtin.Slice.sliceApplied (.ref sl) (pure (n : Int))) Q E s := by
  obtain ⟨os, hos, hcs, hds⟩ := id hs
  unfold Builtin.Slice.sliceApplied Builtin.Slice.sliceFields
  refine wpAny_bind (wpAny_bind (wpAny_field hos hds (x := vl) rfl (wpAny_bind (wpAny_field hos hds (x := vu) rfl (wpAny_bind (wpAny_field hos hds (x := .none) rfl (wpAny_pure ?_)))))))
  refine wpAny_bind (slicePart_none ?_)
  show wpAny _ _ (if ((1 : Int) == 0) = true then _ else _) _ _ s
  rw [if_neg (by decide)]
  refine wpAny_bind (slicePart_ pl (wpAny_bind (slicePart_ pu (wpAny_bind (wpAny_pure ?_)))))
  show wpAny _ _ (match Builtin.Slice.sliceAdjust lo hi 1 (n : Int) with | (lo, hi) => pure (lo, (1 : Int), Builtin.Slice.slicePlaces lo hi 1)) _ _ s
  rw [adjust_gen lo hi n]
  show wpAny _ _ (pure (((sIx n 0 lo : Nat) : Int), (1 : Int), Builtin.Slice.slicePlaces ((sIx n 0 lo : Nat) : Int) ((sIx n n hi : Nat) : Int) 1)) _ _ s
  rw [places_gen]
  exact wpAny_pure h
theorem pick_gen (xs : Array Value) (i k : Nat) : ((List.range k).filterMap fun (m : Nat) => xs[((i : Int) + (m : Int) * 1).toNat]?).toArray = ((xs.toList.drop i).take k).toArray := by
  have e : (fun (m : Nat) => xs[((i : Int) + (m : Int) * 1).toNat]?) = fun m => xs[i + m]? := by
    funext m
    have : ((i : Int) + (m : Int) * 1).toNat = i + m := by omega
    rw [this]
  rw [e]
  have := pick_run xs i k
  rw [List.filterMap_map] at this
  have e2 : ((fun x => xs[x]?) ∘ fun x => i + x) = fun m => xs[i + m]? := rfl
  rw [e2] at this
  rw [this]

theorem getItem_tuple_cut {t sl : Addr} {items : Array Value} {vl vu : Value} {lo hi : Option Int} {Q : Value → Shared → Prop} (ht : IsTup s.heap t items) (hs : s.heap.IsSliceOf sl vl vu .none) (pl : IsPart vl lo) (pu : IsPart vu hi)
    (hw : ¬ (sIx items.size 0 lo = 0 ∧ sIx items.size items.size hi = items.size))
    (h : Q (.ref s.heap.objs.size) { s with heap := s.heap.push { cls := .type "tuple", data := .seq ((items.toList.drop (sIx items.size 0 lo)).take (sIx items.size items.size hi - sIx items.size 0 lo)).toArray } })
    (hsz : items.size ≤ sizeLine) : wpAny (model prog w) A (getItem (.ref t) (.ref sl)) Q E s := by
  have htake : sizeOk (.seq ((items.toList.drop (sIx items.size 0 lo)).take (sIx items.size items.size hi - sIx items.size 0 lo)).toArray) := by
    show ((items.toList.drop (sIx items.size 0 lo)).take (sIx items.size items.size hi - sIx items.size 0 lo)).toArray.size ≤ sizeLine
    rw [List.size_toArray, List.length_take, List.length_drop, Array.length_toList]
    omega
  have hj : sIx items.size items.size hi ≤ items.size := sIx_le _ _ (Nat.le_refl _) hi
  obtain ⟨os, hos, hcs, hds⟩ := id hs
  have hTs : s.TypeIs (.ref sl) "slice" := ⟨os, hos, hcs⟩
  unfold getItem
  try with_reducible refine wpAny_holding ?_
  first | refine wpAny_bind (wpAny_pure ?_) | skip
  refine wpAny_bind (wpAny_sequenceKey ht.typeIs (by decide) ?_)
  refine wpAny_bind (wpAny_callSpecial?_slot (name := Str.ofString "__getitem__") ht.typeIs PyProof.Rows.slot_tuple_getitem
    (wpAny_call_entry PyProof.Rows.slot_tuple_getitem ht.typeIs entry_tuple_getitem ?_ (args_tuple_getitem _ _)))
  show wpAny _ _ (Builtin.Tuple.tupleItemsOf (.ref t) >>= _) _ _ s
  refine wpAny_bind (tupleItemsOf_ ht ?_)
  refine wpAny_bind (wpAny_typeOf hTs ?_)
  rw [if_pos (by decide)]
  refine wpAny_bind (sliceApplied_gen hs pl pu ?_)
  have hno : ¬ ((((sIx items.size 0 lo : Nat) : Int) == 0 && (1 : Int) == 1 && (sIx items.size items.size hi - sIx items.size 0 lo) == items.size) = true) := by
    intro q
    rw [Bool.and_eq_true, Bool.and_eq_true] at q
    have q1 : ((sIx items.size 0 lo : Nat) : Int) = 0 := eq_of_beq q.1.1
    have q2 : sIx items.size items.size hi - sIx items.size 0 lo = items.size := eq_of_beq q.2
    exact hw ⟨by omega, by omega⟩
  show wpAny _ _ (if (((sIx items.size 0 lo : Nat) : Int) == 0 && (1 : Int) == 1 && (sIx items.size items.size hi - sIx items.size 0 lo) == items.size) = true then _ else _) _ _ s
  rw [if_neg hno, pick_gen]
  first
    | exact wpAny_bind (m := Builtin.Tuple.tupleExact _) (wpAny_newObj_type (wpAny_pure ⟨_, rfl, wpAny_pure h⟩) htake)
    | exact wpAny_bind (m := Builtin.Tuple.tupleExact _) (wpAny_newObj_type (wpAny_bind (wpAny_pure (wpAny_pure ⟨_, rfl, wpAny_pure h⟩))) htake)
    | exact wpAny_bind (wpAny_bind (m := Builtin.Tuple.tupleExact _) (wpAny_newObj_type (wpAny_pure (wpAny_pure ⟨_, rfl, wpAny_pure h⟩)) htake))
    | exact wpAny_bind (wpAny_bind (m := Builtin.Tuple.tupleExact _) (wpAny_newObj_type (wpAny_pure ⟨_, rfl, wpAny_pure h⟩) htake))
end
end HT

namespace L2
open PySem PySem.Spec PyProof.Rows

/-! ### the parts of a slice -/
abbrev TO := St → Hp → (Option Int → Hp → Prop) → Prop
/-- a slice's part (left out, or an int) -/
def PO (X : Cx) (e : Option Expr) (t : TO) : Prop :=
  ∀ (pins : List (Addr × Obj)) (s : Shared) (σ : St) (H : Hp) (Q : Option Int → Hp → Prop), Inv X pins σ H s → t σ H Q →
    wpAny (model X.prog X.w) X.A (evalPart e X.env) (fun u s' => ∃ o H', Inv X pins σ H' s' ∧ IsPart u o ∧ Q o H') X.xe s
def tNoPart : TO := fun _ H Q => Q none H
def tPart (t : TE) : TO := fun σ H Q => t σ H fun x H1 => ∃ i, x = .int i ∧ Q (some i) H1


section
variable {X : Cx} {e : Expr} {te : TE} {lo hi : Option Expr} {tl th : TO} {pos p2 : Pos}

theorem po_none : PO X none tNoPart := by
  intro pins s σ H Q I h
  rw [evalPart_none]
  exact wpAny_pure ⟨none, H, I, .none, h⟩
theorem po_some (h : PE X e te) : PO X (some e) (tPart te) := by
  intro pins s σ H Q I hw
  rw [evalPart_some]
  refine thn (h pins s σ H _ I hw) fun u s1 ⟨x, H1, I1, r1, q1⟩ => ?_
  obtain ⟨i, rfl, q⟩ := q1
  obtain ⟨t, rfl⟩ := r1
  exact ⟨some i, H1, I1, .int i t, q⟩

/-- what a slice of a value is, by values: the slice object stands at sl -/
def SlR (X : Cx) (r : V → Option Int → Option Int → Hp → VK → Prop) : Prop :=
  ∀ (pins : List (Addr × Obj)) (s : Shared) (σ : St) (H : Hp) (x : V) (v vl vu : Value) (lo hi : Option Int) (sl : Addr) (Q : VK), Inv X pins σ H s → RelV x v → s.heap.IsSliceOf sl vl vu .none → IsPart vl lo → IsPart vu hi → r x lo hi H Q →
    ∃ T id, typeLookup (.type T) "__getitem__" = pure (some (.builtin id)) ∧ s.TypeIs v T ∧ wpAny (model X.prog X.w) X.A (getItem v (.ref sl)) (EP X pins σ Q) X.xe s
def tSl (r : V → Option Int → Option Int → Hp → VK → Prop) (te : TE) (tl th : TO) : TE := fun σ H Q => te σ H fun x H1 => tl σ H1 fun l H2 => th σ H2 fun u H3 => r x l u H3 Q
/-- a[lo:hi], any a -/
theorem pe_slice {r : V → Option Int → Option Int → Hp → VK → Prop} (hr : SlR X r) (he : PE X e te) (hl : PO X lo tl) (hu : PO X hi th) : PE X (.Subscript e (.Slice lo hi none p2) pos) (tSl r te tl th) := by
  intro pins s σ H Q I h
  refine Subscript_ (thn (he pins s σ H _ I h) fun v s1 ⟨x, H1, I1, r1, q1⟩ => ?_)
  refine wpAny_Slice (thn (hl pins s1 σ H1 _ I1 q1) fun vl s2 ⟨l, H2, I2, pl, q2⟩ => thn (hu pins s2 σ H2 _ I2 q2) fun vu s3 ⟨u, H3, I3, pu, q3⟩ => ?_)
  rw [evalPart_none]
  refine wpAny_pure ?_
  have I4 : Inv X pins σ H3 { s3 with heap := s3.heap.push { cls := .type "slice", data := .fields #[vl, vu, .none] } } := I3.kept (t' := s3.toks) fun b ob q => Heap.get?_push_of_some _ q
  obtain ⟨T, id, hT, ht, hg⟩ := hr pins { s3 with heap := s3.heap.push { cls := .type "slice", data := .fields #[vl, vu, .none] } } σ H3 x v vl vu l u s3.heap.objs.size Q I4 r1 (Heap.IsSliceOf.new ..) pl pu q3
  show wpAny (model X.prog X.w) X.A (subscriptTail e (.Slice lo hi none p2) v (.ref s3.heap.objs.size)) (EP X pins σ Q) X.xe { s3 with heap := s3.heap.push { cls := .type "slice", data := .fields #[vl, vu, .none] } }
  exact tail_any (ops := [.ref s3.heap.objs.size, v]) ht hT hg (by with_unfolding_all rfl)

/-- the items of xs[lo:hi] -/
def cutV (xs : List V) (lo hi : Option Int) : List V := (xs.drop (HT.sIx xs.length 0 lo)).take (HT.sIx xs.length xs.length hi - HT.sIx xs.length 0 lo)
theorem cutV_length (xs : List V) (lo hi : Option Int) : (cutV xs lo hi).length ≤ xs.length := by
  unfold cutV
  rw [List.length_take, List.length_drop]
  omega
/-- t[lo:hi], not the whole of it (the whole would be t itself) -/
def rSlT (K : PySem.W.Frag) : V → Option Int → Option Int → Hp → VK → Prop := fun x lo hi H Q => ∃ a xs, x = .ref a ∧ SqT K H a xs ∧
  ¬ (HT.sIx xs.length 0 lo = 0 ∧ HT.sIx xs.length xs.length hi = xs.length) ∧ ∀ p, H p = none → Q (.ref p) (upd H p (.tup (cutV xs lo hi)))
theorem sl_tup : SlR X (rSlT X.K) := by
  intro pins s σ H x v vl vu lo hi sl Q I rx hs pl pu h
  obtain ⟨a, xs, rfl, hx, hw, q⟩ := h
  cases rx
  obtain ⟨its, r, ht, hz⟩ := I.tuple hx
  have hlen : its.toArray.size = xs.length := by rw [List.size_toArray]; exact r.length.symm
  refine ⟨"tuple", _, PyProof.Rows.slot_tuple_getitem.lookup, ht.typeIs, ?_⟩
  refine HT.getItem_tuple_cut ht hs pl pu (by rw [hlen]; exact hw) ?_ (by rw [hlen]; exact hz)
  rw [hlen]
  refine ⟨.ref s.heap.objs.size, _, I.laid (t' := s.toks) (o := .tup (cutV xs lo hi)) (fun b ob q => Heap.get?_push_of_some _ q) (Nat.le_refl _) ?_, rfl, q _ (I.hok.fresh (Nat.le_refl _))⟩
  exact ⟨Nat.le_trans (cutV_length xs lo hi) hz, _, (r.drop (HT.sIx xs.length 0 lo)).take (HT.sIx xs.length xs.length hi - HT.sIx xs.length 0 lo), IsTup.new _ _, NoDict.new rfl (Heap.get?_push_size _ rfl)⟩

/-! ### t < u, t + u -/
end
end L2

namespace L2
open PySem PySem.Spec PyProof.Rows

/-! ### places -/
/-- the place that an index of any sign means -/
def ixN (n : Nat) (i : Int) : Option Nat := if 0 ≤ i then (if i < n then some i.toNat else none) else if -(n : Int) ≤ i then some (i + n).toNat else none
def atI {α : Type} (xs : List α) (i : Int) : Option α := (ixN xs.length i).bind fun j => xs[j]?
theorem ixN_seq {n : Nat} {i : Int} {j : Nat} (h : ixN n i = some j) : seqIndex? i n = some j ∧ j < n ∧ -(n : Int) ≤ i ∧ i < n := by
  unfold ixN at h
  by_cases h0 : 0 ≤ i
  · rw [if_pos h0] at h
    by_cases h1 : i < n
    · rw [if_pos h1] at h
      have e : i.toNat = j := Option.some.inj h
      exact ⟨by rw [seqIndex_of h0 h1, e], by omega, by omega, h1⟩
    · rw [if_neg h1] at h; cases h
  · rw [if_neg h0] at h
    by_cases h1 : -(n : Int) ≤ i
    · rw [if_pos h1] at h
      have e : (i + n).toNat = j := Option.some.inj h
      exact ⟨by rw [seqIndex_neg (by omega) h1, e], by omega, h1, by omega⟩
    · rw [if_neg h1] at h; cases h
theorem atI_get {α : Type} {xs : List α} {i : Int} {v : α} (h : atI xs i = some v) : ∃ j, seqIndex? i xs.length = some j ∧ xs[j]? = some v ∧ j < xs.length ∧ -(xs.length : Int) ≤ i ∧ i < xs.length := by
  unfold atI at h
  cases e : ixN xs.length i with
  | none => rw [e] at h; cases h
  | some j =>
    rw [e] at h
    obtain ⟨h1, h2, h3, h4⟩ := ixN_seq e
    exact ⟨j, h1, h, h2, h3, h4⟩
theorem atI_nat {α : Type} {xs : List α} {j : Nat} {v : α} (h : xs[j]? = some v) : atI xs (j : Int) = some v := by
  have hj : j < xs.length := (List.getElem?_eq_some_iff.mp h).1
  have e : ixN xs.length (j : Int) = some j := by
    unfold ixN
    rw [if_pos (by omega), if_pos (by omega)]; simp
  unfold atI; rw [e]; exact h
theorem atI_last {α : Type} (xs : List α) (v : α) : atI (xs ++ [v]) (-1) = some v := by
  have hl : (xs ++ [v]).length = xs.length + 1 := by simp
  have e : ixN (xs ++ [v]).length (-1) = some xs.length := by
    unfold ixN
    rw [hl, if_neg (by decide), if_pos (by omega)]
    congr 1
    omega
  unfold atI
  rw [e]
  show (xs ++ [v])[xs.length]? = some v
  simp

/-! ### what may be subscripted -/
/-- what stands as an index of a plain subscript -/
def PlainIx (b : Expr) : Prop := ∀ o i, subscripted b false o i = operate [o, i] (getItem o i)
/-- a subscript by values -/
def IxR (X : Cx) (r : R2) : Prop :=
  ∀ (value slice : Expr) (pins : List (Addr × Obj)) (s : Shared) (σ : St) (H : Hp) (x y : V) (v u : Value) (Q : VK), Inv X pins σ H s → RelV x v → RelV y u → r x y H Q →
    subscripted slice false v u = operate [v, u] (getItem v u) → wpAny (model X.prog X.w) X.A (subscriptTail value slice v u) (EP X pins σ Q) X.xe s
/-- a call of a builtin's method by values: the receiver, the arguments -/
def MtR (X : Cx) (id : String) (r : V → List V → Hp → VK → Prop) : Prop :=
  ∀ (pins : List (Addr × Obj)) (s : Shared) (σ : St) (H : Hp) (x : V) (xs : List V) (v : Value) (us : List Value) (Q : VK), Inv X pins σ H s → RelV x v → Vals xs us → r x xs H Q →
    wpAny (model X.prog X.w) X.A (call (.builtin id) (v :: us)) (EP X pins σ Q) X.xe s
section
variable {X : Cx} {a b : Expr} {ta tb : TE} {pos : Pos}
theorem IxR.or {r r' : R2} (h : IxR X r) (h' : IxR X r') : IxR X (fun x y H Q => r x y H Q ∨ r' x y H Q) := by
  intro value slice pins s σ H x y v u Q I rx ry q hs
  rcases q with q | q
  · exact h value slice pins s σ H x y v u Q I rx ry q hs
  · exact h' value slice pins s σ H x y v u Q I rx ry q hs
/-- a[b] -/
theorem pe_ix {r : R2} (hr : IxR X r) (ha : PE X a ta) (hb : PE X b tb) (hs : PlainIx b) : PE X (.Subscript a b pos) (tOp r ta tb) := by
  intro pins s σ H Q I h
  exact Subscript_ (binT ha hb I h fun v u s2 x y H2 I2 rx ry q => hr a b pins s2 σ H2 x y v u Q I2 rx ry q (hs _ _))

def rIxL (K : PySem.W.Frag) : R2 := fun x y H Q => ∃ p xs i v, x = .ref p ∧ y = .int i ∧ SqL K H p xs ∧ atI xs i = some v ∧ Q v H
def rIxT (K : PySem.W.Frag) : R2 := fun x y H Q => ∃ p xs i v, x = .ref p ∧ y = .int i ∧ SqT K H p xs ∧ atI xs i = some v ∧ Q v H
def rIxS : R2 := fun x y H Q => ∃ z i c, x = .str z ∧ y = .int i ∧ z.length ≤ sizeLine ∧ atI z.cps.toList i = some c ∧ Q (.str ⟨#[c]⟩) H
theorem ix_list : IxR X (rIxL X.K) := by
  intro value slice pins s σ H x y v u Q I rx ry h hs
  obtain ⟨p, xs, i, z, rfl, rfl, hq, he, q⟩ := h
  cases rx
  obtain ⟨t, rfl⟩ := ry
  obtain ⟨its, r, pl, hz⟩ := I.list hq
  obtain ⟨j, h1, h2, h3, h4, h5⟩ := atI_get he
  obtain ⟨w, ew, rw'⟩ := r.get h2
  have hl := r.length
  have hn := line63
  have fin : EP X pins σ Q w s := ⟨z, H, I, rw', q⟩
  by_cases h0 : 0 ≤ i
  · have hj : i.toNat = j := by
      rw [seqIndex_of h0 h5] at h1
      exact Option.some.inj h1
    exact item_listR pl.isList h0 (by omega) (by rw [hj]; simpa using ew) fin hs
  · have hj : (i + (its.toArray.size : Int)).toNat = j := by
      rw [seqIndex_neg (by omega) h4] at h1
      rw [List.size_toArray, ← hl]
      exact Option.some.inj h1
    exact subscriptTail_builtinR (x := w) pl.isList.typeIs slot_list_getitem.lookup
      (wpAny_getItem_list_neg (Q := fun r s' => r = w ∧ EP X pins σ Q r s') pl.isList (by omega) (by rw [List.size_toArray] <;> omega) (by omega) (by rw [hj]; simpa using ew) ⟨rfl, fin⟩) hs
theorem ix_tup : IxR X (rIxT X.K) := by
  intro value slice pins s σ H x y v u Q I rx ry h hs
  obtain ⟨p, xs, i, z, rfl, rfl, hq, he, q⟩ := h
  cases rx
  obtain ⟨t, rfl⟩ := ry
  obtain ⟨its, r, pl, hz⟩ := I.tuple hq
  obtain ⟨j, h1, h2, h3, h4, h5⟩ := atI_get he
  obtain ⟨w, ew, rw'⟩ := r.get h2
  have hl := r.length
  have hn := line63
  have fin : EP X pins σ Q w s := ⟨z, H, I, rw', q⟩
  exact subscriptTail_builtinR (x := w) pl.typeIs slot_tuple_getitem.lookup
    (getItem_tuple (j := j) (Q := fun r s' => r = w ∧ EP X pins σ Q r s') pl (by omega) (by omega) (by rw [List.size_toArray, ← hl]; exact h1) (by simpa using ew) ⟨rfl, fin⟩) hs
theorem ix_str : IxR X rIxS := by
  intro value slice pins s σ H x y v u Q I rx ry h hs
  obtain ⟨z, i, c, rfl, rfl, hz, he, q⟩ := h
  obtain ⟨t, rfl⟩ := rx
  obtain ⟨t', rfl⟩ := ry
  obtain ⟨j, h1, h2, h3, h4, h5⟩ := atI_get he
  have hl : z.cps.toList.length = z.length := by simp [Str.length]
  rw [hl] at h1 h4 h5
  have hn := line63
  exact tail_any (typeIs_str s z t) slot_str_getitem.lookup (getItem_str (c := c) (by
    have e1 : decide (i < -(2 ^ 63 : Int)) = false := decide_eq_false (by omega)
    have e2 : decide (i ≥ 2 ^ 63) = false := decide_eq_false (by omega)
    rw [e1, e2, Bool.or_false]) (by rw [h1]; simpa using h2) ⟨.str ⟨#[c]⟩, H, I.tok _, ⟨_, rfl⟩, q⟩) hs
/-- list, tuple or str -/
def rIx (K : PySem.W.Frag) : R2 := fun x y H Q => rIxL K x y H Q ∨ rIxT K x y H Q ∨ rIxS x y H Q
theorem ix_seq : IxR X (rIx X.K) := ix_list.or (ix_tup.or ix_str)

/-! ### xs[i] = v, any sign -/
/-- the list's object behind a store -/
theorem mapSeq_set (its : List Value) (n j : Nat) (u : Value) : Obj.mapSeq (·.setIfInBounds j u) { cls := .type "list", data := .seq its.toArray n } = { cls := .type "list", data := .seq (its.set j u).toArray n } := by
  simp [Obj.mapSeq]
theorem Inv.lst {pins : List (Addr × Obj)} {σ : St} {H : Hp} {s : Shared} {p : Addr} {xs : List V} (I : Inv X pins σ H s) (h : H p = some (.lst xs)) :
    ∃ (its : List Value) (n : Nat), Vals xs its ∧ s.heap.get? p = some { cls := .type "list", data := .seq its.toArray n } ∧ xs.length ≤ sizeLine := by
  obtain ⟨z, its, n, r, e⟩ := I.hok p _ h
  exact ⟨its, n, r, e, z⟩
/-- the list at p is written by an update of its object -/
theorem Inv.lstUpd {pins : List (Addr × Obj)} {σ : St} {H : Hp} {s : Shared} {p : Addr} {xs ys : List V} {its its' : List Value} {n n' : Nat} {f : Obj → Obj} (I : Inv X pins σ H s) (h : H p = some (.lst xs))
    (ho : s.heap.get? p = some { cls := .type "list", data := .seq its.toArray n }) (hf : f { cls := .type "list", data := .seq its.toArray n } = { cls := .type "list", data := .seq its'.toArray n' }) (r : Vals ys its') (hz : ys.length ≤ sizeLine) (t : Nat) :
    Inv X pins σ (upd H p (.lst ys)) { s with heap := s.heap.update p f, toks := t } := by
  have e : (s.heap.update p f).get? p = some { cls := .type "list", data := .seq its'.toArray n' } := by
    rw [Heap.get?_update_self f ho (by rw [hf] <;> rfl), hf]
  refine I.write (x := p) (e := p) (by rw [h]; trivial) (.inl rfl) (fun b u hb q => (Heap.get?_update_other _ _ (Ne.symm hb)).trans q) ⟨_, e⟩ ?_
  exact ⟨hz, its', n', r, e⟩
def rSetL : V → V → V → Hp → (Hp → Prop) → Prop := fun o i v H Q => ∃ p xs k j, o = .ref p ∧ i = .int k ∧ H p = some (.lst xs) ∧ ixN xs.length k = some j ∧ Q (upd H p (.lst (xs.set j v)))
theorem set_list : PSet X rSetL := by
  intro pins s σ H o i v ov iv u Q I ro ri rv h
  obtain ⟨p, xs, k, j, rfl, rfl, hp, hj, q⟩ := h
  cases ro
  obtain ⟨t, rfl⟩ := ri
  obtain ⟨its, n, r, ho, hz⟩ := I.lst hp
  obtain ⟨h1, h2, h3, h4⟩ := ixN_seq hj
  have hl := r.length
  have hn := line63
  have I' : Inv X pins σ (upd H p (.lst (xs.set j v))) { s with heap := s.heap.update p (Obj.mapSeq (·.setIfInBounds j u)) } :=
    I.lstUpd hp ho (mapSeq_set its n j u) (r.set rv j) (by rw [List.length_set]; exact hz) s.toks
  by_cases h0 : 0 ≤ k
  · have hk : k.toNat = j := by
      rw [seqIndex_of h0 h4] at h1
      exact Option.some.inj h1
    exact PySem.W.ki_setAt ho h0 (by omega) (by rw [List.size_toArray, ← hl]; exact h4) (by rw [hk]; exact ⟨_, I', q⟩)
  · have hk : (k + (its.toArray.size : Int)).toNat = j := by
      rw [seqIndex_neg (by omega) h3] at h1
      rw [List.size_toArray, ← hl]
      exact Option.some.inj h1
    exact PySem.W.ki_setBack ho (by omega) (by rw [List.size_toArray, ← hl]; exact h3) (by omega) (by rw [hk]; exact ⟨_, I', q⟩)

/-! ### slices -/
theorem slice_bounds (lo hi : Option Int) (n : Nat) : (sliceBounds lo hi none n).1 = ((HT.sIx n 0 lo : Nat) : Int) ∧ (sliceBounds lo hi none n).2.1 = ((HT.sIx n n hi : Nat) : Int) ∧ (sliceBounds lo hi none n).2.2 = 1 := by
  refine ⟨?_, ?_, rfl⟩
  · cases lo with
    | none => simp [sliceBounds, HT.sIx]
    | some i =>
      simp only [sliceBounds, HT.sIx, Option.getD_none, show (1 : Int) > 0 by decide, if_true]
      by_cases h : i < 0
      · simp only [h, if_true] <;> omega
      · simp only [h, if_false] <;> omega
  · cases hi with
    | none => simp [sliceBounds, HT.sIx]
    | some i =>
      simp only [sliceBounds, HT.sIx, Option.getD_none, show (1 : Int) > 0 by decide, if_true]
      by_cases h : i < 0
      · simp only [h, if_true] <;> omega
      · simp only [h, if_false] <;> omega
theorem slicePick_cut (its : List Value) (lo hi : Option Int) : slicePick its.toArray lo hi none = ((its.drop (HT.sIx its.length 0 lo)).take (HT.sIx its.length its.length hi - HT.sIx its.length 0 lo)).toArray := by
  obtain ⟨h1, h2, h3⟩ := slice_bounds lo hi its.toArray.size
  unfold slicePick
  rw [h1, h2, h3]
  simp only [sliceRange_one, pick_run, List.size_toArray] <;> rfl
/-- xs[lo:hi] of a list: a new list -/
def rSlL (K : PySem.W.Frag) : V → Option Int → Option Int → Hp → VK → Prop := fun x lo hi H Q => ∃ a xs, x = .ref a ∧ SqL K H a xs ∧ ∀ p, H p = none → Q (.ref p) (upd H p (.lst (cutV xs lo hi)))
theorem sl_list : SlR X (rSlL X.K) := by
  intro pins s σ H x v vl vu lo hi sl Q I rx hs pl pu h
  obtain ⟨a, xs, rfl, hx, q⟩ := h
  cases rx
  obtain ⟨its, r, ht, hz⟩ := I.list hx
  have hlen := r.length
  refine ⟨"list", _, slot_list_getitem.lookup, ht.isList.typeIs, ?_⟩
  refine wpAny_getItem_list_slice ht.isList hs pl pu .none (by simp) ?_ (by rw [List.size_toArray] <;> omega)
  rw [slicePick_cut, ← hlen]
  refine ⟨.ref s.heap.objs.size, _, I.laid (t' := s.toks) (o := .lst (cutV xs lo hi)) (fun b ob q => Heap.get?_push_of_some _ q) (Nat.le_refl _) ?_, rfl, q _ (I.hok.fresh (Nat.le_refl _))⟩
  exact ⟨Nat.le_trans (cutV_length xs lo hi) hz, _, 0, (r.drop (HT.sIx xs.length 0 lo)).take (HT.sIx xs.length xs.length hi - HT.sIx xs.length 0 lo), Heap.get?_push_size _ rfl⟩

/-! ### in, not in: flat items -/
def flatV : V → Bool
  | .non => true
  | .bl _ => true
  | .int _ => true
  | .str _ => true
  | _ => false
/-- == of flat values -/
def eqV : V → V → Bool
  | .non, .non => true
  | .bl a, .bl b => a == b
  | .bl a, .int b => (if a then 1 else 0) == b
  | .int a, .bl b => a == (if b then 1 else 0)
  | .int a, .int b => a == b
  | .str a, .str b => a == b
  | _, _ => false
theorem eqAt_V {A : Around} {s : Shared} {y x : V} {u v : Value} (ry : RelV y u) (rx : RelV x v) (fy : flatV y = true) (fx : flatV x = true) : SeqAt.EqAt A s u v (eqV y x) := by
  cases y with
  | non =>
    cases ry
    cases x with
    | non => cases rx; exact SeqAt.EqAt.same _
    | bl b => cases rx; exact SeqAt.EqAt.none_bool b
    | int b => obtain ⟨t, rfl⟩ := rx; exact SeqAt.EqAt.none_int b t
    | str b => obtain ⟨t, rfl⟩ := rx; exact SeqAt.EqAt.none_str b t
    | _ => exact absurd (show false = true from fx) Bool.false_ne_true
  | bl a =>
    cases ry
    cases x with
    | non => cases rx; exact SeqAt.EqAt.bool_none a
    | bl b => cases rx; exact SeqAt.EqAt.bool_bool a b
    | int b => obtain ⟨t, rfl⟩ := rx; exact SeqAt.EqAt.bool_int a b t
    | str b => obtain ⟨t, rfl⟩ := rx; exact SeqAt.EqAt.bool_str a b t
    | _ => exact absurd (show false = true from fx) Bool.false_ne_true
  | int a =>
    obtain ⟨t', rfl⟩ := ry
    cases x with
    | non => cases rx; exact SeqAt.EqAt.int_none a t'
    | bl b => cases rx; exact SeqAt.EqAt.int_bool a t' b
    | int b => obtain ⟨t, rfl⟩ := rx; exact SeqAt.EqAt.int_int a t' b t
    | str b => obtain ⟨t, rfl⟩ := rx; exact SeqAt.EqAt.int_str a t' b t
    | _ => exact absurd (show false = true from fx) Bool.false_ne_true
  | str a =>
    obtain ⟨t', rfl⟩ := ry
    cases x with
    | non => cases rx; exact SeqAt.EqAt.str_none a t'
    | bl b => cases rx; exact SeqAt.EqAt.str_bool a t' b
    | int b => obtain ⟨t, rfl⟩ := rx; exact SeqAt.EqAt.str_int a t' b t
    | str b => obtain ⟨t, rfl⟩ := rx; exact SeqAt.EqAt.str_str a t' b t
    | _ => exact absurd (show false = true from fx) Bool.false_ne_true
  | _ => exact absurd (show false = true from fy) Bool.false_ne_true
/-- the items' answers, read off the values (a value's own answer does not lean on its token) -/
def eqU (x : V) (u : Value) : Bool := match u with
  | .none => eqV .non x
  | .bool b => eqV (.bl b) x
  | .int i _ => eqV (.int i) x
  | .str z _ => eqV (.str z) x
  | _ => false
theorem eqU_of {x y : V} {u : Value} (r : RelV y u) (f : flatV y = true) : eqU x u = eqV y x := by
  cases y with
  | non => cases r; rfl
  | bl b => cases r; rfl
  | int i => obtain ⟨t, rfl⟩ := r; rfl
  | str z => obtain ⟨t, rfl⟩ := r; rfl
  | _ => exact absurd (show false = true from f) Bool.false_ne_true
theorem any_eqU {x : V} : ∀ {xs : List V} {us : List Value}, Vals xs us → xs.all flatV = true → us.any (eqU x) = xs.any fun y => eqV y x
  | _, _, .nil, _ => rfl
  | y :: xs, u :: us, .cons r t, f => by
    rw [List.all_cons, Bool.and_eq_true] at f
    rw [List.any_cons, List.any_cons, eqU_of r f.1, any_eqU t f.2]
theorem mem_eqAt {A : Around} {s : Shared} {x : V} {v : Value} (rx : RelV x v) (fx : flatV x = true) : ∀ {xs : List V} {us : List Value}, Vals xs us → xs.all flatV = true → ∀ u ∈ us, SeqAt.EqAt A s u v (eqU x u)
  | _, _, .nil, _ => fun u hu => by cases hu
  | y :: xs, u :: us, .cons r t, f => fun u' hu => by
    rw [List.all_cons, Bool.and_eq_true] at f
    rcases List.mem_cons.mp hu with rfl | hu
    · rw [eqU_of r f.1]; exact eqAt_V r rx f.1 fx
    · exact mem_eqAt rx fx t f.2 u' hu
def inV (x : V) (xs : List V) : Bool := xs.any fun y => eqV y x
/-- x in a list or tuple of flat items -/
def rIn (K : PySem.W.Frag) (neg : Bool) : R2 := fun x y H Q => ∃ p xs, y = .ref p ∧ (SqL K H p xs ∨ SqT K H p xs) ∧ flatV x = true ∧ xs.all flatV = true ∧ Q (.bl (if neg then !inV x xs else inV x xs)) H
theorem op_in_seq : OpR X (compareOp .In) (rIn X.K false) := by
  intro pins s σ H x y v u Q I rx ry h
  obtain ⟨p, xs, rfl, hq, fx, fs, q⟩ := h
  cases ry
  rcases hq with hq | hq
  · obtain ⟨its, r, pl, hz⟩ := I.list hq
    refine SeqAt.in_listAt (eqU x) pl.isList (fun w hw => mem_eqAt rx fx r fs w (by simpa using hw)) ⟨.bl _, H, I, rfl, ?_⟩
    rw [show its.toArray.any (eqU x) = its.any (eqU x) by simp, any_eqU r fs]
    exact q
  · obtain ⟨its, r, pl, hz⟩ := I.tuple hq
    refine SeqAt.in_tupleAt (eqU x) pl (fun w hw => mem_eqAt rx fx r fs w (by simpa using hw)) ⟨.bl _, H, I, rfl, ?_⟩
    rw [show its.toArray.any (eqU x) = its.any (eqU x) by simp, any_eqU r fs]
    exact q
theorem op_notIn_seq : OpR X (compareOp .NotIn) (rIn X.K true) := by
  intro pins s σ H x y v u Q I rx ry h
  obtain ⟨p, xs, rfl, hq, fx, fs, q⟩ := h
  cases ry
  rcases hq with hq | hq
  · obtain ⟨its, r, pl, hz⟩ := I.list hq
    refine SeqAt.notIn_listAt (eqU x) pl.isList (fun w hw => mem_eqAt rx fx r fs w (by simpa using hw)) ⟨.bl _, H, I, rfl, ?_⟩
    rw [show its.toArray.any (eqU x) = its.any (eqU x) by simp, any_eqU r fs]
    exact q
  · obtain ⟨its, r, pl, hz⟩ := I.tuple hq
    refine SeqAt.notIn_tupleAt (eqU x) pl (fun w hw => mem_eqAt rx fx r fs w (by simpa using hw)) ⟨.bl _, H, I, rfl, ?_⟩
    rw [show its.toArray.any (eqU x) = its.any (eqU x) by simp, any_eqU r fs]
    exact q

/-! ### len, list(x), tuple(x) of any list or tuple that is read -/
theorem call_len_seq : CallR X (.builtin "len") (fun xs H Q => ∃ p ys, xs = [.ref p] ∧ (SqL X.K H p ys ∨ SqT X.K H p ys) ∧ Q (.int ys.length) H) := by
  intro pins s σ H xs us Q I r h
  obtain ⟨p, ys, rfl, hq, q⟩ := h
  obtain ⟨u, rfl, rx⟩ := vals1 r
  cases rx
  have hn := line63
  rcases hq with hq | hq
  · obtain ⟨its, r', pl, hz⟩ := I.list hq
    have hlen := r'.length
    exact Calls.call_len_list pl.isList (by simp only [List.size_toArray] <;> omega) ⟨.int ys.length, H, I.tok _, ⟨s.toks + 1, by rw [List.size_toArray, hlen]⟩, q⟩
  · obtain ⟨its, r', pl, hz⟩ := I.tuple hq
    have hlen := r'.length
    exact len_tuple pl (by simp only [List.size_toArray] <;> omega) ⟨.int ys.length, H, I.tok _, ⟨s.toks + 1, by rw [List.size_toArray, hlen]⟩, q⟩
theorem call_len_str : CallR X (.builtin "len") (fun xs H Q => ∃ z, xs = [.str z] ∧ z.length ≤ sizeLine ∧ Q (.int z.length) H) := by
  intro pins s σ H xs us Q I r h
  obtain ⟨z, rfl, hz, q⟩ := h
  obtain ⟨u, rfl, t, rfl⟩ := vals1 r
  have hn := line63
  exact len_str (by omega) ⟨.int z.length, H, I.tok _, ⟨_, rfl⟩, q⟩
theorem CallR.or {f : Value} {r r' : List V → Hp → VK → Prop} (h : CallR X f r) (h' : CallR X f r') : CallR X f (fun xs H Q => r xs H Q ∨ r' xs H Q) := by
  intro pins s σ H xs us Q I rs q
  rcases q with q | q
  · exact h pins s σ H xs us Q I rs q
  · exact h' pins s σ H xs us Q I rs q
theorem call_tuple_of : CallR X (.type "tuple") (fun xs H Q => ∃ p ys, xs = [.ref p] ∧ ((SqL X.K H p ys ∧ ∀ l, H l = none → Q (.ref l) (upd H l (.tup ys))) ∨ (SqT X.K H p ys ∧ Q (.ref p) H))) := by
  intro pins s σ H xs us Q I r h
  obtain ⟨p, ys, rfl, h⟩ := h
  obtain ⟨u, rfl, rx⟩ := vals1 r
  cases rx
  rcases h with ⟨hq, q⟩ | ⟨hq, q⟩
  · obtain ⟨its, r', pl, hz⟩ := I.list hq
    have hlen := r'.length
    refine call_tuple_list pl.isList (fun h' kp => ?_) (by simp only [List.size_toArray] <;> omega)
    have I1 : Inv X pins σ H { s with heap := h' } := I.kept (t' := s.toks) kp
    have I2 : Inv X pins σ (upd H h'.objs.size (.tup ys)) { s with heap := h'.push { cls := .type "tuple", data := .seq its.toArray } } :=
      I1.laid (t' := s.toks) (fun b o e => Heap.get?_push_of_some _ e) (Nat.le_refl _) (show ObjOk X.prog X.w _ _ _ (.tup ys) from ⟨hz, its, r', IsTup.new _ _, NoDict.new rfl (Heap.get?_push_size _ rfl)⟩)
    exact ⟨.ref h'.objs.size, _, I2, rfl, q _ (I1.hok.fresh (Nat.le_refl _))⟩
  · obtain ⟨its, r', pl, hz⟩ := I.tuple hq
    exact call_tuple_same pl ⟨.ref p, H, I, rfl, q⟩

/-! ### the call of a builtin's method: o.m(..) -/
/-- the value is of that builtin type -/
def tyV (K : PySem.W.Frag) (T : String) (x : V) (H : Hp) : Prop := match x with
  | .str _ => T = "str"
  | .int _ => T = "int"
  | .ref p => (T = "list" ∧ ∃ xs, SqL K H p xs) ∨ (T = "tuple" ∧ ∃ o, K.lookup p = some o ∧ o.cls = .type "tuple" ∧ o.dict = none) ∨
      (T = "dict" ∧ ((∃ kvs, H p = some (.dK kvs)) ∨ ∃ kvs, H p = some (.dT kvs))) ∨ (T = "set" ∧ ∃ S n, H p = some (.set S n)) ∨ (T = "tuple" ∧ ∃ xs, H p = some (.tup xs))
  | _ => False
theorem tyV_is {pins : List (Addr × Obj)} {σ : St} {H : Hp} {s : Shared} {T : String} {x : V} {v : Value} (I : Inv X pins σ H s) (r : RelV x v) (ty : tyV X.K T x H) :
    s.TypeIs v T ∧ ∀ a, v = .ref a → ∃ ob, s.heap.get? a = some ob ∧ ob.dict = none := by
  cases x with
  | str z =>
    obtain ⟨t, rfl⟩ := r
    cases (show T = "str" from ty)
    exact ⟨typeIs_str s z t, fun _ e => nomatch e⟩
  | int i =>
    obtain ⟨t, rfl⟩ := r
    cases (show T = "int" from ty)
    exact ⟨typeIs_int s i t, fun _ e => nomatch e⟩
  | ref p =>
    cases r
    rcases ty with ⟨rfl, xs, hq⟩ | ⟨rfl, o, hk, hc, hd⟩ | ⟨rfl, hk⟩ | ⟨rfl, S, n, hk⟩ | ⟨rfl, xs, hk⟩
    · obtain ⟨its, _, pl, _⟩ := I.list hq
      refine ⟨pl.isList.typeIs, fun a e => ?_⟩
      cases e
      obtain ⟨o, n, e, c, hd, _⟩ := pl
      exact ⟨o, e, hd⟩
    · refine ⟨⟨o, I.kIn p o hk, hc⟩, fun a e => ?_⟩
      cases e
      exact ⟨o, I.kIn _ o hk, hd⟩
    · have z : ∃ o, s.heap.get? p = some o ∧ o.ExactDict := by
        rcases hk with ⟨kvs, hk⟩ | ⟨kvs, hk⟩
        · obtain ⟨_, _, _, _, o, _, _, e, ex, _⟩ := I.hok p _ hk
          exact ⟨o, e, ex⟩
        · obtain ⟨_, _, _, _, o, _, _, e, ex, _⟩ := I.hok p _ hk
          exact ⟨o, e, ex⟩
      obtain ⟨o, e, ex⟩ := z
      refine ⟨⟨o, e, ex.1⟩, fun a e2 => ?_⟩
      cases e2
      exact ⟨o, e, ex.2.1⟩
    · obtain ⟨o, _, _, _, e, ex, _⟩ := I.hok p _ hk
      refine ⟨⟨o, e, ex.1⟩, fun a e2 => ?_⟩
      cases e2
      exact ⟨o, e, ex.2.1⟩
    · obtain ⟨_, _, _, ⟨o, e, c, _⟩, nd⟩ := I.hok p _ hk
      refine ⟨⟨o, e, c⟩, fun a e2 => ?_⟩
      cases e2
      exact ⟨o, e, nd o e⟩
  | _ => exact False.elim ty
def tBM0 (K : PySem.W.Frag) (T : String) (r : V → List V → Hp → VK → Prop) (to : TE) : TE := fun σ H Q => to σ H fun x H1 => tyV K T x H1 ∧ r x [] H1 Q
def tBM (K : PySem.W.Frag) (T : String) (r : V → List V → Hp → VK → Prop) (to : TE) (t : TA) : TE := fun σ H Q => to σ H fun x H1 => tyV K T x H1 ∧ t σ H1 fun xs H2 => r x xs H2 Q
variable {o e : Expr} {es : List Expr} {to : TE} {t : TA} {name : Str} {apos cpos : Pos} {T id : String} {r : V → List V → Hp → VK → Prop}
theorem pe_bm0 (pa : PlainAttrs T) (slot : Slot T name id) (hty : typeOf (.builtin id) = pure (.type "method_descriptor")) (hm : MtR X id r) (ho : PE X o to)
    (hbase : attributeBase o name X.env (eval o X.env) = eval o X.env := by rfl) (hline : (apos.endLine == cpos.line) = true := by rfl) : PE X (.Call (.Attribute o name apos) [] [] cpos) (tBM0 X.K T r to) := by
  intro pins s σ H Q I h
  refine wpAny_Call_method0_late hbase hline (thn (ho pins s σ H _ I h) fun v s1 ⟨x, H1, I1, r1, ty, q1⟩ => ?_)
  obtain ⟨h1, h2⟩ := tyV_is I1 r1 ty
  exact ⟨T, id, pa, slot, hty, h1, h2, Calls.callWith_builtin rfl (PySem.evalArgs_none (hm pins s1 σ H1 x [] v [] Q I1 r1 .nil q1))⟩
theorem pe_bm (pa : PlainAttrs T) (slot : Slot T name id) (hty : typeOf (.builtin id) = pure (.type "method_descriptor")) (hm : MtR X id r) (ho : PE X o to) (ha : PA X (e :: es) t)
    (hbase : attributeBase o name X.env (eval o X.env) = eval o X.env := by rfl)
    (hfew : ((backTo cpos (starEach (e :: es) X.env)).all (fun x => !x.1) && (backToKw cpos (keywordEach [] X.env)).all (fun x => x.1.isSome)
      && decide ((e :: es).length + ([] : List Keyword).length + (if ([] : List Keyword).isEmpty then 0 else 1) < 30)) = true := by rfl)
    (hline : (apos.endLine == cpos.line) = true := by rfl) (hs : starEach (e :: es) X.env = (false, eval e X.env) :: starEach es X.env := by rfl) (hplain : (backTo cpos (starEach es X.env)).any (·.1) = false := by rfl) :
    PE X (.Call (.Attribute o name apos) (e :: es) [] cpos) (tBM X.K T r to t) := by
  intro pins s σ H Q I h
  refine wpAny_Call_method_late hbase hfew hline rfl (thn (ho pins s σ H _ I h) fun v s1 ⟨x, H1, I1, r1, ty, q1⟩ => ?_)
  obtain ⟨h1, h2⟩ := tyV_is I1 r1 ty
  refine ⟨T, id, pa, slot, hty, h1, h2, ?_⟩
  have hA := ha cpos pins s1 σ H1 _ I1 q1
  rw [hs] at hA ⊢
  refine Calls.callWith_builtin (by show (false || (backTo cpos (starEach es X.env)).any (·.1)) = false; rw [hplain] <;> rfl) (Calls.evalArgs_plain ?_)
  exact thn hA fun us s2 ⟨vs, H2, I2, r2, q2⟩ => hm pins s2 σ H2 x vs v us Q I2 r1 r2 q2
/- xs.append(e), list.index on a module's tuple .. are MtR facts of 06m -/
end
end L2

namespace L2
open PySem PySem.Spec PyProof.Rows

def MtM (X : Cx) (id : String) (r : V → List V → Hp → VK → Prop) : Prop :=
  ∀ (pins : List (Addr × Obj)) (s : Shared) (σ : St) (H : Hp) (x : V) (xs : List V) (v : Value) (us : List Value) (Q : VK), Inv X pins σ H s → RelV x v → Vals xs us → r x xs H Q →
    wpAny (model X.prog X.w) X.A (call (.builtin id) (v :: us)) (EP X pins σ Q) X.xe s

/-! ### lists of values -/
theorem Vals.one : ∀ {x : V} {us : List Value}, Vals [x] us → ∃ u, us = [u] ∧ RelV x u
  | _, _, .cons r .nil => ⟨_, rfl, r⟩
theorem Vals.zero : ∀ {us : List Value}, Vals [] us → us = []
  | _, .nil => rfl
theorem Vals.dropLast {xs : List V} {us : List Value} (h : Vals xs us) : Vals xs.dropLast us.dropLast := by
  induction h with
  | nil => exact .nil
  | cons r t ih =>
    cases t with
    | nil => exact .nil
    | cons q t' => exact .cons r ih
theorem Vals.eraseIdx : ∀ {xs : List V} {us : List Value} (i : Nat), Vals xs us → Vals (xs.eraseIdx i) (us.eraseIdx i)
  | _, _, _, .nil => .nil
  | _, _, 0, .cons _ t => t
  | _, _, i + 1, .cons r t => .cons r (Vals.eraseIdx i t)
theorem Vals.reverse {xs : List V} {us : List Value} (h : Vals xs us) : Vals xs.reverse us.reverse := by
  induction h with
  | nil => exact .nil
  | cons r t ih => rw [List.reverse_cons, List.reverse_cons]; exact Vals.append ih (.cons r .nil)
theorem erase_last {α : Type} (l : List α) : l.eraseIdx (l.length - 1) = l.dropLast := by
  induction l with
  | nil => rfl
  | cons a r ih =>
    cases r with
    | nil => rfl
    | cons b r =>
      have e : (a :: b :: r).length - 1 = ((b :: r).length - 1) + 1 := by
        have h1 : (a :: b :: r).length = r.length + 2 := rfl
        have h2 : (b :: r).length = r.length + 1 := rfl
        omega
      rw [e, List.eraseIdx_cons_succ, ih]
      all_goals rfl
theorem len_erase {α : Type} : ∀ (l : List α) (i : Nat), (l.eraseIdx i).length ≤ l.length
  | [], _ => Nat.le_refl _
  | _ :: _, 0 => Nat.le_succ _
  | _ :: r, i + 1 => Nat.succ_le_succ (len_erase r i)

section
variable {X : Cx} {pins : List (Addr × Obj)} {σ : St} {H : Hp} {s : Shared} {l b : Addr} {xs ys zs : List V}

/-! ### the two steps: a tracked list is rewritten, a new list is laid -/
theorem Inv.lset {its its' : List Value} {n : Nat} {f : Array Value → Array Value} {t' : Nat} (I : Inv X pins σ H s) (hH : H l = some (.lst xs))
    (e : s.heap.get? l = some { cls := .type "list", data := .seq its.toArray n }) (hf : f its.toArray = its'.toArray) (hv : Vals ys its') (hz : ys.length ≤ sizeLine) :
    Inv X pins σ (upd H l (.lst ys)) { s with heap := s.heap.update l (Obj.mapSeq f), toks := t' } := by
  have q := PySem.IsL.update e f
  rw [hf] at q
  refine I.write (x := l) (e := l) (by rw [hH]; exact trivial) (.inl rfl) (fun b' u hb hu => (Heap.get?_update_other s.heap (Obj.mapSeq f) (Ne.symm hb)).trans hu) ⟨_, q⟩ ?_
  exact ⟨hz, its', _, hv, q⟩
theorem Inv.lnew {its : List Value} {t' : Nat} (I : Inv X pins σ H s) (hv : Vals ys its) (hz : ys.length ≤ sizeLine) :
    Inv X pins σ (upd H s.heap.objs.size (.lst ys)) { s with heap := s.heap.push { cls := .type "list", data := .seq its.toArray }, toks := t' } :=
  I.laid (fun _ _ q => Heap.get?_push_of_some _ q) (Nat.le_refl _) ⟨hz, its, 0, hv, Heap.get?_push_size _ rfl⟩
theorem Inv.fresh (I : Inv X pins σ H s) : H s.heap.objs.size = none := I.hok.fresh (Nat.le_refl _)
theorem Inv.lstM (I : Inv X pins σ H s) (hH : H l = some (.lst xs)) : xs.length ≤ sizeLine ∧ ∃ (its : List Value) (n : Nat), Vals xs its ∧ xs.length = its.length ∧ s.heap.get? l = some { cls := .type "list", data := .seq its.toArray n } := by
  obtain ⟨z, its, n, r, e⟩ := I.hok l _ hH
  exact ⟨z, its, n, r, r.length, e⟩

theorem notLongL {n : Nat} (h : n ≤ sizeLine) : Builtin.List.listTooLong n = false := by
  unfold Builtin.List.listTooLong
  exact decide_eq_false (by omega)
end

section
variable {X : Cx}

/-! ### methods -/
def rAppend : V → List V → Hp → VK → Prop := fun x vs H Q => ∃ l xs y, x = .ref l ∧ vs = [y] ∧ H l = some (.lst xs) ∧ xs.length < sizeLine ∧ Q .non (upd H l (.lst (xs ++ [y])))
theorem mt_append : MtM X "list.append" rAppend := by
  intro pins s σ H x vs v us Q I rx rv h
  obtain ⟨l, xs, y, rfl, rfl, hH, hz, q⟩ := h
  cases rx
  obtain ⟨u, rfl, ru⟩ := rv.one
  obtain ⟨z, its, n, r, hl, e⟩ := I.lstM hH
  refine call_meets F.slot_list_append ⟨_, e, rfl⟩ F.entry_list_append (F.args_list_append_2 _ _) (PySem.list_append l its.toArray n u (by rw [List.size_toArray]; omega)) ⟨e, ?_⟩
  refine ⟨.non, _, I.lset (its' := its ++ [u]) hH e (by simp) (r.append (.cons ru .nil)) ?_, rfl, q⟩
  rw [List.length_append, List.length_singleton]
  omega

def rExtend : V → List V → Hp → VK → Prop := fun x vs H Q => ∃ l b xs zs, x = .ref l ∧ vs = [.ref b] ∧ H l = some (.lst xs) ∧ H b = some (.lst zs) ∧ xs.length + zs.length ≤ sizeLine ∧ Q .non (upd H l (.lst (xs ++ zs)))
theorem mt_extend : MtM X "list.extend" rExtend := by
  intro pins s σ H x vs v us Q I rx rv h
  obtain ⟨l, b, xs, zs, rfl, rfl, hH, hB, hz, q⟩ := h
  cases rx
  obtain ⟨u, rfl, ru⟩ := rv.one
  cases ru
  obtain ⟨z, its, n, r, hl, e⟩ := I.lstM hH
  obtain ⟨z2, its2, n2, r2, hl2, e2⟩ := I.lstM hB
  have hsz : its.toArray.size + its2.toArray.size ≤ sizeLine := by rw [List.size_toArray, List.size_toArray]; omega
  have hlong : ¬ (!its.toArray.isEmpty && Builtin.List.listTooLong (its.toArray.size + its2.toArray.size)) = true := by
    rw [notLongL hsz, Bool.and_false]
    exact Bool.false_ne_true
  refine call_meets F.slot_list_extend ⟨_, e, rfl⟩ F.entry_list_extend (F.args_list_extend_2 _ _)
    (AutoSeq1.list_extend_list_list_0 l its.toArray n b its2.toArray n2 hlong (by rw [List.size_toArray]; omega) (by omega)) ⟨e, e2, ?_⟩
  refine ⟨.non, _, I.lset (its' := its ++ its2) hH e (by simp) (r.append r2) ?_, rfl, q⟩
  rw [List.length_append]
  omega

def rPop : V → List V → Hp → VK → Prop := fun x vs H Q => ∃ l xs y, x = .ref l ∧ vs = [] ∧ H l = some (.lst xs) ∧ xs[xs.length - 1]? = some y ∧ Q y (upd H l (.lst xs.dropLast))
theorem mt_pop : MtM X "list.pop" rPop := by
  intro pins s σ H x vs v us Q I rx rv h
  obtain ⟨l, xs, y, rfl, rfl, hH, hy, q⟩ := h
  cases rx
  have hus := rv.zero
  subst hus
  obtain ⟨z, its, n, r, hl, e⟩ := I.lstM hH
  obtain ⟨u, hu, ru⟩ := r.get hy
  have hy' : its.toArray[its.toArray.size - 1]? = some u := by
    show its.toArray[its.length - 1]? = some u
    rw [← Array.getElem?_toList, ← hl]
    exact hu
  refine call_meets F.slot_list_pop ⟨_, e, rfl⟩ F.entry_list_pop (F.args_list_pop_1 _) (MeetsSeq.list_pop_last l its.toArray n u hy' (by rw [List.size_toArray]; omega)) ⟨e, ?_⟩
  refine ⟨y, _, I.lset (its' := its.dropLast) hH e ?_ r.dropLast ?_, ru, q⟩
  · show its.toArray.eraseIdxIfInBounds (its.toArray.size - 1) = its.dropLast.toArray
    rw [List.size_toArray, List.eraseIdxIfInBounds_toArray, erase_last]
  · rw [List.length_dropLast]
    omega

def rPopAt : V → List V → Hp → VK → Prop := fun x vs H Q => ∃ l xs i k y, x = .ref l ∧ vs = [.int i] ∧ H l = some (.lst xs) ∧ -(2 ^ 63) ≤ i ∧ i < 2 ^ 63 ∧ seqIndex? i xs.length = some k ∧ xs[k]? = some y ∧ Q y (upd H l (.lst (xs.eraseIdx k)))
theorem mt_popAt : MtM X "list.pop" rPopAt := by
  intro pins s σ H x vs v us Q I rx rv h
  obtain ⟨l, xs, i, k, y, rfl, rfl, hH, h1, h2, hk, hy, q⟩ := h
  cases rx
  obtain ⟨u, rfl, ru⟩ := rv.one
  obtain ⟨t, rfl⟩ := ru
  obtain ⟨z, its, n, r, hl, e⟩ := I.lstM hH
  obtain ⟨w, hw, rw'⟩ := r.get hy
  refine call_meets F.slot_list_pop ⟨_, e, rfl⟩ F.entry_list_pop (F.args_list_pop_2 _ _)
    (MeetsSeq.list_pop_at l its.toArray n i t k w (fitsIndex_both h1 h2) (by rw [List.size_toArray, ← hl]; exact hk) (by rw [← Array.getElem?_toList]; exact hw) (by rw [List.size_toArray]; omega)) ⟨e, ?_⟩
  refine ⟨y, _, I.lset (its' := its.eraseIdx k) hH e ?_ (r.eraseIdx k) ?_, rw', q⟩
  · show its.toArray.eraseIdxIfInBounds k = (its.eraseIdx k).toArray
    rw [List.eraseIdxIfInBounds_toArray]
  · have := len_erase xs k
    omega

def rReverse : V → List V → Hp → VK → Prop := fun x vs H Q => ∃ l xs, x = .ref l ∧ vs = [] ∧ H l = some (.lst xs) ∧ Q .non (upd H l (.lst xs.reverse))
theorem mt_reverse : MtM X "list.reverse" rReverse := by
  intro pins s σ H x vs v us Q I rx rv h
  obtain ⟨l, xs, rfl, rfl, hH, q⟩ := h
  cases rx
  have hus := rv.zero
  subst hus
  obtain ⟨z, its, n, r, hl, e⟩ := I.lstM hH
  refine call_meets F.slot_list_reverse ⟨_, e, rfl⟩ F.entry_list_reverse (F.args_list_reverse_1 _) (AutoSeq1.list_reverse_list_0 l its.toArray n (by rw [List.size_toArray]; omega)) ⟨e, ?_⟩
  refine ⟨.non, _, I.lset (its' := its.reverse) hH e (by simp) r.reverse ?_, rfl, q⟩
  rw [List.length_reverse]
  omega


/-! ### list + list, list += list, list * int -/
def rCat : R2 := fun x y H Q => ∃ l b xs zs, x = .ref l ∧ y = .ref b ∧ H l = some (.lst xs) ∧ H b = some (.lst zs) ∧ xs.length + zs.length ≤ sizeLine ∧ ∀ p, H p = none → Q (.ref p) (upd H p (.lst (xs ++ zs)))
theorem op_cat : OpR X (binaryOp .Add) rCat := by
  intro pins s σ H x y v u Q I rx ry h
  obtain ⟨l, b, xs, zs, rfl, rfl, hH, hB, hz, q⟩ := h
  cases rx
  cases ry
  obtain ⟨z, its, n, r, hl, e⟩ := I.lstM hH
  obtain ⟨z2, its2, n2, r2, hl2, e2⟩ := I.lstM hB
  refine PySem.P.add_list e e2 ?_ (by rw [List.size_toArray, List.size_toArray]; omega)
  have ea : its.toArray ++ its2.toArray = (its ++ its2).toArray := by simp
  rw [ea]
  exact ⟨.ref _, _, I.lnew (t' := s.toks) (r.append r2) (by rw [List.length_append]; omega), rfl, q _ I.fresh⟩

/-! ### del xs[i] -/
end

/-! ### xs[a:b] = ys -/
section
variable {prog : Program} {w : World} {A : Around} {E : Value → Shared → Prop} {s : Shared}
set_option maxRecDepth 100000 in
end

section
variable {X : Cx}
end
end L2

namespace Att
open PySem PySem.W PySem.Calls PyProof.Rows

/-! ### the script -/
theorem ints_of_wellAll {P : Params} {h : Heap} : ∀ (ns : List Int) (vs : List Value), WellAll P h vs (ns.map WData.int) → IntsAre vs ns := by
  intro ns
  induction ns with
  | nil =>
    intro vs w
    rw [List.map_nil] at w
    cases w
    exact .nil
  | cons n ns ih =>
    intro vs w
    rw [List.map_cons] at w
    cases w with
    | cons a b =>
      cases a
      exact .cons _ _ (ih _ b)

theorem script_of {l : OpenLaw} {n : Nat} (hn : l.most = some n) {P : Params} {h : Heap} {args : List WData} {vals : List Value}
    (hpre : l.row.toRowW.claim.pre args = true) (hwl : WellAll P h vals args) :
    ∃ a vs ns, vals = [Value.ref a] ∧ args = [WData.list (ns.map WData.int)] ∧ h.get? a = some { cls := .type "list", data := .seq vs.toArray } ∧ IntsAre vs ns ∧ ns.length ≤ n := by
  have hsh : WShape.hasAll [] args [.list .int] = true := (pre_splitW hpre).1
  have hc : l.pre.holds [] { args := args } = true := (pre_splitW hpre).2
  obtain ⟨d, r, rfl, h1, h2⟩ := hasAllW_cons hsh
  obtain rfl := hasAllW_nil h2
  obtain ⟨xs, rfl, h3⟩ := hasW_list h1
  obtain ⟨ns, rfl⟩ := items_int h3
  have hlen : ns.length ≤ n := by
    unfold OpenLaw.pre at hc
    have h4 : (WTm.not (.lt (.lit (.int (n : Int))) (.len (.arg 0)))).holds [] { args := [.list (ns.map .int)] } = true := by
      have h4 := (holds_andW hc).1
      rw [hn] at h4
      exact h4
    have h5 := condW_of h4 (w_not (w_lt w_lit (w_len_list (w_arg rfl))))
    rw [List.length_map] at h5
    refine Nat.le_of_not_lt fun q => ?_
    have q' : (n : Int) < ((ns.length : Nat) : Int) := by omega
    first
      | (rw [decide_eq_true q'] at h5; exact absurd h5 (by decide))
      | (simp at h5; omega)
  cases hwl with
  | cons w1 w2 =>
    cases w2
    cases w1 with
    | list ho hall => exact ⟨_, _, ns, rfl, rfl, ho, ints_of_wellAll ns _ hall, hlen⟩

theorem post_true (l : OpenLaw) (args : List WData) : l.row.toRowW.claim.post args (.bool true) args = true :=
  postW_of (r := l.row.toRowW) (X := (true == true))
    (show WShape.has [] (.bool true) .bool = true by first | rfl | decide | simp [WShape.has, WShape.arms, WShape.armsAll])
    (show (WTm.eq .res (.lit (.bool true))).value [] { args := args, res := some (.bool true), after := args } = some (.bool (true == true)) from w_eq_bool (w_res rfl) w_lit) rfl

/-! ### the attachment: holds_open's last premise (the goal 'hc' behind k_head) from a wpAny of the law's body -/

/-- the same from a codeAny of the CALL (for a layer whose function contracts speak of calls) -/
theorem attach_call {l : OpenLaw} {n : Nat} {q : Program} {loose : List Str} {XP : (Str → Option Value) → Heap → Prop} {YP : World → Heap → Prop} {d : DefRec}
    (hn : l.most = some n) (hdf : d.params.defaults = [])
    (call : ∀ (w : World) (s₀ s₁ : Shared) (mg mb : Str → Option Value) (fa : Addr) (o : Obj) (pm cd doc : Value) (a : Addr) (vs : List Value) (ns : List Int),
      Ground q loose [] XP w s₀ mg mb s₁.heap → YP w s₁.heap →
      s₁.heap.get? fa = some o → o.data = .func (docDef d.name d.params d.body d.scope pm cd doc) → s₁.heap.CodeRec cd d.name → mg d.name = some (.ref fa) →
      s₁.heap.get? a = some { cls := .type "list", data := .seq vs.toArray } → IntsAre vs ns → ns.length ≤ n → s₁.gens = #[] →
      codeAny (model l.prog w) callerA (.call (.ref fa) ⟨[.ref a], []⟩) (fun r s' => r = .ok (.ret (.bool true)) ∧ OldK s₁.heap s'.heap ∧ s'.os = s₁.os ∧ AllBare s'.gens) s₁) :
    WalkO q loose XP YP l.row.toRowW d [] (fun f vs => PySem.call f vs) := by
  intro w s₀ s₁ mg mb G Y fa o pm cd doc dV kV ho hd hcd hD hmg hg args vals as hpre hlay hrd hwl hlo
  obtain rfl : dV = .none := Dflts.none hD hdf
  obtain rfl : kV = .none := Dflts.noKw hD
  obtain ⟨a, vs, ns, rfl, rfl, hobj, hints, hlen⟩ := script_of hn hpre hwl
  refine enter_call (codeAny_mono (call w s₀ s₁ mg mb fa o pm cd doc a vs ns G Y ho (fd_plain hd) hcd hmg hobj hints hlen hg) fun r s' hq => ?_)
  obtain ⟨rfl, h2, h3, h4⟩ := hq
  exact ⟨.inl ⟨.bool true, .bool true, [], rfl, fun _ => rfl, .bool true, post_true l _, fun _ => ⟨List.Pairwise.nil, fun _ hm => (nomatch hm)⟩⟩, h2, h3, h4⟩


/-! ### rules over ANY heap (no ledger) from facts about the written part K: the library's own take a ledger (News) for what they write -/
section
variable {prog : Program} {w : World} {A : Around} {E : Value → Shared → Prop} {s : Shared} {K : Frag}





/-! the whole heap as the ledger: makes every rule that writes through a ledger a rule over any heap -/

end
end Att

namespace L2
open PySem PySem.Spec PyProof.Rows

theorem vals_ints : ∀ {vs : List Value} {ns : List Int}, IntsAre vs ns → Vals (ns.map V.int) vs
  | _, _, .nil => .nil
  | _, _, .cons n t h => .cons ⟨t, rfl⟩ (vals_ints h)

/-- nothing is tracked but the script, known to the object (or it is an object of the module) -/
def Only (H : Hp) : Prop := ∀ b, H b = none ∨ ∃ o xs, H b = some (.frz o (.lst xs))

/-- THE HEAD: the law's promise, at the heap behind the top. F, the promise of the law's def, may use that base is part of the heap (so K.In base, base.Ns mainGlobals mg stand in Mod) -/
theorem law_call {P : Program} {w : World} {K : PySem.W.Frag} {mg mb : Str → Option Value} {CX : CXT} {k : Nat} {fa a : Addr} {fd : FuncData} {x : Str} {sp : Sp} {s₁ : Shared} {vs : List Value} {ns : List Int}
    (KX : K.In s₁.heap) (hns : s₁.heap.Ns mainGlobals mg) (hb : s₁.heap.Ns builtinsNs mb) (hbb : ∀ x : Str, x ≠ "__name__" → mb x = bootBuiltins x) (hlim : s₁.heap.NoLimit) (hg : s₁.gens = #[])
    (ha : s₁.heap.get? a = some { cls := .type "list", data := .seq vs.toArray }) (hi : IntsAre vs ns) (hl : ns.length ≤ sizeLine) (hr : Room k callerA)
    (F : ∀ base : Heap, K.In base → base.Ns mainGlobals mg → FnOk P w K mg base CX k fa fd [x] sp) (hbind : ∀ (s : Shared) (u : Value), BindsTo s fd ⟨[u], []⟩ [(x, u)])
    (hsp : ∀ H : Hp, Only H → SqL K H a (ns.map V.int) → sp [.ref a] H (fun v _ => v = .bl true) fun _ _ _ => False)
    (hCX : ∀ H e s', CX [] H s₁ (fun _ _ _ => False) e s' → False) :
    codeAny (model P w) callerA (.call (.ref fa) ⟨[.ref a], []⟩) (fun r s' => r = .ok (.ret (.bool true)) ∧ OldK s₁.heap s'.heap ∧ s'.os = s₁.os ∧ AllBare s'.gens) s₁ := by
  have rv := vals_ints hi
  have lenV := hi.length
  -- from an abstract heap in which nothing but the script may be tracked
  have core : ∀ H : Hp, Only H → SqL K H a (ns.map V.int) → HOk P w H s₁.heap → (∀ b, H b ≠ none → b = a) → (H a ≠ none → K.lookup a = none) →
      codeAny (model P w) callerA (.call (.ref fa) ⟨[.ref a], []⟩) (fun r s' => r = .ok (.ret (.bool true)) ∧ OldK s₁.heap s'.heap ∧ s'.os = s₁.os ∧ AllBare s'.gens) s₁ := by
    intro H hO hS hok hA hK
    have base_of : ∀ {b : Addr} {o : Obj}, s₁.heap.get? b = some o → H b = none → (hidT s₁.heap H).get? b = some o := fun e n => hidT_get e n
    have noA : ∀ {b : Addr} {o : Obj} {es : Array DictEntry} {ep : Nat}, s₁.heap.get? b = some o → o.data = .dict es ep → H b = none := fun {b o es ep} e d => by
      cases q : H b with
      | none => rfl
      | some u =>
        have e' : b = a := hA b (by rw [q]; simp)
        subst e'
        rw [ha] at e; cases e
        have d' : Data.seq vs.toArray _ = Data.dict es ep := d
        cases d'
    have nsK : ∀ {b : Addr} {m : Str → Option Value}, s₁.heap.Ns b m → (hidT s₁.heap H).Ns b m := fun {b m} ⟨o, es, ep, e, d, r⟩ => ⟨o, es, ep, base_of e (noA e d), d, r⟩
    have hKb : K.In (hidT s₁.heap H) := fun b o e => base_of (KX b o e) (by
      cases q : H b with
      | none => rfl
      | some u =>
        have e' : b = a := hA b (by rw [q]; simp)
        subst e'
        rw [hK (by rw [q]; simp)] at e; cases e)
    have hM : Mod K mg (hidT s₁.heap H) := ⟨hKb, nsK hns, ⟨mb, nsK hb, hbb⟩, let ⟨mc, h1, h2⟩ := hlim; ⟨mc, nsK h1, h2⟩⟩
    have e0 : Env0 P w K mg (hidT s₁.heap H) callerA [] s₁ H := ⟨rfl, hM, fun b o e => of_hidT e, Nat.le_of_eq (hidT_size _ _), trivial, fun b hb => absurd (show b ∈ ([] : List Addr) from hb) (by simp), hok, .of_eq hg⟩
    refine codeAny_mono ((F _ hKb (nsK hns)).run callerA [] s₁ H ⟨[.ref a], []⟩ [.ref a] [.ref a] _ _ hr e0 (hbind s₁ (.ref a)) (.cons rfl .nil) (hsp H hO hS)) fun r s' h => ?_
    cases r with
    | error e => exact (hCX H e s' h).elim
    | ok fl =>
      cases fl with
      | next => exact False.elim h
      | brk => exact False.elim h
      | cont => exact False.elim h
      | ret u =>
        obtain ⟨v, H', os, bare, un, hok', r', q⟩ := h
        have q' : v = .bl true := q
        subst q'
        obtain rfl : u = Value.bool true := r'
        refine ⟨rfl, OldK.of_keep fun b o e => ?_, os, bare⟩
        cases q : H b with
        | none => exact un.keep b o e q (by intro z; exact absurd (show b ∈ ([] : List Addr) from z) (by simp)) (by simp)
        | some u =>
          rcases hO b with z | ⟨ob, xs, z⟩
          · rw [q] at z; cases z
          · have z2 := un.frzs b ob _ z
            obtain ⟨e1, _⟩ := hok b _ z
            obtain ⟨e2, _⟩ := hok' b _ z2
            rw [e] at e1; cases e1
            exact e2
  cases hk : K.lookup a with
  | some o =>
    -- the script is one of the module's own objects
    have e := KX a o hk
    rw [ha] at e
    cases e
    refine core (fun _ => none) (fun _ => .inl rfl) (.inr ⟨_, vs.toArray, _, hk, rfl, rfl, rfl, by rw [List.size_toArray, lenV]; exact hl, by simpa using rv⟩) (fun b u z => by have z' : (none : Option HO) = some u := z; cases z') (fun b z => absurd rfl z) fun z => absurd rfl z
  | none =>
    refine core (fun b => if b = a then some (.frz { cls := .type "list", data := .seq vs.toArray } (.lst (ns.map V.int))) else none) (fun b => ?_) (.inl (.inr ⟨{ cls := .type "list", data := .seq vs.toArray }, if_pos rfl⟩)) (fun b u z => ?_) (fun b z => ?_) fun _ => hk
    · by_cases hb : b = a
      · exact .inr ⟨_, _, if_pos hb⟩
      · exact .inl (if_neg hb)
    · by_cases hb : b = a
      · have z' := (if_pos hb).symm.trans z
        cases z'
        subst hb
        exact ⟨ha, by rw [List.length_map]; exact hl, vs, _, rv, ha⟩
      · have z' := (if_neg hb).symm.trans z
        cases z'
    · by_cases hb : b = a
      · exact hb
      · exact absurd (if_neg hb) z
end L2

namespace L2
open PySem PySem.Spec PyProof.Rows


/-- the goal that k_head leaves (case hc), from the law's promise. F gives the function object fd (K's own) once, then the promise over every base -/
theorem walk_of {l : PySem.W.OpenLaw} {n k : Nat} {q : Program} {loose : List Str} {XP : (Str → Option Value) → Heap → Prop} {YP : World → Heap → Prop} {d : DefRec} {K : Params → PySem.W.Frag} {CX : World → CXT} {sp : World → Sp} {x : Str}
    (hn : l.most = some n) (hn2 : n ≤ sizeLine) (hdf : d.params.defaults = []) (hr : Room k callerA)
    (hY : ∀ (w : World) (h : Heap), YP w h → (K w.params).In h)
    (F : ∀ (w : World) (mg : Str → Option Value) (fa : Addr) (h : Heap), (K w.params).In h → h.Ns mainGlobals mg → mg d.name = some (.ref fa) →
      ∃ fd : FuncData, (∀ (s : Shared) (u : Value), BindsTo s fd ⟨[u], []⟩ [(x, u)]) ∧
        ∀ base : Heap, (K w.params).In base → base.Ns mainGlobals mg → FnOk l.prog w (K w.params) mg base (CX w) k fa fd [x] (sp w))
    (hsp : ∀ (w : World) (H : Hp) (a : Addr) (ns : List Int), ns.length ≤ n → Only H → SqL (K w.params) H a (ns.map V.int) → sp w [.ref a] H (fun v _ => v = .bl true) fun _ _ _ => False)
    (hCX : ∀ (w : World) (H : Hp) (s : Shared) (e : Value) (s' : Shared), CX w [] H s (fun _ _ _ => False) e s' → False) :
    PySem.W.WalkO q loose XP YP l.row.toRowW d [] (fun f vs => PySem.call f vs) := by
  refine Att.attach_call hn hdf fun w s₀ s₁ mg mb fa o pm cd doc a vs ns G Y ho hd hcd hmg hobj hints hlen hg => ?_
  have KX := hY w _ Y
  obtain ⟨fd, hb, hF⟩ := F w mg fa _ KX G.T.g hmg
  exact law_call KX G.T.g G.T.b G.T.builtins G.T.nolimit hg hobj hints (Nat.le_trans hlen hn2) hr hF hb (fun H hO hS => hsp w H a ns hlen hO hS) fun H e s' => hCX w H s₁ e s'
end L2

/- THE LAST THEOREM (shape; LID, My.* are yours):
   My.Adr: a structure of the addresses that your layer names (classes, functions); My.Txt K t: a structure (Prop) of the equations over K;
   My.txt_mk : {K} {implicit addresses ..} (e1 : nsIn K mainGlobals "law" = some (some (.ref f))) (e2 : K.lookup f = some ⟨oc, od, .func (fnOf "law" "law" params body scope dV kV doc pm an cdv ct), sl⟩) (e3 : codeIn K cdv "law" = true) .. : ∃ t, My.Txt K t

set_option maxRecDepth 100000 in
set_option maxHeartbeats 0 in
theorem PySem.Challenge.cw_LID_holds : PySem.Challenge.rw_LID.Holds := by
  w_on; o_law; k_head; (case hw => w_witness2)
  k_fill
  refine L2.walk_of (l := PySem.Challenge.rw_LID) (n := 63) (k := 40) (x := "script") (CX := fun w => ..) (sp := fun _ => My.sp_law) rfl (by decide) rfl ⟨rfl, by decide, by decide⟩ (fun w h Y => PySem.W.kIn_of Y) ?F ?S ?C
  case F =>
    intro w mg fa h KX G hmg
    have T : ∃ t, My.Txt (L2.KOf KX) t := by
      dsimp only [L2.KOf]                          -- K must stand as «<heap const> w.params» for k_is
      refine' My.txt_mk ?e1 ?e2 ?e3 ..
      (case e1 => PySem.W.k_is)                    -- in the order: a name -> its address -> its object -> its parts
      (case e2 => PySem.W.k_is)
      ..
    obtain ⟨t, T⟩ := T
    have e0 := hmg.symm.trans (PySem.W.mg_of KX G T.law)
    cases e0                                       -- fa is the law's own address
    exact ⟨_, fun s u => .of_eq rfl, fun base kb nb => My.law_fn T kb nb⟩     -- if «.of_eq rfl» comes too early: refine' ⟨_, ?b, fun base kb nb => My.law_fn T kb nb⟩; exact fun s u => .of_eq rfl
  case S => exact fun w H a ns hl hO hS => ..
  case C => exact ..
(the tactic k_is has no namespace: write k_is) -/

/-! SHORT WORDS over the layer: a def of the text, its body, what a loop and a test want. -/
namespace L2
open PySem PySem.Spec PyProof.Rows

/-! ### the text by places -/
def defArgs (s : Stmt) : Arguments := match s with
  | .FunctionDef _ a _ _ _ _ _ _ _ _ => a
  | _ => { posonlyargs := [], args := [], vararg := none, kwonlyargs := [], kw_defaults := [], kwarg := none, defaults := [] }
def defBody (s : Stmt) : List Stmt := match s with
  | .FunctionDef _ _ b _ _ _ _ _ _ _ => b
  | _ => []
def defScope (s : Stmt) : Scope := match s with
  | .FunctionDef _ _ _ _ _ _ sc _ _ _ => sc
  | _ => { kind := .function, names := [], isGenerator := false, isCoroutine := false }

/-! ### no exception leaves a def -/
abbrev CX0 : CXT := fun _ _ _ _ _ _ => False
abbrev E0 : XK := fun _ _ _ => False
theorem pass0 {X : Cx} : Passes CX0 X E0 := fun _ _ _ _ _ _ _ h => h.elim

/-! ### a def (or method) of the text as it stands behind the top -/
structure Fun (K : PySem.W.Frag) (x qual : Str) (st : Stmt) (f : Addr) (fd : FuncData) : Prop where
  ex : ∃ (oc : Value) (od : Option Addr) (kV doc pm : Value) (an : Option Addr) (cdv ct : Value) (osl : Array (Option Value)),
    fd = PySem.W.fnOf x qual (defArgs st) (defBody st) (defScope st) .none kV doc pm an cdv ct ∧ K.lookup f = some ⟨oc, od, .func fd, osl⟩ ∧ PySem.W.codeIn K cdv qual = true
  kp : PySem.W.keepIn K (.ref f) = true
section
variable {P : Program} {w : World} {K : PySem.W.Frag} {mg : Str → Option Value} {base : Heap}
/-- THE RULE for a def: its body as a term of rules, and the reading of that term -/
theorem Fun.ok {x qual : Str} {st : Stmt} {f : Addr} {fd : FuncData} {N ps : List Str} {k : Nat} {sp : Sp} (F : Fun K x qual st f fd) (S : FnScope N ps (defScope st)) (len : ∀ vs H Q E, sp vs H Q E → vs.length = ps.length)
    (hbody : ∀ (cdv : Value) (A : Around) (outer : List Env) (s : Shared) (H : Hp) (vs : List V) (Q : VK) (E : XK), Room k (A.deeper (envOfC qual (defScope st) s.heap.objs.size f cdv)) → sp vs H Q E →
      ∃ t, PSs (cxOf CX0 P w K mg base N qual (defScope st) f cdv A outer s H E).nox (defBody st) t ∧ t { nx := fun _ H' => Q .non H', rt := Q } (start N vs) H) : FnOk P w K mg base CX0 (k + 1) f fd ps sp := by
  obtain ⟨oc, od, kV, doc, pm, an, cdv, ct, osl, rfl, lk, hcd⟩ := F.ex
  refine fn_of lk hcd S len fun A outer s H vs Q E hr hsp => ?_
  obtain ⟨t, h, q⟩ := hbody cdv A outer s H vs Q E hr hsp
  exact ⟨t, h.nox, q⟩
/-- how its arguments bind (no defaults): h is «fun _ _ _ _ _ _ us hl => match us, hl with | [_, _], _ => rfl», one _ a parameter -/
theorem Fun.binds {x qual : Str} {st : Stmt} {f : Addr} {fd : FuncData} {ps : List Str} (F : Fun K x qual st f fd)
    (h : ∀ (kV doc pm : Value) (an : Option Addr) (cdv ct : Value) (us : List Value), us.length = ps.length → bindArgs (PySem.W.fnOf x qual (defArgs st) (defBody st) (defScope st) .none kV doc pm an cdv ct) ⟨us, []⟩ = pure (ps.zip us)) : Binds K fd ps [] := by
  obtain ⟨oc, od, kV, doc, pm, an, cdv, ct, osl, rfl, lk, hcd⟩ := F.ex
  exact .all (h kV doc pm an cdv ct)
theorem fun_mk {x qual : Str} {st : Stmt} {f : Addr} {oc : Value} {od an : Option Addr} {osl : Array (Option Value)} {kV doc pm cdv ct : Value} (l : K.lookup f = some ⟨oc, od, .func (PySem.W.fnOf x qual (defArgs st) (defBody st) (defScope st) .none kV doc pm an cdv ct), osl⟩)
    (c : PySem.W.codeIn K cdv qual = true) (k : PySem.W.keepIn K (.ref f) = true) : Fun K x qual st f (PySem.W.fnOf x qual (defArgs st) (defBody st) (defScope st) .none kV doc pm an cdv ct) := ⟨⟨oc, od, kV, doc, pm, an, cdv, ct, osl, rfl, l, c⟩, k⟩
end
theorem small1000 {n : Nat} (h : n ≤ 1000) : n < sizeLine := Nat.lt_of_le_of_lt h (by decide)

/-! ### expressions in short: the name that stands in the i-th slot -/
section
variable {X : Cx}
end

/-! ### tests -/
theorem ite2 {c A B : Prop} [Decidable c] (h1 : c → A) (h2 : ¬ c → B) : if c then A else B := by
  by_cases h : c
  · rw [if_pos h]
    exact h1 h
  · rw [if_neg h]
    exact h2 h

/-! ### heaps -/
/-- all that was tracked is as it was -/
def Same (H H' : Hp) : Prop := ∀ b o, H b = some o → H' b = some o
theorem Same.refl (H : Hp) : Same H H := fun _ _ h => h
theorem Same.trans {H H1 H2 : Hp} (a : Same H H1) (b : Same H1 H2) : Same H H2 := fun c o h => b c o (a c o h)
theorem Same.free {H H' : Hp} (e : Same H H') {l : Addr} (h : H' l = Option.none) : H l = Option.none := by
  cases q : H l with
  | none => rfl
  | some o =>
    rw [e l o q] at h
    cases h
theorem Same.seq {K : PySem.W.Frag} {H H' : Hp} {a : Addr} {xs : List V} (e : Same H H') (h : SqL K H a xs) : SqL K H' a xs := by
  rcases h with (h | ⟨o, h⟩) | h
  · exact .inl (.inl (e _ _ h))
  · exact .inl (.inr ⟨o, e _ _ h⟩)
  · exact .inr h

end L2


set_option Elab.async false
set_option linter.all false
set_option maxRecDepth 100000
set_option maxHeartbeats 4000000
/-! A comprehension as a rule of the layer: its block is a context of its own, whose captured names read the outer slots. -/
namespace L2
open PySem PySem.Spec PyProof.Rows

/-- the block's context -/
def cxComp (X : Cx) (N' : List Str) (scope : Scope) (cl : List (Str × Addr)) (C : Addr) (s₀ : Shared) (H₀ : Hp) (fp : List Addr) : Cx :=
  { prog := X.prog, w := X.w, K := X.K, mg := X.mg, base := X.base, A := X.A, N := N', s₀ := s₀, H₀ := H₀, env := compEnvC scope cl C X.env, outer := X.stack, stack := X.stack, ex := fp, fn := fun _ => false,
    calm := X.calm, pn := [], xe := fun _ _ => False }

/-- what is seen of the two scopes: N, osc the outer one's names and scope; src: the outer slot of a captured name -/
structure CompOk (N : List Str) (osc : Scope) (N' : List Str) (src : List (Option Nat)) (scope : Scope) : Prop where
  kind : scope.kind = .function
  nocell : ∀ y ∈ scope.names, y.2 ≠ .cell
  loc : ∀ y ∈ scope.names, y.2 = .local → scope.names.lookup y.1 = some .local
  frees : ∀ y ∈ scope.names, y.2 = .free → osc.names.lookup y.1 = some .cell ∨ osc.names.lookup y.1 = some .free
  nd : N'.Nodup
  len : src.length = N'.length
  src : ∀ q ∈ src.zip N', ∀ j ∈ q.1.toList, N[j]? = some q.2 ∧ scope.names.lookup q.2 = some .free

theorem closure_go {env : Env} : ∀ (l : List (Str × NameKind)) (acc : List (Str × Addr)), (∀ x c, acc.lookup x = some c → env.cells.lookup x = some c) → (∀ y ∈ l, y.2 = .free → ∃ c, env.cells.lookup y.1 = some c) →
    ∃ cl, (forIn l acc fun (x : Str × NameKind) (r : List (Str × Addr)) => (if (x.2 == NameKind.free) = true then (cellOf env x.1 >>= fun a => pure (ForInStep.yield ((x.1, a) :: r))) else pure (ForInStep.yield r) : Sem (ForInStep (List (Str × Addr))))) = pure cl ∧
      (∀ x c, cl.lookup x = some c → env.cells.lookup x = some c) ∧ (∀ y ∈ l, y.2 = .free → ∃ c, cl.lookup y.1 = some c) ∧ (∀ x c, acc.lookup x = some c → ∃ d, cl.lookup x = some d)
  | [], acc, h, _ => ⟨acc, rfl, h, fun _ z => (nomatch z), fun x c e => ⟨c, e⟩⟩
  | (n, k) :: l, acc, h, hf => by
    by_cases hk : k = .free
    · subst hk
      obtain ⟨c, hc⟩ := hf (n, .free) List.mem_cons_self rfl
      have hacc : ∀ x d, ((n, c) :: acc).lookup x = some d → env.cells.lookup x = some d := fun x d e => by
        rw [List.lookup_cons] at e
        cases hx : x == n with
        | true =>
          rw [hx] at e
          have e1 : x = n := by simpa using hx
          have e2 : c = d := by simpa using e
          rw [e1, ← e2]; exact hc
        | false =>
          rw [hx] at e
          exact h x d e
      obtain ⟨cl, e1, e2, e3, e4⟩ := closure_go l ((n, c) :: acc) hacc fun y hy => hf y (List.mem_cons_of_mem _ hy)
      refine ⟨cl, ?_, e2, fun y hy hyf => ?_, fun x d e => ?_⟩
      · rw [List.forIn_cons]
        have : cellOf env n = pure c := by unfold cellOf; rw [hc]
        simp only [beq_self_eq_true, if_true, this, pure_bind]
        exact e1
      · rcases List.mem_cons.mp hy with rfl | hy
        · exact e4 n c (by simp)
        · exact e3 y hy hyf
      · by_cases hx : x = n
        · subst hx; exact e4 x c (by simp)
        · have hb : (x == n) = false := by simpa using hx
          exact e4 x d (by rw [List.lookup_cons, hb]; exact e)
    · obtain ⟨cl, e1, e2, e3, e4⟩ := closure_go l acc h fun y hy => hf y (List.mem_cons_of_mem _ hy)
      refine ⟨cl, ?_, e2, fun y hy hyf => ?_, e4⟩
      · rw [List.forIn_cons]
        have hb : (k == NameKind.free) = false := by simpa using hk
        simp only [hb, Bool.false_eq_true, if_false, pure_bind]
        exact e1
      · rcases List.mem_cons.mp hy with rfl | hy
        · exact absurd hyf hk
        · exact e3 y hy hyf

theorem closure_of {scope : Scope} {env : Env} (hf : ∀ y ∈ scope.names, y.2 = .free → ∃ c, env.cells.lookup y.1 = some c) :
    ∃ cl, closureFor scope env = pure cl ∧ (∀ x c, cl.lookup x = some c → env.cells.lookup x = some c) ∧ ∀ y ∈ scope.names, y.2 = .free → ∃ c, cl.lookup y.1 = some c := by
  obtain ⟨cl, e1, e2, e3, _⟩ := closure_go (env := env) scope.names [] (fun _ _ z => by simp at z) hf
  refine ⟨cl, ?_, e2, e3⟩
  unfold closureFor
  refine Eq.trans ?_ (congrArg (fun t => t >>= fun c => (pure c : Sem (List (Str × Addr)))) e1)
  first
    | rfl
    | (congr 1)

/-- the kind of a name in the block -/
theorem relabel_free {scope : Scope} {env : Env} : ∀ {x : Str}, (relabel scope env).names.lookup x = some .cell ∨ (relabel scope env).names.lookup x = some .free → (∀ y ∈ scope.names, y.2 ≠ .cell) → (x, NameKind.free) ∈ scope.names := by
  intro x h hc
  have key : ∀ (l : List (Str × NameKind)), (∀ y ∈ l, y.2 ≠ .cell) → ((l.map fun (n, k) => if (k == NameKind.free && env.scope.kind == .function && env.kindOf n == some .cell) then (n, NameKind.cell) else (n, k)).lookup x = some .cell ∨
      (l.map fun (n, k) => if (k == NameKind.free && env.scope.kind == .function && env.kindOf n == some .cell) then (n, NameKind.cell) else (n, k)).lookup x = some .free) → (x, NameKind.free) ∈ l := by
    intro l
    induction l with
    | nil => intro _ h; simp at h
    | cons y l ih =>
      obtain ⟨n, k⟩ := y
      intro hc h
      have hc' : ∀ y ∈ l, y.2 ≠ .cell := fun y hy => hc y (List.mem_cons_of_mem _ hy)
      have hk : k ≠ .cell := hc (n, k) List.mem_cons_self
      rw [List.map_cons] at h
      by_cases hx : x = n
      · subst hx
        by_cases hf : k = .free
        · subst hf; exact List.mem_cons_self
        · exfalso
          have hb : (k == NameKind.free) = false := by simpa using hf
          simp only [hb, Bool.false_and, Bool.false_eq_true, if_false, List.lookup_cons, beq_self_eq_true] at h
          rcases h with h | h
          · exact hk (Option.some.inj h)
          · exact hf (Option.some.inj h)
      · refine List.mem_cons_of_mem _ (ih hc' ?_)
        have hb : (x == n) = false := by simpa using hx
        by_cases hq : (k == NameKind.free && env.scope.kind == .function && env.kindOf n == some .cell) = true
        · simp only [hq, if_true, List.lookup_cons, hb] at h
          exact h
        · simp only [hq, Bool.false_eq_true, if_false, List.lookup_cons, hb] at h
          exact h
  exact key _ hc h
theorem relabel_look {scope : Scope} {env : Env} {x : Str} (h : scope.names.lookup x = some .free) : (relabel scope env).names.lookup x = some .cell ∨ (relabel scope env).names.lookup x = some .free := by
  have key : ∀ (l : List (Str × NameKind)), l.lookup x = some .free → ((l.map fun (n, k) => if (k == NameKind.free && env.scope.kind == .function && env.kindOf n == some .cell) then (n, NameKind.cell) else (n, k)).lookup x = some .cell ∨
      (l.map fun (n, k) => if (k == NameKind.free && env.scope.kind == .function && env.kindOf n == some .cell) then (n, NameKind.cell) else (n, k)).lookup x = some .free) := by
    intro l
    induction l with
    | nil => intro h; simp at h
    | cons y l ih =>
      obtain ⟨n, k⟩ := y
      intro h
      rw [List.map_cons]
      rw [List.lookup_cons] at h
      cases hx : x == n with
      | true =>
        rw [hx] at h
        have hk : k = .free := Option.some.inj h
        subst hk
        by_cases hq : (NameKind.free == NameKind.free && env.scope.kind == .function && env.kindOf n == some .cell) = true
        · simp only [hq, if_true, List.lookup_cons, hx]; exact .inl trivial
        · simp only [hq, Bool.false_eq_true, if_false, List.lookup_cons, hx]; exact .inr trivial
      | false =>
        rw [hx] at h
        by_cases hq : (k == NameKind.free && env.scope.kind == .function && env.kindOf n == some .cell) = true
        · simp only [hq, if_true, List.lookup_cons, hx]; exact ih h
        · simp only [hq, Bool.false_eq_true, if_false, List.lookup_cons, hx]; exact ih h
  exact key _ h

/-- the slots at the block's entry -/
def capt (src : List (Option Nat)) (σ : St) : St := src.map fun o => o.bind fun j => (σ[j]?).join

section
variable {X : Cx} {pins : List (Addr × Obj)} {σ : St} {H : Hp} {s : Shared} {N' : List Str} {src : List (Option Nat)} {scope osc : Scope} {cl : List (Str × Addr)} {fp : List Addr}

/-- into the block: the state behind newFunctionEnv -/
theorem comp_enter {h₁ : Heap} {tk : Nat} (I : Inv X pins σ H s) (hf : ∀ b ∈ fp, FpOk X pins H b) (hlt : ∀ b ∈ fp, b < s.heap.objs.size) (ok : CompOk X.N osc N' src scope) (hsc : X.env.scope = osc)
    (c1 : ∀ x c, cl.lookup x = some c → X.env.cells.lookup x = some c) (c2 : ∀ y ∈ scope.names, y.2 = .free → ∃ c, cl.lookup y.1 = some c)
    (hn : h₁.Ns s.heap.objs.size fun _ => none) (hk : ∀ b o, s.heap.get? b = some o → h₁.get? b = some o) :
    Inv (cxComp X N' scope cl s.heap.objs.size s H fp) [] (capt src σ) H { s with heap := h₁, toks := tk } := by
  have hkind : (relabel scope X.env).kind = .function := ok.kind
  refine ⟨⟨I.ok.mod, hkind, I.ok.glob, I.ok.blt, Nat.le_refl _, fun x y c h1 h2 => I.ok.inj x y c (c1 x c h1) (c1 y c h2), fun x hx => ?_, fun x c z _ => (by cases z), I.ok.hd, I.ok.frames, .inl rfl, fun b hb => ?_, I.bs, Nat.le_trans I.ok.bsz I.sz, fun b o e hb => ?_, fun b hb z => ?_, I.stack, I.stkFree⟩,
    rfl, I.bare, Un.kept hk, ⟨_, hn, fun i x v h1 h2 h3 => ?_⟩, fun x c e => ?_, I.hok.fresh (Nat.le_refl _), fun x c e => I.freeC x c (c1 x c e), fun p hp => absurd (show p ∈ ([] : List (Addr × Obj)) from hp) (by simp), I.hok.kept hk, ?_⟩
  · exact c2 _ (relabel_free (env := X.env) (scope := scope) (x := x) hx ok.nocell) rfl
  · obtain ⟨f0, f1, f2, f3, f4, f5⟩ := hf b hb
    exact ⟨fun z => absurd (hlt b hb) (by rw [z]; exact Nat.lt_irrefl _), fun x c e => f4 x c (c1 x c e)⟩
  · obtain ⟨f0, f1, f2, f3, f4, f5⟩ := hf b hb
    rcases f3 with z | z
    · exact I.ok.noex b o e z
    · exact absurd (Nat.lt_of_lt_of_le (Heap.lt_size e) (Nat.le_trans I.ok.bsz z)) (Nat.lt_irrefl _)
  · obtain ⟨f0, f1, f2, f3, f4, f5⟩ := hf b hb
    rcases List.mem_cons.mp (I.stkSub b z) with q | q
    · exact f1 q
    · exact f2 q
  · -- a captured name
    have hi : ∃ j, src[i]? = some (some j) ∧ σ[j]? = some (some v) := by
      unfold capt at h2
      rw [List.getElem?_map] at h2
      cases e : src[i]? with
      | none => rw [e] at h2; cases h2
      | some o =>
        rw [e] at h2
        cases o with
        | none => cases h2
        | some j =>
          refine ⟨j, rfl, ?_⟩
          have h2' : (σ[j]?).join = some v := Option.some.inj h2
          cases e2 : σ[j]? with
          | none => rw [e2] at h2'; cases h2'
          | some w => rw [e2] at h2'; exact congrArg some h2'
    obtain ⟨j, e1, e2⟩ := hi
    have hz : (some j, x) ∈ src.zip N' := by
      refine List.mem_iff_getElem?.mpr ⟨i, ?_⟩
      rw [List.getElem?_zip_eq_some]
      exact ⟨e1, h1⟩
    obtain ⟨q1, q2⟩ := ok.src _ hz j (by simp)
    have hfr := PySem.mem_of_lookup q2
    have hk0 := ok.frees _ hfr rfl
    rw [← hsc] at hk0
    obtain ⟨m, hns, hl⟩ := I.loc
    obtain ⟨u, r, l⟩ := hl j x v q1 e2 (hk0.elim (fun z => .inr (.inl z)) fun z => .inr (.inr z))
    refine ⟨u, r, ?_⟩
    rcases l with ⟨l1, _⟩ | ⟨_, c, l2, l3⟩
    · exfalso
      have l1' : X.env.scope.names.lookup x = some .local := l1
      rcases hk0 with z | z
      · rw [l1'] at z; cases z
      · rw [l1'] at z; cases z
    · obtain ⟨d, hd⟩ := c2 _ hfr rfl
      have : d = c := by
        have := (c1 _ _ hd).symm.trans l2
        exact Option.some.inj this
      subst this
      obtain ⟨o, ho, hod⟩ := l3
      exact .inr ⟨relabel_look q2, d, hd, o, hk _ _ ho, hod⟩
  · obtain ⟨v, o, ho, hod⟩ := I.cell x c (c1 x c e)
    exact ⟨v, o, hk _ _ ho, hod⟩
  · show (capt src σ).length = N'.length
    unfold capt
    rw [List.length_map]
    exact ok.len

/-- out of the block: its namespace is let go -/
theorem comp_leave {C : Addr} {σ' : St} {H' : Hp} {s' : Shared} {h' : Heap} (I : Inv X pins σ H s) (hf : ∀ b ∈ fp, FpOk X pins H b) (hC : s.heap.objs.size ≤ C) (J : Inv (cxComp X N' scope cl C s H fp) [] σ' H' s') (hs : Heap.SameBut C s'.heap h') :
    Inv X pins σ H' { s' with heap := h' } := by
  have nC : ∀ b o, s.heap.get? b = some o → b ≠ C := fun b o e z => absurd (Nat.lt_of_lt_of_le (Heap.lt_size e) (by rw [z]; exact hC)) (Nat.lt_irrefl _)
  have B : Un (frs X.stack) fp H H' s.heap s'.heap := J.base
  refine I.call' (ch := fp) J.os ⟨fun b o e n hb hx => (hs.2 b (nC b o e)).trans (B.keep b o e n hb hx), fun b o e n hb hx => ?_, B.free, fun b o e hx => ?_, B.tups, B.frzs, B.tbls⟩ (fun b ob e => ?_) J.bare fun b hb => ?_
  · obtain ⟨sl, e1⟩ := B.slot b o e n hb hx
    exact ⟨sl, (hs.2 b (nC b o e)).trans e1⟩
  · obtain ⟨o', e1⟩ := B.there b o e hx
    exact ⟨o', (hs.2 b (nC b o e)).trans e1⟩
  · refine (J.hok b ob e).stay (fun c w' hc q => (hs.2 c ?_).trans q) (fun _ q => q) fun _ _ q => q
    have hfree : H' C = none := J.free
    rintro rfl
    rcases hc with rfl | hc
    · rw [hfree] at e; cases e
    · rw [hfree] at hc; cases hc
  · obtain ⟨f0, f1, f2, f3, f4, f5⟩ := hf b hb
    exact ⟨f3, f1, f4, f5⟩
end

/-! ### the loop of a comprehension with one clause -/
def testsOf (ifs : List Expr) (env : Env) : Sem Bool := forIn ifs true fun c r => if r = true then do let ok ← isTrue c env (eval c env); pure (ForInStep.yield ok) else pure (ForInStep.yield r)
def PIf (X : Cx) (ifs : List Expr) (t : TT) : Prop :=
  ∀ (pins : List (Addr × Obj)) (s : Shared) (σ : St) (H : Hp) (Q : Bool → Hp → Prop), Inv X pins σ H s → t σ H Q → wpAny (model X.prog X.w) X.A (testsOf ifs X.env) (TP X pins σ Q) X.xe s
def tYes : TT := fun _ H Q => Q true H
theorem pif_nil {X : Cx} : PIf X [] tYes := fun pins s σ H Q I h => wpAny_tests_nil ⟨H, I, h⟩
theorem pif_one {X : Cx} {c : Expr} {t : TT} (h : PT X c t) : PIf X [c] t := fun pins s σ H Q I hq => wpAny_tests_one (h pins s σ H Q I hq)

theorem compLoop_own {prog : Program} {w : World} {A : Around} {R : Result → Shared → Prop} {s : Shared} {elt target iter : Expr} {ifs : List Expr} {scope : Scope} {pos : Pos} {it acc : Value} {env : Env} (I : Nat → Shared → Prop)
    (turn : ∀ n s, I n s → wpAny (model prog w) A (pyNext it) (fun r s1 => match r with
      | none => R (.ok .next) s1
      | some v => wpAny (model prog w) A (letOwnedTupleGo target it v) (fun _ s1' => wpAny (model prog w) A (assign target env v) (fun _ s2 => wpAny (model prog w) A (testsOf ifs env) (fun ok s3 =>
            if ok = true then wpAny (model prog w) A (eval elt env) (fun x s4 => wpAny (model prog w) A (call (.builtin "list.append") [acc, x]) (fun _ s5 => ∃ m, m < n ∧ I m s5) (fun _ _ => False) s4) (fun _ _ => False) s3
            else ∃ m, m < n ∧ I m s3) (fun _ _ => False) s2) (fun _ _ => False) s1') (fun _ _ => False) s1) (fun _ _ => False) s)
    (n : Nat) (h : I n s) : codeAny (model prog w) A (.compLoop (.ListComp elt [⟨target, iter, ifs, 0⟩] scope pos) 0 it acc env) R s := by
  have no : ∀ {E : Value → Shared → Prop} (e : Value) (s : Shared), (fun (_ : Value) (_ : Shared) => False) e s → E e s := fun _ _ z => False.elim z
  refine codeAny_loop rfl I (fun n s hI => ?_) n h
  show wpAny _ A ((compTurn (.ListComp elt [⟨target, iter, ifs, 0⟩] scope pos) 0 it acc env).onRaise (fun x => do noteFrame x env; theTreesLotGoes x)) _ _ s
  refine wpAny_noted ?_
  rw [compTurn_list]
  refine wpAny_bind (wpAny_standAt (wpAny_bind (wpAny_mono (turn n s hI) (fun r s₁ h₁ => ?_) no)))
  cases r with
  | none => exact wpAny_pure h₁
  | some v =>
    refine wpAny_bind (wpAny_mono h₁ (fun _ s1' h1' => ?_) no)
    refine wpAny_bind (wpAny_mono h1' (fun _ s₂ h₂ => wpAny_bind (wpAny_mono h₂ (fun ok s₃ h₃ => ?_) no)) no)
    cases ok with
    | false => exact wpAny_pure ⟨rfl, h₃⟩
    | true =>
      exact wpAny_bind (wpAny_bind (wpAny_mono h₃ (fun x s₄ h₄ => wpAny_bind (wpAny_mono h₄ (fun _ s₅ h₅ => wpAny_pure (wpAny_pure ⟨rfl, h₅⟩)) no)) no))

def CompGo (g : TG) (tc : TT) (te : TE) (src : List (Option Nat)) (σ : St) (Q : VK) (J : It) (H1 : Hp) : Prop := ∀ l, H1 l = none →
  ∃ W : Nat → Nat → List V → St → Hp → Prop, (∃ m, W 0 m [] (capt src σ) (upd H1 l (.lst []))) ∧ ∀ i m ys σ' H', W i m ys σ' H' → H' l = some (.lst ys) →
    (J.stop i H' ∧ Q (.ref l) H') ∨ (J.go i H' ∧ ∃ N : List V → St → Hp → Prop, (∀ zs σ2 H2, N zs σ2 H2 → ∃ m', m' < m ∧ W (i + 1) m' zs σ2 H2) ∧ ∀ x H2, J.yld i H' x H2 → g x σ' H2 fun σ2 H3 => tc σ2 H3 fun b H4 =>
      if b = true then te σ2 H4 fun y H5 => H5 l = some (.lst ys) ∧ ys.length < sizeLine ∧ N (ys ++ [y]) σ2 (upd H5 l (.lst (ys ++ [y])))
      else H4 l = some (.lst ys) ∧ N ys σ2 H4)
def tComp (wi : TI) (g : TG) (tc : TT) (te : TE) (src : List (Option Nat)) : TE := fun σ H Q => wi σ H (CompGo g tc te src σ Q)
def ForGo (g : TG) (tb : TS) (D : Ends) (σ : St) (J : It) (H1 : Hp) : Prop := ∃ W : Nat → Nat → St → Hp → Prop, (∃ m, W 0 m σ H1) ∧ ∀ i m σ H, W i m σ H →
  (J.stop i H ∧ D.nx σ H) ∨ (J.go i H ∧ ∃ N : St → Hp → Prop, (∀ σ' H', N σ' H' → ∃ m', m' < m ∧ W (i + 1) m' σ' H') ∧ ∀ x H', J.yld i H x H' → g x σ H' fun σ2 H2 => tb { D with nx := N, ct := N, bk := D.nx } σ2 H2)
def tForG (wi : TI) (g : TG) (tb : TS) : TS := fun D σ H => wi σ H (ForGo g tb D σ)
theorem ps_forG {X : Cx} {tg iter : Expr} {body : List Stmt} {wi : TI} {g : TG} {tb : TS} {pos : Pos} (hp : PassesOwn (model X.prog X.w) X.A X.env X.xe) (hc : X.calm = true) (hi : PI X tg iter wi) (hg : PG X tg g) (hb : PSs X body tb)
    (hs : ∀ x, foldedSetIterable iter X.env x = pure x := by intro _; rfl) : PS X (.For tg iter body [] pos) (tForG wi g tb) := ps_for hp hc hi hg hb hs

section
variable {X : Cx} {elt tg iter : Expr} {ifs : List Expr} {scope osc : Scope} {pos : Pos} {N' : List Str} {src : List (Option Nat)} {wi : TI} {g : TG} {tc : TT} {te : TE}
theorem pe_comp (ok : CompOk X.N osc N' src scope) (hsc : X.env.scope = osc) (hc : X.calm = true) (hi : PI X tg iter wi)
    (hg : ∀ cl C s₀ H₀ fp, PG (cxComp X N' scope cl C s₀ H₀ fp) tg g) (ht : ∀ cl C s₀ H₀ fp, PIf (cxComp X N' scope cl C s₀ H₀ fp) ifs tc) (he : ∀ cl C s₀ H₀ fp, PE (cxComp X N' scope cl C s₀ H₀ fp) elt te)
    (hs : ∀ x, foldedSetIterable iter X.env x = pure x := by intro _; rfl) : PE X (.ListComp elt [⟨tg, iter, ifs, 0⟩] scope pos) (tComp wi g tc te src) := by
  intro pins s σ H Q I h
  obtain ⟨cl, hcl, c1, c2⟩ := closure_of (scope := scope) (env := X.env) fun y hy hyf => I.ok.has y.1 (by
    have z := ok.frees y hy hyf
    rw [← hsc] at z
    exact z)
  rw [eval_ListComp]
  refine wpAny_comprehension_free (use := none) rfl hs hcl ok.kind ok.loc (thn (hi pins s σ H _ I h) fun v s1 h1 => thn h1 fun itv s2 h2 => ?_)
  obtain ⟨it, fp, tn, J, H2, e, I2, T, st2, f2, q2⟩ := h2
  subst e
  have hlt2 : ∀ b ∈ fp, b < s2.heap.objs.size := fun b hb => by
    obtain ⟨o, e, _⟩ := T.obj _ _ st2 b hb
    exact Heap.lt_size e
  refine wpAny_newObj_type ?_
  have hl : H2 s2.heap.objs.size = none := I2.hok.fresh (Nat.le_refl _)
  have I3 : Inv X pins σ (upd H2 s2.heap.objs.size (.lst [])) { s2 with heap := s2.heap.push { cls := .type "list", dict := none, data := .seq ([] : List Value).toArray } } :=
    I2.laid (t' := s2.toks) (fun b u e => Heap.get?_push_of_some _ e) (Nat.le_refl _) ⟨Nat.zero_le _, [], 0, .nil, Heap.get?_push_size _ rfl⟩
  obtain ⟨W, ⟨m0, w0⟩, turn⟩ := q2 _ hl
  generalize hl2 : s2.heap.objs.size = l at *
  generalize hs3 : ({ s2 with heap := s2.heap.push { cls := .type "list", dict := none, data := .seq ([] : List Value).toArray } } : Shared) = s3 at *
  have f3 : ∀ b ∈ fp, FpOk X pins (upd H2 l (.lst [])) b := fun b hb => ⟨by rw [upd_ne (Nat.ne_of_lt (hlt2 b hb))]; exact (f2 b hb).1, (f2 b hb).2⟩
  have k3 : ∀ b o, s2.heap.get? b = some o → s3.heap.get? b = some o := fun b o e => by rw [← hs3]; exact Heap.get?_push_of_some _ e
  have hlt3 : ∀ b ∈ fp, b < s3.heap.objs.size := fun b hb => by
    obtain ⟨o, e, _⟩ := T.obj _ _ st2 b hb
    exact Heap.lt_size (k3 b o e)
  refine wpAny_newFunctionEnv ok.nocell (by intro y hy; simp at hy) (fun h₁ hns₁ hsb₁ => ?_) ok.kind
  have k4 : ∀ b o, s3.heap.get? b = some o → h₁.get? b = some o := fun b o e => (hsb₁.2 b (Nat.ne_of_lt (Heap.lt_size e))).trans (Heap.get?_push_of_some _ e)
  have J0 := comp_enter (tk := s3.toks + ([] : List (Str × Value)).length) I3 f3 hlt3 ok hsc c1 c2 hns₁ k4
  have st4 : tn 0 h₁ := T.keep _ _ _ st2 fun b hb o e => k4 b o (k3 b o e)
  generalize hC : s3.heap.objs.size = C at *
  have stat : ∀ {H' : Hp}, (∀ b ∈ fp, H' b = none) → ∀ b ∈ fp, FpOk (cxComp X N' scope cl C s3 (upd H2 l (.lst [])) fp) [] H' b := fun {H'} hn b hb =>
    ⟨hn b hb, (J0.ok.exf b hb).1, J0.ok.exfs b hb, .inl hb, (J0.ok.exf b hb).2, fun p hp => absurd (show p ∈ ([] : List (Addr × Obj)) from hp) (by simp)⟩
  have loop : codeAny (model X.prog X.w) X.A (.compLoop (.ListComp elt [⟨tg, iter, ifs, 0⟩] scope pos) 0 (.ref it) (.ref l) (compEnvC scope cl C X.env))
      (compPost (model X.prog X.w) X.A X.xe none (EP X pins σ Q) (.ref l) C) { s3 with heap := h₁, toks := s3.toks + ([] : List (Str × Value)).length } := by
    refine compLoop_own (fun n s' => ∃ i ys σ' H', Inv (cxComp X N' scope cl C s3 (upd H2 l (.lst [])) fp) [] σ' H' s' ∧ tn i s'.heap ∧ (∀ b ∈ fp, H' b = none) ∧ H' l = some (.lst ys) ∧ W i n ys σ' H') ?_ m0
      ⟨0, [], _, _, J0, st4, fun b hb => (f3 b hb).1, upd_same, w0⟩
    rintro n s5 ⟨i, ys, σ5, H5, I5, st5, fr5, hl5, w5⟩
    rcases turn i n ys σ5 H5 w5 hl5 with ⟨stop, qn⟩ | ⟨go, N, hN, step⟩
    · refine thn (T.done (cxComp X N' scope cl C s3 (upd H2 l (.lst [])) fp) rfl rfl rfl hc i [] s5 σ5 H5 (fun _ _ => False) I5 (stat fr5) st5 stop) fun r s6 ⟨hr, I6⟩ => ?_
      subst hr
      obtain ⟨m, hn, _⟩ := I6.loc
      exact ⟨m, hn, fun h' hsb => ⟨.ref l, H5, comp_leave I3 f3 (by rw [← hC]; exact Nat.le_refl _) I6 hsb, rfl, qn⟩⟩
    · refine thn (T.item (cxComp X N' scope cl C s3 (upd H2 l (.lst [])) fp) rfl rfl rfl hc i [] s5 σ5 H5 (fun _ _ => False) I5 (stat fr5) st5 go) fun r s6 ⟨u, hr, h6⟩ => ?_
      subst hr
      refine thn h6 fun _ s7 ⟨x, H7, I7, r7, y7, st7, fr7⟩ => ?_
      have I7' := I7.pinned (stat fr7) (T.obj _ _ st7)
      refine thn (hg cl C s3 _ fp _ s7 σ5 H7 x u _ I7' r7 (step x H7 y7)) fun _ s8 ⟨σ8, H8, I8, q8⟩ => ?_
      refine thn (ht cl C s3 _ fp _ s8 σ8 H8 _ I8 q8) fun b s9 ⟨H9, I9, q9⟩ => ?_
      have back : ∀ {s' : Shared} {H' : Hp}, Inv (cxComp X N' scope cl C s3 (upd H2 l (.lst [])) fp) ([] ++ pinsAt fp s7.heap) σ8 H' s' → tn (i + 1) s'.heap ∧ ∀ b ∈ fp, H' b = none := fun {s' H'} I' => by
        refine ⟨T.keep _ _ _ st7 fun b hb o e => (I'.pin (b, o) (List.mem_append_right _ (List.mem_append_right _ (mem_pinsAt hb e)))).1, fun b hb => ?_⟩
        obtain ⟨o, e, d⟩ := T.obj _ _ st7 b hb
        exact (I'.pin (b, o) (List.mem_append_right _ (List.mem_append_right _ (mem_pinsAt hb e)))).2.1
      cases b with
      | false =>
        obtain ⟨hl9, n9⟩ := q9
        obtain ⟨m', hm, w9⟩ := hN _ _ _ n9
        obtain ⟨t9, fr9⟩ := back I9
        exact ⟨m', hm, i + 1, ys, σ8, H9, I9.unpinned, t9, fr9, hl9, w9⟩
      | true =>
        refine thn (he cl C s3 _ fp _ s9 σ8 H9 _ I9 q9) fun xv s10 ⟨y, H10, I10, r10, hl10, hz, n10⟩ => ?_
        obtain ⟨m', hm, w10⟩ := hN _ _ _ n10
        refine thn (mt_append (X := cxComp X N' scope cl C s3 (upd H2 l (.lst [])) fp) _ s10 σ8 H10 (.ref l) [y] (.ref l) [xv] (fun v H' => H' = upd H10 l (.lst (ys ++ [y]))) I10 rfl (.cons r10 .nil) ⟨l, ys, y, rfl, rfl, hl10, hz, rfl⟩) fun _ s11 ⟨_, H11, I11, _, e11⟩ => ?_
        subst e11
        obtain ⟨t11, fr11⟩ := back I11
        exact ⟨m', hm, i + 1, ys ++ [y], σ8, _, I11.unpinned, t11, fr11, upd_same, w10⟩
  exact codeAny_compStart_list loop (T.self _ 0 _ _ _ st4 loop)
end
end L2

set_option Elab.async false
set_option linter.all false
set_option maxRecDepth 100000
set_option maxHeartbeats 4000000

namespace L2
open PySem PySem.Spec PyProof.Rows

/-! ### lists of pairs as tables -/
section
variable {κ : Type} [DecidableEq κ]
def valV (kvs : List (κ × V)) (k : κ) : Option V := (kvs.find? fun kv => decide (kv.1 = k)).map (·.2)
/-- in its place, or at the end -/
def putK (kvs : List (κ × V)) (k : κ) (v : V) : List (κ × V) :=
  if (kvs.any fun kv => decide (kv.1 = k)) = true then kvs.map (fun kv => if kv.1 = k then (kv.1, v) else kv) else kvs ++ [(k, v)]

theorem valV_pos {p : κ × V} {r : List (κ × V)} {k : κ} (e : p.1 = k) : valV (p :: r) k = some p.2 := by simp [valV, List.find?_cons, e]
theorem valV_neg {p : κ × V} {r : List (κ × V)} {k : κ} (e : ¬ p.1 = k) : valV (p :: r) k = valV r k := by simp [valV, List.find?_cons, e]
theorem valV_any (k : κ) : ∀ kvs : List (κ × V), (kvs.any fun kv => decide (kv.1 = k)) = (valV kvs k).isSome
  | [] => rfl
  | p :: r => by
    rw [List.any_cons]
    by_cases e : p.1 = k
    · simp only [valV_pos e, decide_eq_true e, Bool.true_or, Option.isSome_some]
    · rw [valV_neg e, decide_eq_false e, Bool.false_or]; exact valV_any k r
theorem valV_map (k j : κ) (y : V) : ∀ kvs : List (κ × V), valV (kvs.map fun kv => if kv.1 = k then (kv.1, y) else kv) j = (valV kvs j).map fun x => if j = k then y else x
  | [] => rfl
  | p :: r => by
    have ih := valV_map k j y r
    rw [List.map_cons]
    by_cases h : p.1 = k
    · rw [if_pos h]
      by_cases e : p.1 = j
      · rw [valV_pos (p := (p.1, y)) e, valV_pos e, Option.map_some, if_pos (e.symm.trans h)]
      · rw [valV_neg (p := (p.1, y)) e, valV_neg e, ih]
    · rw [if_neg h]
      by_cases e : p.1 = j
      · rw [valV_pos (p := p) e, valV_pos e, Option.map_some, if_neg (fun z => h (e.trans z))]
      · rw [valV_neg (p := p) e, valV_neg e, ih]
theorem valV_snoc (k j : κ) (y : V) : ∀ kvs : List (κ × V), valV kvs k = none → valV (kvs ++ [(k, y)]) j = if j = k then some y else valV kvs j
  | [], _ => by
    by_cases e : k = j
    · rw [if_pos e.symm]; exact valV_pos (p := (k, y)) e
    · rw [if_neg (fun z => e z.symm)]; exact valV_neg (p := (k, y)) e
  | p :: r, hn => by
    rw [List.cons_append]
    have hk : ¬ p.1 = k := fun z => by rw [valV_pos z] at hn; cases hn
    rw [valV_neg hk] at hn
    have ih := valV_snoc k j y r hn
    by_cases e : p.1 = j
    · rw [valV_pos e, valV_pos e, if_neg (fun z => hk (e.trans z))]
    · rw [valV_neg e, valV_neg e, ih]
theorem valV_put (kvs : List (κ × V)) (k j : κ) (y : V) : valV (putK kvs k y) j = if j = k then some y else valV kvs j := by
  unfold putK
  by_cases a : (kvs.any fun kv => decide (kv.1 = k)) = true
  · rw [if_pos a, valV_map]
    rw [valV_any] at a
    by_cases e : j = k
    · obtain ⟨x, hx⟩ := Option.isSome_iff_exists.mp a
      rw [if_pos e, e, hx, Option.map_some, if_pos rfl]
    · rw [if_neg e]
      cases valV kvs j with
      | none => rfl
      | some x => rw [Option.map_some, if_neg e]
  · rw [if_neg a]
    refine valV_snoc k j y kvs ?_
    rw [valV_any] at a
    cases q : valV kvs k with
    | none => rfl
    | some x => rw [q] at a; exact (a rfl).elim
theorem length_putK (kvs : List (κ × V)) (k : κ) (v : V) : (putK kvs k v).length ≤ kvs.length + 1 := by
  unfold putK
  split
  · rw [List.length_map]; omega
  · rw [List.length_append, List.length_cons, List.length_nil]; omega
theorem putK_new {kvs : List (κ × V)} {k : κ} (v : V) (h : valV kvs k = none) : putK kvs k v = kvs ++ [(k, v)] := by
  unfold putK
  rw [valV_any, h]
  exact if_neg (by decide)

theorem RelO.isSome_eq {o : Option V} {u : Option Value} (r : RelO o u) : o.isSome = u.isSome := by
  cases o with
  | none => cases u with
    | none => rfl
    | some _ => exact (show False from r).elim
  | some _ => cases u with
    | none => exact (show False from r).elim
    | some _ => rfl

/-- raw tables of the same keys -/
theorem KV.val {kvs : List (κ × V)} {vs : List (κ × Value)} (r : KV kvs vs) (k : κ) : RelO (valV kvs k) (valueAt vs k) := by
  unfold KV at r
  induction r with
  | nil => exact True.intro
  | @cons p q ps qs h t ih =>
    obtain ⟨h1, h2⟩ := h
    by_cases e : p.1 = k
    · have e' : q.1 = k := h1.symm.trans e
      have b : valueAt (q :: qs) k = some q.2 := by simp [valueAt, List.find?_cons, e']
      rw [valV_pos e, b]; exact h2
    · have e' : ¬ q.1 = k := fun z => e (h1.trans z)
      have b : valueAt (q :: qs) k = valueAt qs k := by simp [valueAt, List.find?_cons, e']
      rw [valV_neg e, b]; exact ih
theorem KV.any {kvs : List (κ × V)} {vs : List (κ × Value)} (r : KV kvs vs) (k : κ) : (kvs.any fun kv => decide (kv.1 = k)) = vs.any fun kv => decide (kv.1 = k) := by
  unfold KV at r
  induction r with
  | nil => rfl
  | cons h t ih => rw [List.any_cons, List.any_cons, ih, h.1]
theorem KV.repl {kvs : List (κ × V)} {vs : List (κ × Value)} (r : KV kvs vs) (k : κ) {y : V} {u : Value} (ry : RelV y u) :
    KV (kvs.map fun kv => if kv.1 = k then (kv.1, y) else kv) (vs.map fun kv => if kv.1 = k then (kv.1, u) else kv) := by
  unfold KV at r ⊢
  induction r with
  | nil => exact .nil
  | @cons p q ps qs h t ih =>
    rw [List.map_cons, List.map_cons]
    refine .cons ?_ ih
    obtain ⟨h1, h2⟩ := h
    by_cases e : p.1 = k
    · rw [if_pos e, if_pos (h1.symm.trans e)]; exact ⟨h1, ry⟩
    · rw [if_neg e, if_neg (fun z => e (h1.trans z))]; exact ⟨h1, h2⟩
theorem KV.put {kvs : List (κ × V)} {vs : List (κ × Value)} (r : KV kvs vs) (k : κ) {y : V} {u : Value} (ry : RelV y u) : KV (putK kvs k y) (stored vs k u) := by
  unfold putK stored
  rw [r.any k]
  by_cases e : (vs.any fun kv => decide (kv.1 = k)) = true
  · rw [if_pos e, if_pos e]; exact r.repl k ry
  · rw [if_neg e, if_neg e]; exact Paired.snoc r ⟨rfl, ry⟩
theorem KV.length {kvs : List (κ × V)} {vs : List (κ × Value)} (r : KV kvs vs) : kvs.length = vs.length := Paired.length r
end


/-! ### a tracked dict, its keys ints and texts or tuples of these -/
theorem kV_is {P : Program} {w : World} {k : Key} {u : Value} (r : RelV (kV k) u) : (mixKind P w).is k u = true := by
  cases k with
  | inl i => obtain ⟨t, e⟩ := (show ∃ t, u = Value.int i t from r); subst e; exact mixKind_int P w i t
  | inr x => obtain ⟨t, e⟩ := (show ∃ t, u = Value.str x t from r); subst e; exact mixKind_str P w x t
theorem items_are {P : Program} {w : World} : ∀ {ks : List Key} {us : List Value}, Vals (ks.map kV) us → ItemsAre (mixKind P w) ks us
  | [], _, r => by rw [List.map_nil] at r; cases r; exact .nil
  | k :: ks, _, r => by
    rw [List.map_cons] at r
    cases r with
    | cons h t => exact .cons (kV_is h) (items_are t)

/-- raw entries of a dict with tuple keys -/
abbrev KT (H : Hp) : List (List Key × V) → List (List Key × Addr × Value) → Prop := Paired fun p q => p.1 = q.1 ∧ H q.2.1 = some (.tup (p.1.map kV)) ∧ RelV p.2 q.2.2
theorem KT.val {H : Hp} {kvs : List (List Key × V)} {xs : List (List Key × Addr × Value)} (r : KT H kvs xs) (k : List Key) : RelO (valV kvs k) ((atKey xs k).map (·.2)) := by
  induction r with
  | nil => exact True.intro
  | @cons p q ps qs h t ih =>
    obtain ⟨h1, _, h2⟩ := h
    by_cases e : p.1 = k
    · have e' : q.1 = k := h1.symm.trans e
      have b : atKey (q :: qs) k = some q.2 := by simp [atKey, List.find?_cons, e']
      rw [valV_pos e, b]; exact h2
    · have e' : ¬ q.1 = k := fun z => e (h1.trans z)
      have b : atKey (q :: qs) k = atKey qs k := by simp [atKey, List.find?_cons, e']
      rw [valV_neg e, b]; exact ih
theorem KT.repl {H : Hp} {kvs : List (List Key × V)} {xs : List (List Key × Addr × Value)} (r : KT H kvs xs) (k : List Key) {y : V} {u : Value} (ry : RelV y u) :
    KT H (kvs.map fun kv => if kv.1 = k then (kv.1, y) else kv) (xs.map (putAt k u)) := by
  induction r with
  | nil => exact .nil
  | @cons p q ps qs h t ih =>
    rw [List.map_cons, List.map_cons]
    refine .cons ?_ ih
    obtain ⟨h1, h2, h3⟩ := h
    unfold putAt
    by_cases e : p.1 = k
    · rw [if_pos e, if_pos (h1.symm.trans e)]; exact ⟨h1, h2, ry⟩
    · rw [if_neg e, if_neg (fun z => e (h1.trans z))]; exact ⟨h1, h2, h3⟩
theorem KT.put {H : Hp} {kvs : List (List Key × V)} {xs : List (List Key × Addr × Value)} (r : KT H kvs xs) (k : List Key) {b : Addr} {y : V} {u : Value} (hb : H b = some (.tup (k.map kV))) (ry : RelV y u) :
    KT H (putK kvs k y) (storedH xs k b u) := by
  have e : (kvs.any fun kv => decide (kv.1 = k)) = (atKey xs k).isSome := by
    rw [valV_any, (r.val k).isSome_eq, Option.isSome_map]
  unfold putK storedH
  rw [e]
  by_cases q : (atKey xs k).isSome = true
  · rw [if_pos q, if_pos q]; exact r.repl k ry
  · rw [if_neg q, if_neg q]; exact Paired.snoc r ⟨rfl, hb, ry⟩
theorem KT.keeps {H H' : Hp} {kvs : List (List Key × V)} {xs : List (List Key × Addr × Value)} (r : KT H kvs xs) (ht : ∀ b ys, H b = some (.tup ys) → H' b = some (.tup ys)) : KT H' kvs xs :=
  Paired.mapP r fun _ _ z => ⟨z.1, ht _ _ z.2.1, z.2.2⟩

section
variable {P : Program} {w : World} {H : Hp} {h : Heap} {a : Addr}
theorem rd_of {u : HO} (ok : HOk P w H h) (e : Rd H a u) : ObjOk P w H h a u := e.ok ok
theorem dk_rd {kvs : List (Key × V)} (ok : HOk P w H h) (e : Rd H a (.dK kvs)) : kvs.length ≤ sizeLine ∧ (a == sysModules) = false ∧ ∃ vs, KV kvs vs ∧ h.DictOf (mixKind P w) a vs :=
  show ObjOk P w H h a (.dK kvs) from rd_of ok e
theorem dk_of {kvs : List (Key × V)} (ok : HOk P w H h) (e : H a = some (.dK kvs)) : kvs.length ≤ sizeLine ∧ (a == sysModules) = false ∧ ∃ vs, KV kvs vs ∧ h.DictOf (mixKind P w) a vs := dk_rd ok (.inl e)
/-- a tracked tuple of ints and texts is a key -/
theorem key_of {ks : List Key} (ok : HOk P w H h) (e : H a = some (.tup (ks.map kV))) : (tupleKind (mixKind P w)).is h ks a := by
  obtain ⟨_, its, r, ⟨o, h1, h2, n, h3⟩, _⟩ := (show ObjOk P w H h a (.tup (ks.map kV)) from ok a _ e)
  exact ⟨o, its.toArray, n, h1, h2, h3, by simpa using items_are r⟩
theorem dt_rd {kvs : List (List Key × V)} (ok : HOk P w H h) (e : Rd H a (.dT kvs)) : kvs.length ≤ sizeLine ∧ (a == sysModules) = false ∧
    ∃ xs, KT H kvs xs ∧ h.DictOfH (tupleKind (mixKind P w)) a xs := by
  obtain ⟨z, y, xs, r, o, es, ep, h1, h2, h3, h4, h5⟩ := (show ObjOk P w H h a (.dT kvs) from rd_of ok e)
  refine ⟨z, y, xs, r, o, es, ep, h1, h2, h3, h4, fun x hx => ?_, h5⟩
  have all : ∀ {l : List (List Key × V)} {m : List (List Key × Addr × Value)}, KT H l m → ∀ x ∈ m, (tupleKind (mixKind P w)).is h x.1 x.2.1 := by
    intro l m q
    induction q with
    | nil => intro x hx; exact nomatch hx
    | @cons p q ps qs hq t ih =>
      intro x hx
      rcases List.mem_cons.mp hx with e | hx
      · subst e
        exact key_of ok (by rw [← hq.1]; exact hq.2.1)
      · exact ih x hx
  exact all r x hx
theorem dt_of {kvs : List (List Key × V)} (ok : HOk P w H h) (e : H a = some (.dT kvs)) : kvs.length ≤ sizeLine ∧ (a == sysModules) = false ∧
    ∃ xs, KT H kvs xs ∧ h.DictOfH (tupleKind (mixKind P w)) a xs := dt_rd ok (.inl e)
end

/-- what the dict at a holds at the key y -/
def DGet (H : Hp) (a : Addr) (y : V) (r : Option V) : Prop :=
  (∃ kvs k, Rd H a (.dK kvs) ∧ y = kV k ∧ r = valV kvs k) ∨ ∃ kvs k b, Rd H a (.dT kvs) ∧ y = .ref b ∧ H b = some (.tup (k.map kV)) ∧ r = valV kvs k
/-- the heap behind a[y] = v -/
def DPut (H : Hp) (a : Addr) (y v : V) (H' : Hp) : Prop :=
  (∃ kvs k, H a = some (.dK kvs) ∧ y = kV k ∧ kvs.length < sizeLine ∧ H' = upd H a (.dK (putK kvs k v))) ∨
  ∃ kvs k b, H a = some (.dT kvs) ∧ y = .ref b ∧ H b = some (.tup (k.map kV)) ∧ kvs.length < sizeLine ∧ H' = upd H a (.dT (putK kvs k v))
theorem DGet.k {H : Hp} {a : Addr} {kvs : List (Key × V)} {k : Key} (e : H a = some (.dK kvs)) : DGet H a (kV k) (valV kvs k) := .inl ⟨kvs, k, .inl e, rfl, rfl⟩
theorem DGet.t {H : Hp} {a b : Addr} {kvs : List (List Key × V)} {k : List Key} (e : H a = some (.dT kvs)) (eb : H b = some (.tup (k.map kV))) : DGet H a (.ref b) (valV kvs k) := .inr ⟨kvs, k, b, .inl e, rfl, eb, rfl⟩


section
variable {X : Cx} {pins : List (Addr × Obj)} {σ : St} {H : Hp} {s : Shared} {a : Addr} {y v : V} {u r : Value} {o : Option V} {A : Around} {E : Value → Shared → Prop}

theorem Inv.big (I : Inv X pins σ H s) : sysModules < s.heap.objs.size := by
  have h : mainGlobals < s.heap.objs.size := (I.mod.glob.keeps I.bk).lt
  exact Nat.lt_trans (by decide) h

/-- d[y], there -/
theorem d_getItem {Q : Value → Shared → Prop} (hu : A.units + 1 < cLine) (I : Inv X pins σ H s) (g : DGet H a y (some v)) (ry : RelV y u) (h : ∀ w' s', Inv X pins σ H s' → RelV v w' → Q w' s') :
    wpAny (model X.prog X.w) A (getItem (.ref a) u) Q E s := by
  rcases g with ⟨kvs, k, e, ey, l⟩ | ⟨kvs, k, b, e, ey, eb, l⟩
  · subst ey
    obtain ⟨z, hd, vs, rel, dd⟩ := dk_rd I.hok e
    obtain ⟨w', hw, rw'⟩ := RelO.some_of (v := v) (o := valueAt vs k) (by rw [l]; exact rel.val k)
    exact wpAny_getItem_of (kV_is ry) dd.mapOf hw (h w' _ (I.tok _) rw')
  · subst ey
    cases (show u = Value.ref b from ry)
    obtain ⟨z, hd, xs, rel, dd⟩ := dt_rd I.hok e
    obtain ⟨w', hw, rw'⟩ := RelO.some_of (v := v) (o := (atKey xs k).map (·.2)) (by rw [l]; exact rel.val k)
    obtain ⟨p, hp, hp2⟩ := Option.map_eq_some_iff.mp hw
    refine wpAny_getItem_heap (tupleKind_room_in1 hu) (key_of I.hok eb) dd hp ?_
    rw [hp2]
    exact h w' _ (I.tok _) rw'
/-- y in d -/
theorem d_in {Q : Value → Shared → Prop} (hu : A.units + 1 < cLine) (I : Inv X pins σ H s) (g : DGet H a y o) (ry : RelV y u) (h : ∀ s', Inv X pins σ H s' → Q (.bool o.isSome) s') :
    wpAny (model X.prog X.w) A (compareOp .In u (.ref a)) Q E s := by
  rcases g with ⟨kvs, k, e, ey, l⟩ | ⟨kvs, k, b, e, ey, eb, l⟩
  · subst ey
    obtain ⟨z, hd, vs, rel, dd⟩ := dk_rd I.hok e
    refine wpAny_in_of (kV_is ry) hd dd.mapOf ?_
    rw [← (rel.val k).isSome_eq, ← l]
    exact h _ (I.tok _)
  · subst ey
    cases (show u = Value.ref b from ry)
    obtain ⟨z, hd, xs, rel, dd⟩ := dt_rd I.hok e
    refine wpAny_in_heap (tupleKind_room_in1 hu) (key_of I.hok eb) hd dd ?_
    have q := (rel.val k).isSome_eq
    rw [Option.isSome_map] at q
    rw [← q, ← l]
    exact h _ (I.tok _)
theorem d_notIn {Q : Value → Shared → Prop} (hu : A.units + 1 < cLine) (I : Inv X pins σ H s) (g : DGet H a y o) (ry : RelV y u) (h : ∀ s', Inv X pins σ H s' → Q (.bool (!o.isSome)) s') :
    wpAny (model X.prog X.w) A (compareOp .NotIn u (.ref a)) Q E s := by
  rcases g with ⟨kvs, k, e, ey, l⟩ | ⟨kvs, k, b, e, ey, eb, l⟩
  · subst ey
    obtain ⟨z, hd, vs, rel, dd⟩ := dk_rd I.hok e
    refine wpAny_notIn_of (kV_is ry) hd dd.mapOf ?_
    rw [← (rel.val k).isSome_eq, ← l]
    exact h _ (I.tok _)
  · subst ey
    cases (show u = Value.ref b from ry)
    obtain ⟨z, hd, xs, rel, dd⟩ := dt_rd I.hok e
    refine wpAny_notIn_heap (tupleKind_room_in1 hu) (key_of I.hok eb) hd dd ?_
    have q := (rel.val k).isSome_eq
    rw [Option.isSome_map] at q
    rw [← q, ← l]
    exact h _ (I.tok _)
/-- a dict's object is replaced -/
theorem d_write {h' : Heap} {t' : Nat} {ob : HO} (I : Inv X pins σ H s) (mu : Mut (H a)) (hs : Heap.SameBut a s.heap h') (he : ∃ q, h'.get? a = some q) (new : ObjOk X.prog X.w (upd H a ob) h' a ob) :
    Inv X pins σ (upd H a ob) { s with heap := h', toks := t' } :=
  I.write (x := a) (e := a) mu (.inl rfl) (fun b q hb z => (hs.2 b hb).trans z) he new
theorem dk_new {P : Program} {w : World} {H' : Hp} {h' : Heap} {kvs : List (Key × V)} {vs : List (Key × Value)} (z : kvs.length ≤ sizeLine) (hd : (a == sysModules) = false) (rel : KV kvs vs) (dd : h'.DictOf (mixKind P w) a vs) :
    ObjOk P w H' h' a (.dK kvs) := ⟨z, hd, vs, rel, dd⟩
/-- d[y] = v -/
theorem d_setItem {H' : Hp} {Q : Unit → Shared → Prop} (hu : A.units + 1 < cLine) (I : Inv X pins σ H s) (g : DPut H a y v H') (ry : RelV y u) (rv : RelV v r) (h : ∀ s', Inv X pins σ H' s' → Q () s') :
    wpAny (model X.prog X.w) A (setItem (.ref a) u r) Q E s := by
  rcases g with ⟨kvs, k, e, ey, l, eH⟩ | ⟨kvs, k, b, e, ey, eb, l, eH⟩
  · subst ey eH
    obtain ⟨z, hd, vs, rel, dd⟩ := dk_of I.hok e
    have hz : vs.length ≤ sizeLine := by rw [← rel.length]; exact z
    have hl : (putK kvs k v).length ≤ sizeLine := by have := length_putK kvs k v; omega
    refine wpAny_setItem_pairs (hsz := hz) (kV_is ry) dd fun h' dd' hs => h _ ?_
    have he : ∃ q, h'.get? a = some q := let ⟨q, _, _, hq, _⟩ := dd'; ⟨q, hq⟩
    exact d_write I (by rw [e]; exact True.intro) hs he (dk_new hl hd (rel.put k rv) dd')
  · subst ey eH
    cases (show u = Value.ref b from ry)
    obtain ⟨z, hd, xs, rel, dd⟩ := dt_of I.hok e
    have hz : xs.length ≤ sizeLine := by rw [← Paired.length rel]; exact z
    have hl : (putK kvs k v).length ≤ sizeLine := by have := length_putK kvs k v; omega
    refine wpAny_setItem_heap (hsz := hz) (tupleKind_room_in1 hu) (key_of I.hok eb) dd fun h' dd' hs => h _ ?_
    obtain ⟨q, es, ep, hq, h2, h3, h4, _, h5⟩ := dd'
    refine d_write I (by rw [e]; exact True.intro) hs ⟨q, hq⟩ ⟨hl, hd, _, (rel.put k eb rv).keeps fun c ys ec => ?_, q, es, ep, hq, h2, h3, h4, h5⟩
    rw [upd_ne (ne_of ec e (fun z => nomatch z))]
    exact ec
end

section
variable {X : Cx} {pins : List (Addr × Obj)} {σ : St} {H : Hp} {s : Shared} {a : Addr} {kvs : List (Key × V)} {k : Key} {u : Value} {A : Around} {E : Value → Shared → Prop}
end


/-! ### readings and rules -/
/-- the element of a subscription, not a slice -/
def NoSl (i : Expr) : Prop := ∀ ov iv, subscripted i false ov iv = operate [ov, iv] (getItem ov iv)
theorem subD_of {prog : Program} {w : World} {A : Around} {E : Value → Shared → Prop} {s : Shared} {env : Env} {value slice : Expr} {pos : Pos} {T id : String} {Q : Value → Shared → Prop}
    (hl : typeLookup (.type T) "__getitem__" = pure (some (.builtin id))) (hs : NoSl slice)
    (h : wpAny (model prog w) A (eval value env) (fun o s₁ => wpAny (model prog w) A (eval slice env) (fun i s₂ => s₂.TypeIs o T ∧ wpAny (model prog w) A (getItem o i) Q E s₂) E s₁) E s) :
    wpAny (model prog w) A (eval (.Subscript value slice pos) env) Q E s := by
  refine Subscript_ (wpAny_mono h (fun o s₁ h₁ => wpAny_mono h₁ (fun i s₂ h₂ => ?_) fun _ _ x => x) fun _ _ x => x)
  obtain ⟨hT, h₂⟩ := h₂
  unfold subscriptTail
  refine wpAny_bind ?_
  rw [getitemInPython_of_ne hT.not_modules]
  refine wpAny_bind (wpAny_specialOf hT hl ?_)
  have fin : wpAny (model prog w) A (subscripted slice false o i) (fun r s₃ => wpAny (model prog w) A (letTemporaryGo value o r >>= fun _ => pure r) Q E s₃) E s₂ := by
    rw [hs o i]
    exact wpAny_operating (wpAny_mono h₂ (fun r s₃ h₃ => wpAny_bind (wpAny_letTemporaryGo (wpAny_pure h₃))) fun _ _ x => x)
  first
    | exact wpAny_pure (wpAny_bind fin)
    | exact wpAny_bind (wpAny_pure (wpAny_bind fin))
    | exact wpAny_bind fin

theorem dict_typeIs {X : Cx} {pins : List (Addr × Obj)} {σ : St} {H : Hp} {s : Shared} {a : Addr} {y : V} {o : Option V} (I : Inv X pins σ H s) (g : DGet H a y o) : s.TypeIs (.ref a) "dict" := by
  rcases g with ⟨kvs, k, e, _, _⟩ | ⟨kvs, k, b, e, _, _, _⟩
  · obtain ⟨_, _, vs, _, dd⟩ := dk_rd I.hok e
    exact dd.typeIs
  · obtain ⟨_, _, xs, _, dd⟩ := dt_rd I.hok e
    exact dd.typeIs

/-- d[y] -/
def tDGet (td ty : TE) : TE := fun σ H Q => td σ H fun x H1 => ty σ H1 fun y H2 => ∃ a v, x = .ref a ∧ DGet H2 a y (some v) ∧ Q v H2
/-- d[y] = v -/
def sDPut (td ty tv : TE) : TS := fun D σ H => tv σ H fun v H1 => td σ H1 fun x H2 => ty σ H2 fun y H3 => ∃ a H4, x = .ref a ∧ DPut H3 a y v H4 ∧ D.nx σ H4

section
variable {X : Cx} {o i e value : Expr} {pos pos' tpos : Pos} {td ty tv : TE}
theorem pe_dget (hu : X.A.units + 1 < cLine) (ho : PE X o td) (hi : PE X i ty) (hs : NoSl i) : PE X (.Subscript o i pos) (tDGet td ty) := by
  intro pins s σ H Q I h
  refine subD_of PySem.F.slot_dict_getitem.lookup hs (thn (ho pins s σ H _ I h) fun u s1 ⟨x, H1, I1, rx, q1⟩ => thn (hi pins s1 σ H1 _ I1 q1) fun iv s2 ⟨y, H2, I2, ry, a, v, ex, g, q2⟩ => ?_)
  subst ex
  obtain rfl : u = Value.ref a := rx
  exact ⟨dict_typeIs I2 g, d_getItem hu I2 g ry fun w' s3 I3 rw' => ⟨v, H2, I3, rw', q2⟩⟩
theorem ps_dput (hu : X.A.units + 1 < cLine) (ho : PE X o td) (hi : PE X i ty) (hv : PE X value tv) (hs : swapsWith value (some (.Subscript o i pos')) pos.line X.env = pure false) :
    PS X (.Assign [.Subscript o i pos'] value pos) (sDPut td ty tv) := by
  intro pins s σ H D I h
  refine wpAny_Assign_Subscript (thn (hv pins s σ H _ I h) fun r s1 ⟨v, H1, I1, rv, q1⟩ => thn (ho pins s1 σ H1 _ I1 q1) fun u s2 ⟨x, H2, I2, rx, q2⟩ => thn (hi pins s2 σ H2 _ I2 q2) fun iv s3 ⟨y, H3, I3, ry, a, H4, ex, g, q3⟩ => ?_) hs
  subst ex
  obtain rfl : u = Value.ref a := rx
  exact d_setItem hu I3 g ry rv fun s4 I4 => ⟨σ, H4, I4, q3⟩
end


/-! ### displays -/
theorem dk_empty {P : Program} {w : World} {H : Hp} (h : Heap) (hb : sysModules < h.objs.size) : ObjOk P w H (h.push { cls := .type "dict", data := .dict #[] }) h.objs.size (.dK []) :=
  ⟨Nat.zero_le _, beq_eq_false_iff_ne.mpr (Ne.symm (Nat.ne_of_lt hb)), [], .nil, Heap.DictOf.new h⟩
theorem dt_empty {P : Program} {w : World} {H : Hp} (h : Heap) (hb : sysModules < h.objs.size) : ObjOk P w H (h.push { cls := .type "dict", data := .dict #[] }) h.objs.size (.dT []) :=
  ⟨Nat.zero_le _, beq_eq_false_iff_ne.mpr (Ne.symm (Nat.ne_of_lt hb)), [], .nil, _, #[], 0, Heap.get?_push_size _ rfl, ⟨rfl, rfl, rfl⟩, rfl, rfl, List.nodup_nil⟩
/-- {}, to be a dict of the kind that is wanted -/
def tDNewK : TE := fun _ H Q => ∀ p, H p = none → Q (.ref p) (upd H p (.dK []))
def tDNewT : TE := fun _ H Q => ∀ p, H p = none → Q (.ref p) (upd H p (.dT []))
section
variable {X : Cx} {pos : Pos}
theorem pe_dnewK : PE X (.Dict [] [] pos) tDNewK := fun pins s σ H Q I h =>
  wpAny_Dict_empty ⟨.ref s.heap.objs.size, _, I.laid (a := s.heap.objs.size) (o := .dK []) (t' := s.toks) (fun _ _ q => Heap.get?_push_of_some _ q) (Nat.le_refl _) (dk_empty s.heap I.big), rfl, h _ (I.hok.fresh (Nat.le_refl _))⟩
theorem pe_dnewT : PE X (.Dict [] [] pos) tDNewT := fun pins s σ H Q I h =>
  wpAny_Dict_empty ⟨.ref s.heap.objs.size, _, I.laid (a := s.heap.objs.size) (o := .dT []) (t' := s.toks) (fun _ _ q => Heap.get?_push_of_some _ q) (Nat.le_refl _) (dt_empty s.heap I.big), rfl, h _ (I.hok.fresh (Nat.le_refl _))⟩
end

/-- the pairs of a display, from the left -/
def tPairs : List (TE × TE) → St → Hp → (List (V × V) → Hp → Prop) → Prop
  | [], _, H, Q => Q [] H
  | (tk, tv) :: r, σ, H, Q => tk σ H fun x H1 => tv σ H1 fun y H2 => tPairs r σ H2 fun ps H3 => Q ((x, y) :: ps) H3
abbrev VV : List (V × V) → List (Value × Value) → Prop := Paired fun p q => RelV p.1 q.1 ∧ RelV p.2 q.2
def PPs (X : Cx) (pos : Pos) (keys : List (Option Expr)) (values : List Expr) (trs : List (TE × TE)) : Prop :=
  ∀ (pins : List (Addr × Obj)) (s : Shared) (σ : St) (H : Hp) (Q : List (V × V) → Hp → Prop), Inv X pins σ H s → tPairs trs σ H Q →
    wpAny (model X.prog X.w) X.A (evalPairs (pairTrees keys values X.env pos)) (fun vs s' => ∃ ps H', Inv X pins σ H' s' ∧ VV ps vs ∧ Q ps H') X.xe s



/-! ### methods -/
/-- a method call o.m(e) of a built-in, with one argument: what must be seen of the text -/
structure M1 (X : Cx) (o : Expr) (m : Str) (apos : Pos) (e : Expr) (cpos : Pos) : Prop where
  base : attributeBase o m X.env (eval o X.env) = eval o X.env
  few : ((backTo cpos (starEach [e] X.env)).all (fun x => !x.1) && (backToKw cpos (keywordEach [] X.env)).all (fun x => x.1.isSome)
    && decide (([e] : List Expr).length + ([] : List Keyword).length + (if ([] : List Keyword).isEmpty then 0 else 1) < 30)) = true
  line : (apos.endLine == cpos.line) = true
  trees : backTo cpos (starEach [e] X.env) = [(false, eval e X.env)]
structure M2 (X : Cx) (o : Expr) (m : Str) (apos : Pos) (e f : Expr) (cpos : Pos) : Prop where
  base : attributeBase o m X.env (eval o X.env) = eval o X.env
  few : ((backTo cpos (starEach [e, f] X.env)).all (fun x => !x.1) && (backToKw cpos (keywordEach [] X.env)).all (fun x => x.1.isSome)
    && decide (([e, f] : List Expr).length + ([] : List Keyword).length + (if ([] : List Keyword).isEmpty then 0 else 1) < 30)) = true
  line : (apos.endLine == cpos.line) = true
  trees : backTo cpos (starEach [e, f] X.env) = [(false, eval e X.env), (false, eval f X.env)]


section
variable {X : Cx} {pins : List (Addr × Obj)} {σ : St} {H : Hp} {s : Shared} {a : Addr} {y d : V} {u r : Value} {o : Option V} {A : Around} {E : Value → Shared → Prop}
end

section
variable {X : Cx} {o e f : Expr} {apos cpos : Pos} {td ty tx : TE}
end

/-! ### dict(d): a copy -/
section
variable {X : Cx} {pins : List (Addr × Obj)} {σ : St} {H : Hp} {s : Shared} {a : Addr} {kvs : List (Key × V)} {A : Around} {E : Value → Shared → Prop}
end


section
variable {X : Cx} {pins : List (Addr × Obj)} {σ : St} {H : Hp} {s : Shared} {a : Addr} {y : V} {u : Value} {A : Around} {E : Value → Shared → Prop}
end
end L2


set_option Elab.async false
set_option linter.all false
set_option maxRecDepth 100000
set_option maxHeartbeats 4000000
namespace L2
open PySem PySem.Spec PyProof.Rows
section
variable {X : Cx}
/-! ### comparisons of texts and truths -/
/-! ### all, any of a list of truths -/
theorem vals_bl : ∀ {bs : List Bool} {us : List Value} {i : Nat} {v : Value}, Vals (bs.map V.bl) us → us[i]? = some v → ∃ b, bs[i]? = some b ∧ v = .bool b
  | [], _, _, _, .nil, e => by simp at e
  | b :: bs, _, 0, v, .cons r _, e => by
    simp at e
    subst e
    exact ⟨b, rfl, r⟩
  | b :: bs, _, i + 1, v, .cons _ t, e => by
    obtain ⟨c, h1, h2⟩ := vals_bl (i := i) t (by simpa using e)
    exact ⟨c, by simpa using h1, h2⟩
def atB (bs : List Bool) (j : Nat) : Bool := match bs[j]? with | some b => b | none => true
theorem all_range_bl (bs : List Bool) : (List.range bs.length).all (atB bs) = bs.all id := by
  refine Eq.trans ?_ (PyProof.Rows.all_rangeD bs (id : Bool → Bool))
  congr 1
  funext j
  unfold atB
  cases bs[j]? <;> rfl
theorem call_allB {X : Cx} (hc : X.calm = true) : CallR X (.builtin "all") (fun xs H Q => ∃ (p : Addr) (bs : List Bool), xs = [.ref p] ∧ SqL X.K H p (bs.map V.bl) ∧ Q (.bl (bs.all id)) H) := by
  intro pins s σ H xs us Q I r h
  obtain ⟨p, bs, rfl, hq, q⟩ := h
  obtain ⟨u, rfl, ru⟩ := vals1 r
  cases ru
  obtain ⟨its, rv, pl, hz⟩ := I.list hq
  have hp : p ≠ s.heap.objs.size := Nat.ne_of_lt pl.lt
  refine call_all_walk (wpAny_pyIter_list pl.isList ?_)
  refine ⟨s.heap.objs.size, _, _, _, _, _, atB bs, rfl, Walks.list (A := X.A.in1) (show X.A.in1.handled = none from I.ok.hd hc) _ p hp its.toArray, ⟨⟨_, Heap.get?_push_size _ rfl, rfl, rfl⟩, ?_⟩, ?_, fun h' tk hk => ?_⟩
  · obtain ⟨o, n, e, c, _, d⟩ := pl
    exact ⟨o, Heap.get?_push_of_some _ e, c, n, d⟩
  · intro i v s' Q' E' hP hQ
    obtain ⟨b, h1, rfl⟩ := vals_bl (i := i) (v := v) rv (by simpa using hP)
    refine wpAny_truthy_bool ?_
    have e : atB bs i = b := by unfold atB; rw [h1]
    rw [e] at hQ
    exact hQ
  · have hl : its.toArray.size = bs.length := by
      have := rv.length
      simp at this
      simp [this]
    rw [hl, all_range_bl]
    refine ⟨.bl (bs.all id), H, I.kept fun b o e => hk b o ?_ (Heap.get?_push_of_some _ e), rfl, q⟩
    intro z
    have : b = s.heap.objs.size := by simpa using z
    exact absurd (Heap.lt_size e) (by rw [this]; exact Nat.lt_irrefl _)
/-! ### sep.join(list of texts) -/
/-! ### a slice of a text -/
/-! ### a text times a number -/
def repS (z : Str) (n : Nat) : Str := ⟨(List.replicate n z.cps).foldl (· ++ ·) #[]⟩
theorem op_mul_str : OpR X (binaryOp .Mult) (fun x y H Q => ∃ z n, x = .str z ∧ y = .int n ∧ 1 < n ∧ n ≤ 1000 ∧ 0 < z.length ∧ z.length ≤ 1000 ∧ Q (.str (repS z n.toNat)) H) := by
  intro pins s σ H x y v u Q I rx ry h
  obtain ⟨z, n, rfl, rfl, h1, h2, h3, h4, q⟩ := h
  obtain ⟨t, rfl⟩ := rx
  obtain ⟨t', rfl⟩ := ry
  have e1 : ¬ n < 1 := by omega
  have e2 : (n == 1 || z.length == 0) = false := by
    have a : (n == 1) = false := beq_eq_false_iff_ne.mpr (by omega)
    have b : (z.length == 0) = false := beq_eq_false_iff_ne.mpr (by omega)
    rw [a, b]; rfl
  have hz : z.length * n.toNat ≤ 1000 * 1000 := Nat.mul_le_mul h4 (by omega)
  refine PySem.P.mul_str ?_ (fun _ _ => ?_) (fun _ _ => ?_) ?_
  · have a : decide (n < -(2 ^ 63 : Int)) = false := decide_eq_false (by omega)
    have b : decide (n ≥ 2 ^ 63) = false := decide_eq_false (by omega)
    rw [a, b]; rfl
  · have hd : (1000 : Int) ≤ (2 ^ 63 - 1) / n := by
      apply Int.le_ediv_of_mul_le (by omega)
      omega
    omega
  · have hb : z.length * n.toNat ≤ sizeLine := Nat.le_trans hz (by decide)
    unfold Builtin.Str.tooLong
    exact decide_eq_false (by omega)
  · rw [if_neg e1, e2]
    simp only [Bool.false_eq_true, if_false]
    refine ⟨?_, ⟨.str _, H, I.tok _, ⟨_, rfl⟩, q⟩⟩
    have key : ∀ (k : Nat) (acc : Array Nat), ((List.replicate k z.cps).foldl (· ++ ·) acc).size = acc.size + k * z.cps.size := by
      intro k
      induction k with
      | zero => intro acc; simp
      | succ k ih => intro acc; rw [List.replicate_succ, List.foldl_cons, ih, Array.size_append, Nat.succ_mul]; omega
    have hk := key n.toNat #[]
    have hz' : n.toNat * z.cps.size ≤ 1000 * 1000 := Nat.mul_le_mul (by omega) h4
    have hsl : 1000 * 1000 ≤ sizeLine := by decide
    show ((List.replicate n.toNat z.cps).foldl (· ++ ·) #[]).size ≤ sizeLine
    rw [hk]
    simp only [Array.size_empty]
    omega
/-! ### isinstance -/
theorem call_isi : CallR X (.builtin "isinstance") (fun xs H Q => ∃ x T t b, xs = [x, .ty T] ∧ TyOf X.K H x t ∧ PySem.W.kitOne X.K t (.type T) = some b ∧ Q (.bl b) H) := by
  intro pins s σ H xs us Q I r h
  obtain ⟨x, T, t, b, rfl, ht, hk, q⟩ := h
  obtain ⟨u, w', rfl, ru, rw'⟩ := vals2 r
  cases rw'
  exact isinst_ok I ru ht hk fun tk => ⟨.bl b, H, I.tok _, rfl, q⟩
/-! ### a text that is walked -/
theorem bt_len : bootBuiltins "len" = some (.builtin "len") := by decide +kernel
theorem bt_all : bootBuiltins "all" = some (.builtin "all") := by decide +kernel
theorem bt_isinstance : bootBuiltins "isinstance" = some (.builtin "isinstance") := by decide +kernel
theorem bt_max : bootBuiltins "max" = some (.builtin "max") := by decide +kernel
theorem bt_min : bootBuiltins "min" = some (.builtin "min") := by decide +kernel
theorem bt_sorted : bootBuiltins "sorted" = some (.builtin "sorted") := by decide +kernel
theorem bt_int : bootBuiltins "int" = some (.type "int") := by decide +kernel
theorem bt_str : bootBuiltins "str" = some (.type "str") := by decide +kernel
theorem bt_tuple : bootBuiltins "tuple" = some (.type "tuple") := by decide +kernel
theorem bt_list : bootBuiltins "list" = some (.type "list") := by decide +kernel
theorem few {α : Type} {xs : List α} (h : Nat.ble xs.length 1000 = true) : xs.length ≤ sizeLine := Nat.le_of_lt (small1000 (Nat.le_of_ble_eq_true h))
/-! ### a row of written values -/
def constV : Expr → Option V
  | .Constant (.str x) _ _ => some (.str x)
  | .Constant (.int i) _ _ => some (.int i)
  | .Constant (.bool b) _ _ => some (.bl b)
  | .Constant .none _ _ => some .non
  | _ => none
theorem pe_const {e : Expr} {v : V} (h : constV e = some v) : PE X e (tC v) ∧ ∀ es, starEach (e :: es) X.env = (false, eval e X.env) :: starEach es X.env := by
  cases e with
  | Constant c j pos =>
    cases c with
    | str x => cases h; exact ⟨pe_str, fun _ => rfl⟩
    | int x => cases h; exact ⟨pe_int, fun _ => rfl⟩
    | bool x => cases h; exact ⟨pe_bl, fun _ => rfl⟩
    | none => cases h; exact ⟨pe_non, fun _ => rfl⟩
    | _ => cases h
  | _ => cases h
def tAll (vs : List V) : TA := fun _ H Q => Q vs H
theorem pa_consts_of : ∀ {es : List Expr} {vs : List V}, es.mapM constV = some vs → PA X es (tAll vs)
  | [], vs, h => by
    have e : vs = [] := by simpa using h.symm
    subst e
    exact pa_nil
  | e :: es, vs, h => by
    rw [List.mapM_cons] at h
    cases h1 : constV e with
    | none => rw [h1] at h; cases h
    | some v =>
      rw [h1] at h
      cases h2 : es.mapM constV with
      | none => rw [h2] at h; cases h
      | some us =>
        rw [h2] at h
        have e1 : v :: us = vs := Option.some.inj h
        subst e1
        obtain ⟨p, st⟩ := pe_const (X := X) h1
        have q := pa_cons p (pa_consts_of (es := es) h2) (st es)
        exact q
/-- [..], (..) of written values -/
def tLstC (vs : List V) : TE := fun _ H Q => vs.length ≤ sizeLine ∧ ∀ p, H p = none → Q (.ref p) (upd H p (.lst vs))
theorem pe_lstC (vs : List V) {es : List Expr} {pos : Pos} (h : es.mapM constV = some vs) : PE X (.List es pos) (tLstC vs) := pe_lst (pa_consts_of h)
end
end L2

set_option Elab.async false
set_option linter.all false
set_option maxRecDepth 100000
set_option maxHeartbeats 4000000
/-! Loops and comprehensions by an invariant, whatever they walk. -/
namespace L2
open PySem PySem.Spec PyProof.Rows
/-- J walks n items, the i-th of them P i, wherever ok holds -/
structure Wk (J : It) (n : Nat) (P : Nat → V → Prop) (ok : Hp → Prop) : Prop where
  stop : ∀ i H, ok H → n ≤ i → J.stop i H
  go : ∀ i H, ok H → i < n → J.go i H
  yld : ∀ i H x H', ok H → i < n → J.yld i H x H' → H' = H ∧ P i x
theorem wk_list {K : PySem.W.Frag} {a : Addr} {xs : List V} : Wk (Itl K a) xs.length (fun i x => xs[i]? = some x) (fun H => SqL K H a xs) where
  stop := fun i H h l => ⟨xs, h, l⟩
  go := fun i H h l => ⟨xs, xs[i], h, by simp [l]⟩
  yld := fun i H x H' h l y => ⟨y.1, y.2 xs h⟩
theorem wk_tup {K : PySem.W.Frag} {a : Addr} {xs : List V} : Wk (Itt K a) xs.length (fun i x => xs[i]? = some x) (fun H => SqT K H a xs) where
  stop := fun i H h l => ⟨xs, h, l⟩
  go := fun i H h l => ⟨xs, xs[i], h, by simp [l]⟩
  yld := fun i H x H' h l y => ⟨y.1, y.2 xs h⟩
theorem wk_rng {lo : Int} {n : Nat} : Wk (Itr lo n) n (fun i x => x = .int (lo + i)) (fun _ => True) where
  stop := fun i H h l => l
  go := fun i H h l => l
  yld := fun i H x H' h l y => y
theorem comp_by {J : It} {n : Nat} {P : Nat → V → Prop} {ok : Hp → Prop} {g : TG} {tc : TT} {te : TE} {src : List (Option Nat)} {σ : St} {H1 : Hp} {Q : VK} (wk : Wk J n P ok) (Pv : Addr → Nat → List V → St → Hp → Prop)
    (h0 : ∀ l, H1 l = none → Pv l 0 [] (capt src σ) (upd H1 l (.lst []))) (hok : ∀ l i ys σ H, H1 l = none → Pv l i ys σ H → ok H)
    (hs : ∀ l i x ys σ H, H1 l = none → i < n → P i x → Pv l i ys σ H → H l = some (.lst ys) → g x σ H fun σ2 H3 => tc σ2 H3 fun b H4 =>
      if b = true then te σ2 H4 fun y H5 => H5 l = some (.lst ys) ∧ ys.length < sizeLine ∧ Pv l (i + 1) (ys ++ [y]) σ2 (upd H5 l (.lst (ys ++ [y]))) else H4 l = some (.lst ys) ∧ Pv l (i + 1) ys σ2 H4)
    (hd : ∀ l ys σ H, H1 l = none → Pv l n ys σ H → H l = some (.lst ys) → Q (.ref l) H) :
    CompGo g tc te src σ Q J H1 := by
  intro l hl
  refine ⟨fun i m ys σ H => m = n - i ∧ i ≤ n ∧ Pv l i ys σ H, ⟨n, by simp, Nat.zero_le _, h0 l hl⟩, ?_⟩
  rintro i m ys σ' H' ⟨rfl, hi, p⟩ hl'
  by_cases hlt : i < n
  · refine .inr ⟨wk.go i H' (hok l i ys σ' H' hl p) hlt, Pv l (i + 1), fun zs σ2 H2 q => ⟨n - (i + 1), by omega, rfl, hlt, q⟩, fun x H2 y => ?_⟩
    obtain ⟨rfl, px⟩ := wk.yld i H' x H2 (hok l i ys σ' H' hl p) hlt y
    exact hs l i x ys σ' _ hl hlt px p hl'
  · have e : i = n := by omega
    subst e
    exact .inl ⟨wk.stop _ _ (hok l _ ys σ' H' hl p) (Nat.le_refl _), hd l ys σ' H' hl p hl'⟩
/-- a for loop likewise -/
theorem for_by {J : It} {n : Nat} {P : Nat → V → Prop} {ok : Hp → Prop} {g : TG} {tb : TS} {D : Ends} {σ : St} {H : Hp} (wk : Wk J n P ok) (Pv : Nat → St → Hp → Prop) (h0 : Pv 0 σ H) (hok : ∀ i σ H, Pv i σ H → ok H)
    (hs : ∀ i x σ H, i < n → P i x → Pv i σ H → g x σ H fun σ2 H2 => tb { D with nx := Pv (i + 1), ct := Pv (i + 1), bk := D.nx } σ2 H2) (hd : ∀ σ H, Pv n σ H → D.nx σ H) :
    ForGo g tb D σ J H := by
  refine ⟨fun i m σ H => m = n - i ∧ i ≤ n ∧ Pv i σ H, ⟨n, by simp, Nat.zero_le _, h0⟩, ?_⟩
  rintro i m σ H ⟨rfl, hi, p⟩
  by_cases hlt : i < n
  · refine .inr ⟨wk.go i H (hok i σ H p) hlt, Pv (i + 1), fun σ' H' q => ⟨n - (i + 1), by omega, rfl, hlt, q⟩, fun x H' y => ?_⟩
    obtain ⟨rfl, px⟩ := wk.yld i H x H' (hok i σ H p) hlt y
    exact hs i x σ _ hlt px p
  · have e : i = n := by omega
    subst e
    exact .inl ⟨wk.stop _ _ (hok _ σ H p) (Nat.le_refl _), hd σ H p⟩
end L2

set_option Elab.async false
set_option linter.all false
set_option maxRecDepth 100000
set_option maxHeartbeats 4000000
/-! The rules once more, each judgement kept in a box: a term of rules is then elaborated without running the program. -/
namespace L2
open PySem PySem.Spec PyProof.Rows
structure QE (X : Cx) (e : Expr) (t : TE) : Prop where o : PE X e t
structure QT (X : Cx) (e : Expr) (t : TT) : Prop where o : PT X e t
structure QW (X : Cx) (e : Expr) (t : TT) : Prop where o : PW X e t
structure QA (X : Cx) (es : List Expr) (t : TA) : Prop where o : PA X es t
structure QS (X : Cx) (s : Stmt) (t : TS) : Prop where o : PS X s t
structure QB (X : Cx) (s : List Stmt) (t : TS) : Prop where o : PSs X s t
structure QI (X : Cx) (tg iter : Expr) (t : TI) : Prop where o : PI X tg iter t
structure QG (X : Cx) (tg : Expr) (t : TG) : Prop where o : PG X tg t
structure QGs (X : Cx) (tg : List Expr) (t : TGs) : Prop where o : PGs X tg t
structure QF (X : Cx) (ifs : List Expr) (t : TT) : Prop where o : PIf X ifs t
structure QO (X : Cx) (e : Option Expr) (t : TO) : Prop where o : PO X e t
structure QPs (X : Cx) (pos : Pos) (keys : List (Option Expr)) (values : List Expr) (trs : List (TE × TE)) : Prop where o : PPs X pos keys values trs
section
variable {X : Cx} {a b c e o i : Expr} {es : List Expr} {ta tb tc te to ti : TE} {t u : TA} {pos p apos cpos : Pos} {j : Nat} {x : Str} {sa sb : TS} {q q' : TT} {rest : List Expr}
theorem qv (i : Nat) {x : Str} {pos : Pos} (hN : X.N[i]? = some x := by rfl) (hv : Vis X.env.scope x := by exact Or.inl rfl) (hd : (x == ("__debug__" : Str)) = false := by decide)
    (hcd : (x == ("__classdict__" : Str)) = false := by decide) : QE X (.Name x pos) (tVar i) := ⟨pe_var hN hv hd hcd⟩
/-- a name that a comprehension captures -/
theorem qc (i : Nat) {x : Str} {pos : Pos} (hN : X.N[i]? = some x := by rfl) (hv : X.env.scope.names.lookup x = some .cell := by rfl) (hd : (x == ("__debug__" : Str)) = false := by decide)
    (hcd : (x == ("__classdict__" : Str)) = false := by decide) : QE X (.Name x pos) (tVar i) := ⟨pe_var hN (.inr (.inl hv)) hd hcd⟩
theorem q_int {k : Int} : QE X (.Constant (.int k) j pos) (tC (.int k)) := ⟨pe_int⟩
theorem q_str {k : Str} : QE X (.Constant (.str k) j pos) (tC (.str k)) := ⟨pe_str⟩
theorem q_bl {k : Bool} : QE X (.Constant (.bool k) j pos) (tC (.bl k)) := ⟨pe_bl⟩
theorem q_non : QE X (.Constant .none j pos) (tC .non) := ⟨pe_non⟩
theorem q_ty {T : String} (hm : X.mg x = none) (hv : bootBuiltins x = some (.type T)) (hg : Gl X x := by rfl) (hn : x ≠ "__name__" := by decide) (hd : (x == ("__debug__" : Str)) = false := by decide) : QE X (.Name x pos) (tC (.ty T)) := ⟨pe_bltn hg hm hv rfl hn hd⟩
theorem q_op {op : Operator} {r : R2} (ho : OpR X (binaryOp op) r) (ha : QE X a ta) (hb : QE X b tb) : QE X (.BinOp a op b pos) (tOp r ta tb) := ⟨pe_op ho ha.o hb.o⟩
theorem q_un {op : UnaryOp} {r : V → Hp → VK → Prop} (ho : UnR X (unaryOp op) r) (ha : QE X a ta) : QE X (.UnaryOp op a pos) (tUn r ta) := ⟨pe_un ho ha.o⟩
theorem q_cmp {op : CmpOp} {r : R2} (ho : OpR X (compareOp op) r) (ha : QE X a ta) (hb : QE X b tb) (hm : behindInMarks op b = false := by rfl) : QE X (.Compare a [op] [b] pos) (tOp r ta tb) := ⟨pe_cmpR ho ha.o hb.o hm⟩
theorem t_cmp {op : CmpOp} {r : R2} (ho : OpR X (compareOp op) r) (ha : QE X a ta) (hb : QE X b tb) (hm : behindInMarks op b = false := by rfl) : QT X (.Compare a [op] [b] pos) (tTest (tOp r ta tb)) := ⟨pt_cmpR ho ha.o hb.o hm⟩
theorem w_and1 (ha : QT X a q) : QW X (.BoolOp .And [a] pos) q := ⟨pw_and1 ha.o⟩
theorem w_or1 (ha : QT X a q) : QW X (.BoolOp .Or [a] pos) q := ⟨pw_or1 ha.o⟩
theorem w_and (ha : QT X a q) (hb : QW X (.BoolOp .And (b :: rest) pos) q') : QW X (.BoolOp .And (a :: b :: rest) pos) (tAnd q q') := ⟨pw_and ha.o hb.o⟩
theorem w_or (ha : QT X a q) (hb : QW X (.BoolOp .Or (b :: rest) pos) q') : QW X (.BoolOp .Or (a :: b :: rest) pos) (tOr q q') := ⟨pw_or ha.o hb.o⟩
theorem t_w (h : QW X a q) : QT X a q := ⟨h.o.pt⟩
theorem t_not (ha : QT X a q) : QT X (.UnaryOp .Not a pos) (tNot q) := ⟨pt_not ha.o⟩
theorem t_val (h : QE X e te) (he : ∀ whole, isTrue e X.env whole = (do let v ← whole; standAt e.pos; holding [v] (truthy v)) := by intro _; rfl) : QT X e (tB te) := ⟨pt_val h.o he⟩
theorem t_truth (h : QE X e te) (he : ∀ whole, isTrue e X.env whole = (do let v ← whole; standAt e.pos; holding [v] (truthy v)) := by intro _; rfl) : QT X e (fun σ H Q => te σ H fun x H' => ∃ k, TruV X.K x H' k ∧ Q k H') := ⟨pt_truth h.o he⟩
theorem a_nil : QA X [] tNil := ⟨pa_nil⟩
theorem a_cons (ha : QE X e te) (hr : QA X es t) (hs : starEach (e :: es) X.env = (false, eval e X.env) :: starEach es X.env := by rfl) : QA X (e :: es) (tCons te t) := ⟨pa_cons ha.o hr.o hs⟩
theorem q_tup {k : Nat} (h : QA X es t) : QE X (.Tuple es k pos) (tTup t) := ⟨pe_tup h.o⟩
theorem q_lst (h : QA X es t) : QE X (.List es pos) (tLst t) := ⟨pe_lst h.o⟩
theorem q_lstC (vs : List V) (h : es.mapM constV = some vs) : QE X (.List es pos) (tLstC vs) := ⟨pe_lstC vs h⟩
theorem q_call {CX : CXT} {k : Nat} {f : Addr} {fd : FuncData} {ps : List Str} {sp : Sp} {dvs : List V} {ds : List Value} {E : XK} (F : FnOk X.prog X.w X.K X.mg X.base CX k f fd ps sp) (hr : Room k X.A) (hm : X.mg x = some (.ref f)) (hk : PySem.W.keepIn X.K (.ref f) = true) (hb : Binds X.K fd ps ds) (hd : Vals dvs ds) (hx : Passes CX X E)
    (ha : QA X (e :: es) t) (hg : Gl X x := by rfl) (hdb : (x == ("__debug__" : Str)) = false := by decide) (he : starEach (e :: es) X.env = (false, eval e X.env) :: starEach es X.env := by rfl) (hpl : (backTo pos (starEach es X.env)).any (·.1) = false := by rfl) :
    QE X (.Call (.Name x p) (e :: es) [] pos) (tCall sp dvs E t) := ⟨pe_call F hr hg hm hk hb hd hx ha.o hdb he hpl⟩
theorem q_callB {id : String} {r : List V → Hp → VK → Prop} (hc : CallR X (.builtin id) r) (hm : X.mg x = none) (hv : bootBuiltins x = some (.builtin id)) (ha : QA X (e :: es) t) (hg : Gl X x := by rfl) (hn : x ≠ "__name__" := by decide) (hdb : (x == ("__debug__" : Str)) = false := by decide)
    (he : starEach (e :: es) X.env = (false, eval e X.env) :: starEach es X.env := by rfl) (hpl : (backTo pos (starEach es X.env)).any (·.1) = false := by rfl) : QE X (.Call (.Name x p) (e :: es) [] pos) (tCB r t) := ⟨pe_callB hc hg hm hv ha.o hn hdb he hpl⟩
theorem q_callTy {T : String} {r : List V → Hp → VK → Prop} (hc : CallR X (.type T) r) (hm : X.mg x = none) (hv : bootBuiltins x = some (.type T)) (ha : QA X (e :: es) t) (hg : Gl X x := by rfl) (hn : x ≠ "__name__" := by decide) (hdb : (x == ("__debug__" : Str)) = false := by decide)
    (he : starEach (e :: es) X.env = (false, eval e X.env) :: starEach es X.env := by rfl) (hpl : (backTo pos (starEach es X.env)).any (·.1) = false := by rfl) : QE X (.Call (.Name x p) (e :: es) [] pos) (tCB r t) := ⟨pe_callTy hc hg hm hv ha.o hn hdb he hpl⟩
theorem q_ix {r : R2} (hr : IxR X r) (ha : QE X a ta) (hb : QE X b tb) (hs : PlainIx b := by exact fun _ _ => rfl) : QE X (.Subscript a b pos) (tOp r ta tb) := ⟨pe_ix hr ha.o hb.o hs⟩
theorem o_none : QO X none tNoPart := ⟨po_none⟩
theorem o_some (h : QE X e te) : QO X (some e) (tPart te) := ⟨po_some h.o⟩
theorem q_sl {r : V → Option Int → Option Int → Hp → VK → Prop} {lo hi : Option Expr} {tl th : TO} (hr : SlR X r) (he : QE X e te) (hl : QO X lo tl) (hu : QO X hi th) : QE X (.Subscript e (.Slice lo hi none p) pos) (tSl r te tl th) := ⟨pe_slice hr he.o hl.o hu.o⟩
theorem q_bm {T id : String} {name : Str} {r : V → List V → Hp → VK → Prop} (pa : PlainAttrs T) (slot : Slot T name id) (hty : typeOf (.builtin id) = pure (.type "method_descriptor")) (hm : MtR X id r) (ho : QE X o to) (ha : QA X (e :: es) t)
    (hbase : attributeBase o name X.env (eval o X.env) = eval o X.env := by rfl)
    (hfew : ((backTo cpos (starEach (e :: es) X.env)).all (fun x => !x.1) && (backToKw cpos (keywordEach [] X.env)).all (fun x => x.1.isSome)
      && decide ((e :: es).length + ([] : List Keyword).length + (if ([] : List Keyword).isEmpty then 0 else 1) < 30)) = true := by rfl)
    (hline : (apos.endLine == cpos.line) = true := by rfl) (hs : starEach (e :: es) X.env = (false, eval e X.env) :: starEach es X.env := by rfl) (hplain : (backTo cpos (starEach es X.env)).any (·.1) = false := by rfl) :
    QE X (.Call (.Attribute o name apos) (e :: es) [] cpos) (tBM X.K T r to t) := ⟨pe_bm pa slot hty hm ho.o ha.o hbase hfew hline hs hplain⟩
/-! iterators, targets, tests of a comprehension -/
theorem i_list {tg : Expr} (h : QE X e te) : QI X tg e (iList X.K te) := ⟨pi_list h.o⟩
theorem i_tup {tg : Expr} (h : QE X e te) : QI X tg e (iTup X.K te) := ⟨pi_tup h.o⟩
theorem i_rng1 {tg : Expr} (hm : X.mg "range" = none) (ha : QA X [a] t) (hg : Gl X "range" := by rfl) (hs : starEach [a] X.env = [(false, eval a X.env)] := by rfl) : QI X tg (.Call (.Name "range" p) [a] [] pos) (iRng1 t) := ⟨pi_range1 hg hm ha.o hs⟩
theorem i_rng2 {tg : Expr} (hm : X.mg "range" = none) (ha : QA X [a, b] t) (hg : Gl X "range" := by rfl) (hs : starEach [a, b] X.env = [(false, eval a X.env), (false, eval b X.env)] := by rfl) (hs2 : starEach [b] X.env = [(false, eval b X.env)] := by rfl) : QI X tg (.Call (.Name "range" p) [a, b] [] pos) (iRng2 t) := ⟨pi_range2 hg hm ha.o hs hs2⟩
theorem g_name (k : Nat) (hN : X.N.Nodup) (hi : X.N[k]? = some x := by rfl) (hx : X.env.scope.names.lookup x = some .local := by rfl) : QG X (.Name x pos) (gName k) := ⟨pg_name hN hi (.inl hx) (.inr hx)⟩
theorem gs_nil : QGs X [] gNil := ⟨pgs_nil⟩
theorem gs_cons {tg : TG} {tgs : TGs} (h1 : QG X e tg) (h2 : QGs X es tgs) (hs : (assignEach (e :: es) X.env).map (·.2) = assign e X.env :: (assignEach es X.env).map (·.2) := by rfl) : QGs X (e :: es) (gCons tg tgs) := ⟨pgs_cons h1.o h2.o hs⟩
theorem g_tup (n : Nat) {k : Nat} {tgs : TGs} (hc : X.calm = true) (h : QGs X es tgs) (hn : (assignEach es X.env).length = n := by rfl) (hst : (assignEach es X.env).findIdx? (·.1) = none := by rfl) : QG X (.Tuple es k pos) (gTup X.K n tgs) := ⟨pg_tup hc h.o hn hst⟩
theorem f_nil : QF X [] tYes := ⟨pif_nil⟩
theorem f_one (h : QT X c q) : QF X [c] q := ⟨pif_one h.o⟩
/-! statements -/
theorem b_nil : QB X [] tNext := ⟨pss_nil⟩
theorem b_cons {st : Stmt} {sts : List Stmt} (h1 : QS X st sa) (h2 : QB X sts sb) : QB X (st :: sts) (tSeq sa sb) := ⟨pss_cons h1.o h2.o⟩
theorem b_one {st : Stmt} (h1 : QS X st sa) : QB X [st] sa := ⟨pss_one h1.o⟩
theorem s_if {A B : List Stmt} (hc : QT X c q) (ha : QB X A sa) (hb : QB X B sb) : QS X (.If c A B pos) (tIfS q sa sb) := ⟨ps_if hc.o ha.o hb.o⟩
theorem s_ret (h : QE X e te) : QS X (.Return (some e) pos) (tRet te) := ⟨ps_ret h.o⟩
theorem s_expr (he : QE X e te) (hs : swapsWith e none pos.line X.env = pure false := by rfl) : QS X (.Expr e pos) (tDrop te) := ⟨ps_expr he.o hs⟩
theorem s_set (k : Nat) {pos' : Pos} (hN : X.N.Nodup) (he : QE X e te) (hi : X.N[k]? = some x := by rfl) (hx : X.env.scope.names.lookup x = some .local := by rfl) (hs : swapsWith e (some (.Name x pos')) pos.line X.env = pure false := by rfl) :
    QS X (.Assign [.Name x pos'] e pos) (tAsg te (gName k)) := ⟨ps_set hN hi (.inl hx) he.o hs (.inr hx)⟩
/-- a name that a comprehension captures -/
theorem s_setC (k : Nat) {pos' : Pos} (hN : X.N.Nodup) (he : QE X e te) (hi : X.N[k]? = some x := by rfl) (hx : X.env.scope.names.lookup x = some .cell := by rfl) (hf : X.fn x = true := by rfl) (hs : swapsWith e (some (.Name x pos')) pos.line X.env = pure false := by rfl) :
    QS X (.Assign [.Name x pos'] e pos) (tAsg te (gName k)) := ⟨ps_set hN hi (.inr hx) he.o hs (.inl hf)⟩
theorem s_for {tg iter : Expr} {body : List Stmt} {wi : TI} {g : TG} (hp : PassesOwn (model X.prog X.w) X.A X.env X.xe) (hc : X.calm = true) (hi : QI X tg iter wi) (hg : QG X tg g) (hb : QB X body sa)
    (hs : ∀ x, foldedSetIterable iter X.env x = pure x := by intro _; rfl) : QS X (.For tg iter body [] pos) (tForG wi g sa) := ⟨ps_forG hp hc hi.o hg.o hb.o hs⟩
end
section
variable {X : Cx} {elt tg iter : Expr} {ifs : List Expr} {scope osc : Scope} {pos : Pos} {N' : List Str} {src : List (Option Nat)} {wi : TI} {g : TG} {tc : TT} {te : TE}
theorem q_comp (ok : CompOk X.N osc N' src scope) (hsc : X.env.scope = osc) (hc : X.calm = true) (hi : QI X tg iter wi)
    (hg : ∀ cl C s₀ H₀ fp, QG (cxComp X N' scope cl C s₀ H₀ fp) tg g) (ht : ∀ cl C s₀ H₀ fp, QF (cxComp X N' scope cl C s₀ H₀ fp) ifs tc) (he : ∀ cl C s₀ H₀ fp, QE (cxComp X N' scope cl C s₀ H₀ fp) elt te)
    (hs : ∀ x, foldedSetIterable iter X.env x = pure x := by intro _; rfl) : QE X (.ListComp elt [⟨tg, iter, ifs, 0⟩] scope pos) (tComp wi g tc te src) :=
  ⟨pe_comp ok hsc hc hi.o (fun cl C s₀ H₀ fp => (hg cl C s₀ H₀ fp).o) (fun cl C s₀ H₀ fp => (ht cl C s₀ H₀ fp).o) (fun cl C s₀ H₀ fp => (he cl C s₀ H₀ fp).o) hs⟩
end
theorem Fun.okQ {P : Program} {w : World} {K : PySem.W.Frag} {mg : Str → Option Value} {base : Heap} {x qual : Str} {st : Stmt} {f : Addr} {fd : FuncData} {N ps : List Str} {k : Nat} {sp : Sp} (F : Fun K x qual st f fd) (S : FnScope N ps (defScope st)) (len : ∀ vs H Q E, sp vs H Q E → vs.length = ps.length)
    (hbody : ∀ (cdv : Value) (A : Around) (outer : List Env) (s : Shared) (H : Hp) (vs : List V) (Q : VK) (E : XK), Room k (A.deeper (envOfC qual (defScope st) s.heap.objs.size f cdv)) → sp vs H Q E →
      ∃ t, QB (cxOf CX0 P w K mg base N qual (defScope st) f cdv A outer s H E).nox (defBody st) t ∧ t { nx := fun _ H' => Q .non H', rt := Q } (start N vs) H) : FnOk P w K mg base CX0 (k + 1) f fd ps sp :=
  F.ok S len fun cdv A outer s H vs Q E hr h => let ⟨t, a, b⟩ := hbody cdv A outer s H vs Q E hr h; ⟨t, a.o, b⟩
end L2

set_option Elab.async false
set_option linter.all false
set_option maxRecDepth 100000
set_option maxHeartbeats 4000000
/-! A comprehension whose value a name of the def takes on the same row: the store comes ahead of the letting go. -/
namespace L2
open PySem PySem.Spec PyProof.Rows
theorem ns_obj {h : Heap} {a : Addr} {m : Str → Option Value} (hn : h.Ns a m) : ∃ o, h.get? a = some o ∧ ∀ v, o.data ≠ .cell v :=
  let ⟨o, es, ep, e, d, _⟩ := hn; ⟨o, e, fun v z => by rw [d] at z; cases z⟩
theorem ns_move {h h' : Heap} {a : Addr} {m : Str → Option Value} {o : Obj} (hn : h.Ns a m) (e : h.get? a = some o) (e' : h'.get? a = some o) : h'.Ns a m := by
  obtain ⟨o', es, ep, e1, r⟩ := hn
  rw [e] at e1
  cases e1
  exact ⟨o, es, ep, e', r⟩
section
variable {X : Cx} {elt tg iter : Expr} {ifs : List Expr} {scope osc : Scope} {pos : Pos} {N' : List Str} {src : List (Option Nat)} {wi : TI} {g : TG} {tc : TT} {te : TE} {y : Str} {py spos : Pos} {k : Nat}
theorem ps_setcomp (ok : CompOk X.N osc N' src scope) (hsc : X.env.scope = osc) (hc : X.calm = true) (hi : PI X tg iter wi)
    (hg : ∀ cl C s₀ H₀ fp, PG (cxComp X N' scope cl C s₀ H₀ fp) tg g) (ht : ∀ cl C s₀ H₀ fp, PIf (cxComp X N' scope cl C s₀ H₀ fp) ifs tc) (he : ∀ cl C s₀ H₀ fp, PE (cxComp X N' scope cl C s₀ H₀ fp) elt te)
    (hN : X.N.Nodup) (hk : X.N[k]? = some y) (hx : X.env.scope.names.lookup y = some .local) (hsw : swapsWith (.ListComp elt [⟨tg, iter, ifs, 0⟩] scope pos) (some (.Name y py)) spos.line X.env = pure true)
    (hs : ∀ x, foldedSetIterable iter X.env x = pure x := by intro _; rfl) : PS X (.Assign [.Name y py] (.ListComp elt [⟨tg, iter, ifs, 0⟩] scope pos) spos) (tAsg (tComp wi g tc te src) (gName k)) := by
  intro pins s σ H D I h
  obtain ⟨cl, hcl, c1, c2⟩ := closure_of (scope := scope) (env := X.env) fun y hy hyf => I.ok.has y.1 (by
    have z := ok.frees y hy hyf
    rw [← hsc] at z
    exact z)
  rw [exec_Assign_Name_used _ _ _ _ hsw]
  refine wpAny_bind (wpAny_standAt (wpAny_bind ?_))
  show wpAny _ X.A (do let _ ← comprehension (.ListComp elt [⟨tg, iter, ifs, 0⟩] scope pos) scope X.env _ (newList []) false (eval iter X.env) (some (assign (.Name y py) X.env))) _ _ s
  refine wpAny_bind (wpAny_mono (wpAny_comprehension_free (use := some (assign (.Name y py) X.env)) (Q := fun _ s' => ∃ σ' H', Inv X pins σ' H' s' ∧ D.nx σ' H') rfl hs hcl ok.kind ok.loc
    (thn (hi pins s σ H _ I h) fun v s1 h1 => thn h1 fun itv s2 h2 => ?_)) (fun _ s' hq => wpAny_pure (wpAny_pure hq)) fun _ _ e => e)
  obtain ⟨it, fp, tn, J, H2, e, I2, T, st2, f2, q2⟩ := h2
  subst e
  have hlt2 : ∀ b ∈ fp, b < s2.heap.objs.size := fun b hb => by
    obtain ⟨o, e, _⟩ := T.obj _ _ st2 b hb
    exact Heap.lt_size e
  refine wpAny_newObj_type ?_
  have hl : H2 s2.heap.objs.size = none := I2.hok.fresh (Nat.le_refl _)
  have I3 : Inv X pins σ (upd H2 s2.heap.objs.size (.lst [])) { s2 with heap := s2.heap.push { cls := .type "list", dict := none, data := .seq ([] : List Value).toArray } } :=
    I2.laid (t' := s2.toks) (fun b u e => Heap.get?_push_of_some _ e) (Nat.le_refl _) ⟨Nat.zero_le _, [], 0, .nil, Heap.get?_push_size _ rfl⟩
  obtain ⟨W, ⟨m0, w0⟩, turn⟩ := q2 _ hl
  generalize hl2 : s2.heap.objs.size = l at *
  generalize hs3 : ({ s2 with heap := s2.heap.push { cls := .type "list", dict := none, data := .seq ([] : List Value).toArray } } : Shared) = s3 at *
  have f3 : ∀ b ∈ fp, FpOk X pins (upd H2 l (.lst [])) b := fun b hb => ⟨by rw [upd_ne (Nat.ne_of_lt (hlt2 b hb))]; exact (f2 b hb).1, (f2 b hb).2⟩
  have k3 : ∀ b o, s2.heap.get? b = some o → s3.heap.get? b = some o := fun b o e => by rw [← hs3]; exact Heap.get?_push_of_some _ e
  have hlt3 : ∀ b ∈ fp, b < s3.heap.objs.size := fun b hb => by
    obtain ⟨o, e, _⟩ := T.obj _ _ st2 b hb
    exact Heap.lt_size (k3 b o e)
  refine wpAny_newFunctionEnv ok.nocell (by intro y hy; simp at hy) (fun h₁ hns₁ hsb₁ => ?_) ok.kind
  have k4 : ∀ b o, s3.heap.get? b = some o → h₁.get? b = some o := fun b o e => (hsb₁.2 b (Nat.ne_of_lt (Heap.lt_size e))).trans (Heap.get?_push_of_some _ e)
  have J0 := comp_enter (tk := s3.toks + ([] : List (Str × Value)).length) I3 f3 hlt3 ok hsc c1 c2 hns₁ k4
  have st4 : tn 0 h₁ := T.keep _ _ _ st2 fun b hb o e => k4 b o (k3 b o e)
  generalize hC : s3.heap.objs.size = C at *
  have stat : ∀ {H' : Hp}, (∀ b ∈ fp, H' b = none) → ∀ b ∈ fp, FpOk (cxComp X N' scope cl C s3 (upd H2 l (.lst [])) fp) [] H' b := fun {H'} hn b hb =>
    ⟨hn b hb, (J0.ok.exf b hb).1, J0.ok.exfs b hb, .inl hb, (J0.ok.exf b hb).2, fun p hp => absurd (show p ∈ ([] : List (Addr × Obj)) from hp) (by simp)⟩
  have loop : codeAny (model X.prog X.w) X.A (.compLoop (.ListComp elt [⟨tg, iter, ifs, 0⟩] scope pos) 0 (.ref it) (.ref l) (compEnvC scope cl C X.env))
      (compPost (model X.prog X.w) X.A X.xe (some (assign (.Name y py) X.env)) (fun _ s' => ∃ σ' H', Inv X pins σ' H' s' ∧ D.nx σ' H') (.ref l) C) { s3 with heap := h₁, toks := s3.toks + ([] : List (Str × Value)).length } := by
    refine compLoop_own (fun n s' => ∃ i ys σ' H', Inv (cxComp X N' scope cl C s3 (upd H2 l (.lst [])) fp) [] σ' H' s' ∧ tn i s'.heap ∧ (∀ b ∈ fp, H' b = none) ∧ H' l = some (.lst ys) ∧ W i n ys σ' H') ?_ m0
      ⟨0, [], _, _, J0, st4, fun b hb => (f3 b hb).1, upd_same, w0⟩
    rintro n s5 ⟨i, ys, σ5, H5, I5, st5, fr5, hl5, w5⟩
    rcases turn i n ys σ5 H5 w5 hl5 with ⟨stop, qn⟩ | ⟨go, N, hN, step⟩
    · refine thn (T.done (cxComp X N' scope cl C s3 (upd H2 l (.lst [])) fp) rfl rfl rfl hc i [] s5 σ5 H5 (fun _ _ => False) I5 (stat fr5) st5 stop) fun r s6 ⟨hr, I6⟩ => ?_
      subst hr
      obtain ⟨m, hn, _⟩ := I6.loc
      have hCs : s3.heap.objs.size ≤ C := by rw [← hC]; exact Nat.le_refl _
      have I7 : Inv X pins σ H5 s6 := comp_leave (h' := s6.heap) I3 f3 hCs I6 ⟨rfl, fun _ _ => rfl⟩
      have fC : FpOk X pins H5 C := I3.fpOk hCs I6.free
      obtain ⟨oC, eC, dC⟩ : ∃ o, s6.heap.get? C = some o ∧ ∀ v, o.data ≠ .cell v := by
        obtain ⟨o, e, d⟩ := ns_obj hn
        exact ⟨o, e, d⟩
      have I8 := I7.pinned (fp := [C]) (fun b hb => by rw [List.mem_singleton.mp hb]; exact fC) (fun b hb => by rw [List.mem_singleton.mp hb]; exact ⟨oC, eC, dC⟩)
      refine wpAny_assign_Name (store_ok (v := .ref l) I8 hN hk (.inl hx) rfl (fun s9 I9 => ?_) (.inr hx))
      have p9 := (I9.pin (C, oC) (List.mem_append_right _ (List.mem_append_right _ (mem_pinsAt (List.mem_singleton.mpr rfl) eC)))).1
      refine ⟨m, ns_move hn eC p9, fun h' hsb => ⟨_, H5, ?_, qn⟩⟩
      obtain ⟨f0, f1, f2, f3', f4, f5⟩ := fC
      exact I9.unpinned.turned (t' := s9.toks) (fun b o hb e => (hsb.2 b hb).trans e) f0 f1 f3' f4 f5
    · refine thn (T.item (cxComp X N' scope cl C s3 (upd H2 l (.lst [])) fp) rfl rfl rfl hc i [] s5 σ5 H5 (fun _ _ => False) I5 (stat fr5) st5 go) fun r s6 ⟨u, hr, h6⟩ => ?_
      subst hr
      refine thn h6 fun _ s7 ⟨x, H7, I7, r7, y7, st7, fr7⟩ => ?_
      have I7' := I7.pinned (stat fr7) (T.obj _ _ st7)
      refine thn (hg cl C s3 _ fp _ s7 σ5 H7 x u _ I7' r7 (step x H7 y7)) fun _ s8 ⟨σ8, H8, I8, q8⟩ => ?_
      refine thn (ht cl C s3 _ fp _ s8 σ8 H8 _ I8 q8) fun b s9 ⟨H9, I9, q9⟩ => ?_
      have back : ∀ {s' : Shared} {H' : Hp}, Inv (cxComp X N' scope cl C s3 (upd H2 l (.lst [])) fp) ([] ++ pinsAt fp s7.heap) σ8 H' s' → tn (i + 1) s'.heap ∧ ∀ b ∈ fp, H' b = none := fun {s' H'} I' => by
        refine ⟨T.keep _ _ _ st7 fun b hb o e => (I'.pin (b, o) (List.mem_append_right _ (List.mem_append_right _ (mem_pinsAt hb e)))).1, fun b hb => ?_⟩
        obtain ⟨o, e, d⟩ := T.obj _ _ st7 b hb
        exact (I'.pin (b, o) (List.mem_append_right _ (List.mem_append_right _ (mem_pinsAt hb e)))).2.1
      cases b with
      | false =>
        obtain ⟨hl9, n9⟩ := q9
        obtain ⟨m', hm, w9⟩ := hN _ _ _ n9
        obtain ⟨t9, fr9⟩ := back I9
        exact ⟨m', hm, i + 1, ys, σ8, H9, I9.unpinned, t9, fr9, hl9, w9⟩
      | true =>
        refine thn (he cl C s3 _ fp _ s9 σ8 H9 _ I9 q9) fun xv s10 ⟨y, H10, I10, r10, hl10, hz, n10⟩ => ?_
        obtain ⟨m', hm, w10⟩ := hN _ _ _ n10
        refine thn (mt_append (X := cxComp X N' scope cl C s3 (upd H2 l (.lst [])) fp) _ s10 σ8 H10 (.ref l) [y] (.ref l) [xv] (fun v H' => H' = upd H10 l (.lst (ys ++ [y]))) I10 rfl (.cons r10 .nil) ⟨l, ys, y, rfl, rfl, hl10, hz, rfl⟩) fun _ s11 ⟨_, H11, I11, _, e11⟩ => ?_
        subst e11
        obtain ⟨t11, fr11⟩ := back I11
        exact ⟨m', hm, i + 1, ys ++ [y], σ8, _, I11.unpinned, t11, fr11, upd_same, w10⟩
  exact codeAny_compStart_list loop (T.self _ 0 _ _ _ st4 loop)

/-- x = [..] of a comprehension -/
theorem s_setcomp (k : Nat) (ok : CompOk X.N osc N' src scope) (hsc : X.env.scope = osc) (hc : X.calm = true) (hN : X.N.Nodup) (hi : QI X tg iter wi)
    (hg : ∀ cl C s₀ H₀ fp, QG (cxComp X N' scope cl C s₀ H₀ fp) tg g) (ht : ∀ cl C s₀ H₀ fp, QF (cxComp X N' scope cl C s₀ H₀ fp) ifs tc) (he : ∀ cl C s₀ H₀ fp, QE (cxComp X N' scope cl C s₀ H₀ fp) elt te)
    (hk : X.N[k]? = some y := by rfl) (hx : X.env.scope.names.lookup y = some .local := by rfl) (hsw : swapsWith (.ListComp elt [⟨tg, iter, ifs, 0⟩] scope pos) (some (.Name y py)) spos.line X.env = pure true := by rfl)
    (hs : ∀ x, foldedSetIterable iter X.env x = pure x := by intro _; rfl) : QS X (.Assign [.Name y py] (.ListComp elt [⟨tg, iter, ifs, 0⟩] scope pos) spos) (tAsg (tComp wi g tc te src) (gName k)) :=
  ⟨ps_setcomp ok hsc hc hi.o (fun cl C s₀ H₀ fp => (hg cl C s₀ H₀ fp).o) (fun cl C s₀ H₀ fp => (ht cl C s₀ H₀ fp).o) (fun cl C s₀ H₀ fp => (he cl C s₀ H₀ fp).o) hN hk hx hsw hs⟩
end

section
variable {X : Cx} {e o i tg : Expr} {te to ti : TE} {g : TG} {pos : Pos} {x : Str} {t : TSet}
theorem s_asg (he : QE X e te) (hg : QG X tg g) (hs : swapsWithSole [tg] e pos.line X.env = pure false := by rfl) (hw : swappedStores [tg] e X.env = pure none := by rfl)
    (h1 : (assignEach [tg] X.env).map (·.2) = [assign tg X.env] := by rfl) : QS X (.Assign [tg] e pos) (tAsg te g) := ⟨ps_asg he.o hg.o hs hw h1⟩
theorem g_sub (ho : QE X o to) (hi : QE X i ti) (hs : PSet X t) (ha : ∀ v, assign (.Subscript o i pos) X.env v = (do
      let ov ← holding [v] (eval o X.env)
      let iv ← holding [v, ov] (eval i X.env)
      standAt pos
      holding [v, ov, iv] (setItem ov iv v)
      release [v, ov, iv] []) := by intro _; rfl) : QG X (.Subscript o i pos) (gSub to ti t) := ⟨pg_sub ho.o hi.o hs ha⟩
end

/-! a cut between two rows of a block -/
def tCut (t u : TS) : TS := fun D σ H => ∃ R : St → Hp → Prop, t { D with nx := R } σ H ∧ ∀ σ' H', R σ' H' → u D σ' H'
theorem b_cut {X : Cx} {st : Stmt} {sts : List Stmt} {sa sb : TS} (h1 : QS X st sa) (h2 : QB X sts sb) : QB X (st :: sts) (tCut sa sb) := by
  refine ⟨fun pins s σ H D I h => ?_⟩
  obtain ⟨R, ha, hb⟩ := h
  have h3 : PSs X sts (fun D' σ' H' => D' = D ∧ R σ' H') := fun pins s σ' H' D' I h => by
    obtain ⟨rfl, hR⟩ := h
    exact h2.o pins s σ' H' D' I (hb σ' H' hR)
  have e : (fun σ' H' => D = D ∧ R σ' H') = R := by
    funext σ' H'
    simp
  refine pss_cons h1.o h3 pins s σ H D I ?_
  show sa { D with nx := fun σ' H' => D = D ∧ R σ' H' } σ H
  rw [e]
  exact ha
section
variable {X : Cx}
/-- a text times a number from 1 on -/
theorem repS_one (z : Str) : repS z 1 = z := by
  unfold repS
  simp
theorem op_mul_strN : OpR X (binaryOp .Mult) (fun x y H Q => ∃ z n, x = .str z ∧ y = .int n ∧ 1 ≤ n ∧ n ≤ 1000 ∧ 0 < z.length ∧ z.length ≤ 1000 ∧ Q (.str (repS z n.toNat)) H) := by
  intro pins s σ H x y v u Q I rx ry h
  obtain ⟨z, n, rfl, rfl, h1, h2, h3, h4, q⟩ := h
  by_cases h : 1 < n
  · exact op_mul_str pins s σ H _ _ v u Q I rx ry ⟨z, n, rfl, rfl, h, h2, h3, h4, q⟩
  · have e : n = 1 := by omega
    subst e
    obtain ⟨t, rfl⟩ := rx
    obtain ⟨t', rfl⟩ := ry
    refine PySem.P.mul_str (by decide) (fun _ z => by simp at z) (fun _ z => by simp at z) ?_
    simp only [show ¬ (1 : Int) < 1 by decide, if_false, beq_self_eq_true, Bool.true_or, if_true]
    refine ⟨.str _, H, I, ⟨_, rfl⟩, ?_⟩
    have e : repS z (1 : Int).toNat = z := repS_one z
    rw [e] at q
    exact q
end

/-! the rules that speak of what the program was at first, with that named (for blocks) -/
section
variable {X : Cx} {K : PySem.W.Frag}
theorem call_isiK (h : X.K = K) : CallR X (.builtin "isinstance") (fun xs H Q => ∃ x T t b, xs = [x, .ty T] ∧ TyOf K H x t ∧ PySem.W.kitOne K t (.type T) = some b ∧ Q (.bl b) H) := by subst h; exact call_isi
theorem ix_listK (h : X.K = K) : IxR X (rIxL K) := by subst h; exact ix_list
theorem ix_tupK (h : X.K = K) : IxR X (rIxT K) := by subst h; exact ix_tup
theorem op_in_seqK (h : X.K = K) : OpR X (compareOp .In) (rIn K false) := by subst h; exact op_in_seq
theorem call_len2 : CallR X (.builtin "len") (fun xs H Q => (∃ p ys, xs = [.ref p] ∧ (SqL X.K H p ys ∨ SqT X.K H p ys) ∧ Q (.int ys.length) H) ∨ ∃ z, xs = [.str z] ∧ z.length ≤ sizeLine ∧ Q (.int z.length) H) := call_len_seq.or call_len_str
theorem g_tupK (n : Nat) {k : Nat} {es : List Expr} {pos : Pos} {tgs : TGs} (hK : X.K = K) (hc : X.calm = true) (h : QGs X es tgs) (hn : (assignEach es X.env).length = n := by rfl) (hst : (assignEach es X.env).findIdx? (·.1) = none := by rfl) : QG X (.Tuple es k pos) (gTup K n tgs) := by subst hK; exact g_tup n hc h hn hst
end
end L2

set_option Elab.async false
set_option linter.all false
set_option maxRecDepth 100000
set_option maxHeartbeats 4000000
/-! names: the mathematics -/
namespace RW
open PySem PySem.Spec PyProof.Rows L2
def letterC (c : Nat) : Bool := decide (97 ≤ c) && decide (c ≤ 122)
def takenL : List Str := ["if", "and", "not", "never"]
def isNameB (x : Str) : Bool := decide (1 ≤ x.length) && decide (x.length ≤ 8) && x.cps.toList.all letterC && !(takenL.any fun y => decide (y = x))
/-- a hand stands at a, with at most n turns -/
def Hand (H : Hp) (a : Addr) (n : Int) : Prop := ∃ x m t : Int, H a = some (.lst [.int x, .int m, .int t]) ∧ 0 ≤ m ∧ m < 2 ^ 63 ∧ 0 ≤ t ∧ t ≤ n
/-- all but what stands at a is kept -/
def Keep (a : Addr) (H H' : Hp) : Prop := ∀ b o, b ≠ a → H b = some o → H' b = some o
theorem Keep.trans {a : Addr} {H H1 H2 : Hp} (x : Keep a H H1) (y : Keep a H1 H2) : Keep a H H2 := fun b o n h => y b o n (x b o n h)
theorem Keep.upd (a : Addr) (H : Hp) (o : HO) : Keep a H (upd H a o) := fun b u n h => by rw [upd_ne n]; exact h
theorem Keep.new {a p : Addr} {H : Hp} {o : HO} (h : H p = none) : Keep a H (L2.upd H p o) := fun b u n e => by rw [upd_ne (ne_of_none e h)]; exact e
theorem Keep.of {a : Addr} {H H' : Hp} (h : Same H H') : Keep a H H' := fun b o _ e => h b o e
theorem Hand.ne {H : Hp} {a p : Addr} {n : Int} (h : Hand H a n) (e : H p = none) : p ≠ a := by
  obtain ⟨x, m, t, h, _⟩ := h
  exact fun z => by rw [z, h] at e; cases e
theorem Hand.new {H : Hp} {a p : Addr} {n : Int} {o : HO} (h : Hand H a n) (e : H p = none) : Hand (upd H p o) a n := by
  have ne := h.ne e
  obtain ⟨x, m, t, h, r⟩ := h
  exact ⟨x, m, t, by rw [upd_ne (Ne.symm ne)]; exact h, r⟩
theorem Hand.same {H H' : Hp} {a : Addr} {n : Int} (h : Hand H a n) (s : Same H H') : Hand H' a n := by
  obtain ⟨x, m, t, h, r⟩ := h
  exact ⟨x, m, t, s _ _ h, r⟩
theorem Hand.mono {H : Hp} {a : Addr} {n n' : Int} (h : Hand H a n) (l : n ≤ n') : Hand H a n' := by
  obtain ⟨x, m, t, h, h1, h2, h3, h4⟩ := h
  exact ⟨x, m, t, h, h1, h2, h3, by omega⟩
theorem Keep.sqL {K : PySem.W.Frag} {a b : Addr} {H H' : Hp} {xs : List V} (k : Keep a H H') (n : b ≠ a) (h : SqL K H b xs) : SqL K H' b xs := by
  rcases h with (h | ⟨o, h⟩) | h
  · exact .inl (.inl (k _ _ n h))
  · exact .inl (.inr ⟨o, k _ _ n h⟩)
  · exact .inr h
theorem Hand.updNe {H : Hp} {a p : Addr} {n : Int} {o : HO} (h : Hand H a n) (e : p ≠ a) : Hand (upd H p o) a n := by
  obtain ⟨x, m, t, h, r⟩ := h
  exact ⟨x, m, t, by rw [upd_ne (Ne.symm e)]; exact h, r⟩
theorem Keep.updNew {a p : Addr} {H H' : Hp} {o : HO} (k : Keep a H H') (e : H p = none) : Keep a H (L2.upd H' p o) := fun b u n h => by
  rw [upd_ne (ne_of_none h e)]
  exact k b u n h
def lettersS : Str := "abcdefghijklmnopqrstuvwxyz"
def one (c : Nat) : Str := ⟨#[c]⟩

theorem Same.new {H : Hp} {p : Addr} {o : HO} (h : H p = none) : Same H (L2.upd H p o) := fun b u e => by rw [upd_ne (ne_of_none e h)]; exact e
/-- a def of the text: its address, its object, its name -/
structure At (K : PySem.W.Frag) (mg : Str → Option Value) (x : Str) (st : Stmt) (ps : List Str) (f : Addr) (fd : FuncData) : Prop where
  fn : Fun K x x st f fd
  b : Binds K fd ps []
  mg : mg x = some (.ref f)
  kp : PySem.W.keepIn K (.ref f) = true
theorem atI_mem {α : Type} {xs : List α} {d : Int} (h0 : 0 ≤ d) (h1 : d < xs.length) : ∃ v, atI xs d = some v ∧ v ∈ xs := by
  obtain ⟨k, rfl⟩ : ∃ k : Nat, d = (k : Int) := ⟨d.toNat, by omega⟩
  have hk : k < xs.length := by omega
  exact ⟨xs[k], atI_nat (by simp [hk]), List.getElem_mem hk⟩
theorem at0 {α : Type} {x : α} {xs : List α} : atI (x :: xs) 0 = some x := atI_nat (j := 0) rfl
/-! things of any kind -/
inductive D where
  | non | bl (b : Bool) | int (i : Int) | str (x : Str) | tup (ds : List D) | oth
inductive Rep (H : Hp) : V → D → Prop where
  | non : Rep H .non .non
  | bl (b : Bool) : Rep H (.bl b) (.bl b)
  | int (i : Int) : Rep H (.int i) (.int i)
  | str (x : Str) (h : x.length ≤ 1000) : Rep H (.str x) (.str x)
  | tup {p : Addr} {vs : List V} {ds : List D} (h : H p = some (.tup vs)) (l : vs.length = ds.length) (b : ds.length ≤ 1000) (r : ∀ (i : Nat) (v : V) (d : D), vs[i]? = some v → ds[i]? = some d → Rep H v d) : Rep H (.ref p) (.tup ds)
  | lst {p : Addr} {vs : List V} (h : H p = some (.lst vs)) : Rep H (.ref p) .oth
  | dK {p : Addr} {kvs : List (Key × V)} (h : H p = some (.dK kvs)) : Rep H (.ref p) .oth
structure Mono (H H' : Hp) : Prop where
  tup : ∀ p xs, H p = some (.tup xs) → H' p = some (.tup xs)
  lst : ∀ p xs, H p = some (.lst xs) → ∃ ys, H' p = some (.lst ys)
  dK : ∀ p xs, H p = some (.dK xs) → ∃ ys, H' p = some (.dK ys)
theorem Mono.trans {H H1 H2 : Hp} (a : Mono H H1) (b : Mono H1 H2) : Mono H H2 := ⟨fun p xs h => b.tup p xs (a.tup p xs h), fun p xs h => let ⟨ys, e⟩ := a.lst p xs h; b.lst p ys e, fun p xs h => let ⟨ys, e⟩ := a.dK p xs h; b.dK p ys e⟩
theorem Mono.of {H H' : Hp} (s : Same H H') : Mono H H' := ⟨fun p xs h => s _ _ h, fun p xs h => ⟨xs, s _ _ h⟩, fun p xs h => ⟨xs, s _ _ h⟩⟩
theorem Mono.keep {H H' : Hp} {a : Addr} {n m : Int} (k : Keep a H H') (h : Hand H a n) (h' : Hand H' a m) : Mono H H' := by
  obtain ⟨x, y, z, h, _⟩ := h
  obtain ⟨x', y', z', h', _⟩ := h'
  refine ⟨fun q zs e => ?_, fun q zs e => ?_, fun q zs e => ?_⟩
  · exact k q _ (fun hq => by subst hq; rw [h] at e; cases e) e
  · by_cases hq : q = a
    · subst hq; exact ⟨_, h'⟩
    · exact ⟨zs, k q _ hq e⟩
  · exact ⟨zs, k q _ (fun hq => by subst hq; rw [h] at e; cases e) e⟩
def RepL (H : Hp) (vs : List V) (ds : List D) : Prop := vs.length = ds.length ∧ ∀ (i : Nat) (v : V) (d : D), vs[i]? = some v → ds[i]? = some d → Rep H v d
theorem Rep.mkL {H : Hp} {p : Addr} {vs : List V} {ds : List D} (h : H p = some (.tup vs)) (b : ds.length ≤ 1000) (r : RepL H vs ds) : Rep H (.ref p) (.tup ds) := .tup h r.1 b r.2
def isTupB : D → Bool | .tup _ => true | _ => false
def isStrB : D → Bool | .str _ => true | _ => false
/-! what the program asks of things -/
def isNumB : D → Bool | .int _ => true | _ => false
def isWholeB (d : D) (lo hi : Int) : Bool := match d with | .int i => decide (lo ≤ i) && decide (i ≤ hi) | _ => false
def headStrB : D → Bool | .tup (.str _ :: _) => true | _ => false
def isNameD : D → Bool | .str x => isNameB x | _ => false
def namingL : List Str := ["by", "from", "to", "mark"]
def isPlainB : D → Bool
  | .tup [.str w, x] => if w = "long" then isWholeB x 0 99 else (namingL.any fun y => decide (y = w)) && isNameD x
  | _ => false
def isCondB (d : D) : Bool := match d with
  | .tup [.str w, x] => if w = "not" then isPlainB x else isPlainB d
  | _ => false
def areCondsB : D → Bool | .tup ds => decide (ds.length ≤ 4) && ds.all isCondB | _ => false
def asks0 : D → Bool | .tup [.str w, _] => decide (w = "to") | _ => false
def asksB : D → Bool | .tup [.str w, x] => if w = "not" then asks0 x else decide (w = "to") | _ => false
def isWorthB : D → Bool | .non => true | d => isWholeB d (-999) 999
def anyAsks : D → Bool | .tup ds => ds.any asksB | _ => false
def isLikingB : D → Bool | .tup [c, x] => areCondsB c && isWorthB x && !anyAsks c | _ => false
def isActB : D → Bool
  | .tup [.str w] => decide (w = "keep")
  | .tup [.str w, x] => (decide (w = "put") || decide (w = "strike")) && isNameD x
  | _ => false
def isHandB : D → Bool | .tup [c, x] => areCondsB c && isActB x | _ => false

theorem cut_take {xs : List V} {n : Nat} : cutV xs none (some (n : Int)) = xs.take n := by
  unfold cutV
  have e1 : HT.sIx xs.length 0 none = 0 := rfl
  have e2 : HT.sIx xs.length xs.length (some (n : Int)) = min n xs.length := by
    unfold HT.sIx
    have h : ¬ (n : Int) < 0 := by omega
    simp only [if_neg h, Int.toNat_natCast]
  rw [e1, e2, List.drop_zero, Nat.sub_zero, List.take_eq_take_iff]
  omega

end RW

set_option Elab.async false
set_option linter.all false
set_option maxRecDepth 100000
set_option maxHeartbeats 4000000
/-! a tuple times a number from 2 on -/
namespace L2
open PySem PySem.Spec PyProof.Rows
open Sem (wp)
open MeetsSeq MeetsSeq2 MeetsSeq3 Builtin
end L2

set_option Elab.async false
set_option linter.all false
set_option maxRecDepth 100000
set_option maxHeartbeats 4000000
/-! displays: what is written out of things, nothing but new things laid -/
namespace L2
open PySem PySem.Spec PyProof.Rows
theorem q_dnew {X : Cx} {pos : Pos} : QE X (.Dict [] [] pos) tDNewK := ⟨pe_dnewK⟩
end L2
namespace RW
open PySem PySem.Spec PyProof.Rows L2
section
variable {te tf : TE} {ta : TA} {σ : L2.St} {H : Hp} {d : D} {ds es : List D} {K : PySem.W.Frag}
end
section
variable {te : TE} {tr : TA} {tb : TS} {De : Ends} {σ : L2.St} {H : Hp} {ds : List D} {d : D} {k : Nat}
end
end RW

set_option Elab.async false
set_option linter.all false
set_option maxRecDepth 100000
set_option maxHeartbeats 4000000
/-! the sort, asked of unlike things in a strict order: it puts them so -/
namespace RW
open PySem PySem.W PyProof.Rows L2
section
variable {α β : Type} {N : Nat} {lt : Nat → Nat → Bool}
def OkT (N : Nat) (lt : Nat → Nat → Bool) {α : Type} : KasT α → (α → Prop) → Prop
  | .ret a, P => P a
  | .ask i j k, P => i < N ∧ j < N ∧ OkT N lt (k (lt i j)) P
theorem OkT.mono {P Q : α → Prop} (h : ∀ a, P a → Q a) : ∀ {t : KasT α}, OkT N lt t P → OkT N lt t Q
  | .ret a, q => h a q
  | .ask i j k, ⟨h1, h2, q⟩ => ⟨h1, h2, OkT.mono h q⟩
theorem OkT.bind {f : α → KasT β} {P : β → Prop} : ∀ {t : KasT α}, OkT N lt t (fun a => OkT N lt (f a) P) → OkT N lt (t.bind f) P
  | .ret a, q => q
  | .ask i j k, ⟨h1, h2, q⟩ => ⟨h1, h2, OkT.bind q⟩
theorem OkT.wp {cmp : Nat → Nat → (Bool → Shared → Prop) → Shared → Prop} {I : Shared → Prop} (hc : ∀ i j (C : Bool → Shared → Prop) s, i < N → j < N → I s → (∀ s', I s' → C (lt i j) s') → cmp i j C s) {P : α → Prop} {Q : α → Shared → Prop} (hq : ∀ a s, P a → I s → Q a s) :
    ∀ {t : KasT α} {s : Shared}, I s → OkT N lt t P → t.kasWp cmp Q s
  | .ret a, s, hs, q => hq a s q hs
  | .ask i j k, s, hs, ⟨h1, h2, q⟩ => hc i j _ s h1 h2 hs fun s' hs' => OkT.wp hc hq hs' q
abbrev gd (p : Array Nat) (i : Nat) : Nat := p.getD i 0
structure Strict (N : Nat) (lt : Nat → Nat → Bool) : Prop where
  tot : ∀ i j, i < N → j < N → i ≠ j → lt i j = false → lt j i = true
  tr : ∀ i j k, i < N → j < N → k < N → lt i j = true → lt j k = true → lt i k = true
  asy : ∀ i j, i < N → j < N → lt i j = true → lt j i = false
def PermN (N : Nat) (p : Array Nat) : Prop := p.toList.Perm (List.range N)
theorem PermN.size {p : Array Nat} (h : PermN N p) : p.size = N := by
  have := h.length_eq
  simpa using this
theorem gd_get {p : Array Nat} {i : Nat} (h : i < p.size) : gd p i = p[i] := by simp [gd, Array.getD, h]
theorem gd_opt {p q : Array Nat} {i j : Nat} (h : p[i]? = q[j]?) : gd p i = gd q j := by
  simp only [gd, Array.getD_eq_getD_getElem?, h]
theorem PermN.bd {p : Array Nat} (h : PermN N p) {i : Nat} (hi : i < N) : gd p i < N := by
  have hs := h.size
  rw [gd_get (by omega)]
  have : p[i] ∈ p.toList := by simp
  exact List.mem_range.mp (h.mem_iff.mp this)
theorem PermN.inj {p : Array Nat} (h : PermN N p) {i j : Nat} (hi : i < N) (hj : j < N) (hij : i ≠ j) : gd p i ≠ gd p j := by
  have hs := h.size
  have nd : p.toList.Nodup := h.nodup_iff.mpr List.nodup_range
  rw [gd_get (by omega), gd_get (by omega)]
  intro z
  exact hij ((List.getElem_inj (i := i) (j := j) (h₀ := by simp; omega) (h₁ := by simp; omega) nd).mp (by simpa using z))
def Sor (lt : Nat → Nat → Bool) (p : Array Nat) (m : Nat) : Prop := ∀ i j, i < j → j < m → lt (gd p i) (gd p j) = true
def Des (lt : Nat → Nat → Bool) (p : Array Nat) (m : Nat) : Prop := ∀ i j, i < j → j < m → lt (gd p j) (gd p i) = true
theorem Sor.snoc {p : Array Nat} {n : Nat} (S : Strict N lt) (hp : PermN N p) (h : Sor lt p n) (h1 : 1 ≤ n) (hn : n < N) (e : lt (gd p (n - 1)) (gd p n) = true) : Sor lt p (n + 1) := by
  intro i j hij hj
  by_cases hjn : j < n
  · exact h i j hij hjn
  · have ej : j = n := by omega
    subst ej
    by_cases hi : i = j - 1
    · subst hi; exact e
    · exact S.tr _ _ _ (hp.bd (by omega)) (hp.bd (by omega)) (hp.bd hn) (h i (j - 1) (by omega) (by omega)) e
theorem Des.snoc {p : Array Nat} {n : Nat} (S : Strict N lt) (hp : PermN N p) (h : Des lt p n) (h1 : 1 ≤ n) (hn : n < N) (e : lt (gd p n) (gd p (n - 1)) = true) : Des lt p (n + 1) := by
  intro i j hij hj
  by_cases hjn : j < n
  · exact h i j hij hjn
  · have ej : j = n := by omega
    subst ej
    by_cases hi : i = j - 1
    · subst hi; exact e
    · exact S.tr _ _ _ (hp.bd hn) (hp.bd (by omega)) (hp.bd (by omega)) e (h i (j - 1) (by omega) (by omega))
theorem asc_ok {p : Array Nat} (S : Strict N lt) (hp : PermN N p) : ∀ f n, 1 ≤ n → n + f ≤ N → Sor lt p n → OkT N lt (kas_asc p f n) (fun m => n ≤ m ∧ m ≤ n + f ∧ Sor lt p m ∧ (m < n + f → lt (gd p m) (gd p (m - 1)) = true))
  | 0, n, _, _, hs => ⟨Nat.le_refl _, Nat.le_refl _, hs, fun h => by omega⟩
  | f + 1, n, h1, hn, hs => by
    refine ⟨hp.bd (by omega), hp.bd (by omega), ?_⟩
    cases hc : lt (gd p n) (gd p (n - 1)) with
    | true =>
      show OkT N lt (if true = true then _ else _) _
      rw [if_pos rfl]
      exact ⟨Nat.le_refl _, by omega, hs, fun _ => hc⟩
    | false =>
      show OkT N lt (if false = true then _ else _) _
      rw [if_neg (by decide)]
      refine OkT.mono (fun m hm => ⟨by omega, by omega, hm.2.2.1, fun h => hm.2.2.2 (by omega)⟩) (asc_ok S hp f (n + 1) (by omega) (by omega) (hs.snoc S hp h1 (by omega) (S.tot _ _ (hp.bd (by omega)) (hp.bd (by omega)) (hp.inj (by omega) (by omega) (by omega)) hc)))
theorem desc_ok {p : Array Nat} (S : Strict N lt) (hp : PermN N p) : ∀ f n, 1 ≤ n → n + f ≤ N → Des lt p n → OkT N lt (kas_desc f p n 0) (fun r => r.1 = p ∧ n ≤ r.2.1 ∧ r.2.1 ≤ n + f ∧ Des lt p r.2.1 ∧ r.2.2 = 0)
  | 0, n, _, _, hs => ⟨rfl, Nat.le_refl _, Nat.le_refl _, hs, rfl⟩
  | f + 1, n, h1, hn, hs => by
    refine ⟨hp.bd (by omega), hp.bd (by omega), ?_⟩
    cases hc : lt (gd p n) (gd p (n - 1)) with
    | true =>
      show OkT N lt (if true = true then (if 0 > 0 then _ else _) else _) _
      rw [if_pos rfl, if_neg (by decide)]
      exact OkT.mono (fun m hm => ⟨hm.1, by omega, by omega, hm.2.2.2⟩) (desc_ok S hp f (n + 1) (by omega) (by omega) (hs.snoc S hp h1 (by omega) hc))
    | false =>
      show OkT N lt (if false = true then _ else _) _
      rw [if_neg (by decide)]
      refine ⟨hp.bd (by omega), hp.bd (by omega), ?_⟩
      have hd : lt (gd p (n - 1)) (gd p n) = true := S.tot _ _ (hp.bd (by omega)) (hp.bd (by omega)) (hp.inj (by omega) (by omega) (by omega)) hc
      show OkT N lt (if lt (gd p (n - 1)) (gd p n) = true then _ else _) _
      rw [if_pos hd]
      exact ⟨rfl, Nat.le_refl _, by show n ≤ n + (f + 1); omega, hs, rfl⟩
theorem rev_perm {p : Array Nat} (hp : PermN N p) (n : Nat) : PermN N (kas_rev p 0 n) := (Array.perm_iff_toList_perm.mp (mirror_perm p 0 n _)).trans hp
theorem rev_sor {p : Array Nat} {n : Nat} (hp : PermN N p) (hn : n ≤ N) (h : Des lt p n) : Sor lt (kas_rev p 0 n) n := by
  have hs := hp.size
  have e : ∀ k, k < n → gd (kas_rev p 0 n) k = gd p (n - 1 - k) := fun k hk => by
    refine gd_opt ?_
    show (mirror p 0 n ((n - 0) / 2))[k]? = _
    rw [getElem?_mirror_all (by omega), if_pos ⟨Nat.zero_le _, hk⟩, Nat.zero_add]
  intro i j hij hj
  rw [e i (by omega), e j hj]
  exact h (n - 1 - j) (n - 1 - i) (by omega) (by omega)
def CountP (N : Nat) (lt : Nat → Nat → Bool) (r : Nat × Array Nat) : Prop := PermN N r.2 ∧ Sor lt r.2 r.1 ∧ 1 ≤ r.1 ∧ r.1 ≤ N
theorem tail3_ok {p : Array Nat} {n : Nat} (S : Strict N lt) (hp : PermN N p) (h1 : 1 ≤ n) (hn : n ≤ N) (h : Des lt p n) : OkT N lt (kas_tail3 n N p) (CountP N lt) := by
  refine OkT.bind (OkT.mono (fun m hm => ?_) (asc_ok S (rev_perm hp n) (N - n) n h1 (by omega) (rev_sor hp hn h)))
  exact ⟨rev_perm hp n, hm.2.2.1, by have := hm.1; omega, by have := hm.2.1; omega⟩
theorem count_ok {p : Array Nat} (S : Strict N lt) (hp : PermN N p) (h1 : 1 ≤ N) : OkT N lt (kas_count N p) (CountP N lt) := by
  refine OkT.bind (OkT.mono (fun n hn => ?_) (asc_ok S hp (N - 1) 1 (Nat.le_refl _) (by omega) (fun i j hij hj => by omega)))
  obtain ⟨n1, n2, hs, hl⟩ := hn
  by_cases hN : (n == N) = true
  · rw [if_pos hN]
    exact ⟨hp, hs, n1, by omega⟩
  · have hne : n ≠ N := by simpa using hN
    rw [if_neg hN]
    by_cases h2 : n > 1
    · rw [if_pos h2]
      refine ⟨hp.bd (by omega), hp.bd (by omega), ?_⟩
      show OkT N lt (if lt (gd p 0) (gd p (n - 1)) = true then _ else _) _
      rw [if_pos (hs 0 (n - 1) (by omega) (by omega))]
      exact ⟨hp, hs, n1, by omega⟩
    · rw [if_neg h2]
      have e1 : n = 1 := by omega
      subst e1
      have hd : Des lt p 2 := fun i j hij hj => by
        have ei : i = 0 := by omega
        have ej : j = 1 := by omega
        subst ei ej
        exact hl (by omega)
      refine OkT.bind (OkT.mono (fun r hr => ?_) (desc_ok S hp (N - (1 + 1)) (1 + 1) (by omega) (by omega) hd))
      obtain ⟨e1, r1, r2, r3, r4⟩ := hr
      rw [if_neg (by omega), e1]
      exact tail3_ok S hp (by omega) (by omega) r3
theorem place_ok {p : Array Nat} {k : Nat} (S : Strict N lt) (hp : PermN N p) (hs : Sor lt p k) (hk : k < N) : ∀ f l r, l ≤ r → r ≤ k → r - l ≤ f → (∀ i, i < l → lt (gd p i) (gd p k) = true) → (∀ i, r ≤ i → i < k → lt (gd p k) (gd p i) = true) →
    OkT N lt (kas_place p k f l r) (fun m => m ≤ k ∧ (∀ i, i < m → lt (gd p i) (gd p k) = true) ∧ ∀ i, m ≤ i → i < k → lt (gd p k) (gd p i) = true)
  | 0, l, r, h1, h2, h3, ha, hb => ⟨by omega, ha, fun i hi => hb i (by omega)⟩
  | f + 1, l, r, h1, h2, h3, ha, hb => by
    by_cases hlr : l ≥ r
    · show OkT N lt (if l ≥ r then _ else _) _
      rw [if_pos hlr]
      exact ⟨by omega, ha, fun i hi => hb i (by omega)⟩
    · show OkT N lt (if l ≥ r then _ else _) _
      rw [if_neg hlr]
      refine ⟨hp.bd hk, hp.bd (by omega), ?_⟩
      cases hc : lt (gd p k) (gd p ((l + r) / 2)) with
      | true =>
        show OkT N lt (if true = true then _ else _) _
        rw [if_pos rfl]
        refine place_ok S hp hs hk f l ((l + r) / 2) (by omega) (by omega) (by omega) ha fun i hi hik => ?_
        by_cases e : i = (l + r) / 2
        · subst e; exact hc
        · exact S.tr _ _ _ (hp.bd hk) (hp.bd (by omega)) (hp.bd (by omega)) hc (hs ((l + r) / 2) i (by omega) hik)
      | false =>
        show OkT N lt (if false = true then _ else _) _
        rw [if_neg (by decide)]
        have hm : lt (gd p ((l + r) / 2)) (gd p k) = true := S.tot _ _ (hp.bd hk) (hp.bd (by omega)) (hp.inj hk (by omega) (by omega)) hc
        refine place_ok S hp hs hk f ((l + r) / 2 + 1) r (by omega) h2 (by omega) (fun i hi => ?_) hb
        by_cases e : i = (l + r) / 2
        · subst e; exact hm
        · exact S.tr _ _ _ (hp.bd (by omega)) (hp.bd (by omega)) (hp.bd hk) (hs i ((l + r) / 2) (by omega) (by omega)) hm
theorem bubble_sor {p : Array Nat} {k l : Nat} (hp : PermN N p) (hk : k < N) (hl : l ≤ k) (hs : Sor lt p k) (ha : ∀ i, i < l → lt (gd p i) (gd p k) = true) (hb : ∀ i, l ≤ i → i < k → lt (gd p k) (gd p i) = true) : Sor lt (bubble p k (k - l)) (k + 1) := by
  have hz := hp.size
  have g : ∀ i, (bubble p k (k - l))[i]? = if i = l then p[k]? else if l < i ∧ i ≤ k then p[i - 1]? else p[i]? := fun i => by
    rw [getElem?_bubble (by omega) (k - l) (by omega), show k - (k - l) = l by omega]
  have g1 : gd (bubble p k (k - l)) l = gd p k := gd_opt (by rw [g, if_pos rfl])
  have g2 : ∀ i, l < i → i ≤ k → gd (bubble p k (k - l)) i = gd p (i - 1) := fun i h1 h2 => gd_opt (by rw [g, if_neg (by omega), if_pos ⟨h1, h2⟩])
  have g3 : ∀ i, i < l → gd (bubble p k (k - l)) i = gd p i := fun i h1 => gd_opt (by rw [g, if_neg (by omega), if_neg (by omega)])
  intro i j hij hj
  rcases Nat.lt_trichotomy i l with hi | hi | hi
  · rw [g3 i hi]
    rcases Nat.lt_trichotomy j l with h | h | h
    · rw [g3 j h]; exact hs i j hij (by omega)
    · subst h; rw [g1]; exact ha i hi
    · rw [g2 j h (by omega)]; exact hs i (j - 1) (by omega) (by omega)
  · subst hi
    rw [g1, g2 j hij (by omega)]
    exact hb (j - 1) (by omega) (by omega)
  · rw [g2 i hi (by omega), g2 j (by omega) (by omega)]
    exact hs (i - 1) (j - 1) (by omega) (by omega)
theorem bin_ok (S : Strict N lt) : ∀ f (p : Array Nat) k, PermN N p → Sor lt p k → k + f = N → OkT N lt (kas_bin f p k) (fun p' => PermN N p' ∧ Sor lt p' N)
  | 0, p, k, hp, hs, hk => ⟨hp, by have : k = N := by omega
                                   rw [← this]; exact hs⟩
  | f + 1, p, k, hp, hs, hk => by
    refine OkT.bind (OkT.mono (fun l hl => ?_) (place_ok S hp hs (by omega) k 0 k (Nat.zero_le _) (Nat.le_refl _) (by omega) (fun i hi => by omega) (fun i hi hik => by omega)))
    exact bin_ok S f _ (k + 1) ((Array.perm_iff_toList_perm.mp (bubble_perm p k _)).trans hp) (bubble_sor hp (by omega) hl.1 hs hl.2.1 hl.2.2) (by omega)
theorem sort_ok (S : Strict N lt) (h1 : 1 ≤ N) : OkT N lt (kas_sort N) (fun p => PermN N p ∧ Sor lt p N) := by
  have h0 : PermN N (List.toArray (List.range N)) := by show (List.range N).Perm _; exact List.Perm.refl _
  refine OkT.bind (OkT.mono (fun r hr => ?_) (count_ok S h0 h1))
  obtain ⟨c1, c2, c3, c4⟩ := hr
  by_cases h : r.1 < N
  · rw [if_pos h]
    have e : max r.1 1 = r.1 := by omega
    rw [e]
    exact bin_ok S _ _ _ c1 c2 (by omega)
  · rw [if_neg h]
    have e : r.1 = N := by omega
    rw [e] at c2
    exact ⟨c1, c2⟩
end
end RW

set_option Elab.async false
set_option linter.all false
set_option maxRecDepth 100000
set_option maxHeartbeats 4000000
/-! the keys of a dict, whatever they are, walked -/
namespace L2
open PySem PySem.W PySem.Spec PyProof.Rows
def RawD (h : Heap) (d : Addr) (ks : List Value) (ep : Nat) : Prop := ∃ o es, h.get? d = some o ∧ o.ExactDict ∧ o.data = .dict es ep ∧ es.toList.map (·.key) = ks
theorem RawD.ty {s : Shared} {d : Addr} {ks : List Value} {ep : Nat} (x : RawD s.heap d ks ep) : s.TypeIs (.ref d) "dict" := let ⟨o, _, ho, hc, _⟩ := x; ⟨o, ho, hc.1⟩
section
variable {prog : Program} {w : World} {A : Around} {E : Value → Shared → Prop} {s : Shared} {it d : Addr} {i ep : Nat} {ks : List Value}
theorem raw_iter {R : Value → Shared → Prop} (nsys : (d == sysModules) = false) (x : RawD s.heap d ks ep) (q : R (.ref s.heap.objs.size) { s with heap := s.heap.push { cls := .type "dict_keyiterator", data := .fields #[.ref d, .int 0 0, .int ks.length 0, .int ep 0] } }) :
    wpAny (model prog w) A (pyIter (.ref d)) R E s := by
  have ty := x.ty
  obtain ⟨o, es, ho, _, hdat, hks⟩ := x
  refine wpAny_pyIter_slot ty PySem.F.slot_dict_iter (wpAny_call_entry PySem.F.slot_dict_iter ty PySem.F.entry_dict_iter ?_ (PySem.F.args_dict_iter_1 _))
  unfold Builtin.«dict.__iter__»
  refine wpAny_bind (by unfold Builtin.Dict.dictSlotNone; refine wpAny_bind (wpAny_notOrdered_dict ty ?_); show wpAny _ _ (pure (Value.ref d)) _ _ s; exact wpAny_pure (by
    show wpAny _ _ (Builtin.Dict.showsAll d >>= _) _ _ s
    unfold Builtin.Dict.showsAll
    rw [if_neg (fun z => by rw [nsys] at z; cases z)]
    refine wpAny_bind (wpAny_pure (wpAny_bind (wpAny_dictEntries ho hdat (wpAny_bind (wpAny_dictEpoch ho hdat ?_)))))
    have sz : es.size = ks.length := by rw [← hks]; simp
    refine wpAny_bind (wpAny_newObj_type (wpAny_pure ⟨_, rfl, "dict_keyiterator", _, ⟨_, Heap.get?_push_size _ rfl, rfl⟩, PySem.F.slot_dict_keyiterator_next.lookup, ?_⟩))
    simpa [rawInt, sz] using q))
theorem raw_next {R : Option Value → Shared → Prop} {key : Value} (y : s.heap.IsKeyIter it d i ks.length ep) (x : RawD s.heap d ks ep) (hx : ks[i]? = some key)
    (q : ∀ h', h'.IsKeyIter it d (i + 1) ks.length ep → Heap.SameBut it s.heap h' → R (some key) { s with heap := h' }) : wpAny (model prog w) A (pyNext (.ref it)) R E s := by
  obtain ⟨o, ho, hc, hd⟩ := id y
  obtain ⟨od, es, hod, _, hdd, hks⟩ := x
  have sz : es.size = ks.length := by rw [← hks]; simp
  have li : i < ks.length := by
    rcases Nat.lt_or_ge i ks.length with h | h
    · exact h
    · rw [List.getElem?_eq_none h] at hx; cases hx
  have li' : i < es.size := by omega
  have ek : es[i].key = key := by
    have e1 : ks[i]? = some es[i].key := by rw [← hks]; simp [li']
    rw [e1] at hx; exact Option.some.inj hx
  unfold pyNext
  refine wpAny_bind (wpAny_attempt (wpAny_callSpecial?_slot (name := Str.ofString "__next__") y.typeIs PySem.F.slot_dict_keyiterator_next (wpAny_call_entry PySem.F.slot_dict_keyiterator_next y.typeIs PySem.F.entry_dict_keyiterator_next ?_ (PySem.F.args_dict_keyiterator_next_1 _))))
  refine wpAny_bind (wpAny_pure (wpAny_bind (wpAny_bind ?_)))
  first | refine wpAny_bind (wpAny_typeNameOfWhole_keyiter y.typeIs (wpAny_pure ?_)) | refine wpAny_bind (wpAny_typeNameOf_keyiter y.typeIs (wpAny_pure ?_))
  refine wpAny_bind (wpAny_fieldsOf ho hd ?_)
  simp only [(by decide : Builtin.Dict_items.ownsTuple "dict_keyiterator" = false), Bool.false_eq_true, if_false]
  show wpAny _ _ (if (Value.ref d == Value.none) = true then _ else _) _ _ s
  rw [if_neg (fun z => nomatch z)]
  refine wpAny_bind (wpAny_pure (wpAny_bind (wpAny_dictEntries hod hdd ?_)))
  rw [if_neg (fun z => by rw [sz] at z; simp at z)]
  refine wpAny_bind (wpAny_pure (wpAny_bind (wpAny_dictEpoch hod hdd ?_)))
  rw [if_neg (fun z => by simp at z)]
  refine wpAny_pure ?_
  simp only [(by omega : ¬ ((i : Int) < 0)), if_false, Int.toNat_natCast, Array.getElem?_eq_getElem li']
  refine wpAny_bind ?_
  first | refine wpAny_bind (wpAny_typeNameOfWhole_keyiter y.typeIs (wpAny_pure ?_)) | refine wpAny_bind (wpAny_typeNameOf_keyiter y.typeIs (wpAny_pure ?_))
  refine wpAny_bind (wpAny_isOneOf_keyiter y.typeIs ?_)
  show wpAny _ _ (setField (.ref it) 1 (rawInt ((i : Int) + 1)) >>= _) _ _ s
  refine wpAny_bind (wpAny_setField ho hd (by simp) ?_)
  have y' : (s.heap.update it (Obj.mapFields (·.setIfInBounds 1 (rawInt ((i : Int) + 1))))).IsKeyIter it d (i + 1) ks.length ep := ⟨_, Heap.get?_update_self _ ho (Obj.isFreed_of_fields (Obj.data_mapFields hd _)), (Obj.cls_mapFields ..).trans hc, by rw [Obj.data_mapFields hd]; simp [rawInt]⟩
  refine wpAny_bind (wpAny_holding (wpAny_bind (wpAny_isOneOf_keyiter (s := { s with heap := s.heap.update it (Obj.mapFields (·.setIfInBounds 1 (rawInt ((i : Int) + 1)))) }) y'.typeIs ?_)))
  show wpAny _ _ (pure es[i].key) _ _ _
  rw [ek]
  exact wpAny_pure (wpAny_pure ⟨_, rfl, wpAny_pure (q _ y' (Heap.SameBut.update ..))⟩)
theorem raw_end {R : Option Value → Shared → Prop} (hh : A.handled = none) (y : s.heap.IsKeyIter it d ks.length ks.length ep) (x : RawD s.heap d ks ep) (q : ∀ h', Heap.ExtBut it s.heap h' → R none { s with heap := h' }) : wpAny (model prog w) A (pyNext (.ref it)) R E s := by
  obtain ⟨o, ho, hc, hd⟩ := id y
  obtain ⟨od, es, hod, _, hdd, hks⟩ := x
  have sz : es.size = ks.length := by rw [← hks]; simp
  unfold pyNext
  refine wpAny_bind (wpAny_attempt (wpAny_callSpecial?_slot (name := Str.ofString "__next__") y.typeIs PySem.F.slot_dict_keyiterator_next (wpAny_call_entry PySem.F.slot_dict_keyiterator_next y.typeIs PySem.F.entry_dict_keyiterator_next ?_ (PySem.F.args_dict_keyiterator_next_1 _))))
  refine wpAny_bind (wpAny_pure (wpAny_bind (wpAny_bind ?_)))
  first | refine wpAny_bind (wpAny_typeNameOfWhole_keyiter y.typeIs (wpAny_pure ?_)) | refine wpAny_bind (wpAny_typeNameOf_keyiter y.typeIs (wpAny_pure ?_))
  refine wpAny_bind (wpAny_fieldsOf ho hd ?_)
  simp only [(by decide : Builtin.Dict_items.ownsTuple "dict_keyiterator" = false), Bool.false_eq_true, if_false]
  show wpAny _ _ (if (Value.ref d == Value.none) = true then _ else _) _ _ s
  rw [if_neg (fun z => nomatch z)]
  refine wpAny_bind (wpAny_pure (wpAny_bind (wpAny_dictEntries hod hdd ?_)))
  rw [if_neg (fun z => by rw [sz] at z; simp at z)]
  refine wpAny_bind (wpAny_pure (wpAny_bind (wpAny_dictEpoch hod hdd ?_)))
  rw [if_neg (fun z => by simp at z)]
  refine wpAny_pure ?_
  simp only [(by omega : ¬ ((ks.length : Int) < 0)), if_false, Int.toNat_natCast, Array.getElem?_eq_none (show es.size ≤ ks.length by omega)]
  refine wpAny_bind ?_
  first | refine wpAny_bind (wpAny_typeNameOfWhole_keyiter y.typeIs (wpAny_pure ?_)) | refine wpAny_bind (wpAny_typeNameOf_keyiter y.typeIs (wpAny_pure ?_))
  show wpAny _ _ (setField (.ref it) 0 .none >>= _) _ _ s
  refine wpAny_bind (wpAny_setField ho hd (by simp) ?_)
  show wpAny _ _ (newExc (.type "StopIteration") [] >>= _) _ _ _
  refine wpAny_bind (by
    simp only [newExc, newTuple]
    refine wpAny_bind (wpAny_newObj_type (wpAny_bind (m := firstArgMember _ _) (wpAny_of_eq (a := Value.none) (by first | rfl | (simp only [firstArgMember]; rfl)) (wpAny_newObj_type ?_ (by size_fits)))) (by size_fits))
    simp only [raiseNew]
    refine wpAny_bind (wpAny_handled ?_)
    rw [show A.in1.handled = none from hh]
    refine wpAny_bind (wpAny_pure (wpAny_throw ?_)); refine wpAny_bind (wpAny_isInstance (T := "StopIteration") (b := true) ⟨_, Heap.get?_push_size _ rfl, rfl⟩ isSubtype_stop ?_)
    exact wpAny_pure (q _ (((Heap.SameBut.update ..).extBut.push _).push _)))
end
end L2

set_option Elab.async false
set_option linter.all false
set_option maxRecDepth 100000
set_option maxHeartbeats 4000000
/-! sorted, of things that are asked for their order -/
namespace L2
open PySem PySem.W PySem.Spec PyProof.Rows
section
variable {prog : Program} {w : World} {A : Around} {E : Value → Shared → Prop} {s : Shared}
/-- s1 is s but for the heap, where all but what stands at a is kept -/
def Kp (a : Addr) (s s1 : Shared) : Prop := s1 = { s with heap := s1.heap } ∧ ∀ b o, b ≠ a → s.heap.get? b = some o → s1.heap.get? b = some o
theorem lsort_raw {a : Addr} {vs : List Value} {n : Nat} {R : PySem.Fin → Shared → Prop} {G : Array Nat → Prop} {κ : SortKind} (ho : s.heap.get? a = some (seqObj "list" vs.toArray n)) (h64 : vs.length < 64)
    (hk : 2 ≤ vs.length → ∀ s1 : Shared, Kp a s s1 → (∀ C : SortKind → Shared → Prop, C κ s1 → wpAny (model prog w) A (keyKind' vs.toArray) C E s1) ∧ (kas_sort vs.length).kasWp (kas_ask prog w A κ vs) (fun p s' => s' = s1 ∧ G p) s1)
    (q : ∀ (out : List Value) (h' : Heap) (c : Nat), (vs.length < 2 ∧ out = vs ∨ ∃ p : Array Nat, p.size = vs.length ∧ G p ∧ out = p.toList.map fun i => vs.getD i Value.none) → (∀ b o, b ≠ a → s.heap.get? b = some o → h'.get? b = some o) →
      h'.get? a = some (seqObj "list" out.toArray c) → R (.done (.ret .none)) { s with heap := h' }) : wpAny (model prog w) A (Builtin.«list.sort» ⟨[.ref a], []⟩) R E s := by
  have la : a < s.heap.objs.size := Heap.lt_size ho
  have lz : vs.toArray.size = vs.length := List.size_toArray ..
  have u1 := Heap.SameBut.update s.heap a (Obj.mapSeq fun _ => (#[] : Array Value))
  obtain ⟨e1, g1⟩ : ∃ e1, (s.heap.update a (Obj.mapSeq fun _ => (#[] : Array Value))).get? a = some (seqObj "list" #[] e1) := ⟨_, get?_update_seq ho fun _ => #[]⟩
  rw [list_sort_plain]
  refine wpAny_bind (listItems_at ho rfl (wpAny_bind (listUpdate_at ho rfl (wpAny_bind (seqEpoch_at g1 rfl (wpAny_bind (wpAny_newTuple (wpAny_bind (wpAny_newList (wpAny_holding ?_) (Nat.zero_le _))) (by show vs.length ≤ _; rw [sizeLine_eq]; omega))))) (by rw [lz, sizeLine_eq]; omega) (Nat.zero_le _))))
  generalize hs1 : ({ s with heap := ((s.heap.update a (Obj.mapSeq fun _ => (#[] : Array Value))).push (seqObj "tuple" vs.toArray 0)).push (seqObj "list" #[] 0) } : Shared) = s1
  have kp : ∀ b o, (s.heap.update a (Obj.mapSeq fun _ => (#[] : Array Value))).get? b = some o → s1.heap.get? b = some o := fun b o e => by rw [← hs1]; exact Heap.get?_push_of_some _ (Heap.get?_push_of_some _ e)
  have k1 : Kp a s s1 := ⟨by rw [← hs1], fun b o nb e => kp b o ((u1.2 b nb).trans e)⟩
  have g2 : s1.heap.get? a = some (seqObj "list" #[] e1) := kp a _ g1
  dsimp only
  -- the end
  have fin : ∀ (st : SortSt) (out : List Value), (arrOf st).map (·.2) = out.toArray → failedOf st = none → out.length < 64 → (vs.length < 2 ∧ out = vs ∨ ∃ p : Array Nat, p.size = vs.length ∧ G p ∧ out = p.toList.map fun i => vs.getD i Value.none) →
      wpAny (model prog w) A (do
        let touched := (← seqEpoch a) != e1
        Builtin.List.listUpdate (.ref a) fun _ => (arrOf st).map (·.2)
        if let some e := failedOf st then rule "list.sort.comparison-raised"; throw e
        if touched then rule "list.sort.modified"; raiseError "ValueError" "list modified during sort"
        ret .none) R E s1 := by
    intro st out ho hf hl hc
    rw [ho]
    have u2 := Heap.SameBut.update s1.heap a (Obj.mapSeq fun _ => out.toArray)
    obtain ⟨c2, g3⟩ : ∃ c2, (s1.heap.update a (Obj.mapSeq fun _ => out.toArray)).get? a = some (seqObj "list" out.toArray c2) := ⟨_, get?_update_seq g2 fun _ => out.toArray⟩
    refine wpAny_bind (seqEpoch_at g2 rfl (wpAny_bind (listUpdate_at g2 rfl ?_ (Nat.zero_le _) (by show out.toArray.size ≤ _; rw [List.size_toArray, sizeLine_eq]; omega))))
    rw [hf]
    simp only [bne_self_eq_false, Bool.false_eq_true, if_false]
    have := q out _ c2 hc (fun b o nb e => (u2.2 b nb).trans (k1.2 b o nb e)) g3
    rw [k1.1]
    exact wpAny_pure this
  by_cases h2 : vs.toArray.size < 2
  · rw [if_pos h2, if_pos h2]
    refine wpAny_bind (wpAny_pure ?_)
    rw [StateT.run_pure]
    refine wpAny_bind (wpAny_pure ?_)
    refine fin _ vs ?_ rfl h64 (.inl ⟨by omega, rfl⟩)
    apply Array.toList_inj.mp
    show ((vs.toArray.zip vs.toArray).map (·.2)).toList = _
    rw [Array.toList_map, Array.toList_zip]
    exact List.map_snd_zip (Nat.le_refl _)
  · rw [if_neg h2, if_neg h2]
    obtain ⟨hkk, hw⟩ := hk (by omega) s1 k1
    refine wpAny_bind (hkk _ ?_)
    refine wpAny_bind (wpAny_mono (kat_run (E := E) (Q := fun st' s' => s' = s1 ∧ ∃ p : Array Nat, p.size = vs.length ∧ arrOf st' = p.map (kas_item (vs.toArray.zip vs.toArray)) ∧ failedOf st' = none ∧ G p) rfl (by omega) h64 (fun p st' s' x1 x2 x3 x4 => ⟨x4.1, p, x1, x2, x3, x4.2⟩) hw) ?_ fun _ _ e => e)
    rintro ⟨⟨⟩, st'⟩ s' ⟨rfl, p, hp, har, hf, hG⟩
    refine fin st' (p.toList.map fun i => vs.getD i Value.none) (kat_snds rfl har) hf (by rw [List.length_map, Array.length_toList, hp]; exact h64) (.inr ⟨p, hp, hG, rfl⟩)
end
end L2

set_option Elab.async false
set_option linter.all false
set_option maxRecDepth 100000
set_option maxHeartbeats 4000000
/-! texts and pairs of texts in order -/
namespace L2
open PySem PySem.W PySem.Spec PyProof.Rows
abbrev ltS (x y : Str) : Bool := decide (x.cps.toList < y.cps.toList)
def ltP (p q : Str × Str) : Bool := if p.1 = q.1 then (if p.2 = q.2 then false else ltS p.2 q.2) else ltS p.1 q.1
theorem lex_tri : ∀ (a b : List Nat), a ≠ b → ¬ a < b → b < a
  | [], [], h, _ => absurd rfl h
  | [], b :: bs, _, h => absurd (List.nil_lt_cons b bs) h
  | a :: as, [], _, _ => List.nil_lt_cons a as
  | a :: as, b :: bs, h, hn => by
    rw [List.cons_lt_cons_iff] at hn ⊢
    rcases Nat.lt_trichotomy a b with q | q | q
    · exact absurd (.inl q) hn
    · subst q
      exact .inr ⟨rfl, lex_tri as bs (fun z => h (by rw [z])) (fun z => hn (.inr ⟨rfl, z⟩))⟩
    · exact .inl q
theorem lex_tr : ∀ {a b c : List Nat}, a < b → b < c → a < c
  | _, [], _, h, _ => absurd h (by simp)
  | _, _ :: _, [], _, h => absurd h (by simp)
  | [], _ :: _, c :: cs, _, _ => List.nil_lt_cons c cs
  | a :: as, b :: bs, c :: cs, h1, h2 => by
    rw [List.cons_lt_cons_iff] at h1 h2 ⊢
    rcases h1 with h1 | ⟨rfl, h1⟩
    · rcases h2 with h2 | ⟨rfl, h2⟩
      · exact .inl (by omega)
      · exact .inl h1
    · rcases h2 with h2 | ⟨rfl, h2⟩
      · exact .inl h2
      · exact .inr ⟨rfl, lex_tr h1 h2⟩
theorem lex_irr : ∀ (a : List Nat), ¬ a < a
  | [], h => absurd h (by simp)
  | a :: as, h => by
    rw [List.cons_lt_cons_iff] at h
    rcases h with h | ⟨_, h⟩
    · omega
    · exact lex_irr as h
theorem cps_inj {x y : Str} (h : x.cps.toList = y.cps.toList) : x = y := by
  cases x; cases y
  simp only [Str.mk.injEq]
  exact Array.toList_inj.mp h
theorem ltS_tri {x y : Str} (h : x ≠ y) (e : ltS x y = false) : ltS y x = true := decide_eq_true (lex_tri _ _ (fun z => h (cps_inj z)) (of_decide_eq_false e))
theorem ltS_tr {x y z : Str} (h1 : ltS x y = true) (h2 : ltS y z = true) : ltS x z = true := decide_eq_true (lex_tr (of_decide_eq_true h1) (of_decide_eq_true h2))
theorem ltS_irr (x : Str) : ltS x x = false := decide_eq_false (lex_irr _)
theorem ltS_asy {x y : Str} (h : ltS x y = true) : ltS y x = false := decide_eq_false fun z => lex_irr _ (lex_tr (of_decide_eq_true h) z)
theorem ltS_ne {x y : Str} (h : ltS x y = true) : x ≠ y := fun z => by rw [z, ltS_irr] at h; cases h
section
variable {X : Cx}

theorem paired_get {α β : Type} {R : α → β → Prop} : ∀ {as : List α} {bs : List β}, Paired R as bs → as.length = bs.length ∧ ∀ (i : Nat) (a : α) (b : β), as[i]? = some a → bs[i]? = some b → R a b
  | _, _, .nil => ⟨rfl, fun i a b e => by simp at e⟩
  | _, _, .cons h t => by
    obtain ⟨h1, h2⟩ := paired_get t
    refine ⟨by simp [h1], fun i a b e1 e2 => ?_⟩
    cases i with
    | zero => simp at e1 e2; subst e1; subst e2; exact h
    | succ i => exact h2 i a b (by simpa using e1) (by simpa using e2)
end
end L2

set_option Elab.async false
set_option linter.all false
set_option maxRecDepth 100000
set_option maxHeartbeats 4000000
namespace L2
open PySem PySem.W PySem.Spec PyProof.Rows
/-! min, max of two texts -/
def valS (a c : Str) (t u : Tok) (i : Nat) : Value := if i = 0 then .str a t else .str c u
section
variable {prog : Program} {w : World} {A : Around} {E : Value → Shared → Prop} {s : Shared}
theorem two_at {a c : Str} {t u : Tok} {i : Nat} {v : Value} (h : (#[Value.str a t, Value.str c u])[i]? = some v) : (i = 0 ∧ v = .str a t) ∨ (i = 1 ∧ v = .str c u) := by
  match i, h with
  | 0, h => exact .inl ⟨rfl, by simpa using h.symm⟩
  | 1, h => exact .inr ⟨rfl, by simpa using h.symm⟩
  | i + 2, h => simp at h
theorem max_two_strs {a c : Str} {t u : Tok} {R : Value → Shared → Prop} (hh : A.handled = none) (q : ∀ h' tk, (∀ b o, s.heap.get? b = some o → h'.get? b = some o) → R (if ltS a c = true then .str c u else .str a t) { s with heap := h', toks := tk }) :
    wpAny (model prog w) A (call (.builtin "max") [.str a t, .str c u]) R E s := by
  have hT : (s.heap.push { cls := .type "tuple", data := .seq #[.str a t, .str c u] }).IsTuple s.heap.objs.size #[.str a t, .str c u] := ⟨_, Heap.get?_push_size _ rfl, rfl, 0, rfl⟩
  have z : (s.heap.push { cls := .type "tuple", data := .seq #[.str a t, .str c u] }).objs.size = s.heap.objs.size + 1 := Heap.size_push ..
  refine call_max_two (wpAny_pyIter_tuple hT ?_)
  refine ⟨_, [_, s.heap.objs.size], [_], _, _, _, fun i j => ltS (strOf (valS a c t u j)) (strOf (valS a c t u i)), rfl, Walks.tuple (A := A.in1) hh _ s.heap.objs.size (by rw [z]; exact Nat.ne_of_lt (Nat.lt_succ_self _)) #[.str a t, .str c u], ⟨⟨_, Heap.get?_push_size _ rfl, rfl, rfl⟩, hT.push _⟩, fun b hb => ?_, (by decide : 0 < 2), ?_, fun v h' tk hP hk => ?_⟩
  · show b < ((s.heap.push _).push _).objs.size
    rw [Heap.size_push, z]
    rcases List.mem_cons.mp hb with rfl | hb
    · rw [z]; exact Nat.lt_succ_self _
    · rcases List.mem_cons.mp hb with rfl | hb
      · exact Nat.lt_succ_of_lt (Nat.lt_succ_self _)
      · cases hb
  · intro i j vi vj s' R' E' hi hj hq
    rcases two_at hi with ⟨rfl, rfl⟩ | ⟨rfl, rfl⟩ <;> rcases two_at hj with ⟨rfl, rfl⟩ | ⟨rfl, rfl⟩ <;> exact (PySem.P.gt_str hq : wpAny (model prog w) A.in1 (compareOp .Gt _ _) R' E' s')
  · have keep : ∀ b o, s.heap.get? b = some o → h'.get? b = some o := fun b o e => hk b o (fun hm => by
      rcases List.mem_cons.mp hm with e1 | hm
      · have lb := Heap.lt_size e
        rw [e1, z] at lb
        exact absurd lb (Nat.not_lt.mpr (Nat.le_succ _))
      · cases hm) (Heap.get?_push_of_some _ (Heap.get?_push_of_some _ e))
    have fin := q h' tk keep
    have eb : argBest (fun i j => ltS (strOf (valS a c t u j)) (strOf (valS a c t u i))) (2 - 1) = if ltS a c = true then 1 else 0 := rfl
    have hP' : (#[Value.str a t, Value.str c u])[if ltS a c = true then 1 else 0]? = some v := hP
    by_cases hc : ltS a c = true
    · rw [if_pos hc] at hP' fin
      have ev : Value.str c u = v := by simpa using hP'
      rw [← ev]; exact fin
    · rw [if_neg hc] at hP' fin
      have ev : Value.str a t = v := by simpa using hP'
      rw [← ev]; exact fin
theorem min_two_strs {a c : Str} {t u : Tok} {R : Value → Shared → Prop} (hh : A.handled = none) (q : ∀ h' tk, (∀ b o, s.heap.get? b = some o → h'.get? b = some o) → R (if ltS c a = true then .str c u else .str a t) { s with heap := h', toks := tk }) :
    wpAny (model prog w) A (call (.builtin "min") [.str a t, .str c u]) R E s := by
  have hT : (s.heap.push { cls := .type "tuple", data := .seq #[.str a t, .str c u] }).IsTuple s.heap.objs.size #[.str a t, .str c u] := ⟨_, Heap.get?_push_size _ rfl, rfl, 0, rfl⟩
  have z : (s.heap.push { cls := .type "tuple", data := .seq #[.str a t, .str c u] }).objs.size = s.heap.objs.size + 1 := Heap.size_push ..
  refine call_min_two (wpAny_pyIter_tuple hT ?_)
  refine ⟨_, [_, s.heap.objs.size], [_], _, _, _, fun i j => ltS (strOf (valS a c t u i)) (strOf (valS a c t u j)), rfl, Walks.tuple (A := A.in1) hh _ s.heap.objs.size (by rw [z]; exact Nat.ne_of_lt (Nat.lt_succ_self _)) #[.str a t, .str c u], ⟨⟨_, Heap.get?_push_size _ rfl, rfl, rfl⟩, hT.push _⟩, fun b hb => ?_, (by decide : 0 < 2), ?_, fun v h' tk hP hk => ?_⟩
  · show b < ((s.heap.push _).push _).objs.size
    rw [Heap.size_push, z]
    rcases List.mem_cons.mp hb with rfl | hb
    · rw [z]; exact Nat.lt_succ_self _
    · rcases List.mem_cons.mp hb with rfl | hb
      · exact Nat.lt_succ_of_lt (Nat.lt_succ_self _)
      · cases hb
  · intro i j vi vj s' R' E' hi hj hq
    rcases two_at hi with ⟨rfl, rfl⟩ | ⟨rfl, rfl⟩ <;> rcases two_at hj with ⟨rfl, rfl⟩ | ⟨rfl, rfl⟩ <;> exact (lt_str hq : wpAny (model prog w) A.in1 (compareOp .Lt _ _) R' E' s')
  · have keep : ∀ b o, s.heap.get? b = some o → h'.get? b = some o := fun b o e => hk b o (fun hm => by
      rcases List.mem_cons.mp hm with e1 | hm
      · have lb := Heap.lt_size e
        rw [e1, z] at lb
        exact absurd lb (Nat.not_lt.mpr (Nat.le_succ _))
      · cases hm) (Heap.get?_push_of_some _ (Heap.get?_push_of_some _ e))
    have fin := q h' tk keep
    have eb : argBest (fun i j => ltS (strOf (valS a c t u i)) (strOf (valS a c t u j))) (2 - 1) = if ltS c a = true then 1 else 0 := rfl
    have hP' : (#[Value.str a t, Value.str c u])[if ltS c a = true then 1 else 0]? = some v := hP
    by_cases hc : ltS c a = true
    · rw [if_pos hc] at hP' fin
      have ev : Value.str c u = v := by simpa using hP'
      rw [← ev]; exact fin
    · rw [if_neg hc] at hP' fin
      have ev : Value.str a t = v := by simpa using hP'
      rw [← ev]; exact fin
end

section
variable {X : Cx}
theorem call_max2S (hc : X.calm = true) : CallR X (.builtin "max") (fun xs H Q => ∃ a c, xs = [.str a, .str c] ∧ Q (.str (if ltS a c = true then c else a)) H) := by
  intro pins s σ H xs us Q I r h
  obtain ⟨i, j, rfl, q⟩ := h
  obtain ⟨u, w', rfl, ⟨t, rfl⟩, ⟨t', rfl⟩⟩ := vals2 r
  refine max_two_strs (I.ok.hd hc) fun h' tk k => ⟨_, H, I.kept k, ?_, q⟩
  by_cases hj : ltS i j = true
  · rw [if_pos hj, if_pos hj]; exact ⟨_, rfl⟩
  · rw [if_neg hj, if_neg hj]; exact ⟨_, rfl⟩
theorem call_min2S (hc : X.calm = true) : CallR X (.builtin "min") (fun xs H Q => ∃ a c, xs = [.str a, .str c] ∧ Q (.str (if ltS c a = true then c else a)) H) := by
  intro pins s σ H xs us Q I r h
  obtain ⟨i, j, rfl, q⟩ := h
  obtain ⟨u, w', rfl, ⟨t, rfl⟩, ⟨t', rfl⟩⟩ := vals2 r
  refine min_two_strs (I.ok.hd hc) fun h' tk k => ⟨_, H, I.kept k, ?_, q⟩
  by_cases hj : ltS j i = true
  · rw [if_pos hj, if_pos hj]; exact ⟨_, rfl⟩
  · rw [if_neg hj, if_neg hj]; exact ⟨_, rfl⟩
end
end L2

set_option Elab.async false
set_option linter.all false
set_option maxRecDepth 100000
set_option maxHeartbeats 4000000
namespace L2
open PySem PySem.W PySem.Spec PyProof.Rows
section
open PySem.SeqAt
open PySem.AutoSeq1 (wpAny_loadPart')
open PySem.MeetsSeq PySem.MeetsSeq2 PySem.MeetsSeq3
end

section
variable {X : Cx} {K : PySem.W.Frag}
end

section
open PySem.AutoSeq1 (wpAny_loadPart')
end
section
variable {X : Cx} {K : PySem.W.Frag}
theorem hu1 {k : Nat} {A : Around} (r : Room k A) : A.units + 1 < cLine := by have := r.units; omega
end
section
variable {X : Cx} {a b o i value : Expr} {x y : Str} {px py pt pt2 pos pos' : Pos} {kt k2 : Nat} {ta : TA} {td ty tv : TE}
theorem s_par (m n : Nat) (hN : X.N.Nodup) (ha : QA X [a, b] ta) (hc : X.calm = true := by rfl) (hi : X.N[m]? = some x := by rfl) (hj : X.N[n]? = some y := by rfl) (hij : m ≠ n := by decide)
    (hx : X.env.scope.names.lookup x = some .local := by rfl) (hy : X.env.scope.names.lookup y = some .local := by rfl)
    (hw : swappedStores [.Tuple [.Name x px, .Name y py] kt pt] (.Tuple [a, b] k2 pt2) X.env = pure (some [x, y]) := by rfl)
    (hs : swapsWithSole [.Tuple [.Name x px, .Name y py] kt pt] (.Tuple [a, b] k2 pt2) pos.line X.env = pure false := by rfl) :
    QS X (.Assign [.Tuple [.Name x px, .Name y py] kt pt] (.Tuple [a, b] k2 pt2) pos) (tPar m n ta) := ⟨ps_par hc hN hi hj hij hx hy ha.o hw hs⟩
theorem s_dput (hu : X.A.units + 1 < cLine) (ho : QE X o td) (hi : QE X i ty) (hv : QE X value tv) (hs : swapsWith value (some (.Subscript o i pos')) pos.line X.env = pure false := by rfl) :
    QS X (.Assign [.Subscript o i pos'] value pos) (sDPut td ty tv) := ⟨ps_dput hu ho.o hi.o hv.o hs⟩
theorem q_dnewT : QE X (.Dict [] [] pos) tDNewT := ⟨pe_dnewT⟩
end
end L2

set_option Elab.async false
set_option linter.all false
set_option maxRecDepth 100000
set_option maxHeartbeats 4000000
/-! towns: the mathematics -/
namespace RW
open PySem PySem.Spec PyProof.Rows L2
/-- the order of things that are_houses and are_ties ask for -/
def ltD : D → D → Bool
  | .str x, .str y => ltS x y
  | .tup [.str a, .str b], .tup [.str c, .str d] => ltP (a, b) (c, d)
  | _, _ => false
/-- each less than the next -/
def risingB (ds : List D) : Bool := (List.range (ds.length - 1)).all fun k => ltD (ds.getD k .non) (ds.getD (k + 1) .non)
def areHousesB : D → Bool | .tup ds => decide (1 ≤ ds.length) && decide (ds.length ≤ 10) && ds.all isNameD && risingB ds | _ => false
def areLikingsB : D → Bool | .tup ds => decide (ds.length ≤ 90) && ds.all isLikingB | _ => false
def areHandsB : D → Bool | .tup ds => decide (ds.length ≤ 90) && ds.all isHandB | _ => false
end RW
namespace RW
open PySem PySem.Spec PyProof.Rows L2
/-! unlike names -/
theorem repS_list (z : Str) (n : Nat) : (repS z n).cps.toList = (List.replicate n z.cps.toList).flatten := by
  unfold repS
  have key : ∀ (k : Nat) (acc : Array Nat), ((List.replicate k z.cps).foldl (· ++ ·) acc).toList = acc.toList ++ (List.replicate k z.cps.toList).flatten := by
    intro k
    induction k with
    | zero => intro acc; simp
    | succ k ih => intro acc; rw [List.replicate_succ, List.foldl_cons, ih, List.replicate_succ, List.flatten_cons, Array.toList_append, List.append_assoc]
  have := key n #[]
  simpa using this
theorem repS_one_list (c n : Nat) : (repS (one c) n).cps.toList = List.replicate n c := by
  rw [repS_list]
  show (List.replicate n [c]).flatten = _
  induction n with
  | zero => rfl
  | succ n ih => rw [List.replicate_succ, List.flatten_cons, ih, List.replicate_succ]; rfl
/-- all of one letter -/
def sameB (x : Str) : Bool := x.cps.toList.all fun c => some c == x.cps.toList.head?
theorem same_rep (c n : Nat) : sameB (repS (one c) n) = true := by
  unfold sameB
  rw [repS_one_list]
  cases n with
  | zero => rfl
  | succ n =>
    rw [List.all_eq_true]
    intro d hd
    rw [List.eq_of_mem_replicate hd]
    simp [List.replicate_succ]
def keptL : List Str := ["goal", "to", "by", "houses", "tie", "like", "hand", "keep", "put", "mark", "long", "from", "strike"]
theorem kept_ok : ∀ x ∈ keptL, isNameB x = true := by decide +kernel
theorem kept_same : ∀ x ∈ keptL, sameB x = false := by decide +kernel
theorem reps_ok : ∀ c ∈ lettersS.cps.toList, ∀ k ∈ List.range 8, isNameB (repS (one c) (k + 1)) = true := by decide +kernel
theorem letters_len : lettersS.length = 26 := by decide +kernel
theorem letters_at : ∀ k ∈ List.range 26, lettersS.cps.toList[k]? = some (97 + k) := by decide +kernel
theorem one_len (c : Nat) : (one c).length = 1 := rfl
def steps : List Nat := [1, 3, 5, 7, 9, 11]
theorem steps_nd : ∀ f ∈ List.range 26, ∀ st ∈ steps, ((List.range 13).map fun k => (f + st * k) % 26).Nodup := by decide +kernel
def nmS (f st k : Nat) : Str := repS (one (97 + (f + st * k) % 26)) (1 + (k * k + f) % 8)
def kwS (sp k : Nat) : Str := keptL.getD ((sp + 3 * k) % 13) ""
def nameS (f st sp j k : Nat) : Str := if k < j then kwS sp k else nmS f st k
theorem kws_nd : ∀ sp ∈ List.range 13, ((List.range 4).map fun k => kwS sp k).Nodup := by decide +kernel
theorem kw_mem (sp k : Nat) : kwS sp k ∈ keptL := by
  unfold kwS
  have h : (sp + 3 * k) % 13 < keptL.length := Nat.mod_lt _ (by decide)
  simp [List.getD, h]
theorem nd_ne {α : Type} {l : List α} (h : l.Nodup) {i j : Nat} (hi : i < l.length) (hj : j < l.length) (hij : i ≠ j) : l[i] ≠ l[j] := fun z => hij ((List.getElem_inj h).mp z)
theorem names_nodup {f st sp j m : Nat} (hf : f < 26) (hst : st ∈ steps) (hsp : sp < 13) (hj : j ≤ 4) (hm : m ≤ 13) : ((List.range m).map (nameS f st sp j)).Nodup := by
  have key : ∀ a b, a < b → b < 13 → nameS f st sp j a ≠ nameS f st sp j b := by
    intro a b hab hb
    unfold nameS
    by_cases h1 : a < j
    · rw [if_pos h1]
      by_cases h2 : b < j
      · rw [if_pos h2]
        have := nd_ne (kws_nd sp (List.mem_range.mpr hsp)) (i := a) (j := b) (by simp; omega) (by simp; omega) (by omega)
        simpa using this
      · rw [if_neg h2]
        intro z
        have e1 := kept_same _ (kw_mem sp a)
        rw [z] at e1
        unfold nmS at e1
        rw [same_rep] at e1
        cases e1
    · rw [if_neg h1, if_neg (by omega)]
      intro z
      have hh : (nmS f st a).cps.toList.head? = (nmS f st b).cps.toList.head? := by rw [z]
      unfold nmS at hh
      rw [repS_one_list, repS_one_list, Nat.add_comm 1, Nat.add_comm 1, List.replicate_succ, List.replicate_succ] at hh
      simp only [List.head?_cons, Option.some.injEq] at hh
      have := nd_ne (steps_nd f (List.mem_range.mpr hf) st hst) (i := a) (j := b) (by simp; omega) (by simp; omega) (by omega)
      simp at this
      omega
  rw [List.nodup_iff_pairwise_ne, List.pairwise_map]
  refine List.Pairwise.imp_of_mem (fun {a b} ha hb hab => ?_) (List.pairwise_lt_range (n := m))
  exact key a b hab (by have := List.mem_range.mp hb; omega)

theorem nm_ok (f st k : Nat) : isNameB (nmS f st k) = true := by
  unfold nmS
  rw [Nat.add_comm 1]
  have hr : (f + st * k) % 26 < 26 := Nat.mod_lt _ (by decide)
  exact reps_ok _ (List.mem_of_getElem? (letters_at _ (List.mem_range.mpr hr))) _ (List.mem_range.mpr (Nat.mod_lt _ (by decide)))
theorem name_ok (f st sp j k : Nat) : isNameB (nameS f st sp j k) = true := by
  unfold nameS
  split
  · exact kept_ok _ (kw_mem sp k)
  · exact nm_ok f st k
theorem name_set {f st sp j m : Nat} (hj : j < m) : ((List.range m).map (nameS f st sp j)).set j (kwS sp j) = (List.range m).map (nameS f st sp (j + 1)) := by
  apply List.ext_getElem?
  intro i
  rw [List.getElem?_set]
  by_cases e : j = i
  · subst e
    rw [if_pos rfl, if_pos (by simp; exact hj)]
    simp [hj, nameS]
  · rw [if_neg e]
    rcases Nat.lt_or_ge i m with h | h
    · rw [List.getElem?_map, List.getElem?_map, List.getElem?_range h]
      show some _ = some _
      congr 1
      unfold nameS
      by_cases h1 : i < j
      · rw [if_pos h1, if_pos (by omega)]
      · rw [if_neg h1, if_neg (by omega)]
    · rw [List.getElem?_eq_none (by simpa using h), List.getElem?_eq_none (by simpa using h)]
theorem kept_at {sp k : Nat} : keptL[(sp + 3 * k) % 13]? = some (kwS sp k) := by
  unfold kwS
  have h : (sp + 3 * k) % 13 < keptL.length := Nat.mod_lt _ (by decide)
  simp [List.getD, h]

theorem cut_drop {xs : List V} {m : Nat} : cutV xs (some (m : Int)) none = xs.drop m := by
  unfold cutV
  have e1 : HT.sIx xs.length xs.length none = xs.length := rfl
  have e2 : HT.sIx xs.length 0 (some (m : Int)) = min m xs.length := by
    unfold HT.sIx
    have h : ¬ (m : Int) < 0 := by omega
    simp only [if_neg h, Int.toNat_natCast]
  rw [e1, e2]
  rcases Nat.lt_or_ge m xs.length with h | h
  · rw [Nat.min_eq_left (by omega), List.take_of_length_le (by rw [List.length_drop]; omega)]
  · rw [Nat.min_eq_right h, List.drop_of_length_le (Nat.le_refl _), List.drop_of_length_le h]; simp
/-! a town as it is drawn -/
structure TownOk (g : Str) (hs : List Str) (ps : List (Str × Str)) (lks hds : List D) : Prop where
  rise : hs.Pairwise (fun a b => ltS a b = true)
  one : 1 ≤ hs.length
  ten : hs.length ≤ 10
  names : ∀ x ∈ hs, isNameB x = true
  goal : g ∈ hs
  riseP : ps.Pairwise (fun a b => ltP a b = true)
  ties : ∀ p ∈ ps, p.1 ∈ hs ∧ p.2 ∈ hs ∧ ltS p.1 p.2 = true
  ll : lks.length = hs.length
  lh : hds.length = hs.length
  likes : ∀ d ∈ lks, areLikingsB d = true
  hands : ∀ d ∈ hds, areHandsB d = true

section
variable {te tf : TE} {ta : TA} {tb : TS} {De : Ends} {σ : L2.St} {H : Hp} {d : D} {ds es : List D} {K : PySem.W.Frag} {k : Nat}
end
end RW

set_option Elab.async false
set_option linter.all false
set_option maxRecDepth 100000
set_option maxHeartbeats 4000000
/-! Rows kept and made, all ties. -/
namespace RW
open PySem PySem.Spec PyProof.Rows L2
section
variable {te tf : TE} {σ : L2.St} {H : Hp} {d : D} {ds es : List D} {K : PySem.W.Frag}
end
theorem strs_rep {H : Hp} {hs : List Str} (h : ∀ x ∈ hs, x.length ≤ 1000) : RepL H (hs.map V.str) (hs.map D.str) := by
  refine ⟨by rw [List.length_map, List.length_map], fun i v d hv hd => ?_⟩
  rw [List.getElem?_map] at hv hd
  cases e : hs[i]? with
  | none => rw [e] at hv; cases hv
  | some x =>
    rw [e] at hv hd
    cases hv
    cases hd
    exact .str x (h x (List.mem_of_getElem? e))
end RW

set_option Elab.async false
set_option linter.all false
set_option maxRecDepth 100000
set_option maxHeartbeats 4000000
/-! == and in of things with things in them -/
namespace RW
open PySem PySem.Spec PyProof.Rows L2
inductive Tr (H : Hp) : V → PyData → Prop
  | non : Tr H .non .none
  | bl (b : Bool) : Tr H (.bl b) (.bool b)
  | int (i : Int) : Tr H (.int i) (.int i)
  | str (x : Str) (h : PyData.strOk x = true) : Tr H (.str x) (.str x)
  | tup {p : Addr} {vs : List V} {ds : List PyData} (e : H p = some (.tup vs)) (hl : vs.length = ds.length) (h : ∀ (i : Nat) (v : V) (d : PyData), vs[i]? = some v → ds[i]? = some d → Tr H v d) : Tr H (.ref p) (.tuple ds)
  | lst {p : Addr} {vs : List V} {ds : List PyData} (e : H p = some (.lst vs)) (hl : vs.length = ds.length) (h : ∀ (i : Nat) (v : V) (d : PyData), vs[i]? = some v → ds[i]? = some d → Tr H v d) : Tr H (.ref p) (.list ds)
theorem readsAll_of {h : Heap} : ∀ {vs : List V} {us : List Value} {ds : List PyData}, Vals vs us → vs.length = ds.length → (∀ (i : Nat) (v : V) (d : PyData), vs[i]? = some v → ds[i]? = some d → ∀ u, RelV v u → ∃ as, Reads h u d as) → ∃ bs, ReadsAll h us ds bs
  | _, _, [], .nil, _, _ => ⟨_, .nil⟩
  | v :: vs, u :: us, d :: ds, .cons r t, hl, hh => by
    obtain ⟨as, ha⟩ := hh 0 v d rfl rfl u r
    obtain ⟨bs, hb⟩ := readsAll_of t (by simpa using hl) fun i v' d' h1 h2 => hh (i + 1) v' d' h1 h2
    exact ⟨_, .cons ha hb⟩
  | [], _, d :: ds, .nil, hl, _ => by simp at hl
  | v :: vs, u :: us, [], .cons r t, hl, _ => by simp at hl
theorem Tr.reads {X : Cx} {pins : List (Addr × Obj)} {σ : L2.St} {H : Hp} {s : Shared} (I : Inv X pins σ H s) {x : V} {d : PyData} (t : Tr H x d) : ∀ v, RelV x v → ∃ as, Reads s.heap v d as := by
  induction t with
  | non => intro v r; cases r; exact ⟨_, .none⟩
  | bl b => intro v r; cases r; exact ⟨_, .bool b⟩
  | int i => intro v r; obtain ⟨t, rfl⟩ := r; exact ⟨_, .int i t⟩
  | str x h => intro v r; obtain ⟨t, rfl⟩ := r; exact ⟨_, .str x t⟩
  | tup e hl h ih =>
    intro v r
    cases r
    obtain ⟨its, rv, ⟨o, ho, hc, n, hd⟩, _⟩ := I.tuple (SqT.of e)
    obtain ⟨bs, hb⟩ := readsAll_of (h := s.heap) rv hl ih
    exact ⟨_, .tuple ho hc hd (by simpa using hb)⟩
  | lst e hl h ih =>
    intro v r
    cases r
    obtain ⟨its, n, rv, ho, _⟩ := I.lst e
    obtain ⟨bs, hb⟩ := readsAll_of (h := s.heap) rv hl ih
    exact ⟨_, .list ho rfl rfl (by simpa using hb)⟩
theorem canAll_of : ∀ {vs : List V} {ds : List PyData}, vs.length = ds.length → (∀ (i : Nat) (v : V) (d : PyData), vs[i]? = some v → ds[i]? = some d → d.canLay0 = true) → PyData.canLayAll0 ds = true
  | _, [], _, _ => rfl
  | v :: vs, d :: ds, hl, hh => by
    rw [PyData.canLayAll0, hh 0 v d rfl rfl, canAll_of (vs := vs) (ds := ds) (by simpa using hl) fun i v' d' h1 h2 => hh (i + 1) v' d' h1 h2]; rfl
  | [], d :: ds, hl, _ => by simp at hl
theorem Tr.can {H : Hp} {x : V} {d : PyData} (t : Tr H x d) : d.canLay0 = true := by
  induction t with
  | non => rfl
  | bl b => rfl
  | int i => rfl
  | str x h => simp only [PyData.canLay0]; exact h
  | tup e hl h ih => rw [PyData.canLay0]; exact canAll_of hl ih
  | lst e hl h ih => rw [PyData.canLay0]; exact canAll_of hl ih
section
variable {X : Cx}
def rEqD : R2 := fun x y H Q => ∃ d e, Tr H x d ∧ Tr H y e ∧ min d.depth e.depth ≤ 60 ∧ Q (.bl (d.eqv e)) H
theorem op_eqD (hu : X.A.units + 64 < cLine) : OpR X (compareOp .Eq) rEqD := by
  intro pins s σ H x y v u Q I rx ry h
  obtain ⟨d, e, t1, t2, hd, q⟩ := h
  obtain ⟨as, r1⟩ := t1.reads I v rx
  obtain ⟨bs, r2⟩ := t2.reads I u ry
  exact SeqAt.compareEq_reads r1 r2 t1.can t2.can (by omega) ⟨.bl _, H, I, rfl, q⟩
def rInD : R2 := fun x y H Q => ∃ d es, Tr H x d ∧ (Tr H y (.list es) ∨ Tr H y (.tuple es)) ∧ d.depth ≤ 60 ∧ Q (.bl (es.any fun y => y.eqv d)) H
theorem op_inD (hu : X.A.units + 64 < cLine) : OpR X (compareOp .In) rInD := by
  intro pins s σ H x y v u Q I rx ry h
  obtain ⟨d, es, t1, t2, hd, q⟩ := h
  obtain ⟨as, r1⟩ := t1.reads I v rx
  rcases t2 with t2 | t2
  · obtain ⟨bs, r2⟩ := t2.reads I u ry
    have c := t2.can
    rw [PyData.canLay0] at c
    exact SeqAt.in_list_reads r2 r1 c t1.can (by omega) ⟨.bl _, H, I, rfl, q⟩
  · obtain ⟨bs, r2⟩ := t2.reads I u ry
    have c := t2.can
    rw [PyData.canLay0] at c
    exact SeqAt.in_tuple_reads r2 r1 c t1.can (by omega) ⟨.bl _, H, I, rfl, q⟩
theorem hu64 {k : Nat} {A : Around} (r : Room k A) : A.units + 64 < cLine := by have := r.un; omega
end
end RW

set_option Elab.async false
set_option linter.all false
set_option maxRecDepth 100000
set_option maxHeartbeats 4000000
/-! t[::-1] -/
namespace HT
open PySem PySem.Spec PyProof.Rows
section
variable {prog : Program} {w : World} {A : Around} {E : Value → Shared → Prop} {s : Shared}
theorem fm_map {α β : Type} {f : α → Option β} {g : α → β} : ∀ {l : List α}, (∀ a ∈ l, f a = some (g a)) → l.filterMap f = l.map g
  | [], _ => rfl
  | a :: l, h => by rw [List.filterMap_cons, h a List.mem_cons_self, fm_map fun b hb => h b (List.mem_cons_of_mem _ hb)]; rfl
theorem pick_rev (xs : Array Value) : ((List.range xs.size).filterMap fun (m : Nat) => xs[((xs.size : Int) - 1 + (m : Int) * -1).toNat]?).toArray = xs.toList.reverse.toArray := by
  congr 1
  refine List.ext_getElem? fun i => ?_
  have e : ((List.range xs.size).filterMap fun (m : Nat) => xs[((xs.size : Int) - 1 + (m : Int) * -1).toNat]?) = (List.range xs.size).map fun m => xs[xs.size - 1 - m]?.getD .none := by
    refine fm_map fun m hm => ?_
    have hm' := List.mem_range.mp hm
    rw [show ((xs.size : Int) - 1 + (m : Int) * -1).toNat = xs.size - 1 - m by omega]
    have : xs.size - 1 - m < xs.size := by omega
    simp [this]
  rw [e, List.getElem?_map]
  rcases Nat.lt_or_ge i xs.size with h | h
  · rw [List.getElem?_range h, List.getElem?_reverse (by simpa using h)]
    have : xs.size - 1 - i < xs.size := by omega
    simp [this]
  · rw [List.getElem?_eq_none (by simpa using h), List.getElem?_eq_none (by simpa using h)]; rfl
end
end HT
namespace L2
open PySem PySem.Spec PyProof.Rows
section
variable {X : Cx} {e : Expr} {te : TE} {p1 p2 p3 pos : Pos} {tk : Tok}
theorem Vals.rev : ∀ {xs : List V} {us : List Value}, Vals xs us → Vals xs.reverse us.reverse
  | _, _, .nil => .nil
  | x :: xs, u :: us, .cons r t => by
    rw [List.reverse_cons, List.reverse_cons]
    exact (Vals.rev t).append (.cons r .nil)
end
end L2
namespace HT
open PySem PySem.Spec PyProof.Rows
section
variable {prog : Program} {w : World} {A : Around} {E : Value → Shared → Prop} {s : Shared}
theorem getItem_tuple_whole {t sl : Addr} {items : Array Value} {vl vu : Value} {lo hi : Option Int} {Q : Value → Shared → Prop} (ht : IsTup s.heap t items) (hs : s.heap.IsSliceOf sl vl vu .none) (pl : IsPart vl lo) (pu : IsPart vu hi)
    (h1 : sIx items.size 0 lo = 0) (h2 : sIx items.size items.size hi = items.size)
    (h : Q (.ref t) s) : wpAny (model prog w) A (getItem (.ref t) (.ref sl)) Q E s := by
  obtain ⟨os, hos, hcs, hds⟩ := id hs
  have hTs : s.TypeIs (.ref sl) "slice" := ⟨os, hos, hcs⟩
  unfold getItem
  try with_reducible refine wpAny_holding ?_
  first | refine wpAny_bind (wpAny_pure ?_) | skip
  refine wpAny_bind (wpAny_sequenceKey ht.typeIs (by decide) ?_)
  refine wpAny_bind (wpAny_callSpecial?_slot (name := Str.ofString "__getitem__") ht.typeIs PyProof.Rows.slot_tuple_getitem
    (wpAny_call_entry PyProof.Rows.slot_tuple_getitem ht.typeIs entry_tuple_getitem ?_ (args_tuple_getitem _ _)))
  show wpAny _ _ (Builtin.Tuple.tupleItemsOf (.ref t) >>= _) _ _ s
  refine wpAny_bind (tupleItemsOf_ ht ?_)
  refine wpAny_bind (wpAny_typeOf hTs ?_)
  rw [if_pos (by decide)]
  refine wpAny_bind (sliceApplied_gen hs pl pu ?_)
  rw [h1, h2]
  show wpAny _ _ (if (((0 : Nat) : Int) == 0 && (1 : Int) == 1 && (items.size - 0) == items.size) = true then _ else _) _ _ s
  rw [if_pos (by simp)]
  unfold Builtin.Tuple.tupleIsExact
  refine wpAny_bind (wpAny_bind (wpAny_typeOf ht.typeIs (wpAny_pure ?_)))
  rw [if_pos (by decide)]
  refine wpAny_bind (wpAny_rule ?_)
  exact wpAny_pure ⟨_, rfl, wpAny_pure h⟩
end
end HT
namespace L2
open PySem PySem.Spec PyProof.Rows
section
variable {X : Cx} {K : PySem.W.Frag}
/-- t[lo:hi], the whole of it, too -/
def rSlA (K : PySem.W.Frag) : V → Option Int → Option Int → Hp → VK → Prop := fun x lo hi H Q => ∃ a xs, x = .ref a ∧ SqT K H a xs ∧
  (cutV xs lo hi = xs → Q (.ref a) H) ∧ ∀ p, H p = none → Q (.ref p) (upd H p (.tup (cutV xs lo hi)))
theorem sl_tupA : SlR X (rSlA X.K) := by
  intro pins s σ H x v vl vu lo hi sl Q I rx hs pl pu h
  obtain ⟨a, xs, rfl, hx, q1, q2⟩ := h
  by_cases hw : HT.sIx xs.length 0 lo = 0 ∧ HT.sIx xs.length xs.length hi = xs.length
  · have rx' : v = .ref a := rx
    subst rx'
    obtain ⟨its, r, ht, hz⟩ := I.tuple hx
    have hlen : its.toArray.size = xs.length := by rw [List.size_toArray]; exact r.length.symm
    refine ⟨"tuple", _, PyProof.Rows.slot_tuple_getitem.lookup, ht.typeIs, ?_⟩
    refine HT.getItem_tuple_whole ht hs pl pu (by rw [hlen]; exact hw.1) (by rw [hlen]; exact hw.2) ⟨.ref a, H, I, rfl, q1 ?_⟩
    unfold cutV
    rw [hw.1, hw.2]; simp
  · exact sl_tup pins s σ H (.ref a) v vl vu lo hi sl Q I rx hs pl pu ⟨a, xs, rfl, hx, hw, q2⟩
theorem sl_tupAK (h : X.K = K) : SlR X (rSlA K) := by subst h; exact sl_tupA
end
end L2
namespace RW
open PySem PySem.Spec PyProof.Rows L2
section
variable {te tf : TE} {ta : TA} {σ : L2.St} {H : Hp} {d : D} {ds es : List D} {K : PySem.W.Frag}
end
end RW
namespace RW
open PySem PySem.Spec PyProof.Rows L2
theorem here_kept : ∀ x ∈ keptL, x ≠ "nowhere" := by decide +kernel
theorem here_same : sameB "nowhere" = false := by decide +kernel
theorem name_here (f st sp j k : Nat) : nameS f st sp j k ≠ "nowhere" := by
  unfold nameS
  split
  · exact here_kept _ (kw_mem sp k)
  · intro z
    have e := here_same
    rw [← z] at e
    unfold nmS at e
    rw [same_rep] at e
    cases e
end RW

set_option Elab.async false
set_option linter.all false
set_option maxRecDepth 100000
set_option maxHeartbeats 4000000
/-! rows of spoilt things; what is no town -/
namespace RW
open PySem PySem.Spec PyProof.Rows L2
theorem Keep.same_of {l : Addr} {H H1 H2 : Hp} (hl : H l = none) (s : Same H H1) (k : Keep l H1 H2) : Same H H2 := fun c o e => k c o (ne_of_none e hl) (s c o e)
section
variable {te : TE} {ta : TA} {tb : TS} {De : Ends} {σ : L2.St} {H : Hp} {d : D} {ds es : List D} {K : PySem.W.Frag} {k j : Nat} {g : D → Bool} {l lf : Addr} {m : Nat}
end
/-! what is no town -/
section
variable {x h t l a : D}
end
end RW

set_option Elab.async false
set_option linter.all false
set_option maxRecDepth 100000
set_option maxHeartbeats 4000000
namespace RW
open PySem PySem.Spec PyProof.Rows L2
section
variable {te tf : TE} {ta : TA} {tb : TS} {De : Ends} {σ : L2.St} {H : Hp} {d : D} {ds es : List D} {K : PySem.W.Frag} {k j : Nat} {g : D → Bool} {m : Nat}
end
end RW
namespace RW
open PySem PySem.Spec PyProof.Rows L2
theorem name_strOk {x : Str} (h : isNameB x = true) : PyData.strOk x = true := by
  unfold isNameB at h
  simp only [Bool.and_eq_true] at h
  have h2 := h.1.2
  unfold PyData.strOk
  rw [Array.all_eq_true']
  intro c hc
  have := List.all_eq_true.mp h2 c (by simpa using hc)
  unfold letterC at this
  simp only [Bool.and_eq_true, decide_eq_true_eq] at this
  exact decide_eq_true (by omega)
theorem nodup_len {α : Type} [DecidableEq α] : ∀ {l m : List α}, l.Nodup → (∀ x ∈ l, x ∈ m) → l.length ≤ m.length
  | [], m, _, _ => Nat.zero_le _
  | a :: l, m, hn, hs => by
    have ha := hs a List.mem_cons_self
    have := nodup_len (l := l) (m := m.erase a) (List.nodup_cons.mp hn).2 fun x hx => (List.mem_erase_of_ne (fun z : x = a => (List.nodup_cons.mp hn).1 (by rw [← z]; exact hx))).mpr (hs x (List.mem_cons_of_mem _ hx))
    rw [List.length_erase_of_mem ha] at this
    have : 1 ≤ m.length := List.length_pos_of_mem ha
    rw [List.length_cons]
    omega
end RW
namespace RW
theorem if_t {b : Bool} {X Y : Prop} (h : b = true) (x : X) : if b = true then X else Y := by rw [if_pos h]; exact x
theorem if_f {b : Bool} {X Y : Prop} (h : b = false) (y : Y) : if b = true then X else Y := by rw [if_neg (by rw [h]; decide)]; exact y
end RW

set_option Elab.async false
set_option linter.all false
set_option maxRecDepth 100000
set_option maxHeartbeats 4000000
/-! sorted of a tuple or a list of texts, some of them alike -/
namespace L2
open PySem PySem.W PySem.Spec PyProof.Rows
section
variable {prog : Program} {w : World} {A : Around} {E : Value → Shared → Prop} {s : Shared}
theorem collect_any {r : Addr} {T : String} {o : Obj} {vs : List Value} {n : Nat} {R : List Value → Shared → Prop} (hT : T = "list" ∨ T = "tuple") (ho : s.heap.get? r = some o) (hc : o.cls = .type T) (hd : o.data = .seq vs.toArray n) (hz : vs.length ≤ sizeLine)
    (q : ∀ (h' : Heap), (∀ b o, s.heap.get? b = some o → h'.get? b = some o) → s.heap.objs.size < h'.objs.size → R vs { s with heap := h' }) : wpAny (model prog w) A (collect (.ref r)) R E s := by
  have lt := Heap.lt_size ho
  have hne : r ≠ s.heap.objs.size := Nat.ne_of_lt lt
  have g0 : (s.heap.push { cls := .type "list", data := .seq ([] : List Value).toArray }).get? s.heap.objs.size = some (seqObj "list" #[] 0) := Heap.get?_push_size _ rfl
  have gr : (s.heap.push { cls := .type "list", data := .seq ([] : List Value).toArray }).get? r = some o := Heap.get?_push_of_some _ ho
  obtain ⟨e1, g1⟩ : ∃ e1, ((s.heap.push { cls := .type "list", data := .seq ([] : List Value).toArray }).update s.heap.objs.size (Obj.mapSeq fun x => x ++ vs.toArray)).get? s.heap.objs.size = some (seqObj "list" ((#[] : Array Value) ++ vs.toArray) e1) := ⟨_, get?_update_seq g0 fun x => x ++ vs.toArray⟩
  have u1 := Heap.SameBut.update (s.heap.push { cls := .type "list", data := .seq ([] : List Value).toArray }) s.heap.objs.size (Obj.mapSeq fun x => x ++ vs.toArray)
  unfold collect
  refine wpAny_bind (wpAny_runValue (codeAny_builtin entry_proto_collect' (by
    rw [Around.under_plainId PySem.F.plain_proto_collect _]
    show wpAny _ A.in1 (newList [] >>= fun l => again (.builtin "list.__iadd__" ⟨[l, .ref r], []⟩)) _ _ s
    refine wpAny_bind (wpAny_newObj_type (wpAny_pure ⟨plainId_quiet PySem.F.plain_list_iadd _, codeAny_builtin entry_list_iadd' (by
      rw [Around.under_plainId PySem.F.plain_list_iadd _]
      show wpAny _ A.in1 (Builtin.List.listExtendWith (.ref s.heap.objs.size) (.ref r) (.ref s.heap.objs.size)) _ _ _
      unfold Builtin.List.listExtendWith
      have hty : ({ s with heap := s.heap.push { cls := .type "list", data := .seq ([] : List Value).toArray } } : Shared).TypeIs (.ref r) T := ⟨o, gr, hc⟩
      refine wpAny_bind (wpAny_typeOf hty ?_)
      rw [if_pos (by rcases hT with rfl | rfl <;> simp)]
      refine wpAny_bind (listItems_at gr hd (wpAny_bind (listItems_at g0 rfl ?_)))
      rw [if_neg (by simp)]
      refine wpAny_bind (listUpdate_at g0 rfl ?_ (Nat.zero_le _) (by show ((#[] : Array Value) ++ vs.toArray).size ≤ _; simp; omega))
      refine wpAny_pure ?_
      show wpAny _ A (load s.heap.objs.size >>= _) _ _ _
      refine wpAny_bind (wpAny_load g1 (wpAny_pure ?_))
      have ev : ((#[] : Array Value) ++ vs.toArray).toList = vs := by simp
      show R ((#[] : Array Value) ++ vs.toArray).toList _
      rw [ev]
      exact q _ (fun b o e => (u1.2 b (Nat.ne_of_lt (Heap.lt_size e))).trans (Heap.get?_push_of_some _ e)) (Heap.lt_size g1))⟩)))))
end
section
variable {X : Cx} {K : PySem.W.Frag}
end
end L2

set_option Elab.async false
set_option linter.all false
set_option maxRecDepth 100000
set_option maxHeartbeats 4000000
/-! ways and neighbours -/
namespace RW
open PySem PySem.Spec PyProof.Rows L2

/-! those tied with x -/
def nbrs (ps : List (Str × Str)) (x : Str) : List Str := (ps.filter fun p => decide (p.2 = x)).map (·.1) ++ (ps.filter fun p => decide (p.1 = x)).map (·.2)
/-! what rises -/
/-! ways -/
structure WayOk (g : Str) (hs : List Str) (ps : List (Str × Str)) (ws : List Str) : Prop where
  nd : ws.Nodup
  mem : ∀ x ∈ ws, x ∈ hs
  last : ∃ w0, ws = w0 ++ [g]
  tied : ∀ (i : Nat) (a b : Str), ws[i]? = some a → ws[i + 1]? = some b → b ∈ nbrs ps a
def strsPy (xs : List Str) : List PyData := xs.map PyData.str
end RW

set_option Elab.async false
set_option linter.all false
set_option maxRecDepth 100000
set_option maxHeartbeats 4000000
namespace RW
open PySem PySem.Spec PyProof.Rows L2
section
variable {X : Cx} {K : PySem.W.Frag}
end
section
variable {te tf : TE} {ta : TA} {σ : L2.St} {H : Hp} {d : D} {ds es : List D} {K : PySem.W.Frag}
end
end RW

set_option Elab.async false
set_option linter.all false
set_option maxRecDepth 100000
set_option maxHeartbeats 4000000
/-! rows of houses, read twice -/
namespace RW
open PySem PySem.Spec PyProof.Rows L2
section
variable {te tf : TE} {ta : TA} {tb : TS} {De : Ends} {σ : L2.St} {H : Hp} {d : D} {ds es : List D} {K : PySem.W.Frag} {k : Nat}
end
/-! rows of houses -/
/-! the same way -/
/-! those tied, rising -/
/-! pairs among pairs -/
theorem strs_eqvAll : ∀ {xs ys : List Str}, PyData.eqvAll (strsPy xs) (strsPy ys) = decide (xs = ys)
  | [], [] => by unfold strsPy; rw [List.map_nil, PyData.eqvAll]; rfl
  | [], y :: ys => by unfold strsPy; rw [List.map_nil, List.map_cons, PyData.eqvAll]; rfl
  | x :: xs, [] => by unfold strsPy; rw [List.map_nil, List.map_cons, PyData.eqvAll]; rfl
  | x :: xs, y :: ys => by
    have ih := strs_eqvAll (xs := xs) (ys := ys)
    unfold strsPy at ih ⊢
    rw [List.map_cons, List.map_cons, PyData.eqvAll, PyData.eqv, ih, Bool.eq_iff_iff, decide_eq_true_iff, List.cons.injEq]
    simp
end RW

set_option Elab.async false
set_option linter.all false
set_option maxRecDepth 100000
set_option maxHeartbeats 4000000
/-! a def with a default None for its last parameter -/
namespace L2
open PySem PySem.Spec PyProof.Rows
structure FunD (K : PySem.W.Frag) (x qual : Str) (st : Stmt) (f : Addr) (fd : FuncData) : Prop where
  ex : ∃ (oc : Value) (od : Option Addr) (dt : Addr) (kV doc pm : Value) (an : Option Addr) (cdv ct : Value) (osl : Array (Option Value)) (od2 : Option Addr) (n2 : Nat) (sl2 : Array (Option Value)),
    fd = PySem.W.fnOf x qual (defArgs st) (defBody st) (defScope st) (.ref dt) kV doc pm an cdv ct ∧ K.lookup f = some ⟨oc, od, .func fd, osl⟩ ∧ PySem.W.codeIn K cdv qual = true ∧ K.lookup dt = some ⟨.type "tuple", od2, .seq #[.none] n2, sl2⟩
  kp : PySem.W.keepIn K (.ref f) = true
section
variable {P : Program} {w : World} {K : PySem.W.Frag} {mg : Str → Option Value} {base : Heap}
end
end L2
namespace RW
open PySem PySem.Spec PyProof.Rows L2
structure AtD (K : PySem.W.Frag) (mg : Str → Option Value) (x : Str) (st : Stmt) (ps : List Str) (f : Addr) (fd : FuncData) : Prop where
  fn : FunD K x x st f fd
  b : Binds K fd ps []
  bd : Binds K fd ps [.none]
  mg : mg x = some (.ref f)
  kp : PySem.W.keepIn K (.ref f) = true
end RW

set_option Elab.async false
set_option linter.all false
set_option maxRecDepth 100000
set_option maxHeartbeats 4000000
/-! whose names stand in rules -/
namespace RW
open PySem PySem.Spec PyProof.Rows L2
def plainIn (O : List Str) : D → Bool | .tup [_, .str x] => decide (x ∈ O) | _ => true
def condIn (O : List Str) : D → Bool | .tup [.str w, e] => if w = "not" then plainIn O e else plainIn O (.tup [.str w, e]) | _ => true
def condsIn (O : List Str) : D → Bool | .tup ds => ds.all (condIn O) | _ => true
def ruleIn (O : List Str) : D → Bool | .tup [c, t] => condsIn O c && plainIn O t | _ => true
def rulesIn (O : List Str) : D → Bool | .tup ds => ds.all (ruleIn O) | _ => true
structure Pool (hs : List Str) (lks hds : List D) (O : List Str) : Prop where
  few : O.length ≤ 13
  nm : ∀ x ∈ O, isNameB x = true
  hs : ∀ x ∈ hs, x ∈ O
  lk : ∀ d ∈ lks, rulesIn O d = true
  hd : ∀ d ∈ hds, rulesIn O d = true
end RW

set_option Elab.async false
set_option linter.all false
set_option maxRecDepth 100000
set_option maxHeartbeats 4000000
/-! a dict of ints and texts made here, walked by a comprehension: while it is walked (and behind that) it is no longer looked at -/
namespace L2
open PySem PySem.Spec PyProof.Rows
section
variable {X : Cx} {pos : Pos} {pins : List (Addr × Obj)} {σ : St} {H : Hp} {s : Shared}
theorem pairs_keys {P : Program} {w : World} : ∀ {es : List DictEntry} {kvs : List (Key × Value)}, Pairs (mixKind P w) es kvs → Vals (kvs.map fun kv => kV kv.1) (es.map (·.key))
  | _, _, .nil => .nil
  | _, _, .cons (e := e) (kv := kv) h1 h2 h3 => by
    refine .cons ?_ (pairs_keys h3)
    have h1 : keyIs kv.1 e.key = true := h1
    rcases keyIs_shape h1 with ⟨i, t, a, b⟩ | ⟨x, t, a, b⟩
    · show RelV (kV kv.1) e.key
      rw [a, b]; exact ⟨t, rfl⟩
    · show RelV (kV kv.1) e.key
      rw [a, b]; exact ⟨t, rfl⟩
theorem kv_keys : ∀ {kvs : List (Key × V)} {vs : List (Key × Value)}, KV kvs vs → kvs.map (·.1) = vs.map (·.1)
  | _, _, .nil => rfl
  | _, _, .cons h t => by rw [List.map_cons, List.map_cons, h.1, kv_keys t]
end
end L2

set_option Elab.async false
set_option linter.all false
set_option maxRecDepth 100000
set_option maxHeartbeats 4000000
/-! whether a cond holds -/
namespace RW
open PySem PySem.Spec PyProof.Rows L2
theorem strs_eqvT {xs ys : List Str} : (PyData.tuple (strsPy xs)).eqv (.tuple (strsPy ys)) = decide (xs = ys) := by
  rw [PyData.eqv, strs_eqvAll]
end RW

set_option Elab.async false
set_option linter.all false
set_option maxRecDepth 100000
set_option maxHeartbeats 4000000
/-! names gathered in a dict -/
namespace RW
open PySem PySem.Spec PyProof.Rows L2
end RW
namespace RW
open PySem PySem.Spec PyProof.Rows L2
section
variable {te tf : TE} {ta : TA} {tb : TS} {De : Ends} {σ : L2.St} {H : Hp} {d : D} {ds es : List D} {K : PySem.W.Frag} {k : Nat}
end
end RW

set_option Elab.async false
set_option linter.all false
set_option maxRecDepth 100000
set_option maxHeartbeats 4000000
/-! where a text stands in a tuple; a tuple counted through -/
namespace HT
open PySem PySem.Spec PyProof.Rows
section
variable {prog : Program} {w : World} {A : Around} {E : Value → Shared → Prop} {s : Shared}
end
end HT
namespace HT
open PySem PySem.Spec PyProof.Rows
section
variable {prog : Program} {w : World} {A : Around} {E : Value → Shared → Prop} {s : Shared}
theorem nextOf_tuple_item {it d : Addr} {i : Nat} {items : Array Value} {x : Value} {Q : Value → Shared → Prop} (y : s.heap.IsTupleIter it d i) (ht : s.heap.IsTuple d items) (hx : items[i]? = some x)
    (q : ∀ h', h'.IsTupleIter it d (i + 1) → Heap.SameBut it s.heap h' → Q x { s with heap := h' }) : wpAny (model prog w) A (Builtin.SmallTypes.nextOf (.ref it)) Q E s := by
  obtain ⟨o, ho, hc, hd⟩ := id y
  obtain ⟨od, hod, hcd, n, hdd⟩ := id ht
  unfold Builtin.SmallTypes.nextOf
  refine wpAny_bind (wpAny_callSpecial?_slot (name := Str.ofString "__next__") ⟨o, ho, hc⟩ PySem.F.slot_tuple_iterator_next (wpAny_call_entry PySem.F.slot_tuple_iterator_next ⟨o, ho, hc⟩ PySem.F.entry_tuple_iterator_next ?_ (PySem.F.args_tuple_iterator_next_1 _)))
  show wpAny _ _ (slotArgs "__next__" 0 _ >>= _) _ _ s
  refine wpAny_bind (m := slotArgs "__next__" 0 _) (wpAny_pure ?_)
  dsimp only
  refine wpAny_bind (wpAny_field ho hd (x := .ref d) rfl ?_)
  rw [if_neg (fun z => nomatch z)]
  refine wpAny_bind (wpAny_field ho hd (x := .int i 0) rfl ?_)
  dsimp only
  rw [seqItems?.eq_1]
  refine wpAny_bind (wpAny_bind (wpAny_load hod ?_))
  rw [hdd]
  refine wpAny_pure ?_
  dsimp only
  rw [Int.toNat_natCast, hx]
  dsimp only
  refine wpAny_bind (wpAny_setField ho hd (by simp) ?_)
  refine wpAny_pure ⟨_, rfl, wpAny_pure (q _ ⟨_, Heap.get?_update_self _ ho (Obj.isFreed_of_fields (Obj.data_mapFields hd _)), (Obj.cls_mapFields ..).trans hc, ?_⟩ (Heap.SameBut.update ..))⟩
  rw [Obj.data_mapFields hd]; simp [rawInt]
theorem nextOf_tuple_end {it d : Addr} {i : Nat} {items : Array Value} {Q : Value → Shared → Prop} (hh : A.handled = none) (y : s.heap.IsTupleIter it d i) (ht : s.heap.IsTuple d items) (hx : items[i]? = none)
    (q : ∀ (h' : Heap) (e : Addr), Heap.ExtBut it s.heap h' → (∃ o, h'.get? e = some o ∧ o.cls = .type "StopIteration") → E (.ref e) { s with heap := h' }) : wpAny (model prog w) A (Builtin.SmallTypes.nextOf (.ref it)) Q E s := by
  obtain ⟨o, ho, hc, hd⟩ := id y
  obtain ⟨od, hod, hcd, n, hdd⟩ := id ht
  unfold Builtin.SmallTypes.nextOf
  refine wpAny_bind (wpAny_callSpecial?_slot (name := Str.ofString "__next__") ⟨o, ho, hc⟩ PySem.F.slot_tuple_iterator_next (wpAny_call_entry PySem.F.slot_tuple_iterator_next ⟨o, ho, hc⟩ PySem.F.entry_tuple_iterator_next ?_ (PySem.F.args_tuple_iterator_next_1 _)))
  show wpAny _ _ (slotArgs "__next__" 0 _ >>= _) _ _ s
  refine wpAny_bind (m := slotArgs "__next__" 0 _) (wpAny_pure ?_)
  dsimp only
  refine wpAny_bind (wpAny_field ho hd (x := .ref d) rfl ?_)
  rw [if_neg (fun z => nomatch z)]
  refine wpAny_bind (wpAny_field ho hd (x := .int i 0) rfl ?_)
  dsimp only
  rw [seqItems?.eq_1]
  refine wpAny_bind (wpAny_bind (wpAny_load hod ?_))
  rw [hdd]
  refine wpAny_pure ?_
  dsimp only
  rw [Int.toNat_natCast, hx]
  dsimp only
  refine wpAny_bind (wpAny_rule ?_)
  refine wpAny_bind (wpAny_setField ho hd (by simp) ?_)
  show wpAny _ _ (newExc (.type "StopIteration") [] >>= _) _ _ _
  refine wpAny_bind (by
    simp only [newExc, newTuple]
    refine wpAny_bind (wpAny_newObj_type (wpAny_bind (m := firstArgMember _ _) (wpAny_of_eq (a := Value.none) (by first | rfl | (simp only [firstArgMember]; rfl)) (wpAny_newObj_type ?_ (by size_fits)))) (by size_fits))
    simp only [raiseNew]
    refine wpAny_bind (wpAny_handled ?_)
    rw [show A.in1.handled = none from hh]
    refine wpAny_bind (wpAny_pure (wpAny_throw ?_))
    exact q _ _ (((Heap.SameBut.update ..).extBut.push _).push _) ⟨_, Heap.get?_push_size _ rfl, rfl⟩)
theorem draws_tuple (hh : A.handled = none) (it l : Addr) (hne : l ≠ it) (items : Array Value) : Draws prog w A it [it, l] items.size (fun i v => items[i]? = some v) (fun i h => h.IsTupleIter it l i ∧ h.IsTuple l items) where
  live := fun i h st => let ⟨o, e, _⟩ := st.1; ⟨o, e⟩
  frame := fun i h h' st k => ⟨st.1.at fun o e => k it (by simp) o e, let ⟨o, e, r⟩ := st.2; ⟨o, k l (by simp) o e, r⟩⟩
  item := fun i s Q E hi st q => nextOf_tuple_item st.1 st.2 (x := items[i]) (by simp [hi]) fun h' y' sb => q _ h' s.toks (by simp [hi]) ⟨y', let ⟨o, e, r⟩ := st.2; ⟨o, (sb.2 l hne).trans e, r⟩⟩ sb
  done := fun s Q E st q => nextOf_tuple_end hh st.1 st.2 (by simp) q
end
end HT
namespace HT
open PySem PySem.Spec PyProof.Rows
section
variable {prog : Program} {w : World} {A : Around} {E : Value → Shared → Prop} {s : Shared}
end
end HT
namespace L2
open PySem PySem.Spec PyProof.Rows
section
variable {X : Cx} {K : PySem.W.Frag}
end
end L2

set_option Elab.async false
set_option linter.all false
set_option maxRecDepth 100000
set_option maxHeartbeats 4000000
/-! rules gone through -/
namespace RW
open PySem PySem.Spec PyProof.Rows L2
/-! worths -/
end RW
namespace RW
open PySem PySem.Spec PyProof.Rows L2
end RW

set_option Elab.async false
set_option linter.all false
set_option maxRecDepth 100000
set_option maxHeartbeats 4000000
/-! data as trees -/
namespace RW
open PySem PySem.Spec PyProof.Rows L2
mutual
def okD : D → Bool
  | .str x => PyData.strOk x
  | .tup ds => okL ds
  | .oth => false
  | .non => true
  | .bl _ => true
  | .int _ => true
def okL : List D → Bool
  | [] => true
  | d :: ds => okD d && okL ds
end
mutual
def pyD : D → PyData
  | .non => .none
  | .bl b => .bool b
  | .int i => .int i
  | .str x => .str x
  | .tup ds => .tuple (pyL ds)
  | .oth => .none
def pyL : List D → List PyData
  | [] => []
  | d :: ds => pyD d :: pyL ds
end
theorem pyL_map : ∀ {ds : List D}, pyL ds = ds.map pyD
  | [] => by rw [pyL]; rfl
  | d :: ds => by rw [pyL, List.map_cons, pyL_map]
theorem okL_all : ∀ {ds : List D}, okL ds = true → ∀ d ∈ ds, okD d = true
  | [], _, _, z => nomatch z
  | d :: ds, h, e, he => by
    rw [okL, Bool.and_eq_true] at h
    rcases List.mem_cons.mp he with rfl | he
    · exact h.1
    · exact okL_all h.2 e he
theorem okL_of : ∀ {ds : List D}, (∀ d ∈ ds, okD d = true) → okL ds = true
  | [], _ => by rw [okL]
  | d :: ds, h => by rw [okL, h d List.mem_cons_self, okL_of fun e he => h e (List.mem_cons_of_mem _ he)]; rfl
theorem tr_of {H : Hp} {v : V} {d : D} (r : Rep H v d) : okD d = true → Tr H v (pyD d) := by
  induction r with
  | non => intro _; rw [pyD]; exact .non
  | bl b => intro _; rw [pyD]; exact .bl b
  | int i => intro _; rw [pyD]; exact .int i
  | str x _ => intro h; rw [okD] at h; rw [pyD]; exact .str x h
  | @tup p vs ds hp l b r ih =>
    intro h
    rw [okD] at h
    rw [pyD, pyL_map]
    refine .tup hp (by rw [l, List.length_map]) fun i v d e1 e2 => ?_
    rw [List.getElem?_map] at e2
    cases e : ds[i]? with
    | none => rw [e] at e2; cases e2
    | some d' =>
      rw [e] at e2
      cases e2
      exact ih i v d' e1 e (okL_all h d' (List.mem_of_getElem? e))
  | lst _ => intro h; rw [okD] at h; cases h
  | dK _ => intro h; rw [okD] at h; cases h
end RW

set_option Elab.async false
set_option linter.all false
set_option maxRecDepth 100000
set_option maxHeartbeats 4000000
/-! marks handed on -/
namespace RW
open PySem PySem.Spec PyProof.Rows L2
def leS (a b : Str) : Bool := !ltS b a
def srt (l : List Str) : List Str := l.mergeSort leS
theorem leS_tr (a b c : Str) (h1 : leS a b = true) (h2 : leS b c = true) : leS a c = true := by
  unfold leS at *
  rw [Bool.not_eq_true'] at *
  cases h : ltS c a with
  | false => rfl
  | true =>
    by_cases e : a = b
    · subst e; rw [h] at h2; cases h2
    · have ab : ltS a b = true := ltS_tri (fun z => e z.symm) h1
      have := ltS_tr h ab
      rw [this] at h2; cases h2
theorem leS_tot (a b : Str) : (leS a b || leS b a) = true := by
  unfold leS
  cases h : ltS b a with
  | false => rfl
  | true => rw [ltS_asy h]; rfl
theorem srt_perm (l : List Str) : (srt l).Perm l := List.mergeSort_perm l leS
theorem srt_rise {l : List Str} (nd : l.Nodup) : (srt l).Pairwise (fun a b => ltS a b = true) := by
  have h1 : (srt l).Pairwise (fun a b => leS a b = true) := List.pairwise_mergeSort leS_tr leS_tot l
  have h2 : (srt l).Nodup := (srt_perm l).nodup_iff.mpr nd
  refine (h1.and h2).imp fun {a b} h => ?_
  obtain ⟨ha, hn⟩ := h
  unfold leS at ha
  rw [Bool.not_eq_true'] at ha
  exact ltS_tri (fun z => hn z.symm) ha
/-- told so far: names of O, each once -/
structure Mk (O t : List Str) : Prop where
  nd : t.Nodup
  mem : ∀ x ∈ t, x ∈ O
end RW

set_option Elab.async false
set_option linter.all false
set_option maxRecDepth 100000
set_option maxHeartbeats 4000000
/-! tuples in order -/
namespace L2
open PySem PySem.W PySem.Spec PyProof.Rows
section
open PySem.SeqAt
open PySem.AutoSeq1 (wpAny_loadPart')
open PySem.MeetsSeq PySem.MeetsSeq2 PySem.MeetsSeq3
end
end L2
namespace L2
open PySem PySem.W PySem.Spec PyProof.Rows RW
def ltL : List Str → List Str → Bool
  | [], [] => false
  | [], _ :: _ => true
  | _ :: _, [] => false
  | x :: xs, y :: ys => if x = y then ltL xs ys else ltS x y
section
variable {X : Cx} {K : PySem.W.Frag}
end
end L2

set_option Elab.async false
set_option linter.all false
set_option maxRecDepth 100000
set_option maxHeartbeats 4000000
/-! ways with marks, liked more or less -/
namespace RW
open PySem PySem.Spec PyProof.Rows L2
end RW

set_option Elab.async false
set_option linter.all false
set_option maxRecDepth 100000
set_option maxHeartbeats 4000000
/-! t[::step], step being 1 or -1 -/
namespace HT
open PySem PySem.Spec PyProof.Rows
section
variable {prog : Program} {w : World} {A : Around} {E : Value → Shared → Prop} {s : Shared}
end
end HT
namespace L2
open PySem PySem.Spec PyProof.Rows
section
variable {X : Cx} {e st : Expr} {te ts : TE} {p1 p2 p3 pos : Pos} {tk : Tok}
end
end L2

set_option Elab.async false
set_option linter.all false
set_option maxRecDepth 100000
set_option maxHeartbeats 4000000
/-! rules cut in two, rules that never hold -/
namespace RW
open PySem PySem.Spec PyProof.Rows L2
section
variable {te tf : TE} {ta : TA} {σ : L2.St} {H : Hp} {d : D} {ds es : List D} {K : PySem.W.Frag}
end
/-! lists with one place changed -/
/-! worths of rules put together -/
end RW

set_option Elab.async false
set_option linter.all false
set_option maxRecDepth 100000
set_option maxHeartbeats 4000000
/-! a dict keyed by tuples, walked by a comprehension: while it is walked (and behind that) it is frozen: read, not written -/
namespace L2
open PySem PySem.Spec PyProof.Rows
def Itd (d : Addr) (o : Obj) (u : HO) (ks : List V) : It := ⟨fun i H => i < ks.length ∧ H d = some (.frz o u), fun i H x H' => H' = H ∧ ks[i]? = some x, fun i H => ks.length ≤ i ∧ H d = some (.frz o u)⟩
theorem wk_dT {d : Addr} {o : Obj} {u : HO} {ks : List V} : Wk (Itd d o u ks) ks.length (fun i x => ks[i]? = some x) (fun H => H d = some (.frz o u)) where
  stop := fun i H h l => ⟨l, h⟩
  go := fun i H h l => ⟨l, h⟩
  yld := fun i H x H' h l y => y
section
variable {X : Cx} {pos : Pos} {pins : List (Addr × Obj)} {σ : St} {H : Hp} {s : Shared}
theorem Inv.frz {d : Addr} {kvs : List (List Key × V)} {o : Obj} (I : Inv X pins σ H s) (e : H d = some (.dT kvs)) (g : s.heap.get? d = some o) : Inv X pins σ (upd H d (.frz o (.dT kvs))) s where
  ok := I.ok
  os := I.os
  bare := I.bare
  base := {
    keep := I.base.keep
    slot := I.base.slot
    free := fun b o h1 h2 h3 => by
      have := I.base.free b o h1 h2 h3
      rw [upd_ne fun z => by rw [z, e] at this; cases this]; exact this
    there := I.base.there
    tups := fun b xs h => by
      have := I.base.tups b xs h
      rw [upd_ne fun z => by rw [z, e] at this; cases this]; exact this
    frzs := fun b o u h => by
      have := I.base.frzs b o u h
      rw [upd_ne fun z => by rw [z, e] at this; cases this]; exact this
    tbls := fun b ps h => by
      obtain ⟨more, this⟩ := I.base.tbls b ps h
      exact ⟨more, by rw [upd_ne fun z => by rw [z, e] at this; cases this]; exact this⟩ }
  loc := I.loc
  cell := I.cell
  free := by
    have := I.free
    rw [upd_ne fun z => by rw [z, e] at this; cases this]; exact this
  freeC := fun x c h => by
    have := I.freeC x c h
    rw [upd_ne fun z => by rw [z, e] at this; cases this]; exact this
  pin := fun p hp => by
    obtain ⟨h1, h2, h3⟩ := I.pin p hp
    exact ⟨h1, by rw [upd_ne fun z => by rw [z, e] at h2; cases h2]; exact h2, h3⟩
  hok := fun a o' h => by
    have st : ∀ {u : HO}, ObjOk X.prog X.w H s.heap a u → ObjOk X.prog X.w (upd H d (.frz o (.dT kvs))) s.heap a u := fun x => x.stay (fun _ _ _ q => q) (fun b q => by rw [upd_ne fun z => by rw [z, e] at q; cases q]; exact q) (fun b xs q => by rw [upd_ne fun z => by rw [z, e] at q; cases q]; exact q)
    by_cases z : a = d
    · subst z
      rw [upd_same] at h
      cases h
      exact ⟨g, st (I.hok a _ e)⟩
    · rw [upd_ne z] at h
      exact st (I.hok a _ h)
  len := I.len
theorem turn_dT {P : Program} {w : World} {K : PySem.W.Frag} {tg : Expr} (d it : Addr) (hne : d ≠ it) (o : Obj) (u : HO) (vs : List V) (ks : List Value) (ep : Nat) (es : Array DictEntry) (ex : o.ExactDict) (dat : o.data = .dict es ep) (hes : es.toList.map (·.key) = ks) (rel : ∀ (i : Nat) (v : V), vs[i]? = some v → ∃ u, ks[i]? = some u ∧ RelV v u) (hl : vs.length = ks.length) :
    Turn P w K tg (Itd d o u vs) [it] it (fun i h => i ≤ ks.length ∧ h.IsKeyIter it d i ks.length ep) where
  mem := by simp
  obj := fun i h st b hb => by
    obtain ⟨_, o, e, c, dd⟩ := st
    have : b = it := by simpa using hb
    subst this
    exact ⟨o, e, fun v z => by rw [dd] at z; cases z⟩
  keep := fun i h h' st k => ⟨st.1, st.2.at fun o e => k it (by simp) o e⟩
  item := by
    intro X hP hw hK hc i pins s σ H E I hf st hg
    subst hP hw hK
    have hi : i < vs.length := hg.1
    have raw : RawD s.heap d ks ep := ⟨o, es, ((show ObjOk X.prog X.w H s.heap d (.frz o u) from I.hok d _ hg.2)).1, ex, dat, hes⟩
    obtain ⟨u', hu, ru⟩ := rel i vs[i] (by simp [hi])
    obtain ⟨f0, f1, f2, f3, f4, f5⟩ := hf it (by simp)
    refine raw_next st.2 raw hu fun h' st' sb => ?_
    have I1 : Inv X pins σ H { s with heap := h' } := I.turned (t' := s.toks) (fun b o hb e => (sb.2 b hb).trans e) f0 f1 f3 f4 f5
    obtain ⟨o2, e, c, dd⟩ := id st'
    exact ⟨u', rfl, go_of (s := { s with heap := h' }) e c dd (by decide) ⟨vs[i], H, I1, ru, ⟨rfl, by simp [hi]⟩, ⟨by omega, st'⟩, fun b hb => (hf b hb).1⟩⟩
  done := by
    intro X hP hw hK hc i pins s σ H E I hf st hg
    subst hP hw hK
    have hi : vs.length ≤ i := hg.1
    have raw : RawD s.heap d ks ep := ⟨o, es, ((show ObjOk X.prog X.w H s.heap d (.frz o u) from I.hok d _ hg.2)).1, ex, dat, hes⟩
    have ei : i = ks.length := by have := st.1; omega
    subst ei
    obtain ⟨f0, f1, f2, f3, f4, f5⟩ := hf it (by simp)
    exact raw_end (I.ok.hd hc) st.2 raw fun h' eb => ⟨rfl, I.turned (t' := s.toks) (fun b o hb e => eb b o hb e) f0 f1 f3 f4 f5⟩
  self := fun _ _ _ _ _ st h => wpAny_pyIter_keyiter st.2 h
/-- the keys stand at bs -/
def KeysAt (H : Hp) (bs : List Addr) (kvs : List (List Key × V)) : Prop := bs.length = kvs.length ∧ ∀ (i : Nat) (b : Addr) (kv : List Key × V), bs[i]? = some b → kvs[i]? = some kv → H b = some (.tup (kv.1.map kV))
def iDictT (tl : TE) : TI := fun σ H R => tl σ H fun x H1 => ∃ d kvs, x = .ref d ∧ H1 d = some (.dT kvs) ∧ ∀ (o : Obj) (bs : List Addr), KeysAt H1 bs kvs → (kvs.map (·.1)).Nodup → R (Itd d o (.dT kvs) (bs.map V.ref)) (upd H1 d (.frz o (.dT kvs)))
theorem i_dictT {tg l : Expr} {tl : TE} (hl : QE X l tl) : QI X tg l (iDictT tl) := ⟨by
  intro pins s σ H R I h
  refine thn (hl.o pins s σ H _ I h) fun v s1 ⟨x, H1, I1, r1, q1⟩ => ?_
  obtain ⟨d, kvs, rfl, e, q⟩ := q1
  cases r1
  obtain ⟨_, nsys, zs, hp, o, es, ep, g, ex, dat, hes, hnd⟩ := (show ObjOk X.prog X.w H1 s1.heap d (.dT kvs) from I1.hok d _ e)
  obtain ⟨hll, hget⟩ := paired_get hp
  have ek : zs.map (·.1) = kvs.map (·.1) := by
    apply List.ext_getElem?
    intro i
    rw [List.getElem?_map, List.getElem?_map]
    rcases Nat.lt_or_ge i kvs.length with h | h
    · have h' : i < zs.length := by omega
      have := (hget i kvs[i] zs[i] (by simp [h]) (by simp [h'])).1
      simp [h, h', this]
    · rw [List.getElem?_eq_none h, List.getElem?_eq_none (by omega)]; rfl
  have raw : RawD s1.heap d (zs.map fun q => Value.ref q.2.1) ep := ⟨o, es, g, ex, dat, by rw [hes, List.map_map]; rfl⟩
  have nd' : (kvs.map (·.1)).Nodup := by rw [← ek]; exact hnd
  have dlt : d < s1.heap.objs.size := Heap.lt_size g
  refine raw_iter nsys raw ?_
  refine ⟨s1.heap.objs.size, [s1.heap.objs.size], _, _, upd H1 d (.frz o (.dT kvs)), rfl, (I1.frz e g).kept (t' := s1.toks) fun b o e => Heap.get?_push_of_some _ e, turn_dT d _ (Nat.ne_of_lt dlt) o (.dT kvs) ((zs.map fun q => q.2.1).map V.ref) (zs.map fun q => Value.ref q.2.1) ep es ex dat (by rw [hes, List.map_map]; rfl) (fun i v hv => ?_) (by simp), ⟨Nat.zero_le _, ⟨_, Heap.get?_push_size _ rfl, rfl, rfl⟩⟩, fun b hb => ?_, q o (zs.map fun q => q.2.1) ⟨by rw [List.length_map]; omega, fun i b kv e1 e2 => ?_⟩ nd'⟩
  · rw [List.map_map, List.getElem?_map] at hv
    rw [List.getElem?_map]
    cases hz : zs[i]? with
    | none => rw [hz] at hv; cases hv
    | some z => rw [hz] at hv; cases hv; exact ⟨_, rfl, rfl⟩
  · have : b = s1.heap.objs.size := by simpa using hb
    subst this
    refine I1.fpOk (Nat.le_refl _) ?_
    rw [upd_ne (Nat.ne_of_gt dlt)]
    exact I1.hok.fresh (Nat.le_refl _)
  · rw [List.getElem?_map] at e1
    cases hz : zs[i]? with
    | none => rw [hz] at e1; cases e1
    | some z =>
      rw [hz] at e1; cases e1
      exact (hget i kv z e2 hz).2.1⟩
end
end L2

set_option Elab.async false
set_option linter.all false
set_option maxRecDepth 100000
set_option maxHeartbeats 4000000
/-! list.insert, enumerate(list), sorted(.., reverse=True) of ints, a dict display keyed by a tuple, its length -/
namespace L2
open PySem PySem.Spec PyProof.Rows
section
variable {X : Cx} {K : PySem.W.Frag}
end
end L2
namespace L2
open PySem PySem.Spec PyProof.Rows
section
variable {X : Cx} {pos : Pos}
end
end L2
namespace HT
open PySem PySem.Spec PyProof.Rows
theorem slicePick_rev (xs : Array Value) : slicePick xs none none (some (-1)) = xs.toList.reverse.toArray := by
  unfold slicePick
  have hb : sliceBounds none none (some (-1)) xs.size = ((xs.size : Int) - 1, -1, -1) := rfl
  rw [hb]
  show ((sliceRange ((xs.size : Int) - 1) (-1) (-1)).filterMap _).toArray = _
  have hr : sliceRange ((xs.size : Int) - 1) (-1) (-1) = (List.range xs.size).map fun (m : Nat) => ((xs.size : Int) - 1 + (m : Int) * -1).toNat := by
    unfold sliceRange
    have hc : (if (-1 : Int) > 0 then (if (xs.size : Int) - 1 < -1 then (-1 - ((xs.size : Int) - 1) + -1 - 1) / -1 else 0) else (if (xs.size : Int) - 1 > -1 then ((xs.size : Int) - 1 - -1 - -1 - 1) / (- -1) else 0)).toNat = xs.size := by
      rw [if_neg (by decide), show (- -1 : Int) = 1 by decide, Int.ediv_one]
      split <;> omega
    show (List.range (if (-1 : Int) > 0 then (if (xs.size : Int) - 1 < -1 then (-1 - ((xs.size : Int) - 1) + -1 - 1) / -1 else 0) else (if (xs.size : Int) - 1 > -1 then ((xs.size : Int) - 1 - -1 - -1 - 1) / (- -1) else 0)).toNat).map (fun (k : Nat) => ((xs.size : Int) - 1 + -1 * (k : Int)).toNat) = _
    rw [hc]
    refine List.map_congr_left fun m _ => ?_
    congr 1
    omega
  rw [hr, List.filterMap_map]
  exact pick_rev xs
end HT
namespace L2
open PySem PySem.Spec PyProof.Rows
section
variable {X : Cx} {e i o : Expr} {te td ty : TE} {p1 p2 p3 pos : Pos} {tk : Tok}
/-- l[::-1], l a list -/
def tRevL (K : PySem.W.Frag) (te : TE) : TE := fun σ H Q => te σ H fun x H1 => ∃ a xs, x = .ref a ∧ SqL K H1 a xs ∧ ∀ p, H1 p = none → Q (.ref p) (upd H1 p (.lst xs.reverse))
theorem q_revL {st : Expr} (he : QE X e te) (hst : QE X st (tUn (rU fun i => .int (-i)) (tC (.int 1)))) : QE X (.Subscript e (.Slice none none (some st) p2) pos) (tRevL X.K te) := ⟨by
  intro pins s σ H Q I h
  refine Subscript_ (thn (he.o pins s σ H _ I h) fun v s1 ⟨x, H1, I1, r1, q1⟩ => ?_)
  refine wpAny_Slice ?_
  rw [evalPart_none, evalPart_some]
  refine wpAny_pure (wpAny_pure ?_)
  refine thn (hst.o pins s1 σ H1 (fun y H2 => y = .int (-1) ∧ H2 = H1) I1 ⟨1, rfl, rfl, rfl⟩) fun vst s3 ⟨y, H3, I3, r3, ey, eh⟩ => ?_
  subst ey eh
  obtain ⟨tk, rfl⟩ := r3
  obtain ⟨a, xs, rfl, hx, q⟩ := q1
  cases r1
  have I4 : Inv X pins σ _ { s3 with heap := s3.heap.push { cls := .type "slice", data := .fields #[.none, .none, .int (-1) tk] } } := I3.kept (t' := s3.toks) fun b ob q => Heap.get?_push_of_some _ q
  obtain ⟨its, r, ht, hz⟩ := I4.list hx
  have hlen : its.toArray.size = xs.length := by rw [List.size_toArray]; exact r.length.symm
  show wpAny (model X.prog X.w) X.A (subscriptTail e (.Slice none none (some st) p2) (.ref a) (.ref s3.heap.objs.size)) (EP X pins σ Q) X.xe { s3 with heap := s3.heap.push { cls := .type "slice", data := .fields #[.none, .none, .int (-1) tk] } }
  refine tail_any (ops := [.ref a, .ref s3.heap.objs.size]) ht.isList.typeIs slot_list_getitem.lookup ?_ (by with_unfolding_all rfl)
  refine wpAny_getItem_list_slice (st := some (-1)) ht.isList (Heap.IsSliceOf.new ..) .none .none (.int (-1) tk) (by simp) ?_ (by rw [hlen]; exact hz)
  rw [HT.slicePick_rev]
  refine ⟨.ref _, _, I4.laid (t' := s3.toks) (o := .lst xs.reverse) (fun b ob q => Heap.get?_push_of_some _ q) (Nat.le_refl _) ?_, rfl, q _ (I4.hok.fresh (Nat.le_refl _))⟩
  exact ⟨by rw [List.length_reverse]; exact hz, its.reverse, 0, r.rev, Heap.get?_push_size _ rfl⟩⟩
theorem q_dget (hu : X.A.units + 1 < cLine) (ho : QE X o td) (hi : QE X i ty) (hs : NoSl i := by exact fun _ _ => rfl) : QE X (.Subscript o i pos) (tDGet td ty) := ⟨pe_dget hu ho.o hi.o hs⟩
end
end L2

set_option Elab.async false
set_option linter.all false
set_option maxRecDepth 100000
set_option maxHeartbeats 4000000
/-! ways put in order by likes_more -/
namespace RW
open PySem PySem.Spec PyProof.Rows L2
/-! putting in -/
/-! data -/
mutual
theorem eqv_pyD : ∀ d : D, (pyD d).eqv (pyD d) = true
  | .non => by rw [pyD, PyData.eqv]
  | .bl b => by rw [pyD, PyData.eqv]; simp
  | .int i => by rw [pyD, PyData.eqv]; simp
  | .str x => by rw [pyD, PyData.eqv]; simp
  | .tup ds => by rw [pyD, PyData.eqv]; exact eqv_pyL ds
  | .oth => by rw [pyD, PyData.eqv]
theorem eqv_pyL : ∀ ds : List D, PyData.eqvAll (pyL ds) (pyL ds) = true
  | [] => by rw [pyL, PyData.eqvAll]
  | d :: ds => by rw [pyL, PyData.eqvAll, eqv_pyD d, eqv_pyL ds]; rfl
end
/-! a dict of ways and marks -/
theorem valV_at : ∀ {kvs : List (List Key × V)} {kv : List Key × V}, (kvs.map (·.1)).Nodup → kv ∈ kvs → valV kvs kv.1 = some kv.2
  | p :: kvs, kv, nd, h => by
    rw [List.map_cons] at nd
    obtain ⟨n1, n2⟩ := List.nodup_cons.mp nd
    rcases List.mem_cons.mp h with rfl | h
    · exact valV_pos rfl
    · have ne : p.1 ≠ kv.1 := fun z => n1 (by rw [z]; exact List.mem_map.mpr ⟨kv, h, rfl⟩)
      have := valV_at n2 h
      unfold valV at this ⊢
      rw [List.find?_cons, decide_eq_false ne]
      exact this
end RW

set_option Elab.async false
set_option linter.all false
set_option maxRecDepth 100000
set_option maxHeartbeats 4000000
/-! zip of two lists or tuples -/
namespace HT
open PySem PySem.Spec PyProof.Rows L2
section
variable {prog : Program} {w : World} {A : Around} {E : Value → Shared → Prop} {s : Shared}
theorem zip_itemD {z TI TO i1 i2 l1 l2 : Addr} {n1 n2 k : Nat} {P1 P2 : Nat → Value → Prop} {S1 S2 : Nat → Heap → Prop} {a b : Value} {Q : Value → Shared → Prop} (D : ZipApart z TI TO i1 i2 l1 l2)
    (D1 : Draws prog w A i1 [i1, l1] n1 P1 S1) (D2 : Draws prog w A i2 [i2, l2] n2 P2 S2)
    (hz : IsZip s.heap z TI TO .none) (hTI : IsPair s.heap TI (.ref i1) (.ref i2)) (hTO : IsPair s.heap TO a b) (h1 : S1 k s.heap) (h2 : S2 k s.heap) (k1 : k < n1) (k2 : k < n2)
    (hQ : ∀ x y h' tk, P1 k x → P2 k y → IsZip h' z TI TO (rawInt s.heap.objs.size) → IsPair h' TO x y → S1 (k + 1) h' → S2 (k + 1) h' → IsPair h' s.heap.objs.size x y → h'.objs.size = s.heap.objs.size + 1 →
      (∀ c o, c ≠ z → c ≠ TO → c ≠ i1 → c ≠ i2 → s.heap.get? c = some o → h'.get? c = some o) → Q (.ref s.heap.objs.size) { s with heap := h', toks := tk }) :
    wpAny (model prog w) A (Builtin.«zip.__next__» ⟨[.ref z], []⟩) (fun fin s' => ∃ v, fin = .done (.ret v) ∧ Q v s') E s := by
  show wpAny _ _ (field (.ref z) 2 >>= _) _ _ _
  refine wpAny_bind (wpAny_field hz rfl (x := .bool false) rfl ?_)
  show wpAny _ _ (field (.ref z) 3 >>= _) _ _ _
  refine wpAny_bind (wpAny_field hz rfl (x := .ref TI) rfl ?_)
  refine wpAny_bind (wpAny_seqItems hTI rfl ?_)
  show wpAny _ _ (Builtin.SmallTypes.ownedTupleIsFree (.ref z) >>= _) _ _ _
  refine wpAny_bind ?_
  unfold Builtin.SmallTypes.ownedTupleIsFree
  refine wpAny_bind (wpAny_field hz rfl (x := .none) rfl (wpAny_pure ?_))
  simp only [if_true]
  refine wpAny_bind (wpAny_rule ?_)
  refine wpAny_bind (wpAny_field hz rfl (x := .ref TO) rfl ?_)
  refine wpAny_bind (wpAny_setField_rec hz (by simp) fun h₁ hz₁ hs₁ => ?_)
  replace hz₁ : IsZip h₁ z TI TO .ellipsis := hz₁
  refine wpAny_bind ?_
  simp only [List.zipIdx_cons, List.zipIdx_nil, List.forIn_cons, List.forIn_nil]
  refine wpAny_bind (wpAny_bind (wpAny_onRaise ?_))
  show wpAny _ _ (Builtin.SmallTypes.nextOf (.ref i1) >>= _) _ _ _
  have f1 : ∀ {i : Nat} {h h' : Heap}, S1 i h → (∀ c o, c ≠ z → c ≠ TO → c ≠ i2 → h.get? c = some o → h'.get? c = some o) → S1 i h' := fun st kk => D1.frame _ _ _ st fun c hc o e => by
    rcases List.mem_cons.mp hc with rfl | hc
    · exact kk c o D.i1z D.TOi1.symm D.i12 e
    · have : c = l1 := by simpa using hc
      subst this
      exact kk c o D.l1z D.l1TO D.l1i2 e
  have f2 : ∀ {i : Nat} {h h' : Heap}, S2 i h → (∀ c o, c ≠ z → c ≠ TO → c ≠ i1 → h.get? c = some o → h'.get? c = some o) → S2 i h' := fun st kk => D2.frame _ _ _ st fun c hc o e => by
    rcases List.mem_cons.mp hc with rfl | hc
    · exact kk c o D.i2z D.TOi2.symm D.i12.symm e
    · have : c = l2 := by simpa using hc
      subst this
      exact kk c o D.l2z D.l2TO D.l2i1 e
  refine wpAny_bind (D1.item k _ _ _ k1 (f1 h1 fun c o c1 _ _ e => hs₁.extBut _ _ c1 e) fun x h₂ tk2 hx h1₂ hs₂ => wpAny_pure ?_)
  have hTO₂ : IsPair h₂ TO a b := hs₂.extBut _ _ D.TOi1 (hs₁.extBut _ _ D.TOz hTO)
  refine wpAny_bind (wpAny_seqItems hTO₂ rfl ?_)
  refine wpAny_bind (wpAny_updateSeq_pair hTO₂ fun h₃ hTO₃ hs₃ => ?_)
  replace hTO₃ : IsPair h₃ TO x b := hTO₃
  refine wpAny_bind (wpAny_letGo (wpAny_pure ?_))
  refine wpAny_bind (wpAny_bind (wpAny_onRaise ?_))
  show wpAny _ _ (Builtin.SmallTypes.nextOf (.ref i2) >>= _) _ _ _
  refine wpAny_bind (D2.item k _ _ _ k2 (f2 h2 fun c o c1 c2 c3 e => hs₃.extBut _ _ c2 (hs₂.extBut _ _ c3 (hs₁.extBut _ _ c1 e))) fun y h₄ tk4 hy h2₄ hs₄ => wpAny_pure ?_)
  have hTO₄ : IsPair h₄ TO x b := hs₄.extBut _ _ D.TOi2 hTO₃
  refine wpAny_bind (wpAny_seqItems hTO₄ rfl ?_)
  refine wpAny_bind (wpAny_updateSeq_pair hTO₄ fun h₅ hTO₅ hs₅ => ?_)
  replace hTO₅ : IsPair h₅ TO x y := hTO₅
  refine wpAny_bind (wpAny_letGo (wpAny_pure (wpAny_pure ?_)))
  refine wpAny_bind (wpAny_seqItems hTO₅ rfl ?_)
  refine wpAny_bind (wpAny_newTuple ?_)
  have hsz : h₅.objs.size = s.heap.objs.size := by rw [hs₅.1, hs₄.1, hs₃.1, hs₂.1, hs₁.1]
  have hz₅ : IsZip h₅ z TI TO .ellipsis := hs₅.extBut _ _ D.TOz.symm (hs₄.extBut _ _ D.i2z.symm (hs₃.extBut _ _ D.TOz.symm (hs₂.extBut _ _ D.i1z.symm hz₁)))
  have hk₅ : ∀ c o, c ≠ z → c ≠ TO → c ≠ i1 → c ≠ i2 → s.heap.get? c = some o → h₅.get? c = some o := fun c o c1 c2 c3 c4 e =>
    hs₅.extBut _ _ c2 (hs₄.extBut _ _ c4 (hs₃.extBut _ _ c2 (hs₂.extBut _ _ c3 (hs₁.extBut _ _ c1 e))))
  have h1₅ : S1 (k + 1) h₅ := f1 h1₂ fun c o c1 c2 c3 e => hs₅.extBut _ _ c2 (hs₄.extBut _ _ c3 (hs₃.extBut _ _ c2 e))
  have h2₅ : S2 (k + 1) h₅ := f2 h2₄ fun c o c1 c2 c3 e => hs₅.extBut _ _ c2 e
  have hzlt : z < h₅.objs.size := Heap.lt_size hz₅
  have hTOlt : TO < h₅.objs.size := Heap.lt_size hTO₅
  show wpAny _ _ (Builtin.SmallTypes.ownedTupleHandOut (.ref z) (.ref h₅.objs.size) >>= _) _ _ _
  refine wpAny_bind ?_
  unfold Builtin.SmallTypes.ownedTupleHandOut
  have hz₆ : IsZip (h₅.push { cls := .type "tuple", data := .seq #[x, y] }) z TI TO .ellipsis := Heap.get?_push_of_some _ hz₅
  refine wpAny_bind (wpAny_setField_rec hz₆ (by simp) fun h₇ hz₇ hs₇ => ?_)
  replace hz₇ : IsZip h₇ z TI TO (rawInt h₅.objs.size) := hz₇
  refine wpAny_setField_rec hz₇ (by simp) fun h₈ hz₈ hs₈ => ?_
  replace hz₈ : IsZip h₈ z TI TO (rawInt h₅.objs.size) := hz₈
  have up : ∀ c o, c ≠ z → h₅.get? c = some o → h₈.get? c = some o := fun c o c1 e => hs₈.extBut _ _ c1 (hs₇.extBut _ _ c1 (Heap.get?_push_of_some _ e))
  have hT₈ : IsPair h₈ h₅.objs.size x y := hs₈.extBut _ _ (Nat.ne_of_gt hzlt) (hs₇.extBut _ _ (Nat.ne_of_gt hzlt) (Heap.get?_push_size _ rfl))
  have hz8 : h₈.objs.size = h₅.objs.size + 1 := by rw [hs₈.1, hs₇.1, Heap.size_push]
  rw [hsz] at hz₈ hT₈ hz8
  refine wpAny_pure ⟨_, rfl, ?_⟩
  show Q (.ref h₅.objs.size) _
  rw [hsz]
  exact hQ x y h₈ _ hx hy hz₈ (up _ _ D.TOz hTO₅) (f1 h1₅ fun c o c1 _ _ e => up c o c1 e) (f2 h2₅ fun c o c1 _ _ e => up c o c1 e) hT₈ hz8 fun c o c1 c2 c3 c4 e => up c o c1 (hk₅ c o c1 c2 c3 c4 e)
theorem zip_endD {z TI TO i1 i2 l1 l2 : Addr} {n1 n2 k : Nat} {P1 P2 : Nat → Value → Prop} {S1 S2 : Nat → Heap → Prop} {a b : Value} {Q : Fin → Shared → Prop} (D : ZipApart z TI TO i1 i2 l1 l2)
    (D1 : Draws prog w A i1 [i1, l1] n1 P1 S1) (D2 : Draws prog w A i2 [i2, l2] n2 P2 S2)
    (hz : IsZip s.heap z TI TO .none) (hTI : IsPair s.heap TI (.ref i1) (.ref i2)) (hTO : IsPair s.heap TO a b) (h1 : S1 k s.heap) (h2 : S2 k s.heap) (hend : k = n1 ∨ (k < n1 ∧ k = n2))
    (hE : ∀ h' tk e, (∀ c o, c ≠ z → c ≠ TO → c ≠ i1 → c ≠ i2 → s.heap.get? c = some o → h'.get? c = some o) → (∃ o, h'.get? e = some o ∧ o.cls = .type "StopIteration") → E (.ref e) { s with heap := h', toks := tk }) :
    wpAny (model prog w) A (Builtin.«zip.__next__» ⟨[.ref z], []⟩) Q E s := by
  show wpAny _ _ (field (.ref z) 2 >>= _) _ _ _
  refine wpAny_bind (wpAny_field hz rfl (x := .bool false) rfl ?_)
  show wpAny _ _ (field (.ref z) 3 >>= _) _ _ _
  refine wpAny_bind (wpAny_field hz rfl (x := .ref TI) rfl ?_)
  refine wpAny_bind (wpAny_seqItems hTI rfl ?_)
  show wpAny _ _ (Builtin.SmallTypes.ownedTupleIsFree (.ref z) >>= _) _ _ _
  refine wpAny_bind ?_
  unfold Builtin.SmallTypes.ownedTupleIsFree
  refine wpAny_bind (wpAny_field hz rfl (x := .none) rfl (wpAny_pure ?_))
  simp only [if_true]
  refine wpAny_bind (wpAny_rule ?_)
  refine wpAny_bind (wpAny_field hz rfl (x := .ref TO) rfl ?_)
  refine wpAny_bind (wpAny_setField_rec hz (by simp) fun h₁ hz₁ hs₁ => ?_)
  replace hz₁ : IsZip h₁ z TI TO .ellipsis := hz₁
  refine wpAny_bind ?_
  simp only [List.zipIdx_cons, List.zipIdx_nil, List.forIn_cons, List.forIn_nil]
  refine wpAny_bind (wpAny_bind (wpAny_onRaise ?_))
  show wpAny _ _ (Builtin.SmallTypes.nextOf (.ref i1) >>= _) _ _ _
  have f1 : ∀ {i : Nat} {h h' : Heap}, S1 i h → (∀ c o, c ≠ z → c ≠ TO → c ≠ i2 → h.get? c = some o → h'.get? c = some o) → S1 i h' := fun st kk => D1.frame _ _ _ st fun c hc o e => by
    rcases List.mem_cons.mp hc with rfl | hc
    · exact kk c o D.i1z D.TOi1.symm D.i12 e
    · have : c = l1 := by simpa using hc
      subst this
      exact kk c o D.l1z D.l1TO D.l1i2 e
  have f2 : ∀ {i : Nat} {h h' : Heap}, S2 i h → (∀ c o, c ≠ z → c ≠ TO → c ≠ i1 → h.get? c = some o → h'.get? c = some o) → S2 i h' := fun st kk => D2.frame _ _ _ st fun c hc o e => by
    rcases List.mem_cons.mp hc with rfl | hc
    · exact kk c o D.i2z D.TOi2.symm D.i12.symm e
    · have : c = l2 := by simpa using hc
      subst this
      exact kk c o D.l2z D.l2TO D.l2i1 e
  rcases hend with rfl | ⟨k1, rfl⟩
  · refine wpAny_bind (D1.done _ _ _ (f1 h1 fun c o c1 _ _ e => hs₁.extBut _ _ c1 e) fun h₂ e hs₂ he => ?_)
    obtain ⟨oe, hoe, hce⟩ := he
    have hz₂ : IsZip h₂ z TI TO .ellipsis := hs₂ _ _ D.i1z.symm hz₁
    have hez : e ≠ z := fun x => by subst x; rw [hz₂] at hoe; cases hoe; simp at hce
    refine wpAny_setField_rec hz₂ (by simp) fun h₃ _ hs₃ => hE h₃ s.toks e (fun c o c1 _ c3 _ x => hs₃.extBut _ _ c1 (hs₂ _ _ c3 (hs₁.extBut _ _ c1 x))) ⟨oe, hs₃.extBut _ _ hez hoe, hce⟩
  · refine wpAny_bind (D1.item k _ _ _ k1 (f1 h1 fun c o c1 _ _ e => hs₁.extBut _ _ c1 e) fun x h₂ tk2 hx h1₂ hs₂ => wpAny_pure ?_)
    have hTO₂ : IsPair h₂ TO a b := hs₂.extBut _ _ D.TOi1 (hs₁.extBut _ _ D.TOz hTO)
    refine wpAny_bind (wpAny_seqItems hTO₂ rfl ?_)
    refine wpAny_bind (wpAny_updateSeq_pair hTO₂ fun h₃ hTO₃ hs₃ => ?_)
    refine wpAny_bind (wpAny_letGo (wpAny_pure ?_))
    refine wpAny_bind (wpAny_bind (wpAny_onRaise ?_))
    show wpAny _ _ (Builtin.SmallTypes.nextOf (.ref i2) >>= _) _ _ _
    refine wpAny_bind (D2.done _ _ _ (f2 h2 fun c o c1 c2 c3 e => hs₃.extBut _ _ c2 (hs₂.extBut _ _ c3 (hs₁.extBut _ _ c1 e))) fun h₄ e hs₄ he => ?_)
    obtain ⟨oe, hoe, hce⟩ := he
    have hz₄ : IsZip h₄ z TI TO .ellipsis := hs₄ _ _ D.i2z.symm (hs₃.extBut _ _ D.TOz.symm (hs₂.extBut _ _ D.i1z.symm hz₁))
    have hez : e ≠ z := fun x => by subst x; rw [hz₄] at hoe; cases hoe; simp at hce
    refine wpAny_setField_rec hz₄ (by simp) fun h₅ _ hs₅ => hE h₅ _ e (fun c o c1 c2 c3 c4 x => hs₅.extBut _ _ c1 (hs₄ _ _ c4 (hs₃.extBut _ _ c2 (hs₂.extBut _ _ c3 (hs₁.extBut _ _ c1 x))))) ⟨oe, hs₅.extBut _ _ hez hoe, hce⟩
/-! the sources -/
def SqH (t : Bool) (h : Heap) (a : Addr) (items : Array Value) : Prop := if t then h.IsTuple a items else h.IsList a items
def ItH (t : Bool) (h : Heap) (it a : Addr) (i : Nat) : Prop := if t then h.IsTupleIter it a i else h.IsListIter it a i
def itO (t : Bool) (a : Addr) : Obj := { cls := .type (if t then "tuple_iterator" else "list_iterator"), data := .fields #[.ref a, .int 0 0] }
theorem ItH.at {t : Bool} {h h' : Heap} {it a : Addr} {i : Nat} (x : ItH t h it a i) (e : ∀ o, h.get? it = some o → h'.get? it = some o) : ItH t h' it a i := by
  cases t <;> (obtain ⟨o, ho, r⟩ := x; exact ⟨o, e _ ho, r⟩)
theorem ItH.obj {t : Bool} {h : Heap} {it a : Addr} {i : Nat} (x : ItH t h it a i) : ∃ o, h.get? it = some o ∧ (∀ v, o.data ≠ .cell v) ∧ o.cls ≠ .type "tuple" ∧ o.cls ≠ .type "list" := by
  cases t
  · obtain ⟨o, ho, c, d⟩ := x
    exact ⟨o, ho, (fun v z => by rw [d] at z; cases z), (fun z => by rw [c] at z; injection z with z; exact absurd z (by decide)), (fun z => by rw [c] at z; injection z with z; exact absurd z (by decide))⟩
  · obtain ⟨o, ho, c, d⟩ := x
    exact ⟨o, ho, (fun v z => by rw [d] at z; cases z), (fun z => by rw [c] at z; injection z with z; exact absurd z (by decide)), (fun z => by rw [c] at z; injection z with z; exact absurd z (by decide))⟩
theorem drawsH (t : Bool) (hh : A.handled = none) (it l : Addr) (hne : l ≠ it) (items : Array Value) : Draws prog w A it [it, l] items.size (fun i v => items[i]? = some v) (fun i h => ItH t h it l i ∧ SqH t h l items) := by
  cases t
  · exact Draws.list hh it l hne items
  · exact draws_tuple hh it l hne items
abbrev zpH1 (h : Heap) (t1 : Bool) (l1 : Addr) : Heap := h.push (itO t1 l1)
abbrev zpH2 (h : Heap) (t1 t2 : Bool) (l1 l2 : Addr) : Heap := (zpH1 h t1 l1).push (itO t2 l2)
abbrev zpH3 (h : Heap) (t1 t2 : Bool) (l1 l2 : Addr) : Heap := (zpH2 h t1 t2 l1 l2).push { cls := .type "tuple", data := .seq #[.ref h.objs.size, .ref (zpH1 h t1 l1).objs.size] }
abbrev zpH4 (h : Heap) (t1 t2 : Bool) (l1 l2 : Addr) : Heap := (zpH3 h t1 t2 l1 l2).push { cls := .type "tuple", data := .seq #[.none, .none] }
abbrev zpH5 (h : Heap) (t1 t2 : Bool) (l1 l2 : Addr) : Heap := (zpH4 h t1 t2 l1 l2).push { cls := .type "zip", data := .fields #[.none, .bool false, .bool false, .ref (zpH2 h t1 t2 l1 l2).objs.size, .ref (zpH3 h t1 t2 l1 l2).objs.size] }
theorem meets_zp (t1 t2 : Bool) (l1 l2 : Addr) (xs ys : Array Value) :
    Meets (Builtin.«zip.__new__» ⟨[.type "zip", .ref l1, .ref l2], []⟩) (fun _ R s => SqH t1 s.heap l1 xs ∧ SqH t2 s.heap l2 ys ∧
      R (.ok (.ret (.ref (zpH4 s.heap t1 t2 l1 l2).objs.size))) { s with heap := zpH5 s.heap t1 t2 l1 l2 }) :=
  .of_wp fun prog w A R s h => by
    obtain ⟨hp, g, d, tk, os⟩ := s; obtain ⟨hl1, hl2, h⟩ := h
    have hsub := sub_zip
    cases t1 <;> cases t2
    · have hL1 : Heap.IsList (Shared.heap ⟨hp, g, d, tk, os⟩) l1 xs := hl1
      have hL2 : Heap.IsList (Shared.heap ⟨hp.push { cls := .type "list_iterator", data := .fields #[.ref l1, .int 0 0] }, g, d, tk, os⟩) l2 ys := Heap.IsList.push hl2 _
      wp_walk using wpAny_pyIter_list hL1, wpAny_pyIter_list hL2
      exact ⟨_, rfl, h⟩
    · have hL1 : Heap.IsList (Shared.heap ⟨hp, g, d, tk, os⟩) l1 xs := hl1
      have hL2 : Heap.IsTuple (Shared.heap ⟨hp.push { cls := .type "list_iterator", data := .fields #[.ref l1, .int 0 0] }, g, d, tk, os⟩) l2 ys := (show Heap.IsTuple _ l2 ys from hl2).at fun o e => Heap.get?_push_of_some _ e
      wp_walk using wpAny_pyIter_list hL1, wpAny_pyIter_tuple hL2
      exact ⟨_, rfl, h⟩
    · have hL1 : Heap.IsTuple (Shared.heap ⟨hp, g, d, tk, os⟩) l1 xs := hl1
      have hL2 : Heap.IsList (Shared.heap ⟨hp.push { cls := .type "tuple_iterator", data := .fields #[.ref l1, .int 0 0] }, g, d, tk, os⟩) l2 ys := Heap.IsList.push hl2 _
      wp_walk using wpAny_pyIter_tuple hL1, wpAny_pyIter_list hL2
      exact ⟨_, rfl, h⟩
    · have hL1 : Heap.IsTuple (Shared.heap ⟨hp, g, d, tk, os⟩) l1 xs := hl1
      have hL2 : Heap.IsTuple (Shared.heap ⟨hp.push { cls := .type "tuple_iterator", data := .fields #[.ref l1, .int 0 0] }, g, d, tk, os⟩) l2 ys := (show Heap.IsTuple _ l2 ys from hl2).at fun o e => Heap.get?_push_of_some _ e
      wp_walk using wpAny_pyIter_tuple hL1, wpAny_pyIter_tuple hL2
      exact ⟨_, rfl, h⟩
theorem ItH.new {t : Bool} {h : Heap} {it a : Addr} (e : h.get? it = some (itO t a)) : ItH t h it a 0 := by
  cases t
  · exact ⟨_, e, rfl, rfl⟩
  · exact ⟨_, e, rfl, rfl⟩
theorem call_zp {t1 t2 : Bool} {l1 l2 : Addr} {xs ys : Array Value} {Q : Value → Shared → Prop} (hl1 : SqH t1 s.heap l1 xs) (hl2 : SqH t2 s.heap l2 ys)
    (h : ∀ h', IsZip h' (s.heap.objs.size + 4) (s.heap.objs.size + 2) (s.heap.objs.size + 3) .none → IsPair h' (s.heap.objs.size + 2) (.ref s.heap.objs.size) (.ref (s.heap.objs.size + 1)) →
      IsPair h' (s.heap.objs.size + 3) .none .none → ItH t1 h' s.heap.objs.size l1 0 → ItH t2 h' (s.heap.objs.size + 1) l2 0 → h'.objs.size = s.heap.objs.size + 5 →
      (∀ c o, s.heap.get? c = some o → h'.get? c = some o) → Q (.ref (s.heap.objs.size + 4)) { s with heap := h' }) :
    wpAny (model prog w) A (call (.type "zip") [.ref l1, .ref l2]) Q E s := by
  refine callType_new PySem.F.called_zip (by decide) (PySem.F.typeCall_zip_2 _ _) (PySem.F.newCall_zip_2 _ _) (fun obj => PySem.F.args_object_init_3 obj _ _) PySem.F.entry_zip_new
    (meets_zp t1 t2 l1 l2 xs ys) ⟨hl1, hl2, ?_⟩
  have z1 : (zpH1 s.heap t1 l1).objs.size = s.heap.objs.size + 1 := Heap.size_push ..
  have z2 : (zpH2 s.heap t1 t2 l1 l2).objs.size = s.heap.objs.size + 2 := by rw [Heap.size_push, z1]
  have z3 : (zpH3 s.heap t1 t2 l1 l2).objs.size = s.heap.objs.size + 3 := by rw [Heap.size_push, z2]
  have z4 : (zpH4 s.heap t1 t2 l1 l2).objs.size = s.heap.objs.size + 4 := by rw [Heap.size_push, z3]
  have z5 : (zpH5 s.heap t1 t2 l1 l2).objs.size = s.heap.objs.size + 5 := by rw [Heap.size_push, z4]
  have g5 : (zpH5 s.heap t1 t2 l1 l2).get? (zpH4 s.heap t1 t2 l1 l2).objs.size = some _ := Heap.get?_push_size _ rfl
  have g4 : (zpH5 s.heap t1 t2 l1 l2).get? (zpH3 s.heap t1 t2 l1 l2).objs.size = some _ := Heap.get?_push_of_some _ (Heap.get?_push_size _ rfl)
  have g3 : (zpH5 s.heap t1 t2 l1 l2).get? (zpH2 s.heap t1 t2 l1 l2).objs.size = some _ := Heap.get?_push_of_some _ (Heap.get?_push_of_some _ (Heap.get?_push_size _ rfl))
  have g2 : (zpH5 s.heap t1 t2 l1 l2).get? (zpH1 s.heap t1 l1).objs.size = some _ := Heap.get?_push_of_some _ (Heap.get?_push_of_some _ (Heap.get?_push_of_some _ (Heap.get?_push_size _ rfl)))
  have g1 : (zpH5 s.heap t1 t2 l1 l2).get? s.heap.objs.size = some _ := Heap.get?_push_of_some _ (Heap.get?_push_of_some _ (Heap.get?_push_of_some _ (Heap.get?_push_of_some _ (Heap.get?_push_size _ rfl))))
  show _ ∧ _
  rw [z2, z3, z4] at g5
  rw [z1, z2] at g3
  rw [z3] at g4
  rw [z1] at g2
  rw [z4]
  exact ⟨⟨_, g5, rfl⟩, h _ g5 g3 g4 (ItH.new g1) (ItH.new g2) z5 fun c o x =>
    Heap.get?_push_of_some _ (Heap.get?_push_of_some _ (Heap.get?_push_of_some _ (Heap.get?_push_of_some _ (Heap.get?_push_of_some _ x))))⟩
end
end HT

set_option Elab.async false
set_option linter.all false
set_option maxRecDepth 100000
set_option maxHeartbeats 4000000
/-! zip walked by a loop -/
namespace L2
open PySem PySem.Spec PyProof.Rows
section
variable {X : Cx} {K : PySem.W.Frag}
def SqZ (t : Bool) (H : Hp) (a : Addr) (xs : List V) : Prop := if t then H a = some (.tup xs) else H a = some (.lst xs)
theorem SqZ.some {t : Bool} {H : Hp} {a : Addr} {xs : List V} (h : SqZ t H a xs) : ∃ o, H a = some o := by cases t <;> exact ⟨_, h⟩
theorem SqZ.inj {t : Bool} {H : Hp} {a : Addr} {xs ys : List V} (h : SqZ t H a xs) (g : SqZ t H a ys) : xs = ys := by
  cases t
  · have e := (show H a = Option.some (.lst xs) from h).symm.trans (show H a = Option.some (.lst ys) from g); cases e; rfl
  · have e := (show H a = Option.some (.tup xs) from h).symm.trans (show H a = Option.some (.tup ys) from g); cases e; rfl
theorem sqz_of {pins : List (Addr × Obj)} {σ : St} {H : Hp} {s : Shared} {t : Bool} {a : Addr} {xs : List V} (I : Inv X pins σ H s) (h : SqZ t H a xs) : ∃ its : List Value, Vals xs its ∧ HT.SqH t s.heap a its.toArray := by
  cases t
  · obtain ⟨its, rv, p, _⟩ := I.list (SqL.of (show H a = Option.some (.lst xs) from h)); exact ⟨its, rv, p.isList⟩
  · obtain ⟨its, rv, p, _⟩ := I.tuple (show SqT X.K H a xs from .inl (.inl (show H a = Option.some (.tup xs) from h))); exact ⟨its, rv, p⟩
def Itz (t1 t2 : Bool) (a b : Addr) (n : Nat) : It :=
  ⟨fun i H => ∃ xs ys x y, SqZ t1 H a xs ∧ SqZ t2 H b ys ∧ min xs.length ys.length = n ∧ xs[i]? = some x ∧ ys[i]? = some y,
   fun i H x H' => ∃ T xs ys u v, SqZ t1 H a xs ∧ SqZ t2 H b ys ∧ x = .ref T ∧ H T = none ∧ xs[i]? = some u ∧ ys[i]? = some v ∧ H' = upd H T (.tup [u, v]),
   fun i H => ∃ xs ys, SqZ t1 H a xs ∧ SqZ t2 H b ys ∧ min xs.length ys.length = n ∧ n ≤ i⟩
structure ZpA (z TI TO i1 i2 : Addr) : Prop where
  TIz : TI ≠ z
  TOz : TO ≠ z
  i1z : i1 ≠ z
  i2z : i2 ≠ z
  TITO : TI ≠ TO
  TIi1 : TI ≠ i1
  TIi2 : TI ≠ i2
  TOi1 : TO ≠ i1
  TOi2 : TO ≠ i2
  i12 : i1 ≠ i2
theorem ZpA.apart {z TI TO i1 i2 l1 l2 : Addr} (Z : ZpA z TI TO i1 i2) {H : Hp} (hf : ∀ b ∈ [z, TI, TO, i1, i2], H b = none) (h1 : ∃ o, H l1 = some o) (h2 : ∃ o, H l2 = some o) : ZipApart z TI TO i1 i2 l1 l2 := by
  have n1 : ∀ b ∈ [z, TI, TO, i1, i2], l1 ≠ b := fun b hb e => by obtain ⟨o, h⟩ := h1; rw [e, hf b hb] at h; cases h
  have n2 : ∀ b ∈ [z, TI, TO, i1, i2], l2 ≠ b := fun b hb e => by obtain ⟨o, h⟩ := h2; rw [e, hf b hb] at h; cases h
  exact ⟨Z.TIz, Z.TOz, Z.i1z, Z.i2z, Z.TITO, Z.TIi1, Z.TIi2, Z.TOi1, Z.TOi2, Z.i12, n1 _ (by simp), n1 _ (by simp), n1 _ (by simp), n1 _ (by simp), n2 _ (by simp), n2 _ (by simp), n2 _ (by simp), n2 _ (by simp)⟩
theorem Inv.stepF {pins : List (Addr × Obj)} {σ : St} {H : Hp} {s : Shared} {fp : List Addr} {h2 : Heap} {tk : Nat} (I : Inv X pins σ H s) (hf : ∀ b ∈ fp, FpOk X pins H b) (kk : ∀ b o, b ∉ fp → s.heap.get? b = some o → h2.get? b = some o) :
    Inv X pins σ H { s with heap := h2, toks := tk } := by
  refine Inv.step (s := s) (h' := h2) (t' := tk) (g' := s.gens) (d' := s.drawn) (ch := fp) I (fun b hb => ?_) (fun b o _ _ hc e' _ => kk b o hc e') (fun b o _ _ hc e' _ => ⟨o.slots, kk b o hc e'⟩) (fun _ _ _ _ z => z) (fun b o hc e' => ⟨o, kk b o hc e'⟩) (fun _ _ z => z) (fun _ _ _ z => z) (fun b ps z => ⟨#[], by rw [z]; simp⟩) (fun m hm => ?_) (fun b u' z => ?_) I.bare
  · obtain ⟨f0, f1, f2, f3, f4, f5⟩ := hf b hb
    exact ⟨f3, f1, f4, f5⟩
  · obtain ⟨o, es, ep, ho, r⟩ := hm
    exact ⟨o, es, ep, kk _ o (fun z => (hf _ z).2.1 rfl) ho, r⟩
  · refine (I.hok b u' z).stay (fun c v hc q => kk c v (fun y => ?_) q) (fun c q => q) fun c xs q => q
    have : ∃ u2, H c = some u2 := by
      rcases hc with rfl | hc
      · exact ⟨_, z⟩
      · exact ⟨_, hc⟩
    obtain ⟨u2, hu2⟩ := this
    rw [(hf c y).1] at hu2; cases hu2
theorem turn_zip {P : Program} {w : World} {K : PySem.W.Frag} {elts : List Expr} {k : Nat} {pos : Pos} {t1 t2 : Bool} (a b z TI TO i1 i2 : Addr) (n : Nat) (Z : ZpA z TI TO i1 i2) :
    Turn P w K (.Tuple elts k pos) (Itz t1 t2 a b n) [z, TI, TO, i1, i2] z (fun i h => i ≤ n ∧ IsZip h z TI TO .none ∧ IsPair h TI (.ref i1) (.ref i2) ∧ (∃ x y, IsPair h TO x y) ∧ HT.ItH t1 h i1 a i ∧ HT.ItH t2 h i2 b i) where
  mem := by simp
  obj := fun i h st c hc => by
    obtain ⟨_, hz, hTI, ⟨x, y, hTO⟩, h1, h2⟩ := st
    simp only [List.mem_cons, List.not_mem_nil, or_false] at hc
    rcases hc with rfl | rfl | rfl | rfl | rfl
    · exact ⟨_, hz, fun v e => by cases e⟩
    · exact ⟨_, hTI, fun v e => by cases e⟩
    · exact ⟨_, hTO, fun v e => by cases e⟩
    · obtain ⟨o, ho, d, _⟩ := h1.obj; exact ⟨o, ho, d⟩
    · obtain ⟨o, ho, d, _⟩ := h2.obj; exact ⟨o, ho, d⟩
  keep := fun i h h' st kk => by
    obtain ⟨l, hz, hTI, ⟨x, y, hTO⟩, h1, h2⟩ := st
    exact ⟨l, kk _ (by simp) _ hz, kk _ (by simp) _ hTI, ⟨x, y, kk _ (by simp) _ hTO⟩, h1.at fun o e => kk _ (by simp) o e, h2.at fun o e => kk _ (by simp) o e⟩
  item := by
    intro X hP hw hK hc i pins s σ H E I hf st hg
    subst hP hw hK
    obtain ⟨xs, ys, x, y, hq1, hq2, hn, hx, hy⟩ := hg
    obtain ⟨it1, rv1, p1⟩ := sqz_of I hq1
    obtain ⟨it2, rv2, p2⟩ := sqz_of I hq2
    obtain ⟨u1, hu1, ru1⟩ := rv1.get hx
    obtain ⟨u2, hu2, ru2⟩ := rv2.get hy
    have hf0 : ∀ c ∈ [z, TI, TO, i1, i2], H c = none := fun c hc => (hf c hc).1
    have D := Z.apart hf0 hq1.some hq2.some
    obtain ⟨hin, hz, hTI, ⟨x0, y0, hTO⟩, h1, h2⟩ := st
    have L1 : i < it1.toArray.size := by
      rcases Nat.lt_or_ge i it1.length with q | q
      · simpa using q
      · rw [List.getElem?_eq_none q] at hu1; cases hu1
    have L2' : i < it2.toArray.size := by
      rcases Nat.lt_or_ge i it2.length with q | q
      · simpa using q
      · rw [List.getElem?_eq_none q] at hu2; cases hu2
    have hT : s.TypeIs (.ref z) "zip" := ⟨_, hz, rfl⟩
    unfold pyNext
    refine wpAny_bind (wpAny_attempt (wpAny_callSpecial?_slot (name := Str.ofString "__next__") hT PySem.F.slot_zip_next (wpAny_call_entry PySem.F.slot_zip_next hT PySem.F.entry_zip_next
      (HT.zip_itemD D (HT.drawsH (A := X.A.in1) t1 (I.ok.hd hc) i1 a D.l1i1 it1.toArray) (HT.drawsH (A := X.A.in1) t2 (I.ok.hd hc) i2 b D.l2i2 it2.toArray) hz hTI hTO ⟨h1, p1⟩ ⟨h2, p2⟩ L1 L2' fun x' y' h' tk hx' hy' az ao a1 a2 aT asz hk => ?_) (PySem.F.args_zip_next_1 _))))
    refine wpAny_pure ?_
    obtain ⟨T, hTT⟩ : ∃ T, T = s.heap.objs.size := ⟨_, rfl⟩
    rw [← hTT] at az aT ⊢
    have e1 : x' = u1 := by
      have : it1.toArray[i]? = some u1 := by simpa using hu1
      rw [this] at hx'; exact (Option.some.inj hx').symm
    have e2 : y' = u2 := by
      have : it2.toArray[i]? = some u2 := by simpa using hu2
      rw [this] at hy'; exact (Option.some.inj hy').symm
    subst e1 e2
    refine ⟨_, rfl, wpAny_letOwnedTupleGo_zip az fun h2' hz2 hs2 => ?_⟩
    have ltT : ∀ {c o}, s.heap.get? c = some o → c ≠ T := fun q e => by
      have := Heap.lt_size q
      rw [e, hTT] at this
      exact absurd this (Nat.lt_irrefl _)
    have nTz : T ≠ z := Ne.symm (ltT hz)
    have hT2 : h2'.get? T = some { cls := .type "tuple", data := .seq #[x', y'] } := hs2.extBut _ _ nTz aT
    have fT : H T = none := I.hok.fresh (Nat.le_of_eq hTT.symm)
    have kk : ∀ c o, c ∉ [z, TI, TO, i1, i2] → s.heap.get? c = some o → h2'.get? c = some o := fun c o hc e => hs2.extBut _ _ (fun q => hc (by simp [q])) (hk c o (fun q => hc (by simp [q])) (fun q => hc (by simp [q])) (fun q => hc (by simp [q])) (fun q => hc (by simp [q])) e)
    have nT : T ∉ [z, TI, TO, i1, i2] := fun q => by
      simp only [List.mem_cons, List.not_mem_nil, or_false] at q
      rcases q with q | q | q | q | q
      · exact nTz q
      · exact ltT hTI q.symm
      · exact ltT hTO q.symm
      · obtain ⟨o, ho, _⟩ := h1.obj; exact ltT ho q.symm
      · obtain ⟨o, ho, _⟩ := h2.obj; exact ltT ho q.symm
    have neT : ∀ {c u'}, H c = some u' → c ≠ T := fun q e => by rw [e, fT] at q; cases q
    refine ⟨.ref T, upd H T (.tup [x, y]), ?_, rfl, ⟨T, xs, ys, x, y, hq1, hq2, rfl, fT, hx, hy, rfl⟩, ⟨?_, hz2, hs2.extBut _ _ Z.TIz (hk _ _ Z.TIz Z.TITO Z.TIi1 Z.TIi2 hTI), ⟨_, _, hs2.extBut _ _ Z.TOz ao⟩, a1.1.at fun o e => hs2.extBut _ _ Z.i1z e, a2.1.at fun o e => hs2.extBut _ _ Z.i2z e⟩, fun c hc => ?_⟩
    · show Inv X pins σ _ { s with heap := h2', gens := s.gens, drawn := s.drawn, toks := tk }
      refine Inv.step (s := s) (h' := h2') (t' := tk) (g' := s.gens) (d' := s.drawn) (ch := [z, TI, TO, i1, i2]) I (fun c hc => ?_) (fun c o _ _ hc e' _ => kk c o hc e') (fun c o _ _ hc e' _ => ⟨o.slots, kk c o hc e'⟩) (fun c o _ e' q => by rw [upd_ne (ltT e')]; exact q) (fun c o hc e' => ⟨o, kk c o hc e'⟩) (fun c xs q => by rw [upd_ne (neT q)]; exact q) (fun c o u' q => by rw [upd_ne (neT q)]; exact q) (fun c ps q => ⟨#[], by rw [upd_ne (neT q), q]; simp⟩) (fun m hm => ?_) (fun c u' q => ?_) I.bare
      · obtain ⟨f0, f1, f2, f3, f4, f5⟩ := hf c hc
        exact ⟨f3, f1, f4, f5⟩
      · obtain ⟨o, es, ep, ho, r⟩ := hm
        exact ⟨o, es, ep, kk _ o (fun q => (hf _ q).2.1 rfl) ho, r⟩
      · by_cases hb : c = T
        · subst hb
          rw [upd_same] at q
          cases q
          exact ⟨few rfl, [x', y'], .cons ru1 (.cons ru2 .nil), ⟨_, hT2, rfl, _, rfl⟩, fun o q => by rw [hT2] at q; cases q; rfl⟩
        · rw [upd_ne hb] at q
          refine (I.hok c u' q).stay (fun d v hd q' => kk d v (fun y' => ?_) q') (fun d q' => by rw [upd_ne (neT q')]; exact q') fun d xs q' => by rw [upd_ne (neT q')]; exact q'
          have : ∃ u2, H d = some u2 := by
            rcases hd with rfl | hd
            · exact ⟨_, q⟩
            · exact ⟨_, hd⟩
          obtain ⟨u2, hu2⟩ := this
          rw [hf0 d y'] at hu2; cases hu2
    · have m1 : i < xs.length := by
        rcases Nat.lt_or_ge i xs.length with q | q
        · exact q
        · rw [List.getElem?_eq_none q] at hx; cases hx
      have m2 : i < ys.length := by
        rcases Nat.lt_or_ge i ys.length with q | q
        · exact q
        · rw [List.getElem?_eq_none q] at hy; cases hy
      rw [← hn]
      exact Nat.lt_min.mpr ⟨m1, m2⟩
    · have : c ≠ T := fun q => nT (by rw [← q]; exact hc)
      rw [upd_ne this]
      exact (hf c hc).1
  done := by
    intro X hP hw hK hc i pins s σ H E I hf st hg
    subst hP hw hK
    obtain ⟨xs, ys, hq1, hq2, hn, hle⟩ := hg
    obtain ⟨it1, rv1, p1⟩ := sqz_of I hq1
    obtain ⟨it2, rv2, p2⟩ := sqz_of I hq2
    have hf0 : ∀ c ∈ [z, TI, TO, i1, i2], H c = none := fun c hc => (hf c hc).1
    have D := Z.apart hf0 hq1.some hq2.some
    obtain ⟨hin, hz, hTI, ⟨x0, y0, hTO⟩, h1, h2⟩ := st
    have ei : i = min xs.length ys.length := by omega
    have l1 := rv1.length
    have l2 := rv2.length
    have hend : i = it1.toArray.size ∨ (i < it1.toArray.size ∧ i = it2.toArray.size) := by
      simp only [List.size_toArray]
      rcases Nat.lt_or_ge ys.length xs.length with q | q
      · exact .inr ⟨by omega, by omega⟩
      · exact .inl (by omega)
    have hT : s.TypeIs (.ref z) "zip" := ⟨_, hz, rfl⟩
    unfold pyNext
    refine wpAny_bind (wpAny_attempt (wpAny_callSpecial?_slot (name := Str.ofString "__next__") hT PySem.F.slot_zip_next (wpAny_call_entry PySem.F.slot_zip_next hT PySem.F.entry_zip_next
      (HT.zip_endD D (HT.drawsH (A := X.A.in1) t1 (I.ok.hd hc) i1 a D.l1i1 it1.toArray) (HT.drawsH (A := X.A.in1) t2 (I.ok.hd hc) i2 b D.l2i2 it2.toArray) hz hTI hTO ⟨h1, p1⟩ ⟨h2, p2⟩ hend fun h' tk e hk he => ?_) (PySem.F.args_zip_next_1 _))))
    obtain ⟨o, ho, hce⟩ := he
    refine wpAny_bind (wpAny_isInstance (T := "StopIteration") (b := true) ⟨o, ho, hce⟩ isSubtype_stop ?_)
    refine wpAny_pure ⟨rfl, I.stepF (fp := [z, TI, TO, i1, i2]) hf fun c o hc e => hk c o (fun q => hc (by simp [q])) (fun q => hc (by simp [q])) (fun q => hc (by simp [q])) (fun q => hc (by simp [q])) e⟩
  self := fun A i s Q E st h => wpAny_pyIter_zip st.2.1 h
def iZip (ta : TA) : TI := fun σ H R => ta σ H fun vs H1 => ∃ a b t1 t2 xs ys, vs = [.ref a, .ref b] ∧ SqZ t1 H1 a xs ∧ SqZ t2 H1 b ys ∧ R (Itz t1 t2 a b (min xs.length ys.length)) H1
theorem boot_zip : bootBuiltins "zip" = some (.type "zip") := by kernel_rfl
theorem i_zip {elts : List Expr} {k : Nat} {pos2 : Pos} {a b : Expr} {ta : TA} {p pos : Pos} (hm : X.mg "zip" = none) (ha : QA X [a, b] ta) (hg : Gl X "zip" := by rfl) (hs : starEach [a, b] X.env = [(false, eval a X.env), (false, eval b X.env)] := by rfl) (hs2 : starEach [b] X.env = [(false, eval b X.env)] := by rfl) : QI X (.Tuple elts k pos2) (.Call (.Name "zip" p) [a, b] [] pos) (iZip ta) := ⟨by
  intro pins s σ H R I h
  refine Call_ (ld_blt I hg hm boot_zip (PyProof.Rows.callWith_type1 (thn (ha.o pos pins s σ H _ I h) fun us s1 ⟨vs, H1, I1, r1, q1⟩ => ?_) (by rw [hs, hs2]) (by rw [hs2]; rfl)))
  obtain ⟨l1, l2, t1, t2, xs, ys, rfl, hq1, hq2, q⟩ := q1
  obtain ⟨u, v, rfl, ru, rv⟩ := vals2 r1
  cases ru
  cases rv
  obtain ⟨it1, rv1, p1⟩ := sqz_of I1 hq1
  obtain ⟨it2, rv2, p2⟩ := sqz_of I1 hq2
  refine HT.call_zp p1 p2 fun h' hz hTI hTO hi1 hi2 hsz kk => ?_
  have Z : ZpA (s1.heap.objs.size + 4) (s1.heap.objs.size + 2) (s1.heap.objs.size + 3) s1.heap.objs.size (s1.heap.objs.size + 1) := by constructor <;> (intro e; have e' : (_ : Nat) = _ := e; omega)
  refine wpAny_pyIter_zip hz ?_
  refine ⟨s1.heap.objs.size + 4, [s1.heap.objs.size + 4, s1.heap.objs.size + 2, s1.heap.objs.size + 3, s1.heap.objs.size, s1.heap.objs.size + 1], _, _, H1, rfl, I1.kept (t' := s1.toks) kk, turn_zip l1 l2 _ _ _ _ _ (min xs.length ys.length) Z, ⟨Nat.zero_le _, hz, hTI, ⟨_, _, hTO⟩, hi1, hi2⟩, fun c hc => ?_, q⟩
  have hb' : s1.heap.objs.size ≤ c := by
    simp only [List.mem_cons, List.not_mem_nil, or_false] at hc
    rcases hc with e | e | e | e | e <;> (have e' : (c : Nat) = _ := e; rw [e']; first | exact Nat.le_refl _ | exact Nat.le_add_right _ _)
  exact I1.fpOk hb' (I1.hok.fresh hb')⟩
/-- a loop whose iterator lays a tuple each turn -/
theorem for_byY {J : It} {n : Nat} {g : TG} {tb : TS} {D : Ends} {σ : St} {H : Hp} (Pv : Nat → St → Hp → Prop) (h0 : Pv 0 σ H) (hgo : ∀ i σ H, i < n → Pv i σ H → J.go i H) (hst : ∀ σ H, Pv n σ H → J.stop n H)
    (hs : ∀ i x σ H H1, i < n → Pv i σ H → J.yld i H x H1 → g x σ H1 fun σ2 H2 => tb { D with nx := Pv (i + 1), ct := Pv (i + 1), bk := D.nx } σ2 H2) (hd : ∀ σ H, Pv n σ H → D.nx σ H) : ForGo g tb D σ J H := by
  refine ⟨fun i m σ H => m = n - i ∧ i ≤ n ∧ Pv i σ H, ⟨n, by simp, Nat.zero_le _, h0⟩, ?_⟩
  rintro i m σ H ⟨rfl, hi, p⟩
  by_cases hlt : i < n
  · exact .inr ⟨hgo i σ H hlt p, Pv (i + 1), fun σ' H' q => ⟨n - (i + 1), by omega, rfl, hlt, q⟩, fun x H' y => hs i x σ H H' hlt p y⟩
  · have e : i = n := by omega
    subst e
    exact .inl ⟨hst σ H p, hd σ H p⟩
theorem comp_byY {J : It} {n : Nat} {g : TG} {tc : TT} {te : TE} {src : List (Option Nat)} {σ : St} {H1 : Hp} {Q : VK} (Pv : Addr → Nat → List V → St → Hp → Prop)
    (h0 : ∀ l, H1 l = none → Pv l 0 [] (capt src σ) (upd H1 l (.lst []))) (hgo : ∀ l i ys σ H, H1 l = none → i < n → Pv l i ys σ H → J.go i H) (hst : ∀ l ys σ H, H1 l = none → Pv l n ys σ H → J.stop n H)
    (hs : ∀ l i x ys σ H H2, H1 l = none → i < n → Pv l i ys σ H → H l = some (.lst ys) → J.yld i H x H2 → g x σ H2 fun σ2 H3 => tc σ2 H3 fun b H4 =>
      if b = true then te σ2 H4 fun y H5 => H5 l = some (.lst ys) ∧ ys.length < sizeLine ∧ Pv l (i + 1) (ys ++ [y]) σ2 (upd H5 l (.lst (ys ++ [y]))) else H4 l = some (.lst ys) ∧ Pv l (i + 1) ys σ2 H4)
    (hd : ∀ l ys σ H, H1 l = none → Pv l n ys σ H → H l = some (.lst ys) → Q (.ref l) H) : CompGo g tc te src σ Q J H1 := by
  intro l hl
  refine ⟨fun i m ys σ H => m = n - i ∧ i ≤ n ∧ Pv l i ys σ H, ⟨n, by simp, Nat.zero_le _, h0 l hl⟩, ?_⟩
  rintro i m ys σ' H' ⟨rfl, hi, p⟩ hl'
  by_cases hlt : i < n
  · exact .inr ⟨hgo l i ys σ' H' hl hlt p, Pv l (i + 1), fun zs σ2 H2 q => ⟨n - (i + 1), by omega, rfl, hlt, q⟩, fun x H2 y => hs l i x ys σ' H' H2 hl hlt p hl' y⟩
  · have e : i = n := by omega
    subst e
    exact .inl ⟨hst l ys σ' H' hl p, hd l ys σ' H' hl p hl'⟩
end
end L2

set_option Elab.async false
set_option linter.all false
set_option maxRecDepth 100000
set_option maxHeartbeats 4000000
/-! a comprehension of two clauses -/
namespace L2
open PySem PySem.Spec PyProof.Rows
section
variable {prog : Program} {w : World} {A : Around} {R : Result → Shared → Prop} {s : Shared} {elt t1 i1 t2 i2 : Expr} {f1 f2 : List Expr} {scope : Scope} {pos : Pos} {it acc : Value} {env : Env}
end
section
variable {X : Cx} {elt tg iter tg2 iter2 : Expr} {ifs ifs2 : List Expr} {scope osc : Scope} {pos : Pos} {N' : List Str} {src : List (Option Nat)} {wi wi2 : TI} {g g2 : TG} {tc tc2 : TT} {te : TE}
end
end L2

set_option Elab.async false
set_option linter.all false
set_option maxRecDepth 100000
set_option maxHeartbeats 4000000
/-! f-strings -/
namespace L2
open PySem PySem.Spec PyProof.Rows
/-- the text of a text or a number -/
def TxtOf (v : V) (y : Str) : Prop := v = .str y ∨ ∃ i : Int, v = .int i ∧ y = (toString i : String) ∧ i.natAbs.log2 < 1920
section
variable {X : Cx} {e : Expr} {te : TE} {pos : Pos} {es : List Expr} {ts : List TE}
structure QP1 (X : Cx) (e : Expr) (te : TE) : Prop where
  o : ∀ (pins : List (Addr × Obj)) (s : Shared) (σ : St) (H : Hp) (Q : Str → Hp → Prop), Inv X pins σ H s → (te σ H fun v H1 => ∃ y, TxtOf v y ∧ y.length ≤ sizeLine ∧ Q y H1) →
    wpAny (model X.prog X.w) X.A (eval e X.env) (fun u s1 => ∃ y t H1, u = .str y t ∧ Inv X pins σ H1 s1 ∧ Q y H1) X.xe s
inductive QJ (X : Cx) : List Expr → List TE → Prop
  | nil : QJ X [] []
  | cons {e : Expr} {t : TE} {es : List Expr} {ts : List TE} (h : QP1 X e t) (r : QJ X es ts) : QJ X (e :: es) (t :: ts)
end
end L2

set_option Elab.async false
set_option linter.all false
set_option maxRecDepth 100000
set_option maxHeartbeats 4000000
/-! list += list -/
namespace L2
open PySem PySem.Spec PyProof.Rows
section
variable {prog : Program} {w : World} {A : Around} {E : Value → Shared → Prop} {s : Shared}
end
section
variable {X : Cx}
end
end L2

set_option Elab.async false
set_option linter.all false
set_option maxRecDepth 100000
set_option maxHeartbeats 4000000
/-! texts of towns: the mathematics -/
namespace RW
open PySem PySem.Spec PyProof.Rows L2
/-! joined -/
/-! rows -/
end RW

set_option Elab.async false
set_option linter.all false
set_option maxRecDepth 100000
set_option maxHeartbeats 4000000
/-! two clauses: how the rules are met -/
namespace L2
open PySem PySem.Spec PyProof.Rows
section
variable {X : Cx} {K : PySem.W.Frag}
theorem i_tupK {tg e : Expr} {te : TE} (hK : X.K = K) (h : QE X e te) : QI X tg e (iTup K te) := by subst hK; exact i_tup h
end
end L2
namespace RW
open PySem PySem.Spec PyProof.Rows L2
end RW

set_option Elab.async false
set_option linter.all false
set_option maxRecDepth 100000
set_option maxHeartbeats 4000000
/-! dict(zip(a, b)) -/
namespace HT
open PySem PySem.Spec PyProof.Rows L2
section
variable {prog : Program} {w : World} {A : Around} {E : Value → Shared → Prop} {s : Shared}
end
end HT

set_option Elab.async false
set_option linter.all false
set_option maxRecDepth 100000
set_option maxHeartbeats 4000000
/-! dict(zip(a, b)): the loop, the call -/
namespace HT
open PySem PySem.Spec PyProof.Rows L2
section
variable {prog : Program} {w : World} {A : Around} {E : Value → Shared → Prop} {s : Shared} {K : Type} [DecidableEq K] {knd : KeyKind prog w K}
structure DzAt (h : Heap) (knd : KeyKind prog w K) (t1 t2 : Bool) (z TI i1 i2 l1 l2 d : Addr) (xs ys : Array Value) (kvs : List (K × Value)) (i : Nat) : Prop where
  TI : IsPair h TI (.ref i1) (.ref i2)
  p1 : ItH t1 h i1 l1 i
  p2 : ItH t2 h i2 l2 i
  q1 : SqH t1 h l1 xs
  q2 : SqH t2 h l2 ys
  dd : h.DictOf knd d kvs
structure DzD (z TI TO i1 i2 l1 l2 d : Addr) : Prop extends ZipApart z TI TO i1 i2 l1 l2 where
  dz : d ≠ z
  dTI : d ≠ TI
  di1 : d ≠ i1
  di2 : d ≠ i2
  dl1 : d ≠ l1
  dl2 : d ≠ l2
  TIl1 : True
end
end HT

set_option Elab.async false
set_option linter.all false
set_option maxRecDepth 100000
set_option maxHeartbeats 4000000
/-! dict(zip(a, b)): the rule -/
namespace L2
open PySem PySem.Spec PyProof.Rows
section
variable {X : Cx}
end
end L2

set_option Elab.async false
set_option linter.all false
set_option maxRecDepth 100000
set_option maxHeartbeats 4000000
/-! repr of data -/
namespace RW
open PySem PySem.Spec PyProof.Rows L2
section
variable {X : Cx}
end
end RW

set_option Elab.async false
set_option linter.all false
set_option maxRecDepth 100000
set_option maxHeartbeats 4000000
/-! how long the shown text of a town is -/
namespace RW
open PySem PySem.Spec PyProof.Rows L2
end RW

set_option Elab.async false
set_option linter.all false
set_option maxRecDepth 100000
set_option maxHeartbeats 4000000
/-! sorted of tuples of texts, some of them perhaps alike -/
namespace RW
open PySem PySem.W PyProof.Rows L2
section
variable {N : Nat} {lt : Nat → Nat → Bool}
theorem revP {p : Array Nat} (hp : PermN N p) (i n : Nat) : PermN N (kas_rev p i n) := (Array.perm_iff_toList_perm.mp (mirror_perm p i n _)).trans hp
theorem asc_p {p : Array Nat} (hp : PermN N p) : ∀ f n, 1 ≤ n → n + f ≤ N → OkT N lt (kas_asc p f n) (fun m => n ≤ m ∧ m ≤ n + f)
  | 0, n, _, _ => ⟨Nat.le_refl _, Nat.le_refl _⟩
  | f + 1, n, h1, hn => by
    refine ⟨hp.bd (by omega), hp.bd (by omega), ?_⟩
    cases hc : lt (gd p n) (gd p (n - 1)) with
    | true =>
      show OkT N lt (if true = true then _ else _) _
      rw [if_pos rfl]
      exact ⟨Nat.le_refl _, by omega⟩
    | false =>
      show OkT N lt (if false = true then _ else _) _
      rw [if_neg (by decide)]
      exact OkT.mono (fun m hm => ⟨by omega, by omega⟩) (asc_p hp f (n + 1) (by omega) (by omega))
theorem desc_p : ∀ f (p : Array Nat) n q, PermN N p → 1 ≤ n → n + f ≤ N → OkT N lt (kas_desc f p n q) (fun r => PermN N r.1 ∧ n ≤ r.2.1 ∧ r.2.1 ≤ n + f)
  | 0, p, n, q, hp, _, _ => ⟨hp, Nat.le_refl _, Nat.le_refl _⟩
  | f + 1, p, n, q, hp, h1, hn => by
    refine ⟨hp.bd (by omega), hp.bd (by omega), ?_⟩
    cases hc : lt (gd p n) (gd p (n - 1)) with
    | true =>
      show OkT N lt (if true = true then (if q > 0 then _ else _) else _) _
      rw [if_pos rfl]
      split
      · exact OkT.mono (fun m hm => ⟨hm.1, by omega, by omega⟩) (desc_p f _ (n + 1) 0 (revP hp _ _) (by omega) (by omega))
      · exact OkT.mono (fun m hm => ⟨hm.1, by omega, by omega⟩) (desc_p f _ (n + 1) 0 hp (by omega) (by omega))
    | false =>
      show OkT N lt (if false = true then _ else _) _
      rw [if_neg (by decide)]
      refine ⟨hp.bd (by omega), hp.bd (by omega), ?_⟩
      cases hd : lt (gd p (n - 1)) (gd p n) with
      | true =>
        show OkT N lt (if true = true then _ else _) _
        rw [if_pos rfl]
        exact ⟨hp, Nat.le_refl _, by show n ≤ n + (f + 1); omega⟩
      | false =>
        show OkT N lt (if false = true then _ else _) _
        rw [if_neg (by decide)]
        exact OkT.mono (fun m hm => ⟨hm.1, by omega, by omega⟩) (desc_p f _ (n + 1) _ hp (by omega) (by omega))
def CountQ (N : Nat) (r : Nat × Array Nat) : Prop := PermN N r.2 ∧ 1 ≤ r.1 ∧ r.1 ≤ N
theorem tail3_p {p : Array Nat} {n : Nat} (hp : PermN N p) (h1 : 1 ≤ n) (hn : n ≤ N) : OkT N lt (kas_tail3 n N p) (CountQ N) := by
  refine OkT.bind (OkT.mono (fun m hm => ?_) (asc_p (revP hp 0 n) (N - n) n h1 (by omega)))
  exact ⟨revP hp 0 n, by have := hm.1; omega, by have := hm.2; omega⟩
theorem descPart_p {p : Array Nat} {n : Nat} (hp : PermN N p) (h1 : 1 ≤ n) (hn : n < N) : OkT N lt (kas_descPart n N p) (CountQ N) := by
  refine OkT.bind (OkT.mono (fun r hr => ?_) (desc_p (N - (n + 1)) p (n + 1) 0 hp (by omega) (by omega)))
  obtain ⟨r1, r2, r3⟩ := hr
  split
  · exact tail3_p (revP r1 _ _) (by omega) (by omega)
  · exact tail3_p r1 (by omega) (by omega)
theorem count_p {p : Array Nat} (hp : PermN N p) (h1 : 1 ≤ N) : OkT N lt (kas_count N p) (CountQ N) := by
  refine OkT.bind (OkT.mono (fun n hn => ?_) (asc_p hp (N - 1) 1 (Nat.le_refl _) (by omega)))
  obtain ⟨n1, n2⟩ := hn
  by_cases hN : (n == N) = true
  · rw [if_pos hN]
    exact ⟨hp, n1, by show n ≤ N; omega⟩
  · have hne : n ≠ N := by simpa using hN
    rw [if_neg hN]
    by_cases h2 : n > 1
    · rw [if_pos h2]
      refine ⟨hp.bd (by omega), hp.bd (by omega), ?_⟩
      cases hc : lt (gd p 0) (gd p (n - 1)) with
      | true =>
        show OkT N lt (if true = true then _ else _) _
        rw [if_pos rfl]
        exact ⟨hp, n1, by show n ≤ N; omega⟩
      | false =>
        show OkT N lt (if false = true then _ else _) _
        rw [if_neg (by decide)]
        exact descPart_p (revP hp 0 n) n1 (by omega)
    · rw [if_neg h2]
      exact descPart_p hp n1 (by omega)
theorem place_p {p : Array Nat} {k : Nat} (hp : PermN N p) (hk : k < N) : ∀ f l r, l ≤ r → r ≤ k → OkT N lt (kas_place p k f l r) (fun _ => True)
  | 0, l, r, _, _ => trivial
  | f + 1, l, r, h1, h2 => by
    by_cases hlr : l ≥ r
    · show OkT N lt (if l ≥ r then _ else _) _
      rw [if_pos hlr]
      trivial
    · show OkT N lt (if l ≥ r then _ else _) _
      rw [if_neg hlr]
      refine ⟨hp.bd hk, hp.bd (by omega), ?_⟩
      cases hc : lt (gd p k) (gd p ((l + r) / 2)) with
      | true =>
        show OkT N lt (if true = true then _ else _) _
        rw [if_pos rfl]
        exact place_p hp hk f l ((l + r) / 2) (by omega) (by omega)
      | false =>
        show OkT N lt (if false = true then _ else _) _
        rw [if_neg (by decide)]
        exact place_p hp hk f ((l + r) / 2 + 1) r (by omega) h2
theorem bin_p : ∀ f (p : Array Nat) k, PermN N p → k + f = N → OkT N lt (kas_bin f p k) (fun p' => PermN N p')
  | 0, p, k, hp, hk => hp
  | f + 1, p, k, hp, hk => by
    refine OkT.bind (OkT.mono (fun l _ => ?_) (place_p hp (by omega) k 0 k (Nat.zero_le _) (Nat.le_refl _)))
    exact bin_p f _ (k + 1) ((Array.perm_iff_toList_perm.mp (bubble_perm p k _)).trans hp) (by omega)
theorem sort_p (h1 : 1 ≤ N) : OkT N lt (kas_sort N) (fun p => PermN N p) := by
  have h0 : PermN N (List.toArray (List.range N)) := by show (List.range N).Perm _; exact List.Perm.refl _
  refine OkT.bind (OkT.mono (fun r hr => ?_) (count_p h0 h1))
  obtain ⟨c1, c3, c4⟩ := hr
  by_cases h : r.1 < N
  · rw [if_pos h]
    have e : max r.1 1 = r.1 := by omega
    rw [e]
    exact bin_p _ _ _ c1 (by omega)
  · rw [if_neg h]
    exact c1
theorem sort_any (h1 : 1 ≤ N) : OkT N lt (kas_sort N) (fun p => PermN N p ∧ (Strict N lt → Sor lt p N)) := by
  by_cases S : Strict N lt
  · exact OkT.mono (fun p hp => ⟨hp.1, fun _ => hp.2⟩) (sort_ok S h1)
  · exact OkT.mono (fun p hp => ⟨hp, fun z => absurd z S⟩) (sort_p h1)
end
end RW
namespace L2
open PySem PySem.Spec PySem.W PyProof.Rows
theorem ltL_asy' : ∀ {a b : List Str}, ltL a b = true → ltL b a = false
  | [], [], h => by cases h
  | [], _ :: _, _ => rfl
  | _ :: _, [], h => by cases h
  | x :: xs, y :: ys, h => by
    rw [ltL] at h ⊢
    by_cases e : x = y
    · rw [if_pos e] at h; rw [if_pos e.symm]; exact ltL_asy' h
    · rw [if_neg e] at h; rw [if_neg (Ne.symm e)]; exact ltS_asy h
theorem ltL_tri' : ∀ {a b : List Str}, a ≠ b → ltL a b = false → ltL b a = true
  | [], [], h, _ => absurd rfl h
  | [], _ :: _, _, e => by cases e
  | _ :: _, [], _, _ => rfl
  | x :: xs, y :: ys, h, e => by
    rw [ltL] at e ⊢
    by_cases z : x = y
    · rw [if_pos z] at e; rw [if_pos z.symm]; exact ltL_tri' (fun q => h (by rw [z, q])) e
    · rw [if_neg z] at e; rw [if_neg (Ne.symm z)]; exact ltS_tri z e
theorem ltL_tr' : ∀ {a b c : List Str}, ltL a b = true → ltL b c = true → ltL a c = true
  | [], [], _, h, _ => by cases h
  | [], _ :: _, [], _, h => by cases h
  | [], _ :: _, _ :: _, _, _ => rfl
  | _ :: _, [], _, h, _ => by cases h
  | _ :: _, _ :: _, [], _, h => by cases h
  | x :: xs, y :: ys, z :: zs, h1, h2 => by
    rw [ltL] at h1 h2 ⊢
    by_cases e1 : x = y
    · rw [if_pos e1] at h1
      subst e1
      by_cases e2 : x = z
      · rw [if_pos e2] at h2 ⊢; exact ltL_tr' h1 h2
      · rw [if_neg e2] at h2 ⊢; exact h2
    · rw [if_neg e1] at h1
      by_cases e2 : y = z
      · rw [if_pos e2] at h2; subst e2; rw [if_neg e1]; exact h1
      · rw [if_neg e2] at h2
        have h3 := ltS_tr h1 h2
        rw [if_neg (ltS_ne h3)]; exact h3
/-- a tuple of texts, as it lies -/
def TupL (h : Heap) (u : Value) (p : List Str) : Prop := ∃ b o n its, u = .ref b ∧ h.get? b = some o ∧ o.cls = .type "tuple" ∧ o.data = .seq its n ∧ Vals (p.map V.str) its.toList
theorem TupL.keeps {h h' : Heap} {u : Value} {p : List Str} (x : TupL h u p) (k : ∀ b o, h.get? b = some o → h'.get? b = some o) : TupL h' u p := let ⟨b, o, n, its, e, g, r⟩ := x; ⟨b, o, n, its, e, k _ _ g, r⟩
theorem kat_strs {prog : Program} {w : World} {A : Around} {s : Shared} {C : Bool → Shared → Prop} {fin : Bool} : ∀ {p q : List Str} {its jts : List Value} (i : Nat), Vals (p.map V.str) its → Vals (q.map V.str) jts → (fin = decide (p.length + i < q.length + i)) → C (ltL p q) s → KatLex prog w A true fin C (its.zip jts) i s
  | [], q, its, jts, i, r1, r2, hf, h => by
    cases r1
    refine kat_nil ?_
    cases q with
    | nil => simp at hf; subst hf; exact h
    | cons y ys => simp at hf; subst hf; exact h
  | x :: xs, [], its, jts, i, r1, r2, hf, h => by
    cases r2
    rw [List.zip_nil_right]
    refine kat_nil ?_
    rw [decide_eq_false (by simp)] at hf; subst hf; exact h
  | x :: xs, y :: ys, its, jts, i, r1, r2, hf, h => by
    cases r1 with
    | cons a1 r1 =>
      cases r2 with
      | cons a2 r2 =>
        obtain ⟨t1, rfl⟩ := a1
        obtain ⟨t2, rfl⟩ := a2
        rw [List.zip_cons_cons]
        refine kat_cons (wpAny_eqBool_str ?_)
        rw [ltL] at h
        by_cases e1 : x = y
        · rw [if_pos e1] at h
          rw [decide_eq_true e1]
          exact kat_yes (kat_strs (i + 1) r1 r2 (by rw [hf]; simp only [List.length_cons]; congr 1; exact propext ⟨fun h => by omega, fun h => by omega⟩) h)
        · rw [if_neg e1] at h
          rw [decide_eq_false e1]
          refine kat_no ?_
          cases i with
          | zero =>
            show wpAny (model prog w) A (oneLt' true (.str x t1) (.str y t2)) C _ s
            exact oneLt_str h
          | succ i =>
            show wpAny (model prog w) A (oneLt' false (.str x t1) (.str y t2)) C _ s
            exact kat_one _ _ (lt_str h)
theorem ask_tups {prog : Program} {w : World} {A : Around} {E : Value → Shared → Prop} {s : Shared} {u v : Value} {p q : List Str} {C : Bool → Shared → Prop} (x : TupL s.heap u p) (y : TupL s.heap v q) (h : C (ltL p q) s) : wpAny (model prog w) A (keyLt' (tuples' true) u v) C E s := by
  obtain ⟨b, o, n, its, rfl, g, _, d, r⟩ := x
  obtain ⟨b', o', n', jts, rfl, g', _, d', r'⟩ := y
  refine kat_lt g d g' d' (kat_strs 0 r r' ?_ h)
  have l1 := r.length
  have l2 := r'.length
  simp only [List.length_map, Array.length_toList] at l1 l2
  rw [Nat.add_zero, Nat.add_zero, l1, l2]
theorem tupsL_of {h : Heap} : ∀ {us : List Value} {ps : List (List Str)}, us.length = ps.length → (∀ p ∈ ps, 0 < p.length) → (∀ (i : Nat) (u : Value) (p : List Str), us[i]? = some u → ps[i]? = some p → TupL h u p) → ∃ fs, KatTups h us fs ∧ fs.length = us.length ∧ ∀ f ∈ fs, ∃ x t, f = Value.str x t
  | [], [], _, _, _ => ⟨[], trivial, rfl, fun _ z => nomatch z⟩
  | [], _ :: _, z, _, _ => by simp at z
  | _ :: _, [], z, _, _ => by simp at z
  | u :: us, p :: ps, hl, hp, hx => by
    obtain ⟨fs, h1, h2, h3⟩ := tupsL_of (us := us) (ps := ps) (by simpa using hl) (fun q hq => hp q (List.mem_cons_of_mem _ hq)) fun i u p e1 e2 => hx (i + 1) u p (by simpa using e1) (by simpa using e2)
    obtain ⟨b, o, n, its, rfl, g, c, d, r⟩ := hx 0 u p rfl rfl
    obtain ⟨x, xs, rfl⟩ : ∃ x xs, p = x :: xs := by
      match p, hp p (List.mem_cons_self) with
      | x :: xs, _ => exact ⟨x, xs, rfl⟩
    obtain ⟨l⟩ := its
    cases r with
    | cons a r =>
      obtain ⟨t, rfl⟩ := a
      refine ⟨.str x t :: fs, KatTups.cons g c d rfl h1, by simp [h2], fun f hf => ?_⟩
      rcases List.mem_cons.mp hf with rfl | hf
      · exact ⟨_, _, rfl⟩
      · exact h3 f hf
def lAt (ps : List (List Str)) (i : Nat) : List Str := ps.getD i []
theorem strict_tups {ps : List (List Str)} (hn : ps.Nodup) : RW.Strict ps.length (fun i j => ltL (lAt ps i) (lAt ps j)) where
  tot := fun i j hi hj hij e => ltL_tri' (fun z => hij ((List.getElem_inj hn (h₀ := hi) (h₁ := hj)).mp (by unfold lAt at z; simpa [hi, hj] using z))) e
  tr := fun i j k _ _ _ h1 h2 => ltL_tr' h1 h2
  asy := fun i j _ _ h => ltL_asy' h
theorem map_lAt {ps : List (List Str)} : (List.range ps.length).map (lAt ps) = ps := by
  apply List.ext_getElem?
  intro i
  rw [List.getElem?_map]
  rcases Nat.lt_or_ge i ps.length with h | h
  · rw [List.getElem?_range h]
    show some (lAt ps i) = _
    unfold lAt
    simp [h]
  · rw [List.getElem?_eq_none (by simpa using h), List.getElem?_eq_none h]; rfl
def TupsAt (H : Hp) (vs : List V) (ps : List (List Str)) : Prop := vs.length = ps.length ∧ ∀ (i : Nat) (v : V) (p : List Str), vs[i]? = some v → ps[i]? = some p → ∃ b, v = .ref b ∧ H b = some (.tup (p.map V.str))
section
variable {prog : Program} {w : World} {A : Around} {E : Value → Shared → Prop} {s : Shared}
/-- sorted(l), l a list or a tuple -/
theorem sorted_rawA {l : Addr} {T : String} {o : Obj} {n : Nat} {ks : List Value} {R : Value → Shared → Prop} {G : Array Nat → Prop} {κ : SortKind} (hT : T = "list" ∨ T = "tuple") (ho : s.heap.get? l = some o) (hc : o.cls = .type T) (hd : o.data = .seq ks.toArray n) (h64 : ks.length < 64)
    (hk : 2 ≤ ks.length → ∀ s1 : Shared, (∀ b o, s.heap.get? b = some o → s1.heap.get? b = some o) → (∀ C : SortKind → Shared → Prop, C κ s1 → wpAny (model prog w) A.in1.in1 (keyKind' ks.toArray) C (fun _ _ => False) s1) ∧ (kas_sort ks.length).kasWp (kas_ask prog w A.in1.in1 κ ks) (fun p s' => s' = s1 ∧ G p) s1)
    (q : ∀ (D : Addr) (out : List Value) (h' : Heap) (c : Nat), (ks.length < 2 ∧ out = ks ∨ ∃ p : Array Nat, p.size = ks.length ∧ G p ∧ out = p.toList.map fun i => ks.getD i Value.none) → (∀ b o, s.heap.get? b = some o → h'.get? b = some o) →
      s.heap.objs.size ≤ D → h'.get? D = some (seqObj "list" out.toArray c) → R (.ref D) { s with heap := h' }) : wpAny (model prog w) A (call (.builtin "sorted") [.ref l]) R E s := by
  refine Calls.call_function_entry kind_sorted plain_sorted entry_sorted (args_sorted1 _) ?_
  unfold Builtin.«sorted»
  refine wpAny_bind (m := checkCount "sorted" 1 1 _) (wpAny_pure (wpAny_bind (collect_any hT ho hc hd (by rw [sizeLine_eq]; omega) fun h1 kp gr0 => ?_)))
  refine wpAny_bind (wpAny_newList ?_ (by rw [sizeLine_eq]; omega))
  have hD : (h1.push (seqObj "list" ks.toArray 0)).get? h1.objs.size = some (seqObj "list" ks.toArray 0) := Heap.get?_push_size _ rfl
  have k2 : ∀ b o, s.heap.get? b = some o → (h1.push (seqObj "list" ks.toArray 0)).get? b = some o := fun b o e => Heap.get?_push_of_some _ (kp b o e)
  have gr : s.heap.objs.size ≤ h1.objs.size := Nat.le_of_lt gr0
  show wpAny _ _ _ _ _ { s with heap := h1.push (seqObj "list" ks.toArray 0) }
  refine wpAny_bind (wpAny_holding (wpAny_call_entry slot_list_sort ⟨_, hD, rfl⟩ entry_list_sort (lsort_raw (G := G) (κ := κ) (s := { s with heap := h1.push (seqObj "list" ks.toArray 0) }) hD h64 (fun h2 s1 k1 => ?_) fun out h' c hc hkp hg => ?_) (args_list_sort _)))
  · obtain ⟨x1, x2⟩ := hk h2 s1 fun b o e => k1.2 b o (Nat.ne_of_lt (Nat.lt_of_lt_of_le (Heap.lt_size e) gr)) (k2 b o e)
    exact ⟨fun C hC => wpAny_mono (x1 C hC) (fun _ _ z => z) fun _ _ z => z.elim, x2⟩
  · exact ⟨_, rfl, wpAny_pure ⟨_, rfl, q h1.objs.size out h' c hc (fun b o e => hkp b o (Nat.ne_of_lt (Nat.lt_of_lt_of_le (Heap.lt_size e) gr)) (k2 b o e)) gr hg⟩⟩
end
section
variable {X : Cx} {K : PySem.W.Frag}
def rSortTs (K : PySem.W.Frag) : List V → Hp → VK → Prop := fun xs H Q => ∃ (p : Addr) (vs : List V) (ps : List (List Str)), xs = [.ref p] ∧ (SqL K H p vs ∨ SqT K H p vs) ∧ TupsAt H vs ps ∧ (∀ q ∈ ps, 0 < q.length) ∧ ps.length < 64 ∧
  ∀ (ps' : List (List Str)) (vs' : List V) l, ps'.Perm ps → (ps.Nodup → ps'.Pairwise (fun a b => ltL a b = true)) → TupsAt H vs' ps' → H l = none → Q (.ref l) (upd H l (.lst vs'))
theorem vals_of_at {vs : List V} {us : List Value} (hl : vs.length = us.length) (h : ∀ (i : Nat) (v : V) (u : Value), vs[i]? = some v → us[i]? = some u → RelV v u) : Vals vs us := by
  induction vs generalizing us with
  | nil => match us, hl with | [], _ => exact .nil
  | cons v vs ih =>
    match us, hl with
    | u :: us, hl => exact .cons (h 0 v u rfl rfl) (ih (by simpa using hl) fun i v u e1 e2 => h (i + 1) v u (by simpa using e1) (by simpa using e2))
theorem call_sortedTs : CallR X (.builtin "sorted") (rSortTs X.K) := by
  intro pins s σ H xs us Q I r h
  obtain ⟨p, vs, ps, rfl, hq, ht, hp0, h64, q⟩ := h
  obtain ⟨u, rfl, ru⟩ := vals1 r
  cases ru
  have key : ∀ {its : List Value} {T : String} {o : Obj} {n : Nat}, T = "list" ∨ T = "tuple" → s.heap.get? p = some o → o.cls = .type T → o.data = .seq its.toArray n → Vals vs its → wpAny (model X.prog X.w) X.A (call (.builtin "sorted") [.ref p]) (EP X pins σ Q) X.xe s := by
    intro its T o n hT ho hc hd rv
    have hl := rv.length
    have hlp : its.length = ps.length := by rw [← hl]; exact ht.1
    have keyA : ∀ (i : Nat) (u : Value) (q : List Str), its[i]? = some u → ps[i]? = some q → ∃ b, u = .ref b ∧ H b = some (.tup (q.map V.str)) := fun i u q e1 e2 => by
      have hi : i < vs.length := by
        rcases Nat.lt_or_ge i vs.length with z | z
        · exact z
        · rw [List.getElem?_eq_none (by omega)] at e1; cases e1
      obtain ⟨b, e3, hb⟩ := ht.2 i vs[i] q (by simp [hi]) e2
      obtain ⟨u', hu', ru'⟩ := rv.get (i := i) (x := vs[i]) (by simp [hi])
      rw [e1] at hu'
      cases hu'
      rw [e3] at ru'
      cases ru'
      exact ⟨b, rfl, hb⟩
    have keyT : ∀ (i : Nat) (u : Value) (q : List Str), its[i]? = some u → ps[i]? = some q → TupL s.heap u q := fun i u q e1 e2 => by
      obtain ⟨b, rfl, hb⟩ := keyA i u q e1 e2
      obtain ⟨_, jts, rj, ⟨o', g', c', n', d'⟩, _⟩ := (show ObjOk X.prog X.w H s.heap b (.tup (q.map V.str)) from I.hok b _ hb)
      exact ⟨b, o', n', _, rfl, g', c', d', by simpa using rj⟩
    refine sorted_rawA (A := X.A) (G := fun p => RW.PermN ps.length p ∧ (RW.Strict ps.length (fun i j => ltL (lAt ps i) (lAt ps j)) → RW.Sor (fun i j => ltL (lAt ps i) (lAt ps j)) p ps.length)) (κ := tuples' true) hT ho hc hd (by omega) (fun h2 s1 k1 => ?_) (fun D out h' c ho' kp hD gD => ?_)
    · have keyT1 : ∀ (i : Nat) (u : Value) (q : List Str), its[i]? = some u → ps[i]? = some q → TupL s1.heap u q := fun i u p e1 e2 => (keyT i u p e1 e2).keeps k1
      obtain ⟨fs, ft, fl, fa⟩ := tupsL_of hlp hp0 keyT1
      refine ⟨fun C hC => kat_kind (T := .type "str") ft (by omega) (fun f hf => ?_) rfl hC, ?_⟩
      · obtain ⟨x, t, rfl⟩ := fa f hf
        exact Looks.of_pure rfl
      · rw [hlp]
        refine RW.OkT.wp (N := ps.length) (lt := fun i j => ltL (lAt ps i) (lAt ps j)) (I := fun s' => s' = s1) (fun i j C s' hi hj e hC => ?_) (fun p s' hp e => ⟨e, hp⟩) rfl (RW.sort_any (by omega))
        subst e
        have gi : ∀ i, i < ps.length → TupL s'.heap (its.getD i Value.none) (lAt ps i) := fun i hi => by
          have hi' : i < its.length := by omega
          refine keyT1 i _ _ ?_ ?_
          · simp [hi']
          · unfold lAt; simp [hi]
        exact ask_tups (gi i hi) (gi j hj) (hC s' rfl)
    · have nD : H D = none := I.hok.fresh hD
      obtain ⟨ps', hperm, hpw, hlen, hout⟩ : ∃ ps' : List (List Str), ps'.Perm ps ∧ (ps.Nodup → ps'.Pairwise (fun a b => ltL a b = true)) ∧ out.length = ps'.length ∧ ∀ (i : Nat) (u : Value) (q : List Str), out[i]? = some u → ps'[i]? = some q → ∃ b, u = .ref b ∧ H b = some (.tup (q.map V.str)) := by
        rcases ho' with ⟨hlt, rfl⟩ | ⟨p, hp, ⟨hP, hS⟩, rfl⟩
        · refine ⟨ps, .refl _, fun _ => ?_, hlp, keyA⟩
          match ps, (show ps.length < 2 by omega) with
          | [], _ => exact .nil
          | [a], _ => exact List.pairwise_singleton _ _
        · refine ⟨p.toList.map (lAt ps), ?_, fun nd => ?_, by simp, fun i u q e1 e2 => ?_⟩
          · have h1 := hP.map (lAt ps)
            rwa [map_lAt] at h1
          · have hs := hS (strict_tups nd)
            have hz := hP.size
            rw [List.pairwise_iff_getElem]
            intro i j hi hj hij
            have hi' : i < p.size := by simpa using hi
            have hj' : j < p.size := by simpa using hj
            have h := hs i j hij (by omega)
            rw [RW.gd_get hi', RW.gd_get hj'] at h
            simpa using h
          · rw [List.getElem?_map] at e1 e2
            cases e3 : p.toList[i]? with
            | none => rw [e3] at e1; cases e1
            | some j =>
              rw [e3] at e1 e2
              have hj : j < ps.length := by
                have : j ∈ p.toList := List.mem_of_getElem? e3
                have := (hP.mem_iff (a := j)).mp this
                simpa using this
              have hj' : j < its.length := by omega
              refine keyA j u q ?_ ?_
              · rw [← e1]; simp [hj']
              · rw [← e2]; unfold lAt; simp [hj]
      let vs' : List V := out.map fun u => match u with | .ref b => V.ref b | _ => V.non
      have hv : ∀ (i : Nat) (q : List Str), ps'[i]? = some q → ∃ b, out[i]? = some (.ref b) ∧ vs'[i]? = some (.ref b) ∧ H b = some (.tup (q.map V.str)) := fun i q e => by
        have hi : i < out.length := by
          rcases Nat.lt_or_ge i ps'.length with z | z
          · omega
          · rw [List.getElem?_eq_none z] at e; cases e
        obtain ⟨b, e1, hb⟩ := hout i out[i] q (by simp [hi]) e
        exact ⟨b, by rw [List.getElem?_eq_getElem hi, e1], by show (out.map _)[i]? = _; rw [List.getElem?_map, List.getElem?_eq_getElem hi, e1]; rfl, hb⟩
      have hlv : vs'.length = out.length := by show (out.map _).length = _; rw [List.length_map]
      have hpl : ps'.length < 64 := by rw [hperm.length_eq]; omega
      have T' : TupsAt H vs' ps' := ⟨by omega, fun i v q e1 e2 => by
        obtain ⟨b, _, e3, hb⟩ := hv i q e2
        rw [e1] at e3; cases e3
        exact ⟨b, rfl, hb⟩⟩
      refine ⟨.ref D, _, I.laid (a := D) (o := .lst vs') (t' := s.toks) kp hD ⟨?_, out, c, ?_, gD⟩, rfl, q ps' vs' D hperm hpw T' nD⟩
      · rw [hlv, hlen]; exact Nat.le_of_lt (small1000 (by omega))
      · refine vals_of_at hlv fun i v u e1 e2 => ?_
        have hi : i < ps'.length := by
          rcases Nat.lt_or_ge i ps'.length with z | z
          · exact z
          · rw [List.getElem?_eq_none (by omega)] at e2; cases e2
        obtain ⟨b, e3, e4, _⟩ := hv i ps'[i] (by simp [hi])
        rw [e3] at e2; cases e2
        rw [e4] at e1; cases e1
        rfl
  rcases hq with hq | hq
  · obtain ⟨its, rv, pl, hz⟩ := I.list hq
    obtain ⟨o, ho, hc, n, hd⟩ := pl.isList
    exact key (.inl rfl) ho hc hd rv
  · obtain ⟨its, rv, pl, hz⟩ := I.tuple hq
    obtain ⟨o, ho, hc, n, hd⟩ := pl
    exact key (.inr rfl) ho hc hd rv
end
end L2

set_option Elab.async false
set_option linter.all false
set_option maxRecDepth 100000
set_option maxHeartbeats 4000000
/-! a method without arguments; str.upper -/
namespace L2
open PySem PySem.Spec PyProof.Rows
section
variable {X : Cx} {K : PySem.W.Frag} {o : Expr} {to : TE} {name : Str} {apos cpos : Pos} {T id : String} {r : V → List V → Hp → VK → Prop}
theorem q_bm0 (pa : PlainAttrs T) (slot : Slot T name id) (hty : typeOf (.builtin id) = pure (.type "method_descriptor")) (hm : MtR X id r) (ho : QE X o to)
    (hbase : attributeBase o name X.env (eval o X.env) = eval o X.env := by rfl) (hline : (apos.endLine == cpos.line) = true := by rfl) : QE X (.Call (.Attribute o name apos) [] [] cpos) (tBM0 X.K T r to) := ⟨pe_bm0 pa slot hty hm ho.o hbase hline⟩
end
end L2
namespace L2
open PySem PySem.Spec PyProof.Rows
section
variable {X : Cx} {K : PySem.W.Frag}
end
end L2

set_option Elab.async false
set_option linter.all false
set_option maxRecDepth 100000
set_option maxHeartbeats 4000000
/-! kin: the mathematics -/
namespace RW
open PySem PySem.Spec PyProof.Rows L2
def tD (xs : List Str) : D := .tup (xs.map D.str)
def rowL : List Str → Bool
  | [a, b, w] => isNameB a && isNameB b && (if w = "equal" then ltS a b else decide (w = "over") && !decide (a = b))
  | _ => false
theorem rowL_form {r : List Str} (h : rowL r = true) : ∃ a b w, r = [a, b, w] ∧ isNameB a = true ∧ isNameB b = true ∧ a ≠ b ∧ ((w = "equal" ∧ ltS a b = true) ∨ w = "over") := by
  unfold rowL at h
  split at h
  · rename_i a b w
    rw [Bool.and_eq_true, Bool.and_eq_true] at h
    obtain ⟨⟨h1, h2⟩, h3⟩ := h
    refine ⟨a, b, w, rfl, h1, h2, ?_⟩
    split at h3
    · rename_i e; exact ⟨ltS_ne h3, .inl ⟨e, h3⟩⟩
    · rw [Bool.and_eq_true, Bool.not_eq_true'] at h3
      exact ⟨of_decide_eq_false h3.2, .inr (of_decide_eq_true h3.1)⟩
  · cases h
def tieL (r : List Str) : List Str := srt (r.take 2)
structure KinOk (rs : List (List Str)) : Prop where
  row : ∀ r ∈ rs, rowL r = true
  rise : rs.Pairwise (fun a b => ltL a b = true)
  ties : (rs.map tieL).Nodup
/-! ties of names -/
def pr (a b : Str) : List Str := srt [a, b]
theorem pw_unique {l1 l2 : List Str} (h1 : l1.Pairwise (fun a b => ltS a b = true)) (h2 : l2.Pairwise (fun a b => ltS a b = true)) (hp : l1.Perm l2) : l1 = l2 :=
  hp.eq_of_pairwise (fun a b _ _ h1 h2 => absurd h2 (by rw [ltS_asy h1]; decide)) h1 h2
theorem pr_comm {a b : Str} : pr a b = pr b a := by
  by_cases e : a = b
  · rw [e]
  · exact pw_unique (srt_rise (by simpa using e)) (srt_rise (by simpa using Ne.symm e)) ((srt_perm [a, b]).trans ((List.Perm.swap b a []).trans (srt_perm [b, a]).symm))
theorem pr_inj {a b c d : Str} (h : pr a b = pr c d) : (a = c ∧ b = d) ∨ (a = d ∧ b = c) := by
  have hp : [a, b].Perm [c, d] := (srt_perm [a, b]).symm.trans (by rw [show srt [a, b] = srt [c, d] from h]; exact srt_perm [c, d])
  have ha : a ∈ [c, d] := hp.mem_iff.mp (by simp)
  simp only [List.mem_cons, List.not_mem_nil, or_false] at ha
  rcases ha with rfl | rfl
  · have := (List.perm_cons a).mp hp
    exact .inl ⟨rfl, by simpa using this⟩
  · have h2 : [a, b].Perm [a, c] := hp.trans (List.Perm.swap a c [])
    have := (List.perm_cons a).mp h2
    exact .inr ⟨rfl, by simpa using this⟩
end RW

set_option Elab.async false
set_option linter.all false
set_option maxRecDepth 100000
set_option maxHeartbeats 4000000
/-! kin drawn, kin spoilt -/
namespace RW
open PySem PySem.Spec PyProof.Rows L2
abbrev at_ (xs : List Str) (i : Nat) : Str := xs.getD i ""
structure KD62 (xs : List Str) (ps : List (Nat × Nat)) (k : Nat) (rs : List (List Str)) : Prop where
  row : ∀ r ∈ rs, rowL r = true
  nd : (rs.map tieL).Nodup
  few : rs.length ≤ k
  old : ∀ r ∈ rs, ∃ q ∈ ps.take k, q.1 < q.2 ∧ tieL r = pr (at_ xs q.1) (at_ xs q.2)
theorem at_inj {xs : List Str} (nd : xs.Nodup) {i j : Nat} (hi : i < xs.length) (hj : j < xs.length) (h : at_ xs i = at_ xs j) : i = j := by
  unfold at_ at h
  simp only [List.getD, List.getElem?_eq_getElem hi, List.getElem?_eq_getElem hj, Option.getD_some] at h
  exact (List.getElem_inj nd).mp h
theorem mm_lt {x y : Str} (h : x ≠ y) : ltS (if ltS y x = true then y else x) (if ltS x y = true then y else x) = true := by
  cases e : ltS x y with
  | true => rw [ltS_asy e]; simp only [Bool.false_eq_true, if_false, if_true]; exact e
  | false =>
    have := ltS_tri h e
    rw [this]; simp only [Bool.false_eq_true, if_false, if_true]; exact this
theorem mm_pr {x y : Str} : pr (if ltS y x = true then y else x) (if ltS x y = true then y else x) = pr x y := by
  cases e : ltS x y with
  | true => rw [ltS_asy e]; simp
  | false =>
    cases e2 : ltS y x with
    | true => simp; exact pr_comm
    | false =>
      simp
      by_cases h : x = y
      · rw [h]
      · rw [ltS_tri h e] at e2; cases e2
theorem row_equal {x y : Str} (hx : isNameB x = true) (hy : isNameB y = true) (h : x ≠ y) : rowL [if ltS y x = true then y else x, if ltS x y = true then y else x, "equal"] = true := by
  show (_ && _ && (if ("equal" : Str) = "equal" then _ else _)) = true
  rw [if_pos rfl, mm_lt h]
  have h1 : isNameB (if ltS y x = true then y else x) = true := by split <;> assumption
  have h2 : isNameB (if ltS x y = true then y else x) = true := by split <;> assumption
  rw [h1, h2]; rfl
theorem row_over {x y : Str} (hx : isNameB x = true) (hy : isNameB y = true) (h : x ≠ y) : rowL [x, y, "over"] = true := by
  show (_ && _ && (if ("over" : Str) = "equal" then _ else _)) = true
  rw [if_neg (by decide +kernel), hx, hy, decide_eq_false h]
  decide +kernel
/-! a ring -/
def rgRow (xs : List Str) (k : Nat) : List Str := [at_ xs k, at_ xs ((k + 1) % xs.length), "over"]
def rgRows (xs : List Str) : List (List Str) := (List.range xs.length).map (rgRow xs)
theorem at_name {xs : List Str} {i : Nat} (h : ∀ x ∈ xs, isNameB x = true) (hi : i < xs.length) : isNameB (at_ xs i) = true := by
  unfold at_
  rw [show xs.getD i "" = xs[i] by simp [List.getD, hi]]
  exact h _ (List.getElem_mem hi)
theorem ring_rows {xs : List Str} (nd : xs.Nodup) (hn : ∀ x ∈ xs, isNameB x = true) (h3 : 3 ≤ xs.length) : (∀ r ∈ rgRows xs, rowL r = true) ∧ ((rgRows xs).map tieL).Nodup := by
  have key : ∀ k, k < xs.length → (k + 1) % xs.length < xs.length ∧ (k + 1) % xs.length ≠ k := fun k hk => by
    refine ⟨Nat.mod_lt _ (by omega), ?_⟩
    by_cases e : k + 1 = xs.length
    · rw [e, Nat.mod_self]; omega
    · rw [Nat.mod_eq_of_lt (by omega)]; omega
  constructor
  · intro r hr
    obtain ⟨k, hk, rfl⟩ := List.mem_map.mp hr
    have hk := List.mem_range.mp hk
    obtain ⟨h1, h2⟩ := key k hk
    exact row_over (at_name hn hk) (at_name hn h1) fun z => h2 (at_inj nd hk h1 z).symm
  · unfold rgRows
    rw [List.map_map]
    refine List.pairwise_map.mpr (List.Pairwise.imp_of_mem ?_ List.nodup_range)
    intro i j hi hj hij z
    have hi := List.mem_range.mp hi
    have hj := List.mem_range.mp hj
    obtain ⟨i1, i2⟩ := key i hi
    obtain ⟨j1, j2⟩ := key j hj
    have z' : pr (at_ xs i) (at_ xs ((i + 1) % xs.length)) = pr (at_ xs j) (at_ xs ((j + 1) % xs.length)) := z
    rcases pr_inj z' with ⟨e1, _⟩ | ⟨e1, e2⟩
    · exact hij (at_inj nd hi hj e1)
    · have e1 := at_inj nd hi j1 e1
      have e2 := at_inj nd i1 hj e2
      by_cases c1 : i + 1 = xs.length
      · rw [c1, Nat.mod_self] at e2
        subst e2
        rw [Nat.mod_eq_of_lt (by omega)] at e1
        omega
      · rw [Nat.mod_eq_of_lt (by omega)] at e2
        by_cases c2 : j + 1 = xs.length
        · rw [c2, Nat.mod_self] at e1; omega
        · rw [Nat.mod_eq_of_lt (by omega)] at e1; omega
/-! spoilt -/
/-! rows that are none -/
/-! pairs of numbers -/
theorem tr_list {H : Hp} {l : Addr} {vs : List V} {ds : List D} (e : H l = some (.lst vs)) (r : RepL H vs ds) (h : ∀ d ∈ ds, okD d = true) : Tr H (.ref l) (.list (ds.map pyD)) := by
  refine .lst e (by rw [List.length_map]; exact r.1) fun i v d e1 e2 => ?_
  rw [List.getElem?_map] at e2
  cases e3 : ds[i]? with
  | none => rw [e3] at e2; cases e2
  | some d' => rw [e3] at e2; cases e2; exact tr_of (r.2 i v d' e1 e3) (h d' (List.mem_of_getElem? e3))
end RW

set_option Elab.async false
set_option linter.all false
set_option maxRecDepth 100000
set_option maxHeartbeats 4000000
/-! displays of which only a property is known -/
namespace RW
open PySem PySem.Spec PyProof.Rows L2
section
variable {te tf : TE} {ta : TA} {σ : L2.St} {H : Hp} {P P' : D → Prop} {d : D} {ds : List D} {n : Nat} {K : PySem.W.Frag}
end
end RW

set_option Elab.async false
set_option linter.all false
set_option maxRecDepth 100000
set_option maxHeartbeats 4000000
/-! reversed(range(n)) -/
namespace HT
open PySem PySem.Spec PyProof.Rows L2
section
variable {prog : Program} {w : World} {A : Around} {E : Value → Shared → Prop} {s : Shared}
end
end HT
namespace L2
open PySem PySem.Spec PyProof.Rows
section
variable {X : Cx} {tg : Expr}
end
end L2

set_option Elab.async false
set_option linter.all false
set_option maxRecDepth 100000
set_option maxHeartbeats 4000000
/-! marks of ways -/
namespace L2
open PySem PySem.Spec PyProof.Rows
section
variable {X : Cx}
theorem s_while {c : Expr} {body : List Stmt} {tc : TT} {tb : TS} {pos : Pos} (hc : QT X c tc) (hb : QB X body tb) (hp : PassesOwn (model X.prog X.w) X.A X.env X.xe := by exact PassesOwn.never) : QS X (.While c body [] pos) (tWhile tc tb) := ⟨ps_while hp hc.o hb.o⟩
end
end L2
namespace RW
open PySem PySem.Spec PyProof.Rows L2
/-- marks told: names of O, rising -/
structure Mr (O t : List Str) : Prop extends Mk O t where
  rise : t.Pairwise (fun a b => ltS a b = true)
end RW

set_option Elab.async false
set_option linter.all false
/-! lists of a given length -/
namespace L2
section
variable {α : Type} {P : List α → Prop}
theorem of1 (h : ∀ a, P [a]) : ∀ us : List α, us.length = 1 → P us
  | [a], _ => h a
theorem of2 (h : ∀ a b, P [a, b]) : ∀ us : List α, us.length = 2 → P us
  | [a, b], _ => h a b
theorem of3 (h : ∀ a b c, P [a, b, c]) : ∀ us : List α, us.length = 3 → P us
  | [a, b, c], _ => h a b c
end
end L2

set_option Elab.async false
set_option linter.all false
set_option maxRecDepth 100000
set_option maxHeartbeats 4000000
/-! max(list of ints, default=0): some int -/
namespace HT
open PySem PySem.Spec PyProof.Rows L2
section
variable {prog : Program} {w : World} {A : Around} {R : Result → Shared → Prop} {I : Addr} {fp wr : List Addr} {n : Nat} {P : Nat → Value → Prop} {St : Nat → Heap → Prop}
def IsI (v : Value) : Prop := ∃ a t, v = .int a t
def BestI (items : Array Value) : Prop := items = #[] ∨ ∃ a t, items = #[.int a t, .int a t]
theorem mxd_loop (W : Walks prog w A.in1 I fp wr n P St) (hint : ∀ i v, P i v → IsI v) (S : Addr) (hSf : S ∉ fp) (d : Value) (hd : IsI d) :
    ∀ (k j : Nat) (s : Shared) (items : Array Value) (c : Nat), n - j = k → j ≤ n → St j s.heap → BestI items → s.heap.get? S = some { cls := .type "list", dict := none, data := .seq items c, slots := #[] } →
    (∀ v h' tk, IsI v → (∀ b o, b ∉ wr → b ≠ S → s.heap.get? b = some o → h'.get? b = some o) → R (.ok (.ret v)) { s with heap := h', toks := tk }) →
    codeAny (model prog w) A (.builtin "max.loop" ⟨[.ref I, .none, .ref S], [("default", d)]⟩) R s := by
  have hSw : S ∉ wr := fun h => hSf (W.sub _ h)
  have nm : (toString "max" ++ toString ".loop" : String) = "max.loop" := by decide
  intro k
  induction k with
  | zero =>
    intro j s items c hk hj hst hb hS hR
    have ej : j = n := by omega
    subst ej
    refine codeAny_builtin F.entry_max_loop ?_
    rw [Around.under_plainId F.plain_max_loop _]
    show wpAny _ A.in1 (seqItems? (.ref S) >>= _) _ _ s
    refine wpAny_bind (wpAny_seqItems hS rfl ?_)
    show wpAny _ A.in1 (tryCatch (pyNext (.ref I)) _ >>= _) _ _ s
    refine wpAny_bind (wpAny_tryCatch (W.done s _ _ hst fun h' tk hk' => ?_))
    have hS' := hk' S _ hSw hS
    rcases hb with rfl | ⟨a, t, rfl⟩
    · refine wpAny_bind (wpAny_rule (wpAny_pure ?_))
      exact hR d h' tk hd fun b o hbw _ e => hk' b o hbw e
    · show wpAny _ A.in1 (updateSeq S (fun _ => #[]) >>= _) _ _ _
      refine wpAny_bind (wpAny_updateSeq hS' rfl (wpAny_bind (wpAny_letGo (wpAny_pure ?_))))
      exact hR (.int a t) _ tk ⟨a, t, rfl⟩ fun b o hbw hbS e => (Heap.get?_update_other _ _ (Ne.symm hbS)).trans (hk' b o hbw e)
  | succ k ih =>
    intro j s items c hk hj hst hb hS hR
    refine codeAny_builtin F.entry_max_loop ?_
    rw [Around.under_plainId F.plain_max_loop _]
    show wpAny _ A.in1 (seqItems? (.ref S) >>= _) _ _ s
    refine wpAny_bind (wpAny_seqItems hS rfl ?_)
    show wpAny _ A.in1 (tryCatch (pyNext (.ref I)) _ >>= _) _ _ s
    refine wpAny_bind (wpAny_tryCatch (W.item j s _ _ (by omega) hst fun v h' tk hP hst' hk' => ?_))
    have hS' := hk' S _ hSw hS
    obtain ⟨a2, t2, rfl⟩ := hint _ _ hP
    have go : ∀ (its : Array Value) (h2 : Heap) (tk2 c2 : Nat), BestI its → h2.get? S = some { cls := .type "list", dict := none, data := .seq its c2, slots := #[] } → St (j + 1) h2 → (∀ b o, b ∉ wr → b ≠ S → s.heap.get? b = some o → h2.get? b = some o) →
        codeAny (model prog w) A (.builtin "max.loop" ⟨[.ref I, .none, .ref S], [("default", d)]⟩) R { s with heap := h2, toks := tk2 } := fun its h2 tk2 c2 hb2 hS2 st2 k2 =>
      ih (j + 1) { s with heap := h2, toks := tk2 } its c2 (by omega) (by omega) st2 hb2 hS2 fun v h3 tk3 hv k3 => hR v h3 tk3 hv fun b o b1 b2 e => k3 b o b1 b2 (k2 b o b1 b2 e)
    have put : ∀ (its : Array Value) (tk2 : Nat), BestI its → codeAny (model prog w) A (.builtin "max.loop" ⟨[.ref I, .none, .ref S], [("default", d)]⟩) R { s with heap := h'.update S (Obj.mapSeq fun _ => its), toks := tk2 } := fun its tk2 hb2 =>
      go its _ tk2 _ hb2 (Heap.get?_update_self _ hS' rfl) (W.frame _ _ _ hst' fun b hbf o e => (Heap.get?_update_other _ _ (fun h : S = b => hSf (by rw [h]; exact hbf))).trans e) fun b o b1 b2 e => (Heap.get?_update_other _ _ (Ne.symm b2)).trans (hk' b o b1 e)
    rcases hb with rfl | ⟨a, t, rfl⟩
    · show wpAny _ A.in1 (updateSeq S (fun _ => #[.int a2 t2, .int a2 t2]) >>= _) _ _ _
      refine wpAny_bind (wpAny_updateSeq hS' rfl ?_)
      rw [nm]
      exact wpAny_pure ⟨plainId_quiet F.plain_max_loop _, put _ _ (.inr ⟨a2, t2, rfl⟩)⟩
    · show wpAny _ A.in1 (tryCatch (holding [Value.int a2 t2, Value.int a2 t2] (richCompare .Gt (.int a2 t2) (.int a t) >>= _)) _ >>= _) _ _ _
      have cmp := CmpOf.ints_gt (prog := prog) (w := w) (A := A.in1) (P := fun i v => (i = 0 ∧ v = .int a2 t2) ∨ (i = 1 ∧ v = .int a t)) (fun i => if i = 0 then a2 else a) fun i v h => by
        rcases h with ⟨rfl, rfl⟩ | ⟨rfl, rfl⟩
        · exact ⟨t2, rfl⟩
        · exact ⟨t, rfl⟩
      have cmp' : ∀ (Q : Value → Shared → Prop) (E : Value → Shared → Prop) (s' : Shared), (∀ bb : Bool, Q (.bool bb) s') → wpAny (model prog w) A.in1 (richCompare .Gt (.int a2 t2) (.int a t)) Q E s' := fun Q E s' h => cmp 0 1 _ _ s' Q E (.inl ⟨rfl, rfl⟩) (.inr ⟨rfl, rfl⟩) (h _)
      clear cmp
      refine wpAny_bind (wpAny_tryCatch (wpAny_holding (wpAny_bind (cmp' _ _ _ fun bb => ?_))))
      refine wpAny_bind (wpAny_holding (wpAny_truthy_bool ?_))
      refine wpAny_bind (wpAny_letGo (wpAny_pure ?_))
      cases bb with
      | true =>
        simp only [if_true]
        refine wpAny_bind (wpAny_updateSeq hS' rfl (wpAny_bind (wpAny_letGo ?_)))
        rw [nm]
        exact wpAny_pure ⟨plainId_quiet F.plain_max_loop _, put _ _ (.inr ⟨a2, t2, rfl⟩)⟩
      | false =>
        simp only [Bool.false_eq_true, if_false]
        refine wpAny_bind (wpAny_letGo ?_)
        rw [nm]
        exact wpAny_pure ⟨plainId_quiet F.plain_max_loop _, go _ _ _ c (.inr ⟨a, t, rfl⟩) hS' hst' fun b o b1 _ e => hk' b o b1 e⟩
end
theorem args_maxD (a b : Value) : argsOk "max" ⟨[a], [("default", b)]⟩ := by unfold argsOk; kernel_rfl
section
variable {prog : Program} {w : World} {A : Around} {E : Value → Shared → Prop} {s : Shared}
theorem call_maxD {l : Addr} {its : Array Value} {d : Value} {Q : Value → Shared → Prop} (hA : A.handled = none) (hl : s.heap.IsList l its) (hint : ∀ (i : Nat) (v : Value), its[i]? = some v → IsI v) (hd : IsI d)
    (h : ∀ v h' tk, IsI v → (∀ b o, s.heap.get? b = some o → h'.get? b = some o) → Q v { s with heap := h', toks := tk }) :
    wpAny (model prog w) A (call (.builtin "max") [.ref l] [("default", d)]) Q E s := by
  have nm : (toString "max" ++ toString ".loop" : String) = "max.loop" := by decide
  refine wpAny_call (codeAny_call_builtin F.plain_max F.entry_max ?_)
  have ck : checkBuiltinCall "max" ⟨[.ref l], [("default", d)]⟩ = pure () := by
    simp only [checkBuiltinCall, F.kind_max]
    have ha := args_maxD (.ref l) d
    unfold argsOk at ha
    cases hsig : Manifest.signature? "max" with
    | none => rfl
    | some sig => rw [hsig] at ha; exact ha
  refine wpAny_of_eq ck ?_
  have bp : Builtin.Builtins.bindParams "max" ["key", "default"] 0 ⟨[], [("default", d)]⟩ = pure [none, some d] := by rfl
  show wpAny _ A.in1 (Builtin.Builtins.bindParams "max" ["key", "default"] 0 ⟨[], [("default", d)]⟩ >>= _) _ _ s
  refine wpAny_bind (wpAny_of_eq bp ?_)
  refine wpAny_bind (wpAny_pure ?_)
  refine wpAny_bind (wpAny_pyIter_list hl ?_)
  refine wpAny_bind (wpAny_newObj_type ?_)
  rw [nm]
  have hp : l ≠ s.heap.objs.size := Nat.ne_of_lt (by obtain ⟨o, ho, _⟩ := hl; exact Heap.lt_size ho)
  have sz : (s.heap.push { cls := .type "list_iterator", data := .fields #[.ref l, .int 0 0] }).objs.size = s.heap.objs.size + 1 := Heap.size_push ..
  have llt : l < s.heap.objs.size := by obtain ⟨o, ho, _⟩ := hl; exact Heap.lt_size ho
  refine wpAny_pure ⟨plainId_quiet F.plain_max_loop _, ?_⟩
  refine mxd_loop (Walks.list (A := A.in1) (show A.in1.handled = none from hA) s.heap.objs.size l hp its) hint _ ?_ d hd _ 0 _ #[] 0 rfl (Nat.zero_le _) ?_ (.inl rfl) (Heap.get?_push_size _ rfl) fun v h' tk hv k => h v h' tk hv fun b o e => k b o ?_ ?_ (Heap.get?_push_of_some _ (Heap.get?_push_of_some _ e))
  · show (s.heap.push _).objs.size ∉ _
    rw [sz]
    simp only [List.mem_cons, List.not_mem_nil, or_false, not_or]
    exact ⟨Nat.ne_of_gt (Nat.lt_succ_self _), Nat.ne_of_gt (Nat.lt_succ_of_lt llt)⟩
  · refine ⟨⟨_, Heap.get?_push_of_some _ (Heap.get?_push_size _ rfl), rfl, rfl⟩, ?_⟩
    obtain ⟨o, ho, r⟩ := hl
    exact ⟨o, Heap.get?_push_of_some _ (Heap.get?_push_of_some _ ho), r⟩
  · intro z
    have : b = s.heap.objs.size := by simpa using z
    exact absurd (Heap.lt_size e) (by rw [this]; exact Nat.lt_irrefl _)
  · intro z
    have z : b = (s.heap.push _).objs.size := z
    rw [sz] at z
    exact absurd (Heap.lt_size e) (by rw [z]; exact Nat.not_lt.mpr (Nat.le_succ _))
end
end HT
namespace L2
open PySem PySem.Spec PyProof.Rows
section
variable {X : Cx}
/-- max(l, default=0), l a list of ints: some int -/
def tMaxD (K : PySem.W.Frag) (ta : TA) : TE := fun σ H Q => ta σ H fun vs H1 => ∃ (l : Addr) (ns : List Int), vs = [.ref l] ∧ SqL K H1 l (ns.map V.int) ∧ ∀ i : Int, Q (.int i) H1
theorem q_maxD {a : Expr} {ta : TA} {j2 : Nat} {p p2 p3 pos : Pos} (hm : X.mg "max" = none) (hc : X.calm = true) (ha : QA X [a] ta) (hg : Gl X "max" := by rfl) (hs : starEach [a] X.env = [(false, eval a X.env)] := by rfl) : QE X (.Call (.Name "max" p) [a] [⟨some "default", .Constant (.int 0) j2 p2, p3⟩] pos) (tMaxD X.K ta) := ⟨by
  intro pins s σ H Q I h
  refine wpAny_Call_Name_kw (ld_blt I hg hm bt_max ?_)
  refine callWith_kw (thn (ha.o pos pins s σ H _ I h) fun us s1 ⟨vs, H1, I1, r1, q1⟩ => kws_cons (thn ((q_int (X := X) (k := 0)).o pins s1 σ H1 (fun v H' => v = .int 0 ∧ H' = H1) I1 ⟨rfl, rfl⟩) fun bv s2 ⟨b, H2, I2, rb, eb, eH⟩ => kws_nil ?_)) (by rw [hs]; rfl) (by rw [hs]; rfl)
  subst eb eH
  obtain ⟨t0, rfl⟩ := rb
  obtain ⟨l, ns, rfl, hq, q⟩ := q1
  obtain ⟨u, rfl, ru⟩ := vals1 r1
  cases ru
  obtain ⟨its, rv, pl, hz⟩ := I2.list hq
  refine HT.call_maxD (I2.ok.hd hc) pl.isList (fun i v e => ?_) ⟨0, t0, rfl⟩ fun v h' tk ⟨i, t, ev⟩ hk => ?_
  · rw [List.getElem?_toArray] at e
    have hi : i < ns.length := by
      have := rv.length
      rw [List.length_map] at this
      rcases Nat.lt_or_ge i its.length with z | z
      · omega
      · rw [List.getElem?_eq_none z] at e; cases e
    obtain ⟨u, hu, ru⟩ := rv.get (i := i) (x := .int ns[i]) (by rw [List.getElem?_map, List.getElem?_eq_getElem hi]; rfl)
    rw [e] at hu
    cases hu
    obtain ⟨t, rfl⟩ := ru
    exact ⟨_, t, rfl⟩
  · subst ev
    exact ⟨.int i, _, I2.kept (t' := tk) hk, ⟨t, rfl⟩, q i⟩⟩
end
end L2

set_option Elab.async false
set_option linter.all false
set_option maxRecDepth 100000
set_option maxHeartbeats 4000000
/-! list.index of texts -/
namespace L2
open PySem PySem.Spec PyProof.Rows
section
variable {X : Cx}
def rIndexL : V → List V → Hp → VK → Prop := fun x vs H Q => ∃ (l : Addr) (hs : List Str) (y : Str) (j : Nat), x = .ref l ∧ vs = [.str y] ∧ H l = some (.lst (hs.map V.str)) ∧ hs[j]? = some y ∧ (∀ i < j, hs[i]? ≠ some y) ∧ hs.length ≤ 1000 ∧ Q (.int (j : Int)) H
def isS (y : Str) : Value → Bool | .str z _ => decide (z = y) | _ => false
theorem mt_indexL : MtR X "list.index" rIndexL := by
  intro pins s σ H x vs v us Q I rx rv h
  obtain ⟨l, hs, y, j, rfl, rfl, hH, hj, hb, hl9, q⟩ := h
  cases rx
  obtain ⟨u, rfl, ru⟩ := vals1 rv
  obtain ⟨ty, rfl⟩ := ru
  obtain ⟨z, its, n, r, hl, e⟩ := I.lstM hH
  have hlen := r.length
  rw [List.length_map] at hlen
  have at_ : ∀ (i : Nat) (hi : i < its.length), ∃ t, its[i] = .str (hs[i]'(by omega)) t := fun i hi => by
    obtain ⟨u, hu, ru⟩ := r.get (i := i) (x := .str (hs[i]'(by omega))) (by rw [List.getElem?_map, List.getElem?_eq_getElem (by omega)]; rfl)
    rw [List.getElem?_eq_getElem hi] at hu
    cases hu
    exact ru
  have hjl : j < hs.length := by
    rcases Nat.lt_or_ge j hs.length with z | z
    · exact z
    · rw [List.getElem?_eq_none z] at hj; cases hj
  have ej : hs[j] = y := by rw [List.getElem?_eq_getElem hjl] at hj; exact Option.some.inj hj
  refine call_meets F.slot_list_index ⟨_, e, rfl⟩ F.entry_list_index (F.args_list_index_2 _ _) (MeetsSeq.list_index l its.toArray n (.str y ty) (isS y) ?_ j (by rw [List.size_toArray]; omega) (by omega) ?_ ?_) ⟨e, ?_⟩
  · intro w' hw'
    obtain ⟨i, hi, rfl⟩ := List.getElem_of_mem (Array.mem_toList_iff.mpr hw')
    obtain ⟨t, et⟩ := at_ i hi
    have et : (its.toArray.toList)[i] = .str (hs[i]'(by simp at hi; omega)) t := et
    rw [et]
    exact fun _ _ _ _ _ _ h => wpAny_eqBool_str h
  · obtain ⟨t, et⟩ := at_ j (by omega)
    have et : (its.toArray)[j]'(by rw [List.size_toArray]; omega) = .str hs[j] t := by simpa using et
    rw [et]
    exact decide_eq_true ej
  · intro m hm hmj
    obtain ⟨t, et⟩ := at_ m (by simpa using hm)
    have et : (its.toArray)[m] = .str (hs[m]'(by rw [List.size_toArray] at hm; omega)) t := by simpa using et
    rw [et]
    exact decide_eq_false fun z => hb m hmj (by rw [List.getElem?_eq_getElem (by omega), z])
  · exact ⟨.int j, H, I.tok _, ⟨_, rfl⟩, q⟩
end
end L2

set_option Elab.async false
set_option linter.all false
set_option maxRecDepth 100000
set_option maxHeartbeats 4000000
/-! list(d), d a dict keyed by texts -/
namespace L2
open PySem PySem.W PySem.Spec PyProof.Rows PyProof.V
section
variable {X : Cx}
theorem vals_at : ∀ {xs : List V} {us : List Value}, xs.length = us.length → (∀ (i : Nat) (x : V) (u : Value), xs[i]? = some x → us[i]? = some u → RelV x u) → Vals xs us
  | [], [], _, _ => .nil
  | x :: xs, u :: us, h, r => .cons (r 0 x u rfl rfl) (vals_at (by simpa using h) fun i y v e1 e2 => r (i + 1) y v (by simpa using e1) (by simpa using e2))
  | [], _ :: _, h, _ => by simp at h
  | _ :: _, [], h, _ => by simp at h
theorem key_str {y : Str} {v : Value} (h : keyIs (.inr y) v = true) : ∃ t, v = .str y t := by
  rcases keyIs_shape h with ⟨i, t, e, _⟩ | ⟨x, t, e, rfl⟩
  · cases e
  · cases e; exact ⟨t, rfl⟩
theorem call_listK (hc : X.calm = true) : CallR X (.type "list") (fun xs H Q => ∃ (d : Addr) (kvs : List (Key × V)) (hs : List Str), xs = [.ref d] ∧ H d = some (.dK kvs) ∧ kvs.map (·.1) = hs.map Sum.inr ∧ ∀ l, H l = none → Q (.ref l) (upd H l (.lst (hs.map V.str)))) := by
  intro pins s σ H xs us Q I r h
  obtain ⟨d, kvs, hs, rfl, hH, hks, q⟩ := h
  obtain ⟨u, rfl, ru⟩ := vals1 r
  cases ru
  obtain ⟨z, hS, vs, rel, dd⟩ := dk_of I.hok hH
  obtain ⟨o, es, ep, ho, hce, hdat, hke, hpa, hnd⟩ := dd
  have lv := rel.length
  have hl : hs.length = vs.length := by
    have := congrArg List.length hks
    rw [List.length_map, List.length_map] at this
    omega
  have kat : ∀ (i : Nat) (k : Key) (x : Value), vs[i]? = some (k, x) → ∃ y, hs[i]? = some y ∧ k = Sum.inr y := by
    intro i k x e
    have hi : i < vs.length := by
      rcases Nat.lt_or_ge i vs.length with z | z
      · exact z
      · rw [List.getElem?_eq_none z] at e; cases e
    have ek : (vs.map (·.1)) = hs.map Sum.inr := by
      rw [← hks]
      exact (kv_keys rel).symm
    have := congrArg (fun l => l[i]?) ek
    simp only [List.getElem?_map, e] at this
    cases e2 : hs[i]? with
    | none => rw [e2] at this; cases this
    | some y => rw [e2] at this; exact ⟨y, rfl, Option.some.inj this⟩
  refine kdl_call (kdl_dict (knd := mixKind X.prog X.w) (kvs := vs) (ep := ep) hS) (I.ok.hd hc) ⟨o, es, ho, hce, hdat, hke, hpa, hnd⟩ (by omega) fun h' tk acc c hk hL hacc => ?_
  have hV : Vals (hs.map V.str) acc.toList := by
    refine vals_at (by rw [List.length_map, hl]; exact (hacc.1).symm) fun i x u e1 e2 => ?_
    rw [Array.getElem?_toList] at e2
    obtain ⟨k, y, e3, e4⟩ := hacc.2 i u e2
    obtain ⟨w', e5, rfl⟩ := kat i k y e3
    rw [List.getElem?_map, e5] at e1
    cases e1
    exact key_str e4
  refine ⟨.ref s.heap.objs.size, _, I.laid (a := s.heap.objs.size) (o := .lst (hs.map V.str)) (t' := tk) hk (Nat.le_refl _) ⟨by rw [List.length_map]; omega, acc.toList, c, hV, by simpa using hL⟩, rfl, q _ (I.hok.fresh (Nat.le_refl _))⟩
end
end L2

set_option Elab.async false
set_option linter.all false
set_option maxRecDepth 100000
set_option maxHeartbeats 4000000
/-! set(list of texts, each once): the loop -/
namespace HT
open PySem PySem.Spec PyProof.Rows L2
section
variable {prog : Program} {w : World} {A : Around} {R : Result → Shared → Prop} {I : Addr} {fp wr : List Addr} {n : Nat} {P : Nat → Value → Prop} {St : Nat → Heap → Prop}
/-- a set of the first i of them -/
def StsAt (h : Heap) (prog : Program) (w : World) (S : Addr) (val : Nat → Str) (i : Nat) : Prop := ∃ f : Key → Bool, h.SetOf (mixKind prog w) S f i ∧ ∀ k, f k = true → ∃ j < i, k = Sum.inr (val j)
theorem sts_loop (W : Walks prog w A.in1 I fp wr n P St) (S : Addr) (hSf : S ∉ fp) (val : Nat → Str) (hval : ∀ i v, P i v → ∃ t, v = .str (val i) t) (hb : n + 1 < scanBound) (nd : ∀ i j, i < n → j < n → val i = val j → i = j) :
    ∀ (k i : Nat) (s : Shared), n - i = k → i ≤ n → St i s.heap → StsAt s.heap prog w S val i →
      (∀ h' tk, h'.objs.size = h'.objs.size → (∀ b o, b ∉ wr → b ≠ S → s.heap.get? b = some o → h'.get? b = some o) → StsAt h' prog w S val n → R (.ok (.ret .none)) { s with heap := h', toks := tk }) →
      codeAny (model prog w) A (.builtin "set.update.loop" ⟨[.ref S, .ref I], []⟩) R s := by
  have hSw : S ∉ wr := fun h => hSf (W.sub _ h)
  intro k
  induction k with
  | zero =>
    intro i s hk hi hst hS hR
    have ei : i = n := by omega
    subst ei
    refine codeAny_builtin F.entry_set_update_loop ?_
    rw [Around.under_plainId F.plain_set_update_loop _]
    show wpAny _ A.in1 (pyNext (.ref I) >>= _) _ _ s
    refine wpAny_bind (W.done s _ _ hst fun h' tk hk' => ?_)
    refine wpAny_pure (hR h' tk rfl (fun b o b1 _ e => hk' b o b1 e) ?_)
    obtain ⟨f, ⟨o, es, ep, t, ho, rest⟩, hf⟩ := hS
    exact ⟨f, ⟨o, es, ep, t, hk' S _ hSw ho, rest⟩, hf⟩
  | succ k ih =>
    intro i s hk hi hst hS hR
    have hlt : i < n := by omega
    refine codeAny_builtin F.entry_set_update_loop ?_
    rw [Around.under_plainId F.plain_set_update_loop _]
    show wpAny _ A.in1 (pyNext (.ref I) >>= _) _ _ s
    refine wpAny_bind (W.item i s _ _ hlt hst fun v h1 tk1 hP hst' hk' => ?_)
    obtain ⟨t, rfl⟩ := hval i v hP
    obtain ⟨f, hSet, hf⟩ := hS
    have hS' : h1.SetOf (mixKind prog w) S f i := by
      obtain ⟨o, es, ep, tb, ho, rest⟩ := hSet
      exact ⟨o, es, ep, tb, hk' S _ hSw ho, rest⟩
    have new : f (Sum.inr (val i)) = false := by
      cases e : f (Sum.inr (val i)) with
      | false => rfl
      | true =>
        obtain ⟨j, hj, ej⟩ := hf _ e
        exact absurd (nd i j hlt (by omega) (Sum.inr.inj ej)) (by omega)
    show wpAny _ A.in1 (holding [Value.str (val i) t] (setAdd S (.str (val i) t)) >>= _) _ _ _
    refine wpAny_bind (wpAny_holding ?_)
    unfold setAdd
    refine wpAny_holding (wpAny_bind ((mixKind prog w).pyHash (k := Sum.inr (val i)) (mixKind_str _ _ _ _) ?_))
    refine wpAny_setAddHashed_of (knd := mixKind prog w) (s := { s with heap := h1, toks := tk1 + 1 }) (mixKind_str _ _ _ _) rfl hS' (by omega) fun h2 hsb hS2 => ?_
    rw [new] at hS2
    refine wpAny_pure ⟨plainId_quiet F.plain_set_update_loop _, ih (i + 1) { s with heap := h2, toks := tk1 + 1 } (by omega) hlt (W.frame _ _ _ hst' fun b hb o e => ?_) ⟨_, hS2, fun k' hk2 => ?_⟩ fun h3 tk3 e3 k3 st3 => ?_⟩
    · rw [hsb.2 b (fun h : b = S => hSf (by rw [← h]; exact hb))]; exact e
    · rcases (Bool.or_eq_true _ _).mp hk2 with h | h
      · obtain ⟨j, hj, ej⟩ := hf k' h
        exact ⟨j, by omega, ej⟩
      · exact ⟨i, by omega, of_decide_eq_true h⟩
    · exact hR h3 tk3 rfl (fun b o b1 b2 e => k3 b o b1 b2 (by show h2.get? b = some o; rw [hsb.2 b b2]; exact hk' b o b1 e)) st3
end
end HT

set_option Elab.async false
set_option linter.all false
set_option maxRecDepth 100000
set_option maxHeartbeats 4000000
/-! set(list of texts, each once): the call -/
namespace HT
open PySem PySem.Spec PyProof.Rows L2
section
variable {prog : Program} {w : World} {A : Around} {E : Value → Shared → Prop} {s : Shared}
theorem sts_init {l S : Addr} {items : Array Value} {val : Nat → Str} {led : Bool} {R : Value → Shared → Prop} (hh : A.handled = none) (hS : s.heap.get? S = some { cls := .type "set", dict := none, data := .set #[] 0 (.fresh 0 0 led) }) (hl : s.heap.IsList l items) (hlS : l ≠ S)
    (hval : ∀ (i : Nat) v, items[i]? = some v → ∃ t, v = .str (val i) t) (hb : items.size + 1 < scanBound) (nd : ∀ i j, i < items.size → j < items.size → val i = val j → i = j)
    (hR : ∀ h' tk, StsAt h' prog w S val items.size → (∀ b o, b ≠ S → s.heap.get? b = some o → h'.get? b = some o) → R .none { s with heap := h', toks := tk }) :
    wpAny (model prog w) A (Builtin.«set.__init__» ⟨[.ref S, .ref l], []⟩) (fun fin s' => ∃ v, fin = .done (.ret v) ∧ R v s') E s := by
  have hT : s.TypeIs (.ref S) "set" := ⟨_, hS, rfl⟩
  obtain ⟨ol, hol, hcl, nl, hdl⟩ := hl
  have hl1 : s.heap.IsList l items := ⟨ol, hol, hcl, nl, hdl⟩
  obtain ⟨oc, od, odat, osl⟩ := ol
  simp only at hcl hdl
  subst hcl hdl
  have hsls := F.sub_list_set
  have hslf := F.sub_list_frozenset
  have hne : (Value.type "list" == Value.type "dict") = false := by decide
  obtain ⟨hp, g, d, tk, os⟩ := s
  unfold Builtin.«set.__init__» noKeywords Builtin.Frozenset.updateFrom
  generalize hPI : pyIter = PI
  wp_walk
  subst hPI
  refine wpAny_pyIter_list hl1 ?_
  refine wpAny_bind (wpAny_runValue ?_)
  have llt : l < hp.objs.size := Heap.lt_size hol
  have Slt : S < hp.objs.size := Heap.lt_size hS
  refine sts_loop (Walks.list (A := A.in1) (show A.in1.handled = none from hh) hp.objs.size l (Nat.ne_of_lt llt) items) S ?_ val hval hb nd _ 0 _ rfl (Nat.zero_le _) ⟨⟨_, Heap.get?_push_size _ rfl, rfl, rfl⟩, hl1.push _⟩ ⟨fun _ => false, ⟨_, #[], 0, _, Heap.get?_push_of_some _ hS, ⟨rfl, rfl, rfl⟩, rfl, fun e he => by simp at he, fun k => by simp, Nat.lt_of_le_of_lt (Nat.zero_le _) hb, rfl, rfl⟩, fun k h => ?_⟩ fun h' tk' _ k st => wpAny_pure (wpAny_pure ⟨_, rfl, hR h' tk' st fun b o b1 e => k b o ?_ b1 (Heap.get?_push_of_some _ e)⟩)
  · simp only [List.mem_cons, List.not_mem_nil, or_false, not_or]
    exact ⟨Nat.ne_of_lt Slt, fun z => hlS z.symm⟩
  · cases h
  · intro z
    have : b = hp.objs.size := by simpa using z
    exact absurd (Heap.lt_size e) (by rw [this]; exact Nat.lt_irrefl _)
end
end HT

set_option Elab.async false
set_option linter.all false
set_option maxRecDepth 100000
set_option maxHeartbeats 4000000
/-! set(list of texts, each once), and its len -/
namespace HT
open PySem PySem.Spec PyProof.Rows L2
section
variable {prog : Program} {w : World} {A : Around} {E : Value → Shared → Prop} {s : Shared}
theorem call_set_strs {l : Addr} {items : Array Value} {val : Nat → Str} {Q : Value → Shared → Prop}
    (hh : A.handled = none) (hl : s.heap.IsList l items) (hval : ∀ (i : Nat) v, items[i]? = some v → ∃ t, v = .str (val i) t) (hb : items.size + 1 < scanBound) (nd : ∀ i j, i < items.size → j < items.size → val i = val j → i = j)
    (h : ∀ (h' : Heap) (tk : Nat), StsAt h' prog w s.heap.objs.size val items.size → (∀ b o, s.heap.get? b = some o → h'.get? b = some o) → Q (.ref s.heap.objs.size) { s with heap := h', toks := tk }) :
    wpAny (model prog w) A (call (.type "set") [.ref l]) Q E s := by
  obtain ⟨c, tl, hmro⟩ := F.called_set.mro
  have hmade := F.called_set.made
  have hsub := F.called_set.sub
  refine wpAny_call (codeAny_of_tree ?_)
  show wpAny _ _ (callAny (.type "set") _) _ _ _
  refine wpAny_pure ⟨Code.quiet_builtin _ (by decide +kernel), codeAny_builtin F.entry_type_call ?_⟩
  rw [Around.under_plain (weight_type_call_type "set" [.ref l] []) rfl]
  have h1 := F.called_set.notType
  have h2 := F.called_set.canCreate
  have hct := F.typeCall_set_1 (.ref l)
  repeat (any_goals (first | assumption | wp_step))
  refine codeAny_mono (code_set_new_1 (.ref l) (E := E) (Q₁ := fun obj s₁ => ∃ led : Bool, obj = .ref s.heap.objs.size ∧ s₁ = { s with heap := s.heap.push { cls := .type "set", dict := none, data := .set #[] 0 (.fresh 0 0 led) } }) fun led => ⟨led, rfl, rfl⟩) fun r s₁ hr => ?_
  cases r with
  | error e => exact hr
  | ok fl =>
    cases fl with
    | ret obj =>
      obtain ⟨led, rfl, rfl⟩ := hr
      have hS : (s.heap.push { cls := .type "set", dict := none, data := .set #[] 0 (.fresh 0 0 led) }).get? s.heap.objs.size = some { cls := .type "set", dict := none, data := .set #[] 0 (.fresh 0 0 led) } := Heap.get?_push_size _ rfl
      have hT : Shared.TypeIs { s with heap := s.heap.push { cls := .type "set", dict := none, data := .set #[] 0 (.fresh 0 0 led) } } (.ref s.heap.objs.size) "set" := ⟨_, hS, rfl⟩
      have hli := F.called_set.init.lookup
      have hbi := F.called_set.init.bind (.ref s.heap.objs.size)
      repeat (any_goals (first | assumption | wp_step))
      refine codeAny_mono (codeAny_call_builtin (R := wants (fun r s₂ => r = .none ∧ ∃ h' tk, s₂ = { s with heap := h', toks := tk } ∧ StsAt h' prog w s.heap.objs.size val items.size ∧
          (∀ b o, s.heap.get? b = some o → h'.get? b = some o)) E) F.called_set.init.plain F.entry_set_init (check_set_init_1 hT ?_)) fun r₂ s₂ hr₂ => ?_
      · obtain ⟨ol, hol, r⟩ := hl
        have llt : l < s.heap.objs.size := Heap.lt_size hol
        have go := sts_init (prog := prog) (w := w) (A := A.in1.in1) (E := E) (s := { s with heap := s.heap.push { cls := .type "set", dict := none, data := .set #[] 0 (.fresh 0 0 led) } }) (val := val) (led := led) (l := l) (items := items)
          (R := fun r s₂ => r = .none ∧ ∃ h' tk, s₂ = { s with heap := h', toks := tk } ∧ StsAt h' prog w s.heap.objs.size val items.size ∧ (∀ b o, s.heap.get? b = some o → h'.get? b = some o))
          (by simp [hh]) hS ⟨ol, Heap.get?_push_of_some _ hol, r⟩ (Nat.ne_of_lt llt) hval hb nd fun h' tk st kk => ⟨rfl, h', tk, rfl, st, fun b o e => kk b o (Nat.ne_of_lt (Heap.lt_size e)) (Heap.get?_push_of_some _ e)⟩
        refine wpAny_mono go (fun fin s' hq => ?_) fun _ _ z => z
        obtain ⟨v, rfl, hq⟩ := hq
        exact hq
      · cases r₂ with
        | error e => exact hr₂
        | ok fl₂ =>
          cases fl₂ with
          | ret r =>
            obtain ⟨rfl, h', tk, rfl, hS', hk'⟩ := hr₂
            repeat (any_goals (first | assumption | wp_step))
            exact h _ _ hS' hk'
          | _ => exact hr₂.elim
    | _ => exact hr.elim
end
end HT
namespace L2
open PySem PySem.W PySem.Spec PyProof.Rows PyProof.V
section
variable {X : Cx}
/-- a set of n texts -/
def StO (P : Program) (w : World) (a : Addr) (n : Nat) : HO := .ext fun h => ∃ f : Key → Bool, h.SetOf (mixKind P w) a f n
theorem call_setS (hc : X.calm = true) : CallR X (.type "set") (fun xs H Q => ∃ (l : Addr) (hs : List Str), xs = [.ref l] ∧ H l = some (.lst (hs.map V.str)) ∧ hs.length ≤ 1000 ∧ hs.Nodup ∧ ∀ p, H p = none → Q (.ref p) (upd H p (StO X.prog X.w p hs.length))) := by
  intro pins s σ H xs us Q I r h
  obtain ⟨l, hs, rfl, hH, h9, nd, q⟩ := h
  obtain ⟨u, rfl, ru⟩ := vals1 r
  cases ru
  obtain ⟨z, its, n, rv, ho⟩ := I.hok l _ hH
  have el : its.toArray.size = hs.length := by have := rv.length; rw [List.length_map] at this; simp [← this]
  have hb : its.toArray.size + 1 < scanBound := by rw [el]; exact Nat.lt_of_le_of_lt (Nat.add_le_add_right h9 1) (by unfold scanBound; decide)
  refine HT.call_set_strs (val := fun k => hs.getD k "") (I.ok.hd hc) ⟨_, ho, rfl, n, rfl⟩ ?_ hb ?_ fun h' tk st kk => ?_
  · intro k x ex
    rw [List.getElem?_toArray] at ex
    have hk : k < hs.length := by
      rcases Nat.lt_or_ge k its.length with z | z
      · have := rv.length; rw [List.length_map] at this; omega
      · rw [List.getElem?_eq_none z] at ex; cases ex
    obtain ⟨u, hu, ru⟩ := rv.get (i := k) (x := .str hs[k]) (by rw [List.getElem?_map, List.getElem?_eq_getElem hk]; rfl)
    rw [ex] at hu
    cases hu
    obtain ⟨t, rfl⟩ := ru
    exact ⟨t, by simp [List.getD, hk]⟩
  · intro i j hi hj e
    rw [el] at hi hj
    simp only [List.getD, List.getElem?_eq_getElem hi, List.getElem?_eq_getElem hj, Option.getD_some] at e
    exact (List.getElem_inj nd).mp e
  · rw [el] at st
    obtain ⟨f, st, _⟩ := st
    refine ⟨.ref s.heap.objs.size, _, I.laid (a := s.heap.objs.size) (o := StO X.prog X.w s.heap.objs.size hs.length) (t' := tk) kk (Nat.le_refl _) ⟨⟨f, st⟩, ?_, ?_⟩, rfl, q _ (I.hok.fresh (Nat.le_refl _))⟩
    · obtain ⟨o, _, _, _, e, _⟩ := st; exact ⟨o, e⟩
    · rintro h1 h2 ⟨f, o, es, ep, t, e, r⟩ k
      exact ⟨f, o, es, ep, t, k o e, r⟩
theorem call_lenS : CallR X (.builtin "len") (fun xs H Q => ∃ (p : Addr) (n : Nat), xs = [.ref p] ∧ H p = some (StO X.prog X.w p n) ∧ n ≤ 1000 ∧ Q (.int (n : Int)) H) := by
  intro pins s σ H xs us Q I r h
  obtain ⟨p, n, rfl, hH, h9, q⟩ := h
  obtain ⟨u, rfl, ru⟩ := vals1 r
  cases ru
  obtain ⟨⟨f, o, es, ep, t, e, hx, hd, _, _, _, hf, en⟩, _⟩ := I.hok p _ hH
  refine call_len_set e hx hd hf (by rw [en]; omega) ⟨.int n, H, I.tok _, ⟨_, by rw [en]⟩, q⟩
end
end L2

set_option Elab.async false
set_option linter.all false
set_option maxRecDepth 100000
set_option maxHeartbeats 4000000
/-! x = {k: v for .. in .. for .. in ..} -/
namespace L2
open PySem PySem.Spec PyProof.Rows
abbrev dc2 (kx vx t1 i1 t2 i2 : Expr) (f1 f2 : List Expr) (scope : Scope) (pos : Pos) : Expr := .DictComp kx vx [⟨t1, i1, f1, 0⟩, ⟨t2, i2, f2, 0⟩] scope pos
theorem dcTurn_two0 (kx vx t1 i1 t2 i2 : Expr) (f1 f2 : List Expr) (scope : Scope) (pos : Pos) (it acc : Value) (env : Env) :
    compTurn (dc2 kx vx t1 i1 t2 i2 f1 f2 scope pos) 0 it acc env = (do
      standAt i1.pos
      match ← pyNext it with
      | none => pure (.done .next)
      | some v =>
        letOwnedTupleGo t1 it v
        assign t1 env v
        let mut ok := true
        for c in f1 do
          if ok then ok ← isTrue c env (eval c env)
        if ok then
          let x ← eval i2 env
          standAt i2.pos
          let x ← foldedSetIterable i2 env x
          let _ ← runOwn (.compStart (dc2 kx vx t1 i1 t2 i2 f1 f2 scope pos) 1 (← holding [x] (pyIter x)) acc env) env
        again (.compLoop (dc2 kx vx t1 i1 t2 i2 f1 f2 scope pos) 0 it acc env)) := by rfl
theorem dcTurn_two1 (kx vx t1 i1 t2 i2 : Expr) (f1 f2 : List Expr) (scope : Scope) (pos : Pos) (it : Value) (d : Addr) (env : Env) :
    compTurn (dc2 kx vx t1 i1 t2 i2 f1 f2 scope pos) 1 it (.ref d) env = (do
      standAt i2.pos
      match ← pyNext it with
      | none => pure (.done .next)
      | some v =>
        letOwnedTupleGo t2 it v
        assign t2 env v
        let mut ok := true
        for c in f2 do
          if ok then ok ← isTrue c env (eval c env)
        if ok then
          (do
            let kv ← eval kx env
            let vv ← holding [kv] (eval vx env)
            standAt { kx.pos with endLine := vx.pos.endLine, endCol := vx.pos.endCol }
            holding [kv, vv] (dictSet d kv vv))
        again (.compLoop (dc2 kx vx t1 i1 t2 i2 f1 f2 scope pos) 1 it (.ref d) env)) := by rfl
section
variable {prog : Program} {w : World} {A : Around} {R : Result → Shared → Prop} {s : Shared} {kx vx t1 i1 t2 i2 : Expr} {f1 f2 : List Expr} {scope : Scope} {pos : Pos} {it acc : Value} {env : Env} {d : Addr}
theorem dcLoop_two1 (I : Nat → Shared → Prop)
    (turn : ∀ n s, I n s → wpAny (model prog w) A (pyNext it) (fun r s1 => match r with
      | none => R (.ok .next) s1
      | some v => wpAny (model prog w) A (letOwnedTupleGo t2 it v) (fun _ s1' => wpAny (model prog w) A (assign t2 env v) (fun _ s2 => wpAny (model prog w) A (testsOf f2 env) (fun ok s3 =>
            if ok = true then wpAny (model prog w) A (eval kx env) (fun k s4 => wpAny (model prog w) A (eval vx env) (fun x s4' => wpAny (model prog w) A (dictSet d k x) (fun _ s5 => ∃ m, m < n ∧ I m s5) (fun _ _ => False) s4') (fun _ _ => False) s4) (fun _ _ => False) s3
            else ∃ m, m < n ∧ I m s3) (fun _ _ => False) s2) (fun _ _ => False) s1') (fun _ _ => False) s1) (fun _ _ => False) s)
    (n : Nat) (h : I n s) : codeAny (model prog w) A (.compLoop (dc2 kx vx t1 i1 t2 i2 f1 f2 scope pos) 1 it (.ref d) env) R s := by
  have no : ∀ {E : Value → Shared → Prop} (e : Value) (s : Shared), (fun (_ : Value) (_ : Shared) => False) e s → E e s := fun _ _ z => False.elim z
  refine codeAny_loop rfl I (fun n s hI => ?_) n h
  show wpAny _ A ((compTurn (dc2 kx vx t1 i1 t2 i2 f1 f2 scope pos) 1 it (.ref d) env).onRaise (fun x => do noteFrame x env; theTreesLotGoes x)) _ _ s
  refine wpAny_noted ?_
  rw [dcTurn_two1]
  refine wpAny_bind (wpAny_standAt (wpAny_bind (wpAny_mono (turn n s hI) (fun r s₁ h₁ => ?_) no)))
  cases r with
  | none => exact wpAny_pure h₁
  | some v =>
    refine wpAny_bind (wpAny_mono h₁ (fun _ s1' h1' => ?_) no)
    refine wpAny_bind (wpAny_mono h1' (fun _ s₂ h₂ => wpAny_bind (wpAny_mono h₂ (fun ok s₃ h₃ => ?_) no)) no)
    cases ok with
    | false => exact wpAny_pure ⟨rfl, h₃⟩
    | true =>
      exact wpAny_bind (wpAny_bind (wpAny_mono h₃ (fun k s₄ h₄ => wpAny_bind (wpAny_holding (wpAny_mono h₄ (fun x s₅ h₅ => wpAny_bind (wpAny_standAt (wpAny_holding (wpAny_mono h₅ (fun _ s₆ h₆ => wpAny_pure ⟨rfl, h₆⟩) no)))) no))) no))
theorem dcLoop_two0 (I : Nat → Shared → Prop) (hs2 : ∀ x, foldedSetIterable i2 env x = pure x)
    (turn : ∀ n s, I n s → wpAny (model prog w) A (pyNext it) (fun r s1 => match r with
      | none => R (.ok .next) s1
      | some v => wpAny (model prog w) A (letOwnedTupleGo t1 it v) (fun _ s1' => wpAny (model prog w) A (assign t1 env v) (fun _ s2 => wpAny (model prog w) A (testsOf f1 env) (fun ok s3 =>
            if ok = true then wpAny (model prog w) A (eval i2 env) (fun x s4 => wpAny (model prog w) A (pyIter x) (fun it2 s5 => codeAny (model prog w) A (.compStart (dc2 kx vx t1 i1 t2 i2 f1 f2 scope pos) 1 it2 acc env) (fun r s6 => match r with | .ok _ => ∃ m, m < n ∧ I m s6 | .error _ => False) s5) (fun _ _ => False) s4) (fun _ _ => False) s3
            else ∃ m, m < n ∧ I m s3) (fun _ _ => False) s2) (fun _ _ => False) s1') (fun _ _ => False) s1) (fun _ _ => False) s)
    (n : Nat) (h : I n s) : codeAny (model prog w) A (.compLoop (dc2 kx vx t1 i1 t2 i2 f1 f2 scope pos) 0 it acc env) R s := by
  have no : ∀ {E : Value → Shared → Prop} (e : Value) (s : Shared), (fun (_ : Value) (_ : Shared) => False) e s → E e s := fun _ _ z => False.elim z
  refine codeAny_loop rfl I (fun n s hI => ?_) n h
  show wpAny _ A ((compTurn (dc2 kx vx t1 i1 t2 i2 f1 f2 scope pos) 0 it acc env).onRaise (fun x => do noteFrame x env; theTreesLotGoes x)) _ _ s
  refine wpAny_noted ?_
  rw [dcTurn_two0]
  refine wpAny_bind (wpAny_standAt (wpAny_bind (wpAny_mono (turn n s hI) (fun r s₁ h₁ => ?_) no)))
  cases r with
  | none => exact wpAny_pure h₁
  | some v =>
    refine wpAny_bind (wpAny_mono h₁ (fun _ s1' h1' => ?_) no)
    refine wpAny_bind (wpAny_mono h1' (fun _ s₂ h₂ => wpAny_bind (wpAny_mono h₂ (fun ok s₃ h₃ => ?_) no)) no)
    cases ok with
    | false => exact wpAny_pure ⟨rfl, h₃⟩
    | true =>
      refine wpAny_bind (wpAny_mono h₃ (fun x s₄ h₄ => wpAny_bind (wpAny_standAt (wpAny_bind (wpAny_of_eq (hs2 x) (wpAny_bind (wpAny_holding (wpAny_mono h₄ (fun it2 s₅ h₅ => ?_) no))))))) no)
      refine wpAny_bind (wpAny_runOwn (codeAny_mono h₅ fun r s₆ h₆ => ?_))
      cases r with
      | error e => exact False.elim h₆
      | ok f => exact wpAny_pure ⟨rfl, h₆⟩
theorem dcStart_two1
    (h0 : codeAny (model prog w) A (.compLoop (dc2 kx vx t1 i1 t2 i2 f1 f2 scope pos) 1 it acc env) R s)
    (h : wpAny (model prog w) A (pyIter it) (fun it' s' => codeAny (model prog w) A (.compLoop (dc2 kx vx t1 i1 t2 i2 f1 f2 scope pos) 1 it' acc env) R s')
      (notedBy (model prog w) A env fun x s' => R (.error x) s') s) :
    codeAny (model prog w) A (.compStart (dc2 kx vx t1 i1 t2 i2 f1 f2 scope pos) 1 it acc env) R s := by
  refine codeAny_of_tree ?_
  show wpAny _ _ ((compStart (dc2 kx vx t1 i1 t2 i2 f1 f2 scope pos) 1 it acc env).onRaise (fun x => do noteFrame x env; standAt theWindowsPlace)) _ _ s
  refine wpAny_notedAt ?_
  unfold compStart
  show wpAny _ _ (ask >>= _) _ _ s
  refine wpAny_bind (wpAny_askSetting (wpAny_ite ?_))
  split
  · first
      | exact wpAny_bind (wpAny_pure (wpAny_pure (And.intro rfl h0)))
      | exact wpAny_pure (And.intro rfl h0)
  · refine wpAny_bind (wpAny_rule ?_)
    show wpAny _ _ (standAt i2.pos >>= _) _ _ s
    refine wpAny_bind (wpAny_standAt ?_)
    exact wpAny_bind (wpAny_mono h (fun it' s' h' => wpAny_pure (And.intro rfl h')) fun _ _ z => z)
end
/-- the inner loop, putting into the dict at l -/
def DInGo (g2 : TG) (tc2 : TT) (tk tv : TE) (l : Addr) (ys : List (Key × V)) (N : List (Key × V) → St → Hp → Prop) (J2 : It) (σ2 : St) (H5 : Hp) : Prop := ∃ W : Nat → Nat → List (Key × V) → St → Hp → Prop, (∃ m, W 0 m ys σ2 H5) ∧ ∀ i m ys σ' H', W i m ys σ' H' → H' l = some (.dK ys) →
    (J2.stop i H' ∧ N ys σ' H') ∨ (J2.go i H' ∧ ∃ N2 : List (Key × V) → St → Hp → Prop, (∀ zs σ2 H2, N2 zs σ2 H2 → ∃ m', m' < m ∧ W (i + 1) m' zs σ2 H2) ∧ ∀ x H2, J2.yld i H' x H2 → g2 x σ' H2 fun σ2 H3 => tc2 σ2 H3 fun b H4 =>
      if b = true then tk σ2 H4 fun k H5 => tv σ2 H5 fun y H6 => ∃ k', k = kV k' ∧ H6 l = some (.dK ys) ∧ ys.length < sizeLine ∧ N2 (putK ys k' y) σ2 (upd H6 l (.dK (putK ys k' y)))
      else H4 l = some (.dK ys) ∧ N2 ys σ2 H4)
def DCompGo2 (g : TG) (tc : TT) (wi2 : TI) (g2 : TG) (tc2 : TT) (tk tv : TE) (src : List (Option Nat)) (σ : St) (Q : VK) (J : It) (H1 : Hp) : Prop := ∀ l, H1 l = none →
  ∃ W : Nat → Nat → List (Key × V) → St → Hp → Prop, (∃ m, W 0 m [] (capt src σ) (upd H1 l (.dK []))) ∧ ∀ i m ys σ' H', W i m ys σ' H' → H' l = some (.dK ys) →
    (J.stop i H' ∧ Q (.ref l) H') ∨ (J.go i H' ∧ ∃ N : List (Key × V) → St → Hp → Prop, (∀ zs σ2 H2, N zs σ2 H2 → ∃ m', m' < m ∧ W (i + 1) m' zs σ2 H2) ∧ ∀ x H2, J.yld i H' x H2 → g x σ' H2 fun σ2 H3 => tc σ2 H3 fun b H4 =>
      if b = true then wi2 σ2 H4 fun J2 H5 => H5 l = some (.dK ys) ∧ DInGo g2 tc2 tk tv l ys N J2 σ2 H5
      else H4 l = some (.dK ys) ∧ N ys σ2 H4)
def tDComp2 (wi : TI) (g : TG) (tc : TT) (wi2 : TI) (g2 : TG) (tc2 : TT) (tk tv : TE) (src : List (Option Nat)) : TE := fun σ H Q => wi σ H (DCompGo2 g tc wi2 g2 tc2 tk tv src σ Q)
section
variable {X : Cx} {kx vx tg iter tg2 iter2 : Expr} {ifs ifs2 : List Expr} {scope osc : Scope} {pos : Pos} {N' : List Str} {src : List (Option Nat)} {wi wi2 : TI} {g g2 : TG} {tc tc2 : TT} {tk tv : TE} {y : Str} {py spos : Pos} {k : Nat}
theorem ps_setdcomp2 (ok : CompOk X.N osc N' src scope) (hsc : X.env.scope = osc) (hc : X.calm = true) (hi : PI X tg iter wi)
    (hg : ∀ cl C s₀ H₀ fp, PG (cxComp X N' scope cl C s₀ H₀ fp) tg g) (ht : ∀ cl C s₀ H₀ fp, PIf (cxComp X N' scope cl C s₀ H₀ fp) ifs tc)
    (hi2 : ∀ cl C s₀ H₀ fp, PI (cxComp X N' scope cl C s₀ H₀ fp) tg2 iter2 wi2) (hg2 : ∀ cl C s₀ H₀ fp, PG (cxComp X N' scope cl C s₀ H₀ fp) tg2 g2) (ht2 : ∀ cl C s₀ H₀ fp, PIf (cxComp X N' scope cl C s₀ H₀ fp) ifs2 tc2)
    (hk2 : ∀ cl C s₀ H₀ fp, PE (cxComp X N' scope cl C s₀ H₀ fp) kx tk) (hv2 : ∀ cl C s₀ H₀ fp, PE (cxComp X N' scope cl C s₀ H₀ fp) vx tv)
    (hN : X.N.Nodup) (hk : X.N[k]? = some y) (hx : X.env.scope.names.lookup y = some .local) (hsw : swapsWith (dc2 kx vx tg iter tg2 iter2 ifs ifs2 scope pos) (some (.Name y py)) spos.line X.env = pure true) (hxe : ∀ cl C s₀ H₀ fp e s, (cxComp X N' scope cl C s₀ H₀ fp).xe e s → False)
    (hs : ∀ x, foldedSetIterable iter X.env x = pure x := by intro _; rfl) (hs2 : ∀ env x, foldedSetIterable iter2 env x = pure x := by intro _ _; rfl) : PS X (.Assign [.Name y py] (dc2 kx vx tg iter tg2 iter2 ifs ifs2 scope pos) spos) (tAsg (tDComp2 wi g tc wi2 g2 tc2 tk tv src) (gName k)) := by
  intro pins s σ H D I h
  obtain ⟨cl, hcl, c1, c2⟩ := closure_of (scope := scope) (env := X.env) fun y hy hyf => I.ok.has y.1 (by
    have z := ok.frees y hy hyf
    rw [← hsc] at z
    exact z)
  rw [exec_Assign_Name_used _ _ _ _ hsw]
  refine wpAny_bind (wpAny_standAt (wpAny_bind ?_))
  show wpAny _ X.A (do let _ ← comprehension (dc2 kx vx tg iter tg2 iter2 ifs ifs2 scope pos) scope X.env _ newDict false (eval iter X.env) (some (assign (.Name y py) X.env))) _ _ s
  refine wpAny_bind (wpAny_mono (wpAny_comprehension_free (use := some (assign (.Name y py) X.env)) (Q := fun _ s' => ∃ σ' H', Inv X pins σ' H' s' ∧ D.nx σ' H') rfl hs hcl ok.kind ok.loc
    (thn (hi pins s σ H _ I h) fun v s1 h1 => thn h1 fun itv s2 h2 => ?_)) (fun _ s' hq => wpAny_pure (wpAny_pure hq)) fun _ _ e => e)
  obtain ⟨it, fp, tn, J, H2, e, I2, T, st2, f2, q2⟩ := h2
  subst e
  have hlt2 : ∀ b ∈ fp, b < s2.heap.objs.size := fun b hb => by
    obtain ⟨o, e, _⟩ := T.obj _ _ st2 b hb
    exact Heap.lt_size e
  refine wpAny_newObj_type ?_
  have hl : H2 s2.heap.objs.size = none := I2.hok.fresh (Nat.le_refl _)
  have I3 : Inv X pins σ (upd H2 s2.heap.objs.size (.dK [])) { s2 with heap := s2.heap.push { cls := .type "dict", data := .dict #[] } } :=
    I2.laid (t' := s2.toks) (fun b u e => Heap.get?_push_of_some _ e) (Nat.le_refl _) (dk_empty s2.heap I2.big)
  obtain ⟨W, ⟨m0, w0⟩, turn⟩ := q2 _ hl
  generalize hl2 : s2.heap.objs.size = l at *
  generalize hs3 : ({ s2 with heap := s2.heap.push { cls := .type "dict", data := .dict #[] } } : Shared) = s3 at *
  have f3 : ∀ b ∈ fp, FpOk X pins (upd H2 l (.dK [])) b := fun b hb => ⟨by rw [upd_ne (Nat.ne_of_lt (hlt2 b hb))]; exact (f2 b hb).1, (f2 b hb).2⟩
  have k3 : ∀ b o, s2.heap.get? b = some o → s3.heap.get? b = some o := fun b o e => by rw [← hs3]; exact Heap.get?_push_of_some _ e
  have hlt3 : ∀ b ∈ fp, b < s3.heap.objs.size := fun b hb => by
    obtain ⟨o, e, _⟩ := T.obj _ _ st2 b hb
    exact Heap.lt_size (k3 b o e)
  refine wpAny_newFunctionEnv ok.nocell (by intro y hy; simp at hy) (fun h₁ hns₁ hsb₁ => ?_) ok.kind
  have k4 : ∀ b o, s3.heap.get? b = some o → h₁.get? b = some o := fun b o e => (hsb₁.2 b (Nat.ne_of_lt (Heap.lt_size e))).trans (Heap.get?_push_of_some _ e)
  have J0 := comp_enter (tk := s3.toks + ([] : List (Str × Value)).length) I3 f3 hlt3 ok hsc c1 c2 hns₁ k4
  have st4 : tn 0 h₁ := T.keep _ _ _ st2 fun b hb o e => k4 b o (k3 b o e)
  generalize hC : s3.heap.objs.size = C at *
  have stat : ∀ {H' : Hp}, (∀ b ∈ fp, H' b = none) → ∀ b ∈ fp, FpOk (cxComp X N' scope cl C s3 (upd H2 l (.dK [])) fp) [] H' b := fun {H'} hn b hb =>
    ⟨hn b hb, (J0.ok.exf b hb).1, J0.ok.exfs b hb, .inl hb, (J0.ok.exf b hb).2, fun p hp => absurd (show p ∈ ([] : List (Addr × Obj)) from hp) (by simp)⟩
  have no : ∀ {α : Type} {t : Sem α} {Q' : α → Shared → Prop} {s' : Shared}, wpAny (model X.prog X.w) X.A t Q' (cxComp X N' scope cl C s3 (upd H2 l (.dK [])) fp).xe s' → wpAny (model X.prog X.w) X.A t Q' (fun _ _ => False) s' := fun z => wpAny_mono z (fun _ _ q => q) fun e s q => hxe _ _ _ _ _ e s q
  have loop : codeAny (model X.prog X.w) X.A (.compLoop (dc2 kx vx tg iter tg2 iter2 ifs ifs2 scope pos) 0 (.ref it) (.ref l) (compEnvC scope cl C X.env))
      (compPost (model X.prog X.w) X.A X.xe (some (assign (.Name y py) X.env)) (fun _ s' => ∃ σ' H', Inv X pins σ' H' s' ∧ D.nx σ' H') (.ref l) C) { s3 with heap := h₁, toks := s3.toks + ([] : List (Str × Value)).length } := by
    refine dcLoop_two0 (fun n s' => ∃ i ys σ' H', Inv (cxComp X N' scope cl C s3 (upd H2 l (.dK [])) fp) [] σ' H' s' ∧ tn i s'.heap ∧ (∀ b ∈ fp, H' b = none) ∧ H' l = some (.dK ys) ∧ W i n ys σ' H') (hs2 _) ?_ m0
      ⟨0, [], _, _, J0, st4, fun b hb => (f3 b hb).1, upd_same, w0⟩
    rintro n s5 ⟨i, ys, σ5, H5, I5, st5, fr5, hl5, w5⟩
    rcases turn i n ys σ5 H5 w5 hl5 with ⟨stop, qn⟩ | ⟨go, N, hN, step⟩
    · refine thn (T.done (cxComp X N' scope cl C s3 (upd H2 l (.dK [])) fp) rfl rfl rfl hc i [] s5 σ5 H5 (fun _ _ => False) I5 (stat fr5) st5 stop) fun r s6 ⟨hr, I6⟩ => ?_
      subst hr
      obtain ⟨m, hn, _⟩ := I6.loc
      have hCs : s3.heap.objs.size ≤ C := by rw [← hC]; exact Nat.le_refl _
      have I7 : Inv X pins σ H5 s6 := comp_leave (h' := s6.heap) I3 f3 hCs I6 ⟨rfl, fun _ _ => rfl⟩
      have fC : FpOk X pins H5 C := I3.fpOk hCs I6.free
      obtain ⟨oC, eC, dC⟩ : ∃ o, s6.heap.get? C = some o ∧ ∀ v, o.data ≠ .cell v := by
        obtain ⟨o, e, d⟩ := ns_obj hn
        exact ⟨o, e, d⟩
      have I8 := I7.pinned (fp := [C]) (fun b hb => by rw [List.mem_singleton.mp hb]; exact fC) (fun b hb => by rw [List.mem_singleton.mp hb]; exact ⟨oC, eC, dC⟩)
      refine wpAny_assign_Name (store_ok (v := .ref l) I8 hN hk (.inl hx) rfl (fun s9 I9 => ?_) (.inr hx))
      have p9 := (I9.pin (C, oC) (List.mem_append_right _ (List.mem_append_right _ (mem_pinsAt (List.mem_singleton.mpr rfl) eC)))).1
      refine ⟨m, ns_move hn eC p9, fun h' hsb => ⟨_, H5, ?_, qn⟩⟩
      obtain ⟨f0, f1, f2, f3', f4, f5⟩ := fC
      exact I9.unpinned.turned (t' := s9.toks) (fun b o hb e => (hsb.2 b hb).trans e) f0 f1 f3' f4 f5
    · refine thn (T.item (cxComp X N' scope cl C s3 (upd H2 l (.dK [])) fp) rfl rfl rfl hc i [] s5 σ5 H5 (fun _ _ => False) I5 (stat fr5) st5 go) fun r s6 ⟨u, hr, h6⟩ => ?_
      subst hr
      refine thn h6 fun _ s7 ⟨x, H7, I7, r7, y7, st7, fr7⟩ => ?_
      have I7' := I7.pinned (stat fr7) (T.obj _ _ st7)
      refine thn (hg cl C s3 _ fp _ s7 σ5 H7 x u _ I7' r7 (step x H7 y7)) fun _ s8 ⟨σ8, H8, I8, q8⟩ => ?_
      refine thn (ht cl C s3 _ fp _ s8 σ8 H8 _ I8 q8) fun b s9 ⟨H9, I9, q9⟩ => ?_
      have back : ∀ {s' : Shared} {H' : Hp} {σ' : St}, Inv (cxComp X N' scope cl C s3 (upd H2 l (.dK [])) fp) ([] ++ pinsAt fp s7.heap) σ' H' s' → tn (i + 1) s'.heap ∧ ∀ b ∈ fp, H' b = none := fun {s' H' σ'} I' => by
        refine ⟨T.keep _ _ _ st7 fun b hb o e => (I'.pin (b, o) (List.mem_append_right _ (List.mem_append_right _ (mem_pinsAt hb e)))).1, fun b hb => ?_⟩
        obtain ⟨o, e, d⟩ := T.obj _ _ st7 b hb
        exact (I'.pin (b, o) (List.mem_append_right _ (List.mem_append_right _ (mem_pinsAt hb e)))).2.1
      cases b with
      | false =>
        obtain ⟨hl9, n9⟩ := q9
        obtain ⟨m', hm, w9⟩ := hN _ _ _ n9
        obtain ⟨t9, fr9⟩ := back I9
        exact ⟨m', hm, i + 1, ys, σ8, H9, I9.unpinned, t9, fr9, hl9, w9⟩
      | true =>
        refine thn (no (hi2 cl C s3 _ fp _ s9 σ8 H9 _ I9 q9)) fun xv s10 h10 => thn (no h10) fun itv2 s11 h11 => ?_
        obtain ⟨it2, fp2, tn2, J2, H11, e2, I11, T2, st11, ff2, hl11, W2, ⟨m2, w2⟩, turn2⟩ := h11
        subst e2
        have stat2 : ∀ {H' : Hp}, (∀ b ∈ fp2, H' b = none) → ∀ b ∈ fp2, FpOk (cxComp X N' scope cl C s3 (upd H2 l (.dK [])) fp) ([] ++ pinsAt fp s7.heap) H' b := fun {H'} hn b hb => ⟨hn b hb, (ff2 b hb).2⟩
        have inner : codeAny (model X.prog X.w) X.A (.compLoop (dc2 kx vx tg iter tg2 iter2 ifs ifs2 scope pos) 1 (.ref it2) (.ref l) (compEnvC scope cl C X.env)) (fun r s6 => match r with | .ok _ => ∃ m, m < n ∧ ∃ i ys σ' H', Inv (cxComp X N' scope cl C s3 (upd H2 l (.dK [])) fp) [] σ' H' s6 ∧ tn i s6.heap ∧ (∀ b ∈ fp, H' b = none) ∧ H' l = some (.dK ys) ∧ W i m ys σ' H' | .error _ => False) s11 := by
          refine dcLoop_two1 (fun n s' => ∃ j ys σ' H', Inv (cxComp X N' scope cl C s3 (upd H2 l (.dK [])) fp) ([] ++ pinsAt fp s7.heap) σ' H' s' ∧ tn2 j s'.heap ∧ (∀ b ∈ fp2, H' b = none) ∧ H' l = some (.dK ys) ∧ W2 j n ys σ' H') ?_ m2
            ⟨0, ys, _, _, I11, st11, fun b hb => (ff2 b hb).1, hl11, w2⟩
          rintro n2 s12 ⟨j, zs, σ12, H12, I12, st12, fr12, hl12, w12⟩
          rcases turn2 j n2 zs σ12 H12 w12 hl12 with ⟨stop, qn⟩ | ⟨go, N2, hN2, step2⟩
          · refine thn (T2.done (cxComp X N' scope cl C s3 (upd H2 l (.dK [])) fp) rfl rfl rfl hc j _ s12 σ12 H12 (fun _ _ => False) I12 (stat2 fr12) st12 stop) fun r s13 ⟨hr, I13⟩ => ?_
            subst hr
            obtain ⟨m', hm, w13⟩ := hN _ _ _ qn
            obtain ⟨t13, fr13⟩ := back I13
            exact ⟨m', hm, i + 1, zs, σ12, H12, I13.unpinned, t13, fr13, hl12, w13⟩
          · refine thn (T2.item (cxComp X N' scope cl C s3 (upd H2 l (.dK [])) fp) rfl rfl rfl hc j _ s12 σ12 H12 (fun _ _ => False) I12 (stat2 fr12) st12 go) fun r s13 ⟨u2, hr, h13⟩ => ?_
            subst hr
            refine thn h13 fun _ s14 ⟨x2, H14, I14, r14, y14, st14, fr14⟩ => ?_
            have I14' := I14.pinned (stat2 fr14) (T2.obj _ _ st14)
            refine thn (hg2 cl C s3 _ fp _ s14 σ12 H14 x2 u2 _ I14' r14 (step2 x2 H14 y14)) fun _ s15 ⟨σ15, H15, I15, q15⟩ => ?_
            refine thn (ht2 cl C s3 _ fp _ s15 σ15 H15 _ I15 q15) fun b s16 ⟨H16, I16, q16⟩ => ?_
            have back2 : ∀ {s' : Shared} {H' : Hp} {σ' : St}, Inv (cxComp X N' scope cl C s3 (upd H2 l (.dK [])) fp) (([] ++ pinsAt fp s7.heap) ++ pinsAt fp2 s14.heap) σ' H' s' → tn2 (j + 1) s'.heap ∧ ∀ b ∈ fp2, H' b = none := fun {s' H' σ'} I' => by
              refine ⟨T2.keep _ _ _ st14 fun b hb o e => (I'.pin (b, o) (List.mem_append_right _ (List.mem_append_right _ (mem_pinsAt hb e)))).1, fun b hb => ?_⟩
              obtain ⟨o, e, d⟩ := T2.obj _ _ st14 b hb
              exact (I'.pin (b, o) (List.mem_append_right _ (List.mem_append_right _ (mem_pinsAt hb e)))).2.1
            cases b with
            | false =>
              obtain ⟨hl16, n16⟩ := q16
              obtain ⟨m', hm, w16⟩ := hN2 _ _ _ n16
              obtain ⟨t16, fr16⟩ := back2 I16
              exact ⟨m', hm, j + 1, zs, σ15, H16, I16.unpinned, t16, fr16, hl16, w16⟩
            | true =>
              refine thn (hk2 cl C s3 _ fp _ s16 σ15 H16 _ I16 q16) fun kv2 s17 ⟨k', H17, I17, rk17, q17⟩ => thn (hv2 cl C s3 _ fp _ s17 σ15 H17 _ I17 q17) fun xv2 s18 ⟨y', H18, I18, r18, k'', ek, hl18, hz, n18⟩ => ?_
              subst ek
              obtain ⟨m', hm, w18⟩ := hN2 _ _ _ n18
              obtain ⟨z, hd, vs, rel, dd⟩ := dk_of I18.hok hl18
              have hz2 : vs.length ≤ sizeLine := by rw [← rel.length]; exact z
              have hl2' : (putK zs k'' y').length ≤ sizeLine := by have := length_putK zs k'' y'; omega
              refine wpAny_dictSet_pairs (kV_is rk17) dd (fun h' dd' hs => ?_) hz2
              have he : ∃ q, h'.get? l = some q := let ⟨q, _, _, hq, _⟩ := dd'; ⟨q, hq⟩
              have I19 := d_write (t' := s18.toks + 1) I18 (by rw [hl18]; exact True.intro) hs he (dk_new hl2' hd (rel.put k'' r18) dd')
              obtain ⟨t18, fr18⟩ := back2 I19
              exact ⟨m', hm, j + 1, putK zs k'' y', σ15, _, I19.unpinned, t18, fr18, upd_same, w18⟩
        exact dcStart_two1 inner (T2.self _ 0 _ _ _ st11 inner)
  exact codeAny_compStart_dict loop (T.self _ 0 _ _ _ st4 loop)

theorem s_setdcomp2 (k : Nat) (ok : CompOk X.N osc N' src scope) (hsc : X.env.scope = osc) (hc : X.calm = true) (hN : X.N.Nodup) (hi : QI X tg iter wi)
    (hg : ∀ cl C s₀ H₀ fp, QG (cxComp X N' scope cl C s₀ H₀ fp) tg g) (ht : ∀ cl C s₀ H₀ fp, QF (cxComp X N' scope cl C s₀ H₀ fp) ifs tc)
    (hi2 : ∀ cl C s₀ H₀ fp, QI (cxComp X N' scope cl C s₀ H₀ fp) tg2 iter2 wi2) (hg2 : ∀ cl C s₀ H₀ fp, QG (cxComp X N' scope cl C s₀ H₀ fp) tg2 g2) (ht2 : ∀ cl C s₀ H₀ fp, QF (cxComp X N' scope cl C s₀ H₀ fp) ifs2 tc2)
    (hk2 : ∀ cl C s₀ H₀ fp, QE (cxComp X N' scope cl C s₀ H₀ fp) kx tk) (hv2 : ∀ cl C s₀ H₀ fp, QE (cxComp X N' scope cl C s₀ H₀ fp) vx tv)
    (hk : X.N[k]? = some y := by rfl) (hx : X.env.scope.names.lookup y = some .local := by rfl) (hsw : swapsWith (.DictComp kx vx [⟨tg, iter, ifs, 0⟩, ⟨tg2, iter2, ifs2, 0⟩] scope pos) (some (.Name y py)) spos.line X.env = pure true := by rfl) (hxe : ∀ cl C s₀ H₀ fp e s, (cxComp X N' scope cl C s₀ H₀ fp).xe e s → False := by exact fun _ _ _ _ _ _ _ z => z)
    (hs : ∀ x, foldedSetIterable iter X.env x = pure x := by intro _; rfl) (hs2 : ∀ env x, foldedSetIterable iter2 env x = pure x := by intro _ _; rfl) : QS X (.Assign [.Name y py] (.DictComp kx vx [⟨tg, iter, ifs, 0⟩, ⟨tg2, iter2, ifs2, 0⟩] scope pos) spos) (tAsg (tDComp2 wi g tc wi2 g2 tc2 tk tv src) (gName k)) :=
  ⟨ps_setdcomp2 ok hsc hc hi.o (fun cl C s₀ H₀ fp => (hg cl C s₀ H₀ fp).o) (fun cl C s₀ H₀ fp => (ht cl C s₀ H₀ fp).o) (fun cl C s₀ H₀ fp => (hi2 cl C s₀ H₀ fp).o) (fun cl C s₀ H₀ fp => (hg2 cl C s₀ H₀ fp).o) (fun cl C s₀ H₀ fp => (ht2 cl C s₀ H₀ fp).o) (fun cl C s₀ H₀ fp => (hk2 cl C s₀ H₀ fp).o) (fun cl C s₀ H₀ fp => (hv2 cl C s₀ H₀ fp).o) hN hk hx hsw hxe hs hs2⟩
end
end L2

set_option Elab.async false
set_option linter.all false
set_option maxRecDepth 100000
set_option maxHeartbeats 4000000
/-! a dict keyed by ints and texts, walked while it is frozen -/
namespace L2
open PySem PySem.Spec PyProof.Rows
section
variable {X : Cx} {pos : Pos} {pins : List (Addr × Obj)} {σ : St} {H : Hp} {s : Shared}
theorem Inv.frzK {d : Addr} {kvs : List (Key × V)} {o : Obj} (I : Inv X pins σ H s) (e : H d = some (.dK kvs)) (g : s.heap.get? d = some o) : Inv X pins σ (upd H d (.frz o (.dK kvs))) s where
  ok := I.ok
  os := I.os
  bare := I.bare
  base := {
    keep := I.base.keep
    slot := I.base.slot
    free := fun b o h1 h2 h3 => by
      have := I.base.free b o h1 h2 h3
      rw [upd_ne fun z => by rw [z, e] at this; cases this]; exact this
    there := I.base.there
    tups := fun b xs h => by
      have := I.base.tups b xs h
      rw [upd_ne fun z => by rw [z, e] at this; cases this]; exact this
    frzs := fun b o u h => by
      have := I.base.frzs b o u h
      rw [upd_ne fun z => by rw [z, e] at this; cases this]; exact this
    tbls := fun b ps h => by
      obtain ⟨more, this⟩ := I.base.tbls b ps h
      exact ⟨more, by rw [upd_ne fun z => by rw [z, e] at this; cases this]; exact this⟩ }
  loc := I.loc
  cell := I.cell
  free := by
    have := I.free
    rw [upd_ne fun z => by rw [z, e] at this; cases this]; exact this
  freeC := fun x c h => by
    have := I.freeC x c h
    rw [upd_ne fun z => by rw [z, e] at this; cases this]; exact this
  pin := fun p hp => by
    obtain ⟨h1, h2, h3⟩ := I.pin p hp
    exact ⟨h1, by rw [upd_ne fun z => by rw [z, e] at h2; cases h2]; exact h2, h3⟩
  hok := fun a o' h => by
    have st : ∀ {u : HO}, ObjOk X.prog X.w H s.heap a u → ObjOk X.prog X.w (upd H d (.frz o (.dK kvs))) s.heap a u := fun x => x.stay (fun _ _ _ q => q) (fun b q => by rw [upd_ne fun z => by rw [z, e] at q; cases q]; exact q) (fun b xs q => by rw [upd_ne fun z => by rw [z, e] at q; cases q]; exact q)
    by_cases z : a = d
    · subst z
      rw [upd_same] at h
      cases h
      exact ⟨g, st (I.hok a _ e)⟩
    · rw [upd_ne z] at h
      exact st (I.hok a _ h)
  len := I.len
def iDictK (tl : TE) : TI := fun σ H R => tl σ H fun x H1 => ∃ d kvs, x = .ref d ∧ H1 d = some (.dK kvs) ∧ ∀ (o : Obj), (kvs.map (·.1)).Nodup → R (Itd d o (.dK kvs) (kvs.map fun kv => kV kv.1)) (upd H1 d (.frz o (.dK kvs)))
theorem i_dictK {tg l : Expr} {tl : TE} (hl : QE X l tl) : QI X tg l (iDictK tl) := ⟨by
  intro pins s σ H R I h
  refine thn (hl.o pins s σ H _ I h) fun v s1 ⟨x, H1, I1, r1, q1⟩ => ?_
  obtain ⟨d, kvs, rfl, e, q⟩ := q1
  cases r1
  obtain ⟨hz, nsys, vs, rel, o, es, ep, g, ex, dat, ko, pr, nd⟩ := dk_of I1.hok e
  have raw : RawD s1.heap d (es.toList.map (·.key)) ep := ⟨o, es, g, ex, dat, rfl⟩
  have vk : Vals (kvs.map fun kv => kV kv.1) (es.toList.map (·.key)) := by
    have h1 := pairs_keys pr
    have h2 : kvs.map (fun kv => kV kv.1) = vs.map fun kv => kV kv.1 := by
      have := kv_keys rel
      have := congrArg (List.map kV) this
      rw [List.map_map, List.map_map] at this
      exact this
    rw [h2]; exact h1
  have nd' : (kvs.map (·.1)).Nodup := by rw [kv_keys rel]; exact nd
  have dlt : d < s1.heap.objs.size := Heap.lt_size g
  refine raw_iter nsys raw ?_
  refine ⟨s1.heap.objs.size, [s1.heap.objs.size], _, _, upd H1 d (.frz o (.dK kvs)), rfl, (I1.frzK e g).kept (t' := s1.toks) fun b o e => Heap.get?_push_of_some _ e, turn_dT d _ (Nat.ne_of_lt dlt) o (.dK kvs) (kvs.map fun kv => kV kv.1) (es.toList.map (·.key)) ep es ex dat rfl (fun i v hv => vk.get hv) vk.length, ⟨Nat.zero_le _, ⟨_, Heap.get?_push_size _ rfl, rfl, rfl⟩⟩, fun b hb => ?_, q o nd'⟩
  have : b = s1.heap.objs.size := by simpa using hb
  subst this
  refine I1.fpOk (Nat.le_refl _) ?_
  rw [upd_ne (Nat.ne_of_gt dlt)]
  exact I1.hok.fresh (Nat.le_refl _)⟩
theorem op_inK (hu : X.A.units + 1 < cLine) : OpR X (compareOp .In) (fun y x H Q => ∃ a o, x = .ref a ∧ DGet H a y o ∧ Q (.bl o.isSome) H) := by
  intro pins s σ H y x u v Q I ry rx h
  obtain ⟨a, o, rfl, g, q⟩ := h
  cases rx
  exact d_in hu I g ry fun s' I' => ⟨.bl o.isSome, H, I', rfl, q⟩
theorem op_niK (hu : X.A.units + 1 < cLine) : OpR X (compareOp .NotIn) (fun y x H Q => ∃ a o, x = .ref a ∧ DGet H a y o ∧ Q (.bl (!o.isSome)) H) := by
  intro pins s σ H y x u v Q I ry rx h
  obtain ⟨a, o, rfl, g, q⟩ := h
  cases rx
  exact d_notIn hu I g ry fun s' I' => ⟨.bl (!o.isSome), H, I', rfl, q⟩
theorem bt_set : bootBuiltins "set" = some (.type "set") := by kernel_rfl
end
end L2

set_option Elab.async false
set_option linter.all false
set_option maxRecDepth 100000
set_option maxHeartbeats 4000000
/-! rings of elders: the mathematics -/
namespace RW
open PySem PySem.Spec PyProof.Rows L2
/-- the elders of b -/
def Gof (rs : List (List Str)) (b : Str) : List Str := rs.filterMap fun r => if at_ r 1 = b ∧ at_ r 2 = ("over" : Str) then some (at_ r 0) else none
theorem mem_Gof {rs : List (List Str)} (h : ∀ r ∈ rs, rowL r = true) {a b : Str} : a ∈ Gof rs b ↔ [a, b, "over"] ∈ rs := by
  unfold Gof
  rw [List.mem_filterMap]
  constructor
  · rintro ⟨r, hr, e⟩
    obtain ⟨x, y, w, rfl, _⟩ := rowL_form (h r hr)
    have e' : (if y = b ∧ w = ("over" : Str) then some x else none) = some a := e
    clear e
    by_cases c : y = b ∧ w = ("over" : Str)
    · rw [if_pos c] at e'
      obtain ⟨rfl, rfl⟩ := c
      cases e'
      exact hr
    · rw [if_neg c] at e'; cases e'
  · intro hr
    exact ⟨_, hr, by simp [at_, List.getD]⟩
theorem Gof_len {rs : List (List Str)} {b : Str} : (Gof rs b).length ≤ rs.length := List.length_filterMap_le _ _
/-- nothing in which each has an elder -/
def Acyc (rs : List (List Str)) : Prop := ∀ W : Str → Prop, (∀ b, W b → ∃ a, [a, b, "over"] ∈ rs ∧ W a) → ∀ b, ¬ W b
structure RingG (G : Str → List Str) (xs : List Str) : Prop where
  two : 2 ≤ xs.length
  ends : xs[0]? = xs[xs.length - 1]?
  nd : (xs.drop 1).Nodup
  nxt : ∀ i a b, xs[i]? = some a → xs[i + 1]? = some b → a ∈ G b
theorem RingG.not_acyc {rs : List (List Str)} (h : ∀ r ∈ rs, rowL r = true) {xs : List Str} (R : RingG (Gof rs) xs) : ¬ Acyc rs := by
  intro A
  have h2 := R.two
  have key : ∀ b, b ∈ xs → ∃ a, [a, b, "over"] ∈ rs ∧ a ∈ xs := by
    intro b hb
    obtain ⟨i, hi, rfl⟩ := List.getElem_of_mem hb
    have st : ∀ j, (hj : j + 1 < xs.length) → ∃ a, [a, xs[j + 1], "over"] ∈ rs ∧ a ∈ xs := fun j hj =>
      ⟨xs[j], (mem_Gof h).mp (R.nxt j _ _ (List.getElem?_eq_getElem (by omega)) (List.getElem?_eq_getElem hj)), List.getElem_mem _⟩
    cases i with
    | zero =>
      have e := R.ends
      rw [List.getElem?_eq_getElem hi, List.getElem?_eq_getElem (by omega)] at e
      have := st (xs.length - 2) (by omega)
      simp only [show xs.length - 2 + 1 = xs.length - 1 by omega] at this
      rw [Option.some.inj e]
      exact this
    | succ j => exact st j hi
  exact A (· ∈ xs) key xs[0] (List.getElem_mem (by omega))
theorem RingG.four {rs : List (List Str)} (h : ∀ r ∈ rs, rowL r = true) (nd : (rs.map tieL).Nodup) {xs : List Str} (R : RingG (Gof rs) xs) : 4 ≤ xs.length := by
  have h2 := R.two
  have ne : ∀ a b : Str, [a, b, "over"] ∈ rs → a ≠ b := fun a b hm => by
    obtain ⟨x, y, w, e, _, _, hne, _⟩ := rowL_form (h _ hm)
    cases e; exact hne
  rcases Nat.lt_or_ge xs.length 4 with hl | hl
  · exfalso
    have e := R.ends
    rcases Nat.lt_or_ge xs.length 3 with h3 | h3
    · have el : xs.length = 2 := by omega
      rw [el] at e
      have := (mem_Gof h).mp (R.nxt 0 xs[0] xs[1] (List.getElem?_eq_getElem _) (List.getElem?_eq_getElem _))
      have e : some xs[0] = some xs[1] := by rw [List.getElem?_eq_getElem (by omega), List.getElem?_eq_getElem (by omega)] at e; exact e
      exact ne _ _ this (Option.some.inj e)
    · have el : xs.length = 3 := by omega
      rw [el] at e
      have m1 := (mem_Gof h).mp (R.nxt 0 xs[0] xs[1] (List.getElem?_eq_getElem _) (List.getElem?_eq_getElem _))
      have m2 := (mem_Gof h).mp (R.nxt 1 xs[1] xs[2] (List.getElem?_eq_getElem _) (List.getElem?_eq_getElem _))
      have e : some xs[0] = some xs[2] := by rw [List.getElem?_eq_getElem (by omega), List.getElem?_eq_getElem (by omega)] at e; exact e
      have e := Option.some.inj e
      rw [← e] at m2
      have tie : tieL [xs[0], xs[1], "over"] = tieL [xs[1], xs[0], "over"] := pr_comm
      obtain ⟨i, hi, ei⟩ := List.getElem_of_mem m1
      obtain ⟨j, hj, ej⟩ := List.getElem_of_mem m2
      have hij : i = j := by
        have := (List.getElem_inj (i := i) (j := j) (h₀ := by rw [List.length_map]; exact hi) (h₁ := by rw [List.length_map]; exact hj) nd).mp (by rw [List.getElem_map, List.getElem_map, ei, ej]; exact tie)
        exact this
      subst hij
      rw [ei] at ej
      injection ej with e1 _
      exact ne _ _ m1 e1
  · exact hl
/-- a dict of lists of texts -/
structure Led (H : Hp) (kvs : List (Key × V)) (ks : List Str) (G : Str → List Str) : Prop where
  keys : kvs.map (·.1) = ks.map Sum.inr
  nd : ks.Nodup
  at_ : ∀ x ∈ ks, ∃ l, valV kvs (Sum.inr x) = some (.ref l) ∧ H l = some (.lst ((G x).map V.str))
  sub : ∀ x ∈ ks, ∀ y ∈ G x, y ∈ ks
  short : ∀ x ∈ ks, x.length ≤ 1000
  few : ks.length ≤ 60 ∧ ∀ x ∈ ks, (G x).length ≤ 60
theorem Led.mono {H H' : Hp} {kvs : List (Key × V)} {ks : List Str} {G : Str → List Str} (L : Led H kvs ks G) (h : ∀ l xs, H l = some (.lst xs) → H' l = some (.lst xs)) : Led H' kvs ks G :=
  ⟨L.keys, L.nd, fun x hx => let ⟨l, e, e2⟩ := L.at_ x hx; ⟨l, e, h _ _ e2⟩, L.sub, L.short, L.few⟩
theorem Led.same {H H' : Hp} {kvs : List (Key × V)} {ks : List Str} {G : Str → List Str} (L : Led H kvs ks G) (s : Same H H') : Led H' kvs ks G := L.mono fun _ _ e => s _ _ e
def tol (tk : List (Key × V)) (x : Str) : Bool := (valV tk (Sum.inr x)).isSome
structure Tld63 (tk : List (Key × V)) (ks : List Str) (G : Str → List Str) : Prop where
  opn : ∀ x ∈ ks, tol tk x = false → ∃ y ∈ G x, tol tk y = false
  sure : ∀ W : Str → Prop, (∀ b, W b → ∃ a ∈ G b, W a) → ∀ b, W b → tol tk b = false
theorem tol_put {tk : List (Key × V)} {x y : Str} {v : V} : tol (putK tk (Sum.inr x) v) y = (decide (y = x) || tol tk y) := by
  unfold tol
  rw [valV_put]
  by_cases e : y = x
  · subst e; simp
  · have : ¬ (Sum.inr y : Key) = Sum.inr x := fun z => e (Sum.inr.inj z)
    rw [if_neg this, decide_eq_false e, Bool.false_or]
theorem tol_nil {x : Str} : tol [] x = false := rfl
/-- all told: nothing in which each has an elder -/
theorem acyc_of {rs : List (List Str)} {tk : List (Key × V)} {ks : List Str} (h : ∀ r ∈ rs, rowL r = true) (T : Tld63 tk ks (Gof rs)) (hk : ∀ a b : Str, [a, b, "over"] ∈ rs → b ∈ ks) (all : ∀ x ∈ ks, tol tk x = true) : Acyc rs := by
  intro W hW b hb
  have u := T.sure W (fun b hb => let ⟨a, m, wa⟩ := hW b hb; ⟨a, (mem_Gof h).mpr m, wa⟩) b hb
  obtain ⟨a, m, _⟩ := hW b hb
  rw [all b (hk a b m)] at u
  cases u
/-- a row gone on and on, come round -/
theorem ring_of {G : Str → List Str} {row : List Str} {x : Str} {j : Nat} (nd : row.Nodup) (ch : ∀ i a b, row[i]? = some a → row[i + 1]? = some b → b ∈ G a) (hx : ∀ a, row[row.length - 1]? = some a → x ∈ G a) (hj : row[j]? = some x) : RingG G (row.drop j ++ [x]).reverse := by
  have jl : j < row.length := (List.getElem?_eq_some_iff.mp hj).1
  have fl : (row.drop j ++ [x]).length = row.length - j + 1 := by rw [List.length_append, List.length_drop, List.length_singleton]
  have er : (row.drop j ++ [x]).reverse = x :: (row.drop j).reverse := by rw [List.reverse_append]; rfl
  have g0 : ∀ i, i < row.length - j → (row.drop j ++ [x])[i]? = row[j + i]? := fun i hi => by rw [List.getElem?_append_left (by rw [List.length_drop]; exact hi), List.getElem?_drop]
  have g1 : (row.drop j ++ [x])[row.length - j]? = some x := by rw [List.getElem?_append_right (by rw [List.length_drop]; exact Nat.le_refl _), List.length_drop, Nat.sub_self]; rfl
  have chain : ∀ i a b, (row.drop j ++ [x])[i]? = some a → (row.drop j ++ [x])[i + 1]? = some b → b ∈ G a := by
    intro i a b e1 e2
    have hi : i + 1 < row.length - j + 1 := by rw [← fl]; exact (List.getElem?_eq_some_iff.mp e2).1
    rw [g0 i (by omega)] at e1
    by_cases z : i + 1 = row.length - j
    · rw [z, g1] at e2
      cases e2
      exact hx a (by rw [← e1]; congr 1; omega)
    · rw [g0 (i + 1) (by omega)] at e2
      exact ch (j + i) a b e1 (by rw [← e2]; congr 1)
  refine ⟨by rw [List.length_reverse, fl]; omega, ?_, ?_, ?_⟩
  · rw [List.length_reverse, List.getElem?_reverse (by omega), List.getElem?_reverse (by omega), fl, show row.length - j + 1 - 1 - 0 = row.length - j by omega, g1, show row.length - j + 1 - 1 - (row.length - j + 1 - 1) = 0 by omega, g0 0 (by omega)]
    exact hj.symm
  · rw [er]
    show ((row.drop j).reverse).Nodup
    exact List.pairwise_reverse.mpr ((nd.sublist (List.drop_sublist _ _)).imp fun h => Ne.symm h)
  · intro i a b e1 e2
    have hi : i + 1 < (row.drop j ++ [x]).length := by have := (List.getElem?_eq_some_iff.mp e2).1; rwa [List.length_reverse] at this
    rw [List.getElem?_reverse (by omega)] at e1
    rw [List.getElem?_reverse (by omega)] at e2
    exact chain _ b a e2 (by rw [← e1]; congr 1; omega)
/-! peeling -/
def belowOf (R : List (List Str)) : List Str := R.map fun r => at_ r 1
structure Peel (rs R : List (List Str)) : Prop where
  sub : ∀ r ∈ R, r ∈ rs ∧ at_ r 2 = ("over" : Str)
  out : ∀ W : Str → Prop, (∀ b, W b → ∃ a, [a, b, "over"] ∈ rs ∧ W a) → ∀ a b, W a → W b → [a, b, "over"] ∈ rs → [a, b, "over"] ∈ R
theorem Peel.first (rs : List (List Str)) : Peel rs (rs.filter fun r => decide (at_ r 2 = ("over" : Str))) := by
  refine ⟨fun r hr => ?_, fun W hW a b ha hb hm => ?_⟩
  · obtain ⟨h1, h2⟩ := List.mem_filter.mp hr
    exact ⟨h1, of_decide_eq_true h2⟩
  · exact List.mem_filter.mpr ⟨hm, by simp [at_, List.getD]⟩
theorem Peel.next {rs R : List (List Str)} (P : Peel rs R) : Peel rs (R.filter fun r => decide (at_ r 0 ∈ belowOf R)) := by
  refine ⟨fun r hr => P.sub r (List.mem_filter.mp hr).1, fun W hW a b ha hb hm => ?_⟩
  refine List.mem_filter.mpr ⟨P.out W hW a b ha hb hm, ?_⟩
  obtain ⟨c, hc, wc⟩ := hW a ha
  have := P.out W hW c a wc ha hc
  refine decide_eq_true (List.mem_map.mpr ⟨_, this, ?_⟩)
  simp [at_, List.getD]
theorem Peel.nil {rs : List (List Str)} (P : Peel rs []) : Acyc rs := by
  intro W hW b hb
  obtain ⟨a, hm, ha⟩ := hW b hb
  exact absurd (P.out W hW a b ha hb hm) (by simp)
theorem Peel.some {rs R : List (List Str)} (h : ∀ r ∈ rs, rowL r = true) (P : Peel rs R) (full : (R.filter fun r => decide (at_ r 0 ∈ belowOf R)).length = R.length) (ne : R ≠ []) : ¬ Acyc rs := by
  intro A
  have all : ∀ r ∈ R, at_ r 0 ∈ belowOf R := fun r hr => of_decide_eq_true (List.length_filter_eq_length_iff.mp full r hr)
  have key : ∀ b, b ∈ belowOf R → ∃ a, [a, b, "over"] ∈ rs ∧ a ∈ belowOf R := by
    intro b hb
    obtain ⟨r, hr, rfl⟩ := List.mem_map.mp hb
    obtain ⟨hm, ho⟩ := P.sub r hr
    obtain ⟨x, y, w, rfl, _⟩ := rowL_form (h r hm)
    have : w = ("over" : Str) := by simpa [at_, List.getD] using ho
    subst this
    refine ⟨x, ?_, ?_⟩
    · simpa [at_, List.getD] using hm
    · simpa [at_, List.getD] using all _ hr
  obtain ⟨r, hr⟩ := List.exists_mem_of_ne_nil R ne
  exact A (· ∈ belowOf R) key _ (List.mem_map.mpr ⟨r, hr, rfl⟩)
theorem inS {x : Str} {xs : List Str} : inV (.str x) (xs.map V.str) = decide (x ∈ xs) := by
  unfold inV
  rw [List.any_map]
  rw [Bool.eq_iff_iff, List.any_eq_true, decide_eq_true_iff]
  constructor
  · rintro ⟨y, hy, e⟩
    have : eqV (.str y) (.str x) = true := e
    have : y = x := by simpa [eqV] using this
    exact this ▸ hy
  · intro h
    exact ⟨x, h, by simp [eqV]⟩
end RW

set_option Elab.async false
set_option linter.all false
set_option maxRecDepth 100000
set_option maxHeartbeats 4000000
/-! a comprehension over values, its values told; ranks -/
namespace RW
open PySem PySem.Spec PyProof.Rows L2
theorem comp_V {J : It} {vs : List V} {f : V → V} {g : V → Bool} {ok : Hp → Prop} {tc : TT} {te : TE} {src : List (Option Nat)} {σ : L2.St} {H : Hp} {σr : L2.St} {Q : VK} (wk : Wk J vs.length (fun i x => vs[i]? = some x) ok) (hok : ∀ H', Same H H' → ok H') (hl : vs.length ≤ 900) (e : capt src σ = none :: σr)
    (hc : ∀ (x : V) (H1 : Hp) (Q1 : Bool → Hp → Prop), Same H H1 → x ∈ vs → (∀ H2, Same H1 H2 → Q1 (g x) H2) → tc (some x :: σr) H1 Q1)
    (he : ∀ (x : V) (H1 : Hp) (Q1 : VK), Same H H1 → x ∈ vs → g x = true → (∀ H2, Same H1 H2 → Q1 (f x) H2) → te (some x :: σr) H1 Q1)
    (q : ∀ l H', Same H H' → H l = none → H' l = some (.lst ((vs.filter g).map f)) → Q (.ref l) H') : CompGo (gName 0) tc te src σ Q J H := by
  refine comp_by wk (fun l i ys σ' H' => (∃ o, σ' = o :: σr) ∧ ys = ((vs.take i).filter g).map f ∧ Same H H') ?_ ?_ ?_ ?_
  · exact fun l h' => ⟨⟨none, e⟩, rfl, Same.new h'⟩
  · exact fun l i ys σ' H' _ p => hok H' p.2.2
  · rintro l i y ys σ' H1 h' hi hy ⟨⟨o, rfl⟩, ry, s1⟩ hl'
    refine hc y H1 _ s1 (List.mem_of_getElem? hy) fun H2 s2 => ?_
    have tk : ((vs.take (i + 1)).filter g).map f = ((vs.take i).filter g).map f ++ ([y].filter g).map f := by
      rw [List.take_add_one, hy, List.filter_append, List.map_append]; rfl
    rw [tk]
    cases hg : g y with
    | false =>
      have e0 : ([y].filter g).map f = [] := by simp [hg]
      rw [e0, List.append_nil]
      exact ⟨s2 _ _ hl', ⟨_, rfl⟩, ry, s1.trans s2⟩
    | true =>
      have e0 : ([y].filter g).map f = [f y] := by simp [hg]
      rw [e0]
      refine he y H2 _ (s1.trans s2) (List.mem_of_getElem? hy) hg fun H3 s3 => ?_
      refine ⟨s3 _ _ (s2 _ _ hl'), ?_, ⟨_, rfl⟩, by rw [ry], ?_⟩
      · rw [ry, List.length_map]
        have h2 := List.length_filter_le g (vs.take i)
        rw [List.length_take] at h2
        exact small1000 (by omega)
      · exact fun c o e => by
          rw [upd_ne (ne_of_none e h')]
          exact s3 _ _ (s2 _ _ (s1 _ _ e))
  · rintro l ys σ' H1 h' ⟨⟨o, rfl⟩, ry, s1⟩ hl'
    rw [List.take_length] at ry
    subst ry
    exact q l H1 s1 h' hl'
theorem filt1 {α : Type} {xs : List α} : xs.filter (fun _ => true) = xs := by simp
/-- of texts -/
theorem comp_S {J : It} {xs : List Str} {f : Str → V} {g : Str → Bool} {ok : Hp → Prop} {tc : TT} {te : TE} {src : List (Option Nat)} {σ : L2.St} {H : Hp} {σr : L2.St} {Q : VK} (wk : Wk J (xs.map V.str).length (fun i x => (xs.map V.str)[i]? = some x) ok) (hok : ∀ H', Same H H' → ok H') (hl : xs.length ≤ 900) (e : capt src σ = none :: σr)
    (hc : ∀ (x : Str) (H1 : Hp) (Q1 : Bool → Hp → Prop), Same H H1 → x ∈ xs → (∀ H2, Same H1 H2 → Q1 (g x) H2) → tc (some (.str x) :: σr) H1 Q1)
    (he : ∀ (x : Str) (H1 : Hp) (Q1 : VK), Same H H1 → x ∈ xs → g x = true → (∀ H2, Same H1 H2 → Q1 (f x) H2) → te (some (.str x) :: σr) H1 Q1)
    (q : ∀ l H', Same H H' → H l = none → H' l = some (.lst ((xs.filter g).map f)) → Q (.ref l) H') : CompGo (gName 0) tc te src σ Q J H := by
  let un : V → Str := fun v => match v with | .str x => x | _ => ""
  refine comp_V (vs := xs.map V.str) (f := fun v => f (un v)) (g := fun v => g (un v)) wk hok (by rw [List.length_map]; exact hl) e (fun x H1 Q1 s1 hx k => ?_) (fun x H1 Q1 s1 hx hg k => ?_) fun l H' s' hl' hH' => ?_
  · obtain ⟨y, hy, rfl⟩ := List.mem_map.mp hx
    exact hc y H1 Q1 s1 hy k
  · obtain ⟨y, hy, rfl⟩ := List.mem_map.mp hx
    exact he y H1 Q1 s1 hy hg k
  · refine q l H' s' hl' ?_
    rw [hH', List.filter_map, List.map_map]
    rfl
structure LR (ks : List Str) (G : Str → List Str) (tk : List (Key × V)) (ws : List Str) : Prop where
  sub : ∀ x ∈ ws, x ∈ ks
  cov : ∀ x ∈ ks, x ∈ ws ∨ tol tk x = true
  sure : ∀ W : Str → Prop, (∀ b, W b → ∃ a ∈ G b, W a) → ∀ b, W b → tol tk b = false
  inv : ∀ x v, valV tk (Sum.inr x) = some v → ∃ n, v = V.int n
  len : tk.length + ws.length ≤ ks.length
def LRw (H : Hp) (d t : Addr) (ks : List Str) (G : Str → List Str) (m : Nat) (σ' : L2.St) (H' : Hp) : Prop := ∃ (o4 o5 : Option V) (lw : Addr) (ws : List Str) (tk : List (Key × V)) (fr : Bool), σ' = [some (.ref d), some (.ref t), some (.ref lw), some (.bl fr), o4, o5] ∧ m = 2 * ws.length + (if fr = true then 1 else 0) ∧
  H lw = none ∧ lw ≠ t ∧ H' lw = some (.lst (ws.map V.str)) ∧ H' t = some (.dK tk) ∧ Same H H' ∧ LR ks G tk ws ∧ (fr = false → ∀ x ∈ ws, ∃ y ∈ G x, tol tk y = false)
/-- what is left, i gone through -/
structure LRi (ks : List Str) (G : Str → List Str) (tk : List (Key × V)) (ws ys : List Str) (i : Nat) (fr : Bool) : Prop where
  sub : ∀ x ∈ ys, x ∈ ks
  cov : ∀ x ∈ ks, x ∈ ys ∨ x ∈ ws.drop i ∨ tol tk x = true
  sure : ∀ W : Str → Prop, (∀ b, W b → ∃ a ∈ G b, W a) → ∀ b, W b → tol tk b = false
  inv : ∀ x v, valV tk (Sum.inr x) = some v → ∃ n, v = V.int n
  len : tk.length + ys.length + (ws.length - i) ≤ ks.length
  le : ys.length ≤ i
  lt : fr = true → ys.length < i
  opn : fr = false → ∀ x ∈ ys, ∃ y ∈ G x, tol tk y = false
theorem drop63 {ws : List Str} {i : Nat} {x : Str} (h : ws[i]? = some x) : ws.drop i = x :: ws.drop (i + 1) := by
  obtain ⟨hi, e⟩ := List.getElem?_eq_some_iff.mp h
  rw [List.drop_eq_getElem_cons hi, e]
theorem LRi.tell {ks : List Str} {G : Str → List Str} {tk : List (Key × V)} {ws ys : List Str} {i : Nat} {fr : Bool} (L : LRi ks G tk ws ys i fr) {x : Str} (hx : ws[i]? = some x) (hg : ∀ y ∈ G x, tol tk y = true) (n : Int) : LRi ks G (putK tk (Sum.inr x) (.int n)) ws ys (i + 1) true := by
  have hi : i < ws.length := (List.getElem?_eq_some_iff.mp hx).1
  refine ⟨L.sub, fun y hy => ?_, fun W hW b hb => ?_, fun y v e => ?_, ?_, by have := L.le; omega, fun _ => by have := L.le; omega, fun z => by cases z⟩
  · rw [tol_put]
    rcases L.cov y hy with h | h | h
    · exact .inl h
    · rw [drop63 hx] at h
      rcases List.mem_cons.mp h with rfl | h
      · exact .inr (.inr (by simp))
      · exact .inr (.inl h)
    · exact .inr (.inr (by rw [h, Bool.or_true]))
  · rw [tol_put, L.sure W hW b hb, Bool.or_false]
    refine decide_eq_false fun z => ?_
    subst z
    obtain ⟨a, ha, wa⟩ := hW b hb
    have := L.sure W hW a wa
    rw [hg a ha] at this; cases this
  · rw [valV_put] at e
    by_cases z : (Sum.inr y : Key) = Sum.inr x
    · rw [if_pos z] at e; cases e; exact ⟨n, rfl⟩
    · rw [if_neg z] at e; exact L.inv y v e
  · have := length_putK tk (Sum.inr x) (.int n)
    have := L.len
    omega
theorem LRi.wait {ks : List Str} {G : Str → List Str} {tk : List (Key × V)} {ws ys : List Str} {i : Nat} {fr : Bool} (L : LRi ks G tk ws ys i fr) {x : Str} (hx : ws[i]? = some x) (hk : x ∈ ks) (hg : ∃ y ∈ G x, tol tk y = false) : LRi ks G tk ws (ys ++ [x]) (i + 1) fr := by
  have hi : i < ws.length := (List.getElem?_eq_some_iff.mp hx).1
  have ll : (ys ++ [x]).length = ys.length + 1 := by rw [List.length_append, List.length_singleton]
  refine ⟨fun y hy => ?_, fun y hy => ?_, L.sure, L.inv, by rw [ll]; have := L.len; omega, by rw [ll]; have := L.le; omega, fun h => by rw [ll]; have := L.lt h; omega, fun h y hy => ?_⟩
  · rcases List.mem_append.mp hy with h | h
    · exact L.sub y h
    · rw [List.mem_singleton.mp h]; exact hk
  · rcases L.cov y hy with h | h | h
    · exact .inl (List.mem_append_left _ h)
    · rw [drop63 hx] at h
      rcases List.mem_cons.mp h with rfl | h
      · exact .inl (List.mem_append_right _ (List.mem_singleton.mpr rfl))
      · exact .inr (.inl h)
    · exact .inr (.inr h)
  · rcases List.mem_append.mp hy with h' | h'
    · exact L.opn h y h'
    · rw [List.mem_singleton.mp h']; exact hg
/-- walking up -/
structure Wlk (ks : List Str) (G : Str → List Str) (tk : List (Key × V)) (row : List Str) (x : Str) : Prop where
  nd : row.Nodup
  sub : ∀ y ∈ row, y ∈ ks
  ch : ∀ i a b, row[i]? = some a → row[i + 1]? = some b → b ∈ G a
  nx : ∀ a, row[row.length - 1]? = some a → x ∈ G a
  xk : x ∈ ks
  xu : tol tk x = false
theorem Wlk.go {ks : List Str} {G : Str → List Str} {tk : List (Key × V)} {row : List Str} {x y : Str} (w : Wlk ks G tk row x) (hn : x ∉ row) (hy : y ∈ G x) (yk : y ∈ ks) (yu : tol tk y = false) : Wlk ks G tk (row ++ [x]) y := by
  have ll : (row ++ [x]).length = row.length + 1 := by rw [List.length_append, List.length_singleton]
  refine ⟨?_, fun z hz => ?_, fun i a b e1 e2 => ?_, fun a e => ?_, yk, yu⟩
  · exact List.nodup_append.mpr ⟨w.nd, by simp, fun a ha b hb z => hn (by have : b = x := by simpa using hb
                                                                          rw [← this, ← z]; exact ha)⟩
  · rcases List.mem_append.mp hz with h | h
    · exact w.sub z h
    · rw [List.mem_singleton.mp h]; exact w.xk
  · have hi : i + 1 < row.length + 1 := by rw [← ll]; exact (List.getElem?_eq_some_iff.mp e2).1
    rw [List.getElem?_append_left (by omega)] at e1
    by_cases z : i + 1 = row.length
    · rw [z, List.getElem?_append_right (Nat.le_refl _), Nat.sub_self] at e2
      cases e2
      exact w.nx a (by rw [← e1]; congr 1; omega)
    · rw [List.getElem?_append_left (by omega)] at e2
      exact w.ch i a b e1 e2
  · rw [ll, Nat.add_sub_cancel, List.getElem?_append_right (Nat.le_refl _), Nat.sub_self] at e
    cases e
    exact hy
end RW

set_option Elab.async false
set_option linter.all false
set_option maxRecDepth 100000
set_option maxHeartbeats 4000000
/-! a dict comprehension of two clauses, gone through; lists in a dict that grow -/
namespace L2
open PySem PySem.Spec PyProof.Rows
theorem din_by {J2 : It} {n : Nat} {P : Nat → V → Prop} {ok : Hp → Prop} {g2 : TG} {tc2 : TT} {tk tv : TE} {l : Addr} {ys : List (Key × V)} {N : List (Key × V) → St → Hp → Prop} {σ2 : St} {H5 : Hp} (wk : Wk J2 n P ok) (Pv : Nat → List (Key × V) → St → Hp → Prop)
    (h0 : Pv 0 ys σ2 H5) (hok : ∀ i ys σ H, Pv i ys σ H → ok H)
    (hs : ∀ i x ys σ H, i < n → P i x → Pv i ys σ H → H l = some (.dK ys) → g2 x σ H fun σ2 H3 => tc2 σ2 H3 fun b H4 =>
      if b = true then tk σ2 H4 fun k H5 => tv σ2 H5 fun y H6 => ∃ k', k = kV k' ∧ H6 l = some (.dK ys) ∧ ys.length < sizeLine ∧ Pv (i + 1) (putK ys k' y) σ2 (upd H6 l (.dK (putK ys k' y))) else H4 l = some (.dK ys) ∧ Pv (i + 1) ys σ2 H4)
    (hd : ∀ ys σ H, Pv n ys σ H → H l = some (.dK ys) → N ys σ H) : DInGo g2 tc2 tk tv l ys N J2 σ2 H5 := by
  refine ⟨fun i m ys σ H => m = n - i ∧ i ≤ n ∧ Pv i ys σ H, ⟨n, by simp, Nat.zero_le _, h0⟩, ?_⟩
  rintro i m ys σ H ⟨rfl, hi, p⟩ e
  by_cases hlt : i < n
  · refine .inr ⟨wk.go i H (hok i ys σ H p) hlt, Pv (i + 1), fun zs σ' H' q => ⟨n - (i + 1), by omega, rfl, hlt, q⟩, fun x H' y => ?_⟩
    obtain ⟨rfl, px⟩ := wk.yld i H x H' (hok i ys σ H p) hlt y
    exact hs i x ys σ _ hlt px p e
  · have ei : i = n := by omega
    subst ei
    exact .inl ⟨wk.stop i H (hok i ys σ H p) (Nat.le_refl _), hd ys σ H p e⟩
theorem dcomp2_by {J : It} {n : Nat} {P : Nat → V → Prop} {ok : Hp → Prop} {g g2 : TG} {tc tc2 : TT} {wi2 : TI} {tk tv : TE} {src : List (Option Nat)} {σ : St} {H1 : Hp} {Q : VK} (wk : Wk J n P ok) (Pv : Addr → Nat → List (Key × V) → St → Hp → Prop)
    (h0 : ∀ l, H1 l = none → Pv l 0 [] (capt src σ) (upd H1 l (.dK []))) (hok : ∀ l i ys σ H, H1 l = none → Pv l i ys σ H → ok H)
    (hs : ∀ l i x ys σ H, H1 l = none → i < n → P i x → Pv l i ys σ H → H l = some (.dK ys) → g x σ H fun σ2 H3 => tc σ2 H3 fun b H4 =>
      if b = true then wi2 σ2 H4 fun J2 H5 => H5 l = some (.dK ys) ∧ DInGo g2 tc2 tk tv l ys (Pv l (i + 1)) J2 σ2 H5 else H4 l = some (.dK ys) ∧ Pv l (i + 1) ys σ2 H4)
    (hd : ∀ l ys σ H, H1 l = none → Pv l n ys σ H → H l = some (.dK ys) → Q (.ref l) H) : DCompGo2 g tc wi2 g2 tc2 tk tv src σ Q J H1 := by
  intro l hl
  refine ⟨fun i m ys σ H => m = n - i ∧ i ≤ n ∧ Pv l i ys σ H, ⟨n, by simp, Nat.zero_le _, h0 l hl⟩, ?_⟩
  rintro i m ys σ H ⟨rfl, hi, p⟩ e
  by_cases hlt : i < n
  · refine .inr ⟨wk.go i H (hok l i ys σ H hl p) hlt, Pv l (i + 1), fun zs σ' H' q => ⟨n - (i + 1), by omega, rfl, hlt, q⟩, fun x H' y => ?_⟩
    obtain ⟨rfl, px⟩ := wk.yld i H x H' (hok l i ys σ H hl p) hlt y
    exact hs l i x ys σ _ hl hlt px p e
  · have ei : i = n := by omega
    subst ei
    exact .inl ⟨wk.stop i H (hok l i ys σ H hl p) (Nat.le_refl _), hd l ys σ H hl p e⟩
end L2
namespace RW
open PySem PySem.Spec PyProof.Rows L2
/-- a dict of new lists, each one's own -/
structure EL (H H' : Hp) (kvs : List (Key × V)) (ks : List Str) (G : Str → List Str) : Prop where
  keys : kvs.map (·.1) = ks.map Sum.inr
  nd : ks.Nodup
  at_ : ∀ x ∈ ks, ∃ l, valV kvs (Sum.inr x) = some (.ref l) ∧ H' l = some (.lst ((G x).map V.str)) ∧ H l = none
  apart : ∀ x ∈ ks, ∀ y ∈ ks, ∀ l, valV kvs (Sum.inr x) = some (.ref l) → valV kvs (Sum.inr y) = some (.ref l) → x = y
theorem EL.nil {H H' : Hp} {G : Str → List Str} : EL H H' [] [] G := ⟨rfl, List.nodup_nil, fun _ z => (nomatch z), fun _ z => (nomatch z)⟩
theorem EL.mono {H H' H'' : Hp} {kvs : List (Key × V)} {ks : List Str} {G : Str → List Str} (L : EL H H' kvs ks G) (h : ∀ l xs, H' l = some (.lst xs) → H'' l = some (.lst xs)) : EL H H'' kvs ks G :=
  ⟨L.keys, L.nd, fun x hx => let ⟨l, e1, e2, e3⟩ := L.at_ x hx; ⟨l, e1, h _ _ e2, e3⟩, L.apart⟩
theorem putK_keys {kvs : List (Key × V)} {k : Key} {v : V} : (k ∈ kvs.map (·.1) → (putK kvs k v).map (·.1) = kvs.map (·.1)) ∧ (¬ k ∈ kvs.map (·.1) → (putK kvs k v).map (·.1) = kvs.map (·.1) ++ [k]) := by
  unfold putK
  have e : (kvs.any fun kv => decide (kv.1 = k)) = true ↔ k ∈ kvs.map (·.1) := by
    rw [List.any_eq_true, List.mem_map]
    constructor
    · rintro ⟨kv, h, e⟩; exact ⟨kv, h, of_decide_eq_true e⟩
    · rintro ⟨kv, h, e⟩; exact ⟨kv, h, decide_eq_true e⟩
  refine ⟨fun h => ?_, fun h => ?_⟩
  · rw [if_pos (e.mpr h), List.map_map]
    apply List.map_congr_left
    intro kv _
    show (if kv.1 = k then (kv.1, v) else kv).1 = kv.1
    split <;> rfl
  · rw [if_neg (fun z => h (e.mp z)), List.map_append]; rfl
def addS (ks : List Str) (x : Str) : List Str := if x ∈ ks then ks else ks ++ [x]
theorem mem_addS {ks : List Str} {x y : Str} : y ∈ addS ks x ↔ y ∈ ks ∨ y = x := by
  unfold addS
  split
  · rename_i h
    exact ⟨.inl, fun z => z.elim id fun e => e ▸ h⟩
  · rw [List.mem_append, List.mem_singleton]
theorem len_addS {ks : List Str} {x : Str} : (addS ks x).length ≤ ks.length + 1 := by
  unfold addS
  split
  · omega
  · rw [List.length_append, List.length_singleton]; omega
theorem EL.put {H H' H'' : Hp} {kvs : List (Key × V)} {ks : List Str} {G : Str → List Str} {x : Str} {p : Addr} (L : EL H H' kvs ks G) (hG : G x = []) (hp : H' p = none) (hp0 : H p = none) (h : ∀ l xs, H' l = some (.lst xs) → H'' l = some (.lst xs)) (hp2 : H'' p = some (.lst [])) : EL H H'' (putK kvs (Sum.inr x) (.ref p)) (addS ks x) G := by
  have val : ∀ y, y ∈ addS ks x → (y = x ∧ valV (putK kvs (Sum.inr x) (.ref p)) (Sum.inr y) = some (.ref p)) ∨ (y ≠ x ∧ y ∈ ks ∧ valV (putK kvs (Sum.inr x) (.ref p)) (Sum.inr y) = valV kvs (Sum.inr y)) := by
    intro y hy
    rw [valV_put]
    by_cases e : y = x
    · exact .inl ⟨e, by rw [if_pos (by rw [e])]⟩
    · refine .inr ⟨e, ?_, by rw [if_neg (fun z => e (Sum.inr.inj z))]⟩
      rcases mem_addS.mp hy with h | h
      · exact h
      · exact absurd h e
  refine ⟨?_, ?_, fun y hy => ?_, fun y hy z hz l e1 e2 => ?_⟩
  · unfold addS
    have em : (Sum.inr x : Key) ∈ ks.map Sum.inr ↔ x ∈ ks := by
      rw [List.mem_map]
      exact ⟨fun ⟨y, hy, e⟩ => Sum.inr.inj e ▸ hy, fun h => ⟨x, h, rfl⟩⟩
    by_cases hx : x ∈ ks
    · rw [if_pos hx, putK_keys.1 (by rw [L.keys]; exact em.mpr hx), L.keys]
    · rw [if_neg hx, putK_keys.2 (by rw [L.keys]; exact fun z => hx (em.mp z)), L.keys, List.map_append]; rfl
  · unfold addS
    split
    · exact L.nd
    · rename_i hx
      exact List.nodup_append.mpr ⟨L.nd, by simp, fun a ha b hb z => hx (by have : b = x := by simpa using hb
                                                                            rw [← this, ← z]; exact ha)⟩
  · rcases val y hy with ⟨rfl, e⟩ | ⟨_, hk, e⟩
    · exact ⟨p, e, by rw [hG]; exact hp2, hp0⟩
    · obtain ⟨l, e1, e2, e3⟩ := L.at_ y hk
      exact ⟨l, e.trans e1, h _ _ e2, e3⟩
  · have old : ∀ u ∈ ks, valV kvs (Sum.inr u) ≠ some (.ref p) := fun u hu z => by
      obtain ⟨l', e1', e2', _⟩ := L.at_ u hu
      rw [e1'] at z
      cases z
      rw [hp] at e2'; cases e2'
    rcases val y hy with ⟨rfl, e⟩ | ⟨ny, hk, e⟩ <;> rcases val z hz with ⟨rfl, e'⟩ | ⟨nz, hk', e'⟩
    · rfl
    · rw [e] at e1; cases e1
      rw [e'] at e2; exact absurd e2 (old z hk')
    · rw [e'] at e2; cases e2
      rw [e] at e1; exact absurd e1 (old y hk)
    · exact L.apart y hk z hk' l (by rw [← e]; exact e1) (by rw [← e']; exact e2)
theorem EL.app {H H' : Hp} {kvs : List (Key × V)} {ks : List Str} {G G' : Str → List Str} {x a : Str} {l : Addr} (L : EL H H' kvs ks G) (hx : x ∈ ks) (ev : valV kvs (Sum.inr x) = some (.ref l)) (e1 : G' x = G x ++ [a]) (e2 : ∀ y, y ≠ x → G' y = G y) : EL H (upd H' l (.lst ((G x).map V.str ++ [.str a]))) kvs ks G' := by
  refine ⟨L.keys, L.nd, fun y hy => ?_, L.apart⟩
  obtain ⟨l', f1, f2, f3⟩ := L.at_ y hy
  refine ⟨l', f1, ?_, f3⟩
  by_cases z : y = x
  · subst z
    rw [ev] at f1; cases f1
    rw [upd_same, e1, List.map_append]; rfl
  · rw [upd_ne fun w => z (L.apart y hy x hx l (by rw [f1, w]) ev), e2 y z]; exact f2
theorem EL.led {H H' : Hp} {kvs : List (Key × V)} {ks : List Str} {G : Str → List Str} (L : EL H H' kvs ks G) (sub : ∀ x ∈ ks, ∀ y ∈ G x, y ∈ ks) (short : ∀ x ∈ ks, x.length ≤ 1000) (few : ks.length ≤ 60 ∧ ∀ x ∈ ks, (G x).length ≤ 60) : Led H' kvs ks G :=
  ⟨L.keys, L.nd, fun x hx => let ⟨l, e1, e2, _⟩ := L.at_ x hx; ⟨l, e1, e2⟩, sub, short, few⟩
theorem Gof_snoc {rs : List (List Str)} {a b w : Str} (c : Str) : Gof (rs ++ [[a, b, w]]) c = Gof rs c ++ (if b = c ∧ w = ("over" : Str) then [a] else []) := by
  unfold Gof
  rw [List.filterMap_append]
  congr 1
  by_cases h : b = c ∧ w = ("over" : Str)
  · rw [if_pos h]
    exact List.filterMap_cons_some (if_pos h)
  · rw [if_neg h]
    exact List.filterMap_cons_none (if_neg h)
end RW

set_option Elab.async false
set_option linter.all false
set_option maxRecDepth 100000
set_option maxHeartbeats 4000000
/-! rows gone through -/
namespace RW
open PySem PySem.Spec PyProof.Rows L2
theorem tups_snoc {H : Hp} {l p : Addr} {ys : List V} {ls : List (List Str)} {q : List Str} (T : TupsAt H ys ls) (hl : H l = some (.lst ys)) (hp : H p = some (.tup (q.map V.str))) : TupsAt (upd H l (.lst (ys ++ [.ref p]))) (ys ++ [.ref p]) (ls ++ [q]) := by
  have upl : ∀ {b o}, H b = some (.tup o) → (upd H l (.lst (ys ++ [V.ref p]))) b = some (.tup o) := fun {b o} h => by rw [upd_ne (fun z => by rw [z, hl] at h; cases h)]; exact h
  refine ⟨by rw [List.length_append, List.length_append, T.1]; rfl, fun j v q' e1 e2 => ?_⟩
  rcases Nat.lt_or_ge j ys.length with hj | hj
  · rw [List.getElem?_append_left hj] at e1
    rw [List.getElem?_append_left (by rw [← T.1]; exact hj)] at e2
    obtain ⟨b', rfl, hb'⟩ := T.2 j v q' e1 e2
    exact ⟨b', rfl, upl hb'⟩
  · have ej : j = ys.length := by
      rcases Nat.lt_or_ge j (ys ++ [V.ref p]).length with z | z
      · rw [List.length_append, List.length_singleton] at z; omega
      · rw [List.getElem?_eq_none z] at e1; cases e1
    subst ej
    rw [List.getElem?_append_right (Nat.le_refl _), Nat.sub_self] at e1
    rw [List.getElem?_append_right (by rw [T.1]; exact Nat.le_refl _), T.1, Nat.sub_self] at e2
    cases e1
    cases e2
    exact ⟨p, rfl, upl hp⟩
theorem tups_nil {H : Hp} : TupsAt H [] [] := ⟨rfl, fun i v q e => by cases e⟩
theorem tups_sm {H H' : Hp} {vs : List V} {ls : List (List Str)} (t : TupsAt H vs ls) (s : Same H H') : TupsAt H' vs ls := ⟨t.1, fun i v q e1 e2 => let ⟨b, e, hb⟩ := t.2 i v q e1 e2; ⟨b, e, s _ _ hb⟩⟩
theorem tups_mo {H H' : Hp} {vs : List V} {ls : List (List Str)} (t : TupsAt H vs ls) (s : Mono H H') : TupsAt H' vs ls := ⟨t.1, fun i v q e1 e2 => let ⟨b, e, hb⟩ := t.2 i v q e1 e2; ⟨b, e, s.tup _ _ hb⟩⟩
theorem tups_get {H : Hp} {us : List V} {rs : List (List Str)} (T : TupsAt H us rs) {i : Nat} {x : V} (e : us[i]? = some x) : ∃ b r, x = .ref b ∧ rs[i]? = some r ∧ H b = some (.tup (r.map V.str)) := by
  have hi : i < rs.length := by rw [← T.1]; exact (List.getElem?_eq_some_iff.mp e).1
  obtain ⟨b, e3, hb⟩ := T.2 i x rs[i] e (List.getElem?_eq_getElem hi)
  exact ⟨b, _, e3, List.getElem?_eq_getElem hi, hb⟩
theorem repT {H : Hp} {vs : List V} {ls : List (List Str)} (t : TupsAt H vs ls) (h : ∀ q ∈ ls, q.length ≤ 1000 ∧ ∀ x ∈ q, x.length ≤ 1000) : RepL H vs (ls.map tD) := by
  refine ⟨by rw [List.length_map]; exact t.1, fun i v d e1 e2 => ?_⟩
  rw [List.getElem?_map] at e2
  cases e3 : ls[i]? with
  | none => rw [e3] at e2; cases e2
  | some q =>
    rw [e3] at e2; cases e2
    obtain ⟨b, rfl, hb⟩ := t.2 i v q e1 e3
    have hq := h q (List.mem_of_getElem? e3)
    exact .mkL hb (by rw [List.length_map]; exact hq.1) (strs_rep hq.2)
/-- the rows for which g -/
theorem comp_TR {J : It} {us : List V} {rs : List (List Str)} {g : List Str → Bool} {ok : Hp → Prop} {tc : TT} {src : List (Option Nat)} {σ : L2.St} {H : Hp} {σr : L2.St} {Q : VK} (wk : Wk J us.length (fun i x => us[i]? = some x) ok) (T : TupsAt H us rs) (hok : ∀ H', Same H H' → ok H') (hl : us.length ≤ 900) (e : capt src σ = none :: σr)
    (hc : ∀ (b : Addr) (r : List Str) (H1 : Hp) (Q1 : Bool → Hp → Prop), Same H H1 → r ∈ rs → H1 b = some (.tup (r.map V.str)) → (∀ H2, Same H1 H2 → Q1 (g r) H2) → tc (some (.ref b) :: σr) H1 Q1)
    (q : ∀ l us' H', Same H H' → H l = none → H' l = some (.lst us') → TupsAt H' us' (rs.filter g) → Q (.ref l) H') : CompGo (gName 0) tc (tVar 0) src σ Q J H := by
  refine comp_by wk (fun l i ys σ' H' => (∃ o, σ' = o :: σr) ∧ TupsAt H' ys ((rs.take i).filter g) ∧ Same H H') ?_ ?_ ?_ ?_
  · exact fun l h' => ⟨⟨none, e⟩, tups_nil, Same.new h'⟩
  · exact fun l i ys σ' H' _ p => hok H' p.2.2
  · rintro l i y ys σ' H1 h' hi hy ⟨⟨o, rfl⟩, ty, s1⟩ hl'
    obtain ⟨b, r, rfl, er, hb⟩ := tups_get T hy
    refine hc b r H1 _ s1 (List.mem_of_getElem? er) (s1 _ _ hb) fun H2 s2 => ?_
    have tk : (rs.take (i + 1)).filter g = (rs.take i).filter g ++ [r].filter g := by
      rw [List.take_add_one, er, List.filter_append]; rfl
    rw [tk]
    cases hg : g r with
    | false =>
      have e0 : [r].filter g = [] := by simp [hg]
      rw [e0, List.append_nil]
      exact ⟨s2 _ _ hl', ⟨_, rfl⟩, tups_sm ty s2, s1.trans s2⟩
    | true =>
      have e0 : [r].filter g = [r] := by simp [hg]
      rw [e0]
      refine ⟨_, rfl, s2 _ _ hl', ?_, ⟨_, rfl⟩, tups_snoc (tups_sm ty s2) (s2 _ _ hl') (s2 _ _ (s1 _ _ hb)), ?_⟩
      · have h1 := ty.1
        have h2 := List.length_filter_le g (rs.take i)
        rw [List.length_take] at h2
        exact small1000 (by omega)
      · exact fun c o e => by
          rw [upd_ne (ne_of_none e h')]
          exact s2 _ _ (s1 _ _ e)
  · rintro l ys σ' H1 h' ⟨⟨o, rfl⟩, ty, s1⟩ hl'
    rw [T.1, List.take_length] at ty
    exact q l ys H1 s1 h' hl' ty
/-- a text of each row -/
theorem comp_TS {J : It} {us : List V} {rs : List (List Str)} {f : List Str → Str} {ok : Hp → Prop} {te : TE} {src : List (Option Nat)} {σ : L2.St} {H : Hp} {σr : L2.St} {Q : VK} (wk : Wk J us.length (fun i x => us[i]? = some x) ok) (T : TupsAt H us rs) (hok : ∀ H', Same H H' → ok H') (hl : us.length ≤ 900) (e : capt src σ = none :: σr)
    (he : ∀ (b : Addr) (r : List Str) (H1 : Hp) (Q1 : VK), Same H H1 → r ∈ rs → H1 b = some (.tup (r.map V.str)) → Q1 (.str (f r)) H1 → te (some (.ref b) :: σr) H1 Q1)
    (q : ∀ l H', Same H H' → H l = none → H' l = some (.lst ((rs.map f).map V.str)) → Q (.ref l) H') : CompGo (gName 0) tYes te src σ Q J H := by
  refine comp_by wk (fun l i ys σ' H' => (∃ o, σ' = o :: σr) ∧ ys = ((rs.take i).map f).map V.str ∧ Same H H') ?_ ?_ ?_ ?_
  · exact fun l h' => ⟨⟨none, e⟩, rfl, Same.new h'⟩
  · exact fun l i ys σ' H' _ p => hok H' p.2.2
  · rintro l i y ys σ' H1 h' hi hy ⟨⟨o, rfl⟩, ty, s1⟩ hl'
    obtain ⟨b, r, rfl, er, hb⟩ := tups_get T hy
    refine he b r H1 _ s1 (List.mem_of_getElem? er) (s1 _ _ hb) ?_
    refine ⟨hl', ?_, ⟨_, rfl⟩, ?_, ?_⟩
    · rw [ty, List.length_map, List.length_map, List.length_take]
      exact small1000 (by omega)
    · rw [ty, List.take_add_one, er, List.map_append, List.map_append]; rfl
    · exact fun c o e => by
        rw [upd_ne (ne_of_none e h')]
        exact s1 _ _ e
  · rintro l ys σ' H1 h' ⟨⟨o, rfl⟩, ty, s1⟩ hl'
    subst ty
    rw [T.1, List.take_length] at hl'
    exact q l H1 s1 h' hl'
theorem list_eqv0 {ds : List D} : (PyData.list (ds.map pyD)).eqv (.list []) = decide (ds = []) := by
  rw [PyData.eqv]
  cases ds with
  | nil => rw [List.map_nil, PyData.eqvAll]; rfl
  | cons d ds => rw [List.map_cons, PyData.eqvAll]; rfl
theorem depthL0 : (PyData.list []).depth ≤ 60 := by rw [PyData.depth, PyData.depthAll]; decide
theorem tr_lst0 {H : Hp} {p : Addr} (e : H p = some (.lst [])) : Tr H (.ref p) (.list []) := .lst e rfl fun i v d z => by cases z
theorem pyD_tD {xs : List Str} : pyD (tD xs) = .tuple (strsPy xs) := by
  unfold tD
  rw [pyD]
  congr 1
  induction xs with
  | nil => rfl
  | cons x xs ih => rw [List.map_cons, pyL, ih, pyD]; rfl
theorem row_in {rs : List (List Str)} {q : List Str} : ((pyL (rs.map tD)).any fun y => y.eqv (pyD (tD q))) = decide (q ∈ rs) := by
  induction rs with
  | nil => rw [List.map_nil, pyL]; rfl
  | cons r rs ih =>
    rw [List.map_cons, pyL, List.any_cons, ih, pyD_tD, pyD_tD, strs_eqvT, Bool.eq_iff_iff, Bool.or_eq_true, decide_eq_true_iff, decide_eq_true_iff, decide_eq_true_iff, List.mem_cons]
    exact ⟨fun h => h.imp Eq.symm id, fun h => h.imp Eq.symm id⟩
theorem row_okD {r : List Str} (h : rowL r = true) : okD (tD r) = true := by
  obtain ⟨a', b', w2, rfl, ha', hb', _, hw⟩ := rowL_form h
  show okD (.tup [.str a', .str b', .str w2]) = true
  rw [okD, okL, okL, okL, okL, okD, okD, okD, name_strOk ha', name_strOk hb']
  rcases hw with ⟨rfl, _⟩ | rfl <;> decide +kernel
theorem row_dep {a b c : Str} : (pyD (tD [a, b, c])).depth ≤ 60 := by
  show (pyD (.tup [.str a, .str b, .str c])).depth ≤ 60
  rw [pyD, pyL, pyL, pyL, pyL, pyD, pyD, pyD, PyData.depth, PyData.depthAll, PyData.depthAll, PyData.depthAll, PyData.depthAll, PyData.depth, PyData.depth, PyData.depth]; decide
end RW

set_option Elab.async false
set_option linter.all false
set_option maxRecDepth 100000
set_option maxHeartbeats 4000000
/-! rows kept in a dict by their two houses -/
namespace RW
open PySem PySem.Spec PyProof.Rows L2
abbrev mnS (x y : Str) : Str := if ltS y x = true then y else x
abbrev mxS (x y : Str) : Str := if ltS x y = true then y else x
theorem pr_mm {x y : Str} (h : x ≠ y) : pr x y = [mnS x y, mxS x y] := by
  refine pw_unique (srt_rise (by simpa using h)) (List.Pairwise.cons (fun z hz => ?_) (List.Pairwise.cons (fun _ z => (nomatch z)) .nil)) ((srt_perm [x, y]).trans ?_)
  · rw [List.mem_singleton.mp hz]; exact mm_lt h
  · cases e : ltS x y with
    | true => rw [show mnS x y = x from if_neg (by rw [ltS_asy e]; decide), show mxS x y = y from if_pos e]
    | false =>
      rw [show mnS x y = y from if_pos (ltS_tri h e), show mxS x y = x from if_neg (by rw [e]; decide)]
      exact List.Perm.swap y x []
def kOf (t : List Str) : List Key := t.map Sum.inr
structure RT (H : Hp) (kvs : List (List Key × V)) (rs : List (List Str)) : Prop where
  len : kvs.length = rs.length
  at_ : ∀ (j : Nat) (kv : List Key × V) (r : List Str), kvs[j]? = some kv → rs[j]? = some r → ∃ b, kv.1 = kOf (tieL r) ∧ kv.2 = .ref b ∧ H b = some (.tup (r.map V.str))
  row : ∀ r ∈ rs, rowL r = true
  nd : (rs.map tieL).Nodup
theorem RT.nil {H : Hp} : RT H [] [] := ⟨rfl, fun j kv r e => (by cases e), fun _ z => (nomatch z), List.nodup_nil⟩
theorem RT.mono {H H' : Hp} {kvs : List (List Key × V)} {rs : List (List Str)} (R : RT H kvs rs) (h : ∀ b xs, H b = some (.tup xs) → H' b = some (.tup xs)) : RT H' kvs rs :=
  ⟨R.len, fun j kv r e1 e2 => let ⟨b, h1, h2, h3⟩ := R.at_ j kv r e1 e2; ⟨b, h1, h2, h _ _ h3⟩, R.row, R.nd⟩
theorem RT.put {H : Hp} {kvs : List (List Key × V)} {rs : List (List Str)} (R : RT H kvs rs) {r : List Str} {b : Addr} (hr : rowL r = true) (hn : valV kvs (kOf (tieL r)) = none) (hb : H b = some (.tup (r.map V.str))) : RT H (putK kvs (kOf (tieL r)) (.ref b)) (rs ++ [r]) := by
  rw [putK_new _ hn]
  refine ⟨by rw [List.length_append, List.length_append, R.len]; rfl, fun j kv r' e1 e2 => ?_, fun x hx => ?_, ?_⟩
  · rcases Nat.lt_or_ge j kvs.length with hj | hj
    · rw [List.getElem?_append_left hj] at e1
      rw [List.getElem?_append_left (by rw [← R.len]; exact hj)] at e2
      exact R.at_ j kv r' e1 e2
    · have ej : j = kvs.length := by
        rcases Nat.lt_or_ge j (kvs ++ [(kOf (tieL r), V.ref b)]).length with z | z
        · rw [List.length_append, List.length_singleton] at z; omega
        · rw [List.getElem?_eq_none z] at e1; cases e1
      subst ej
      rw [List.getElem?_append_right (Nat.le_refl _), Nat.sub_self] at e1
      rw [List.getElem?_append_right (by rw [R.len]; exact Nat.le_refl _), R.len, Nat.sub_self] at e2
      cases e1
      cases e2
      exact ⟨b, rfl, rfl, hb⟩
  · rcases List.mem_append.mp hx with h | h
    · exact R.row x h
    · rw [List.mem_singleton.mp h]; exact hr
  · rw [List.map_append]
    refine List.nodup_append.mpr ⟨R.nd, by simp, fun u hu v hv z => ?_⟩
    have hv' : v = tieL r := by simpa using hv
    obtain ⟨x, hx, rfl⟩ := List.mem_map.mp hu
    obtain ⟨j, hj, ej⟩ := List.getElem_of_mem hx
    have hj' : j < kvs.length := by rw [R.len]; exact hj
    obtain ⟨b', h1, _, _⟩ := R.at_ j kvs[j] x (List.getElem?_eq_getElem hj') (by rw [List.getElem?_eq_getElem hj, ej])
    have : (kvs.any fun kv => decide (kv.1 = kOf (tieL r))) = true := List.any_eq_true.mpr ⟨kvs[j], List.getElem_mem hj', decide_eq_true (by rw [h1, z, hv'])⟩
    rw [valV_any, hn] at this
    cases this
end RW

set_option Elab.async false
set_option linter.all false
set_option maxRecDepth 100000
set_option maxHeartbeats 4000000
/-! a ring drawn, and more -/
namespace RW
open PySem PySem.Spec PyProof.Rows L2
structure RG (xs : List Str) (m : Nat) (rs : List (List Str)) : Prop where
  row : ∀ r ∈ rs, rowL r = true
  nd : (rs.map tieL).Nodup
  old : ∀ r ∈ rs, ∃ i j, i < m ∧ j < m ∧ tieL r = pr (at_ xs i) (at_ xs j)
def rgR (xs : List Str) (n k : Nat) : List Str := [at_ xs k, at_ xs ((k + 1) % n), "over"]
theorem at_take {xs : List Str} {n k : Nat} (h : k < n) : at_ (xs.take n) k = at_ xs k := by
  unfold at_
  rw [List.getD_eq_getElem?_getD, List.getD_eq_getElem?_getD, List.getElem?_take, if_pos h]
theorem RG.ring {xs : List Str} {n : Nat} (nd : xs.Nodup) (hn : ∀ x ∈ xs, isNameB x = true) (h3 : 3 ≤ n) (hl : n ≤ xs.length) : RG xs n ((List.range n).map (rgR xs n)) := by
  have tl : (xs.take n).length = n := by rw [List.length_take]; omega
  have e : (List.range n).map (rgR xs n) = rgRows (xs.take n) := by
    unfold rgRows
    rw [tl]
    apply List.map_congr_left
    intro k hk
    have hk := List.mem_range.mp hk
    unfold rgR rgRow
    rw [tl, at_take hk, at_take (Nat.mod_lt _ (by omega))]
  obtain ⟨h1, h2⟩ := ring_rows (xs := xs.take n) (nd.sublist (List.take_sublist _ _)) (fun x hx => hn x (List.mem_of_mem_take hx)) (by omega)
  refine ⟨by rw [e]; exact h1, by rw [e]; exact h2, fun r hr => ?_⟩
  obtain ⟨k, hk, rfl⟩ := List.mem_map.mp hr
  exact ⟨k, (k + 1) % n, List.mem_range.mp hk, Nat.mod_lt _ (by omega), rfl⟩
theorem RG.erase {xs : List Str} {m : Nat} {rs : List (List Str)} (R : RG xs m rs) (k : Nat) : RG xs m (rs.eraseIdx k) :=
  ⟨fun r hr => R.row r (List.mem_of_mem_eraseIdx hr), R.nd.sublist ((List.eraseIdx_sublist rs k).map tieL), fun r hr => R.old r (List.mem_of_mem_eraseIdx hr)⟩
theorem RG.swap {xs : List Str} {m : Nat} {rs : List (List Str)} (R : RG xs m rs) {k : Nat} {r r' : List Str} (hk : rs[k]? = some r) (hr : rowL r' = true) (ht : tieL r' = tieL r) : RG xs m (rs.eraseIdx k ++ [r']) := by
  obtain ⟨hl, e⟩ := List.getElem?_eq_some_iff.mp hk
  have hm : r ∈ rs := List.mem_of_getElem? hk
  refine ⟨fun x hx => ?_, ?_, fun x hx => ?_⟩
  · rcases List.mem_append.mp hx with h | h
    · exact (R.erase k).row x h
    · rw [List.mem_singleton.mp h]; exact hr
  · have p1 : (rs.eraseIdx k ++ [r]).Perm rs := by
      have e2 : rs.take k ++ r :: rs.drop (k + 1) = rs := by rw [← e, ← List.drop_eq_getElem_cons hl, List.take_append_drop]
      rw [List.eraseIdx_eq_take_drop_succ, List.append_assoc]
      exact ((List.perm_append_singleton r (rs.drop (k + 1))).append_left (rs.take k)).trans (by rw [e2])
    have p2 := (p1.map tieL).nodup_iff.mpr R.nd
    rw [List.map_append] at p2 ⊢
    rw [List.map_singleton] at p2 ⊢
    rw [ht]; exact p2
  · rcases List.mem_append.mp hx with h | h
    · exact (R.erase k).old x h
    · rw [List.mem_singleton.mp h, ht]; exact R.old r hm
theorem RG.more {xs : List Str} {m j : Nat} {rs : List (List Str)} (R : RG xs m rs) (nd : xs.Nodup) (hm : m < xs.length) (hj : j < m) {r : List Str} (hr : rowL r = true) (ht : tieL r = pr (at_ xs m) (at_ xs j)) : RG xs (m + 1) (rs ++ [r]) := by
  refine ⟨fun x hx => ?_, ?_, fun x hx => ?_⟩
  · rcases List.mem_append.mp hx with h | h
    · exact R.row x h
    · rw [List.mem_singleton.mp h]; exact hr
  · rw [List.map_append]
    refine List.nodup_append.mpr ⟨R.nd, by simp, fun u hu v hv z => ?_⟩
    have hv' : v = tieL r := by simpa using hv
    obtain ⟨x, hx, rfl⟩ := List.mem_map.mp hu
    obtain ⟨i', j', h1, h2, h3⟩ := R.old x hx
    rw [h3, hv', ht] at z
    rcases pr_inj z with ⟨e1, e2⟩ | ⟨e1, e2⟩
    · have := at_inj nd (by omega) hm e1; omega
    · have := at_inj nd (by omega) hm e2; omega
  · rcases List.mem_append.mp hx with h | h
    · obtain ⟨i', j', h1, h2, h3⟩ := R.old x h
      exact ⟨i', j', by omega, by omega, h3⟩
    · rw [List.mem_singleton.mp h]
      exact ⟨m, j, by omega, by omega, ht⟩
theorem tups_erase {H H' : Hp} {us : List V} {rs : List (List Str)} (T : TupsAt H us rs) (k : Nat) (h : ∀ b xs, H b = some (.tup xs) → H' b = some (.tup xs)) : TupsAt H' (us.eraseIdx k) (rs.eraseIdx k) := by
  refine ⟨by rw [List.length_eraseIdx, List.length_eraseIdx, T.1], fun i v q e1 e2 => ?_⟩
  rw [List.getElem?_eraseIdx] at e1 e2
  split at e1
  · rename_i hi; rw [if_pos hi] at e2
    obtain ⟨b, e, hb⟩ := T.2 i v q e1 e2
    exact ⟨b, e, h _ _ hb⟩
  · rename_i hi; rw [if_neg hi] at e2
    obtain ⟨b, e, hb⟩ := T.2 _ v q e1 e2
    exact ⟨b, e, h _ _ hb⟩
end RW

set_option Elab.async false
set_option linter.all false
set_option maxRecDepth 100000
set_option maxHeartbeats 4000000
namespace K63
open PySem PySem.Spec PyProof.Rows L2
def top (i : Nat) : Stmt := PySem.Challenge.pw_restways_k63_rings_of_elders.main.body.getD i (.Pass ⟨0, 0, 0, 0⟩)
abbrev s_least_ranks : Stmt := top 1
abbrev n_least_ranks : List Str := ["leaders", "told", "waiting", "fresh", "left", "thing"]
abbrev p_least_ranks : List Str := ["leaders"]
theorem c_least_ranks : FnScope n_least_ranks p_least_ranks (defScope s_least_ranks) := ⟨rfl, rfl, rfl, by decide +kernel, rfl, by decide +kernel, by decide +kernel⟩
def k_least_ranks_1 : Scope := { kind := .function, names := [(".0", .local), ("one", .local), ("told", .free)], isGenerator := false, isCoroutine := false, more := [] }
theorem o_least_ranks_1 : CompOk n_least_ranks (defScope s_least_ranks) ["one", "told"] [none, some 1] k_least_ranks_1 := ⟨rfl, by decide +kernel, by decide +kernel, by decide +kernel, by decide +kernel, rfl, by decide +kernel⟩
def k_least_ranks_2 : Scope := { kind := .function, names := [(".0", .local), ("one", .local), ("told", .free)], isGenerator := false, isCoroutine := false, more := [] }
theorem o_least_ranks_2 : CompOk n_least_ranks (defScope s_least_ranks) ["one", "told"] [none, some 1] k_least_ranks_2 := ⟨rfl, by decide +kernel, by decide +kernel, by decide +kernel, by decide +kernel, rfl, by decide +kernel⟩
abbrev s_ring_without : Stmt := top 2
abbrev n_ring_without : List Str := ["leaders", "told", "left", "row", "thing", "found"]
abbrev p_ring_without : List Str := ["leaders", "told"]
theorem c_ring_without : FnScope n_ring_without p_ring_without (defScope s_ring_without) := ⟨rfl, rfl, rfl, by decide +kernel, rfl, by decide +kernel, by decide +kernel⟩
def k_ring_without_1 : Scope := { kind := .function, names := [(".0", .local), ("thing", .local), ("told", .free)], isGenerator := false, isCoroutine := false, more := [] }
theorem o_ring_without_1 : CompOk n_ring_without (defScope s_ring_without) ["thing", "told"] [none, some 1] k_ring_without_1 := ⟨rfl, by decide +kernel, by decide +kernel, by decide +kernel, by decide +kernel, rfl, by decide +kernel⟩
def k_ring_without_2 : Scope := { kind := .function, names := [(".0", .local), ("one", .local), ("told", .free)], isGenerator := false, isCoroutine := false, more := [] }
theorem o_ring_without_2 : CompOk n_ring_without (defScope s_ring_without) ["one", "told"] [none, some 1] k_ring_without_2 := ⟨rfl, by decide +kernel, by decide +kernel, by decide +kernel, by decide +kernel, rfl, by decide +kernel⟩
abbrev s_elder_ring : Stmt := top 4
abbrev n_elder_ring : List Str := ["kin", "elders", "one", "other", "word"]
abbrev p_elder_ring : List Str := ["kin"]
theorem c_elder_ring : FnScope n_elder_ring p_elder_ring (defScope s_elder_ring) := ⟨rfl, rfl, rfl, by decide +kernel, rfl, by decide +kernel, by decide +kernel⟩
def k_elder_ring_1 : Scope := { kind := .function, names := [(".0", .local), ("row", .local), ("name", .local)], isGenerator := false, isCoroutine := false, more := [] }
theorem o_elder_ring_1 : CompOk n_elder_ring (defScope s_elder_ring) ["row", "name"] [none, none] k_elder_ring_1 := ⟨rfl, by decide +kernel, by decide +kernel, by decide +kernel, by decide +kernel, rfl, by decide +kernel⟩
abbrev s__law_hand : Stmt := top 6
abbrev n__law_hand : List Str := ["_law_script", "_law_k", "_law_cell"]
abbrev p__law_hand : List Str := ["_law_script", "_law_k"]
theorem c__law_hand : FnScope n__law_hand p__law_hand (defScope s__law_hand) := ⟨rfl, rfl, rfl, by decide +kernel, rfl, by decide +kernel, by decide +kernel⟩
abbrev s__law_take : Stmt := top 7
abbrev n__law_take : List Str := ["_law_hand_here", "_law_many", "_law_digit", "_law_turn", "_law_mixed", "_law_more"]
abbrev p__law_take : List Str := ["_law_hand_here", "_law_many"]
theorem c__law_take : FnScope n__law_take p__law_take (defScope s__law_take) := ⟨rfl, rfl, rfl, by decide +kernel, rfl, by decide +kernel, by decide +kernel⟩
abbrev s__law_pick : Stmt := top 8
abbrev n__law_pick : List Str := ["_law_hand_here", "_law_some"]
abbrev p__law_pick : List Str := ["_law_hand_here", "_law_some"]
theorem c__law_pick : FnScope n__law_pick p__law_pick (defScope s__law_pick) := ⟨rfl, rfl, rfl, by decide +kernel, rfl, by decide +kernel, by decide +kernel⟩
abbrev s__law_names : Stmt := top 9
abbrev n__law_names : List Str := ["_law_hand_here", "_law_many", "_law_letters", "_law_first", "_law_step", "_law_names_here", "_law_kept", "_law_spot", "_law_k"]
abbrev p__law_names : List Str := ["_law_hand_here", "_law_many"]
theorem c__law_names : FnScope n__law_names p__law_names (defScope s__law_names) := ⟨rfl, rfl, rfl, by decide +kernel, rfl, by decide +kernel, by decide +kernel⟩
def k__law_names_1 : Scope := { kind := .function, names := [(".0", .local), ("_law_k", .local), ("_law_first", .free), ("_law_letters", .free), ("_law_step", .free)], isGenerator := false, isCoroutine := false, more := [] }
theorem o__law_names_1 : CompOk n__law_names (defScope s__law_names) ["_law_k", "_law_first", "_law_letters", "_law_step"] [none, some 3, some 2, some 4] k__law_names_1 := ⟨rfl, by decide +kernel, by decide +kernel, by decide +kernel, by decide +kernel, rfl, by decide +kernel⟩
abbrev s__law_rows : Stmt := top 10
abbrev n__law_rows : List Str := ["_law_hand_here", "_law_houses", "_law_many", "_law_rows_here", "_law_k", "_law_one", "_law_other", "_law_row"]
abbrev p__law_rows : List Str := ["_law_hand_here", "_law_houses", "_law_many"]
theorem c__law_rows : FnScope n__law_rows p__law_rows (defScope s__law_rows) := ⟨rfl, rfl, rfl, by decide +kernel, rfl, by decide +kernel, by decide +kernel⟩
def k__law_rows_1 : Scope := { kind := .function, names := [(".0", .local), ("_law_two", .local), ("_law_rows_here", .free)], isGenerator := false, isCoroutine := false, more := [] }
theorem o__law_rows_1 : CompOk n__law_rows (defScope s__law_rows) ["_law_two", "_law_rows_here"] [none, some 3] k__law_rows_1 := ⟨rfl, by decide +kernel, by decide +kernel, by decide +kernel, by decide +kernel, rfl, by decide +kernel⟩
abbrev s__law_ringed : Stmt := top 11
abbrev n__law_ringed : List Str := ["_law_hand_here", "_law_houses", "_law_size", "_law_rows_here", "_law_way", "_law_one", "_law_other", "_law_word", "_law_k"]
abbrev p__law_ringed : List Str := ["_law_hand_here", "_law_houses"]
theorem c__law_ringed : FnScope n__law_ringed p__law_ringed (defScope s__law_ringed) := ⟨rfl, rfl, rfl, by decide +kernel, rfl, by decide +kernel, by decide +kernel⟩
def k__law_ringed_1 : Scope := { kind := .function, names := [(".0", .local), ("_law_k", .local), ("_law_houses", .free), ("_law_size", .free)], isGenerator := false, isCoroutine := false, more := [] }
theorem o__law_ringed_1 : CompOk n__law_ringed (defScope s__law_ringed) ["_law_k", "_law_houses", "_law_size"] [none, some 1, some 2] k__law_ringed_1 := ⟨rfl, by decide +kernel, by decide +kernel, by decide +kernel, by decide +kernel, rfl, by decide +kernel⟩
abbrev s__law_peeled : Stmt := top 12
abbrev n__law_peeled : List Str := ["_law_kin", "_law_rows_here", "_law_many", "_law_below"]
abbrev p__law_peeled : List Str := ["_law_kin"]
theorem c__law_peeled : FnScope n__law_peeled p__law_peeled (defScope s__law_peeled) := ⟨rfl, rfl, rfl, by decide +kernel, rfl, by decide +kernel, by decide +kernel⟩
def k__law_peeled_1 : Scope := { kind := .function, names := [(".0", .local), ("_law_row", .local)], isGenerator := false, isCoroutine := false, more := [] }
theorem o__law_peeled_1 : CompOk n__law_peeled (defScope s__law_peeled) ["_law_row"] [none] k__law_peeled_1 := ⟨rfl, by decide +kernel, by decide +kernel, by decide +kernel, by decide +kernel, rfl, by decide +kernel⟩
def k__law_peeled_2 : Scope := { kind := .function, names := [(".0", .local), ("_law_row", .local)], isGenerator := false, isCoroutine := false, more := [] }
theorem o__law_peeled_2 : CompOk n__law_peeled (defScope s__law_peeled) ["_law_row"] [none] k__law_peeled_2 := ⟨rfl, by decide +kernel, by decide +kernel, by decide +kernel, by decide +kernel, rfl, by decide +kernel⟩
def k__law_peeled_3 : Scope := { kind := .function, names := [(".0", .local), ("_law_row", .local), ("_law_below", .free)], isGenerator := false, isCoroutine := false, more := [] }
theorem o__law_peeled_3 : CompOk n__law_peeled (defScope s__law_peeled) ["_law_row", "_law_below"] [none, some 3] k__law_peeled_3 := ⟨rfl, by decide +kernel, by decide +kernel, by decide +kernel, by decide +kernel, rfl, by decide +kernel⟩
abbrev s__law_right : Stmt := top 13
abbrev n__law_right : List Str := ["_law_kin", "_law_found"]
abbrev p__law_right : List Str := ["_law_kin", "_law_found"]
theorem c__law_right : FnScope n__law_right p__law_right (defScope s__law_right) := ⟨rfl, rfl, rfl, by decide +kernel, rfl, by decide +kernel, by decide +kernel⟩
def k__law_right_1 : Scope := { kind := .function, names := [(".0", .local), ("_law_house", .local), ("isinstance", .globalImplicit), ("str", .globalImplicit)], isGenerator := false, isCoroutine := false, more := [] }
theorem o__law_right_1 : CompOk n__law_right (defScope s__law_right) ["_law_house"] [none] k__law_right_1 := ⟨rfl, by decide +kernel, by decide +kernel, by decide +kernel, by decide +kernel, rfl, by decide +kernel⟩
def k__law_right_2 : Scope := { kind := .function, names := [(".0", .local), ("_law_one", .local), ("_law_other", .local), ("_law_kin", .free)], isGenerator := false, isCoroutine := false, more := [] }
theorem o__law_right_2 : CompOk n__law_right (defScope s__law_right) ["_law_one", "_law_other", "_law_kin"] [none, none, some 0] k__law_right_2 := ⟨rfl, by decide +kernel, by decide +kernel, by decide +kernel, by decide +kernel, rfl, by decide +kernel⟩
abbrev s_law : Stmt := top 14
abbrev n_law : List Str := ["_law_script", "_law_k", "_law_hand_here", "_law_houses", "_law_rows_here", "_law_kin", "_law_found"]
abbrev p_law : List Str := ["_law_script"]
theorem c_law : FnScope n_law p_law (defScope s_law) := ⟨rfl, rfl, rfl, by decide +kernel, rfl, by decide +kernel, by decide +kernel⟩
set_option genInjectivity false in
set_option genSizeOfSpec false in
set_option genSizeOf false in
structure Ev (K : PySem.W.Frag) (mg : Str → Option Value) where
  a_least_ranks : Addr
  d_least_ranks : FuncData
  least_ranks : RW.At K mg "least_ranks" s_least_ranks p_least_ranks a_least_ranks d_least_ranks
  a_ring_without : Addr
  d_ring_without : FuncData
  ring_without : RW.At K mg "ring_without" s_ring_without p_ring_without a_ring_without d_ring_without
  a_elder_ring : Addr
  d_elder_ring : FuncData
  elder_ring : RW.At K mg "elder_ring" s_elder_ring p_elder_ring a_elder_ring d_elder_ring
  a__law_hand : Addr
  d__law_hand : FuncData
  _law_hand : RW.At K mg "_law_hand" s__law_hand p__law_hand a__law_hand d__law_hand
  a__law_take : Addr
  d__law_take : FuncData
  _law_take : RW.At K mg "_law_take" s__law_take p__law_take a__law_take d__law_take
  a__law_pick : Addr
  d__law_pick : FuncData
  _law_pick : RW.At K mg "_law_pick" s__law_pick p__law_pick a__law_pick d__law_pick
  a__law_names : Addr
  d__law_names : FuncData
  _law_names : RW.At K mg "_law_names" s__law_names p__law_names a__law_names d__law_names
  a__law_rows : Addr
  d__law_rows : FuncData
  _law_rows : RW.At K mg "_law_rows" s__law_rows p__law_rows a__law_rows d__law_rows
  a__law_ringed : Addr
  d__law_ringed : FuncData
  _law_ringed : RW.At K mg "_law_ringed" s__law_ringed p__law_ringed a__law_ringed d__law_ringed
  a__law_peeled : Addr
  d__law_peeled : FuncData
  _law_peeled : RW.At K mg "_law_peeled" s__law_peeled p__law_peeled a__law_peeled d__law_peeled
  a__law_right : Addr
  d__law_right : FuncData
  _law_right : RW.At K mg "_law_right" s__law_right p__law_right a__law_right d__law_right
  a_law : Addr
  d_law : FuncData
  law : RW.At K mg "law" s_law p_law a_law d_law
  isinstance : mg "isinstance" = none
  str : mg "str" = none
  len : mg "len" = none
  all : mg "all" = none
  int : mg "int" = none
  tuple : mg "tuple" = none
  range : mg "range" = none
  max : mg "max" = none
  min : mg "min" = none
  sorted : mg "sorted" = none
  list : mg "list" = none
  zip : mg "zip" = none
  set : mg "set" = none
end K63

set_option Elab.async false
set_option linter.all false
set_option maxRecDepth 100000
set_option maxHeartbeats 4000000
namespace K63
open PySem PySem.Spec PyProof.Rows L2 RW
local macro_rules | `(tactic| walk_at "cond") => `(tactic| first | assumption | decide | omega | exact few rfl | exact .inl ⟨by decide, by decide⟩ | exact .inr ⟨by decide, by decide⟩ | exact .inl ⟨by omega, by omega⟩ | exact .inr ⟨by omega, by omega⟩ | exact ⟨by omega, by omega⟩ | exact ⟨by assumption, by assumption⟩ | exact ⟨by decide, by decide, by decide⟩ | exact .inr ⟨by split <;> decide, by split <;> decide⟩)
local macro_rules | `(tactic| walk_at "rd") => `(tactic| first | with_reducible_and_instances refine ⟨_, rfl, ?_⟩ | refine ⟨_, rfl, ?_⟩ | refine ⟨_, _, rfl, rfl, ?_⟩ | refine ⟨_, _, _, _, rfl, rfl, SqL.of (by assumption), rfl, ?_⟩ | refine ⟨_, _, _, _, rfl, rfl, (by assumption), rfl, ?_⟩ | refine .inl ⟨_, rfl, ?_⟩ | refine .inr ⟨_, rfl, ?_⟩ | refine .inl ⟨_, _, rfl, .inl (by assumption), ?_⟩ | refine ⟨(by walk_at "cond"), ?_⟩)
local macro_rules | `(tactic| walk_at "dsp") => `(tactic| repeat' (first | exact dsp_str (by decide) | exact dsp_int | exact dsp_bl | exact dsp_non | exact dsp_neg | exact dspA_nil | exact dsp_dnew | exact dsp_disp rfl | exact dsp_var rfl (by assumption) | refine dspA_cons ?_ ?_ | refine dsp_tup ?_ ?_ | refine dsp_lst' ?_ | refine n_cons ?_ ?_ | exact n_nil | exact v_c | exact v_var rfl | refine v_tup ?_ | refine dspl_lst ?_ ?_ | refine dspl_cat ?_ ?_ ?_ | exact dspl_var rfl (by assumption) (by assumption) | exact Nat.le_of_ble_eq_true rfl))
local macro_rules | `(tactic| walk_at "each") => `(tactic| repeat' (first | exact forall_nil | refine List.forall_mem_append.mpr ⟨?_, ?_⟩ | refine List.forall_mem_cons.mpr ⟨?_, ?_⟩))
section
variable {P : Program} {w : World} {K : PySem.W.Frag} {mg : Str → Option Value} {base : Heap}
def spLeast : Sp := fun vs H Q _ => ∃ (d : Addr) (kvs : List (Key × V)) (ks : List Str) (G : Str → List Str), vs = [.ref d] ∧ H d = some (.dK kvs) ∧ Led H kvs ks G ∧ ∀ (t : Addr) (tk : List (Key × V)) (H' : Hp), H t = none → H' t = some (.dK tk) → Tld63 tk ks G → Same H H' → Q (.ref t) H'
theorem bls_map {xs : List Str} {f : Str → Bool} : ((xs.filter fun _ => true).map fun x => V.bl (f x)) = (xs.map f).map V.bl := by rw [filt1, List.map_map]; rfl
theorem ok_least (Y : Ev K mg) : FnOk P w K mg base CX0 1 Y.a_least_ranks Y.d_least_ranks p_least_ranks spLeast := by
  refine Y.least_ranks.fn.okQ c_least_ranks (fun vs H Q E h => ?_) (fun cdv A outer s H vs Q E hr h => ?_)
  · obtain ⟨d, kvs, ks, G, rfl, _⟩ := h; rfl
  · obtain ⟨d, kvs, ks, G, rfl, hd, L, q⟩ := h
    refine ⟨_, (b_cons (s_setC 1 c_least_ranks.nd q_dnew)
      (b_cons (s_set 2 c_least_ranks.nd (q_callTy (call_listK rfl) Y.list bt_list (a_cons (qv 0) a_nil)))
      (b_cons (s_set 3 c_least_ranks.nd q_bl)
      (b_cons (s_while (t_val (qv 3)) (b_cons (s_set 3 c_least_ranks.nd q_bl)
      (b_cons (s_set 4 c_least_ranks.nd (q_lst a_nil))
      (b_cons (s_for PassesOwn.never rfl (i_list (qv 2)) (g_name 5 c_least_ranks.nd) (b_one (s_if (t_val (q_callB (call_allB rfl) Y.all bt_all (a_cons (q_comp (src := [none, some 1]) o_least_ranks_1 rfl rfl (i_list (q_dget (hu1 hr) (qv 0) (qv 5))) (fun _ _ _ _ _ => (g_name 0 o_least_ranks_1.nd)) (fun _ _ _ _ _ => f_nil) (fun _ _ _ _ _ => (q_cmp (op_inK (hu1 hr)) (qv 0) (qc 1)))) a_nil))) (b_cons (s_dput (hu1 hr) (qc 1) (qv 5) (q_maxD Y.max rfl (a_cons (q_comp (src := [none, some 1]) o_least_ranks_2 rfl rfl (i_list (q_dget (hu1 hr) (qv 0) (qv 5))) (fun _ _ _ _ _ => (g_name 0 o_least_ranks_2.nd)) (fun _ _ _ _ _ => f_nil) (fun _ _ _ _ _ => (q_op op_add (q_dget (hu1 hr) (qc 1) (qv 0)) q_int))) a_nil)))
      (b_one (s_set 3 c_least_ranks.nd q_bl))) (b_one (s_expr (q_bm PySem.F.plainAttrs_list PySem.F.slot_list_append PySem.F.type_list_append mt_append (qv 4) (a_cons (qv 5) a_nil)))))))
      (b_one (s_set 2 c_least_ranks.nd (qv 4)))))))
      (b_one (s_ret (qc 1))))))), ?_⟩
    refine fun t ht => ?_
    have S1 := Same.new (o := .dK []) ht
    refine ⟨_, rfl, d, kvs, ks, rfl, S1 _ _ hd, L.keys, fun lw hlw => ?_⟩
    have S2 := Same.new (o := .lst (ks.map V.str)) hlw
    have ntw : t ≠ lw := ne_of_none upd_same hlw
    refine ⟨LRw H d t ks G, ⟨_, none, none, lw, ks, [], true, rfl, rfl, S1.free hlw, Ne.symm ntw, upd_same, S2 _ _ upd_same, S1.trans S2, ⟨fun _ h => h, fun _ h => .inl h, fun _ _ _ _ => tol_nil, fun x v e => (by cases e), (by simp)⟩, fun z => (by cases z)⟩, ?_⟩
    rintro m σ' H1 ⟨o4, o5, lw, ws, tk, fr, rfl, rfl, hlw, nwt, hw1, ht1, s1, lr, hop⟩
    refine ⟨_, rfl, fr, rfl, ite2 (fun hf => ?_) (fun hf => ?_)⟩
    · subst hf
      refine ⟨fun σ2 H2 => ∃ m', m' < 2 * ws.length + (if true = true then 1 else 0) ∧ LRw H d t ks G m' σ2 H2, fun _ _ z => z, ?_⟩
      refine ⟨few rfl, fun ll hll => ?_⟩
      have S3 := Same.new (o := .lst ([] : List V)) hll
      have nlw : lw ≠ ll := ne_of_none hw1 hll
      have nlt : t ≠ ll := ne_of_none ht1 hll
      have hll0 : H ll = none := s1.free hll
      refine ⟨_, rfl, lw, rfl, ⟨_, SqL.of (S3 _ _ hw1)⟩, ?_⟩
      refine for_by (wk_list (K := K) (xs := ws.map V.str)) (fun i σ' H' => ∃ (o5 : Option V) (tk : List (Key × V)) (ys : List Str) (fr : Bool), σ' = [some (.ref d), some (.ref t), some (.ref lw), some (.bl fr), some (.ref ll), o5] ∧ H' lw = some (.lst (ws.map V.str)) ∧ H' ll = some (.lst (ys.map V.str)) ∧ H' t = some (.dK tk) ∧ Same H H' ∧ LRi ks G tk ws ys i fr) ?_ ?_ ?_ ?_
      · refine ⟨_, tk, [], false, rfl, S3 _ _ hw1, upd_same, S3 _ _ ht1, s1.trans S3, ⟨fun _ z => (nomatch z), fun x hx => .inr (lr.cov x hx), lr.sure, lr.inv, by have := lr.len; simpa using this, Nat.zero_le _, fun z => (by cases z), fun _ _ z => nomatch z⟩⟩
      · rintro i σ' H' ⟨_, _, _, _, _, h, _⟩
        exact SqL.of h
      · rintro i x σ' H2 hi hx ⟨o5, tk, ys, fr, rfl, hw2, hl2, ht2, s2, L2⟩
        obtain ⟨th, hth, rfl⟩ : ∃ th, ws[i]? = some th ∧ x = .str th := by
          rw [List.getElem?_map] at hx
          cases e : ws[i]? with
          | none => rw [e] at hx; cases hx
          | some th => rw [e] at hx; cases hx; exact ⟨th, rfl, rfl⟩
        have hk : th ∈ ks := lr.sub th (List.mem_of_getElem? hth)
        obtain ⟨lt, ev, hlt⟩ := (L.same s2).at_ th hk
        have hd2 := s2 _ _ hd
        have hget : DGet H2 d (.str th) (some (.ref lt)) := by have := DGet.k (k := Sum.inr th) hd2; rw [ev] at this; exact this
        have g9 := (L.few).2 th hk
        refine ⟨_, rfl, _, rfl, d, .ref lt, rfl, hget, lt, rfl, ⟨_, SqL.of hlt⟩, ?_⟩
        refine comp_S (xs := G th) (f := fun y => .bl (tol tk y)) (g := fun _ => true) (σr := [some (.ref t)]) (wk_list (K := K)) (fun H' s => SqL.of (s _ _ hlt)) (by omega) rfl (fun y HA Q1 sA hy k => k HA (Same.refl _)) (fun y HA Q1 sA hy _ k => ⟨_, rfl, _, rfl, t, _, rfl, DGet.k (k := Sum.inr y) (sA _ _ ht2), k HA (Same.refl _)⟩) fun l3 H3 s3 hl3 hb3 => ?_
        rw [bls_map] at hb3
        refine ⟨l3, _, rfl, SqL.of hb3, _, rfl, ite2 (fun hc => ?_) (fun hc => ?_)⟩
        · have hg : ∀ y ∈ G th, tol tk y = true := by
            rw [List.all_map, List.all_eq_true] at hc
            exact hc
          have hget3 : DGet H3 d (.str th) (some (.ref lt)) := by have := DGet.k (k := Sum.inr th) (s3 _ _ hd2); rw [ev] at this; exact this
          have hlt3 := s3 _ _ hlt
          have ht3 := s3 _ _ ht2
          have hn : ∀ y : Str, ∃ n : Int, tol tk y = true → valV tk (Sum.inr y) = some (.int n) := fun y => by
            cases e : valV tk (Sum.inr y) with
            | none => exact ⟨0, fun z => by unfold tol at z; rw [e] at z; cases z⟩
            | some v => obtain ⟨n, rfl⟩ := L2.inv y v e; exact ⟨n, fun _ => rfl⟩
          refine ⟨_, rfl, _, rfl, d, .ref lt, rfl, hget3, lt, rfl, ⟨_, SqL.of hlt3⟩, ?_⟩
          refine comp_S (xs := G th) (f := fun y => .int ((hn y).choose + 1)) (g := fun _ => true) (σr := [some (.ref t)]) (wk_list (K := K)) (fun H' s => SqL.of (s _ _ hlt3)) (by omega) rfl (fun y HA Q1 sA hy k => k HA (Same.refl _)) (fun y HA Q1 sA hy _ k => ?_) fun l4 H4 s4 hl4 hb4 => ?_
          · refine ⟨_, rfl, _, rfl, t, .int (hn y).choose, rfl, ?_, ?_⟩
            · have := DGet.k (k := Sum.inr y) (sA _ _ ht3)
              rw [(hn y).choose_spec (hg y hy)] at this
              exact this
            · exact ⟨_, _, rfl, rfl, k HA (Same.refl _)⟩
          rw [filt1, show (G th).map (fun y => V.int ((hn y).choose + 1)) = ((G th).map fun y => (hn y).choose + 1).map V.int by rw [List.map_map]; rfl] at hb4
          have ht4 := s4 _ _ ht3
          refine ⟨l4, _, rfl, SqL.of hb4, fun n => ⟨_, rfl, _, rfl, t, _, rfl, .inl ⟨tk, Sum.inr th, ht4, rfl, ?_, rfl⟩, ?_⟩⟩
          · have := L2.len
            have := L.few.1
            exact small1000 (by omega)
          · have s24 := s2.trans (s3.trans s4)
            refine ⟨_, _, ys, true, rfl, ?_, ?_, upd_same, ?_, L2.tell hth hg n⟩
            · rw [upd_ne nwt]; exact s4 _ _ (s3 _ _ hw2)
            · rw [upd_ne (Ne.symm nlt)]; exact s4 _ _ (s3 _ _ hl2)
            · exact fun c o e => by rw [upd_ne (ne_of_none e ht)]; exact s24 _ _ e
        · have hg : ∃ y ∈ G th, tol tk y = false := by
            apply Classical.byContradiction
            intro z
            refine hc ?_
            rw [List.all_map, List.all_eq_true]
            intro y hy
            cases e : tol tk y with
            | true => exact e
            | false => exact absurd ⟨y, hy, e⟩ z
          have hl3' := s3 _ _ hl2
          refine ⟨_, rfl, .inl ⟨rfl, _, SqL.of hl3'⟩, _, rfl, ll, _, _, rfl, rfl, hl3', ?_, ?_⟩
          · rw [List.length_map]
            have := L2.len
            have := L.few.1
            exact small1000 (by omega)
          · refine ⟨_, tk, ys ++ [th], fr, rfl, ?_, ?_, ?_, ?_, L2.wait hth hk hg⟩
            · rw [upd_ne nlw]; exact s3 _ _ hw2
            · rw [upd_same, List.map_append]; rfl
            · rw [upd_ne nlt]; exact s3 _ _ ht2
            · exact fun c o e => by rw [upd_ne (ne_of_none e hll0)]; exact s3 _ _ (s2 _ _ e)
      · rintro σ' H2 ⟨o5, tk, ys, fr, rfl, hw2, hl2, ht2, s2, L2⟩
        rw [List.length_map] at L2
        have hle := L2.le
        refine ⟨_, rfl, 2 * ys.length + (if fr = true then 1 else 0), ?_, _, _, ll, ys, tk, fr, rfl, rfl, hll0, Ne.symm nlt, hl2, ht2, s2, ⟨L2.sub, fun x hx => ?_, L2.sure, L2.inv, by have := L2.len; omega⟩, L2.opn⟩
        · cases fr with
          | true => have := L2.lt rfl; simp; omega
          | false => simp; omega
        · rcases L2.cov x hx with h | h | h
          · exact .inl h
          · rw [List.drop_length] at h; cases h
          · exact .inr h
    · have hf : fr = false := by simpa using hf
      refine ⟨_, rfl, q t tk H1 ht ht1 ⟨fun x hx hu => ?_, lr.sure⟩ s1⟩
      rcases lr.cov x hx with h | h
      · exact hop hf x h
      · rw [hu] at h; cases h
end
end K63

set_option Elab.async false
set_option linter.all false
set_option maxRecDepth 100000
set_option maxHeartbeats 4000000
namespace K63
open PySem PySem.Spec PyProof.Rows L2 RW
local macro_rules | `(tactic| walk_at "cond") => `(tactic| first | assumption | decide | omega | exact few rfl | exact .inl ⟨by decide, by decide⟩ | exact .inr ⟨by decide, by decide⟩ | exact .inl ⟨by omega, by omega⟩ | exact .inr ⟨by omega, by omega⟩ | exact ⟨by omega, by omega⟩ | exact ⟨by assumption, by assumption⟩ | exact ⟨by decide, by decide, by decide⟩ | exact .inr ⟨by split <;> decide, by split <;> decide⟩)
local macro_rules | `(tactic| walk_at "rd") => `(tactic| first | with_reducible_and_instances refine ⟨_, rfl, ?_⟩ | refine ⟨_, rfl, ?_⟩ | refine ⟨_, _, rfl, rfl, ?_⟩ | refine ⟨_, _, _, _, rfl, rfl, SqL.of (by assumption), rfl, ?_⟩ | refine ⟨_, _, _, _, rfl, rfl, (by assumption), rfl, ?_⟩ | refine .inl ⟨_, rfl, ?_⟩ | refine .inr ⟨_, rfl, ?_⟩ | refine .inl ⟨_, _, rfl, .inl (by assumption), ?_⟩ | refine ⟨(by walk_at "cond"), ?_⟩)
local macro_rules | `(tactic| walk_at "dsp") => `(tactic| repeat' (first | exact dsp_str (by decide) | exact dsp_int | exact dsp_bl | exact dsp_non | exact dsp_neg | exact dspA_nil | exact dsp_dnew | exact dsp_disp rfl | exact dsp_var rfl (by assumption) | refine dspA_cons ?_ ?_ | refine dsp_tup ?_ ?_ | refine dsp_lst' ?_ | refine n_cons ?_ ?_ | exact n_nil | exact v_c | exact v_var rfl | refine v_tup ?_ | refine dspl_lst ?_ ?_ | refine dspl_cat ?_ ?_ ?_ | exact dspl_var rfl (by assumption) (by assumption) | exact Nat.le_of_ble_eq_true rfl))
local macro_rules | `(tactic| walk_at "each") => `(tactic| repeat' (first | exact forall_nil | refine List.forall_mem_append.mpr ⟨?_, ?_⟩ | refine List.forall_mem_cons.mpr ⟨?_, ?_⟩))
section
variable {P : Program} {w : World} {K : PySem.W.Frag} {mg : Str → Option Value} {base : Heap}
def spRingW : Sp := fun vs H Q _ => ∃ (d t : Addr) (kvs tk : List (Key × V)) (ks : List Str) (G : Str → List Str), vs = [.ref d, .ref t] ∧ H d = some (.dK kvs) ∧ H t = some (.dK tk) ∧ d ≠ t ∧ Led H kvs ks G ∧ (∀ x ∈ ks, tol tk x = false → ∃ y ∈ G x, tol tk y = false) ∧
  (∀ H', Keep d H H' → (∀ x ∈ ks, tol tk x = true) → Q .non H') ∧ ∀ (l : Addr) (xs : List Str) (H' : Hp), H l = none → H' l = some (.lst (xs.map V.str)) → RingG G xs → Keep d H H' → Q (.ref l) H'
theorem flat_strs {xs : List Str} : (xs.map V.str).all flatV = true := by rw [List.all_map, List.all_eq_true]; intro _ _; rfl
theorem keys_strs {kvs : List (Key × V)} {ks : List Str} (h : kvs.map (·.1) = ks.map Sum.inr) : kvs.map (fun kv => kV kv.1) = ks.map V.str := by
  have := congrArg (List.map kV) h
  rw [List.map_map, List.map_map] at this
  exact this
theorem ok_ringW (Y : Ev K mg) : FnOk P w K mg base CX0 1 Y.a_ring_without Y.d_ring_without p_ring_without spRingW := by
  refine Y.ring_without.fn.okQ c_ring_without (fun vs H Q E h => ?_) (fun cdv A outer s H vs Q E hr h => ?_)
  · obtain ⟨d, t, kvs, tk, ks, G, rfl, _⟩ := h; rfl
  · obtain ⟨d, t, kvs, tk, ks, G, rfl, hd, ht, ndt, L, hop, qn, q⟩ := h
    refine ⟨_, (b_cons (s_setcomp 2 (src := [none, some 1]) o_ring_without_1 rfl rfl c_ring_without.nd (i_dictK (qv 0)) (fun _ _ _ _ _ => (g_name 0 o_ring_without_1.nd)) (fun _ _ _ _ _ => (f_one (t_cmp (op_niK (hu1 hr)) (qv 0) (qc 1)))) (fun _ _ _ _ _ => (qv 0)))
      (b_cons (s_if (t_not (t_truth (qv 2))) (b_one (s_ret q_non)) b_nil)
      (b_cons (s_set 3 c_ring_without.nd (q_lst a_nil))
      (b_cons (s_set 4 c_ring_without.nd (q_ix ix_list (qv 2) q_int))
      (b_cons (s_while (t_cmp op_notIn_seq (qv 4) (qv 3)) (b_cons (s_expr (q_bm PySem.F.plainAttrs_list PySem.F.slot_list_append PySem.F.type_list_append mt_append (qv 3) (a_cons (qv 4) a_nil)))
      (b_one (s_set 4 c_ring_without.nd (q_ix ix_list (q_comp (src := [none, some 1]) o_ring_without_2 rfl rfl (i_list (q_dget (hu1 hr) (qv 0) (qv 4))) (fun _ _ _ _ _ => (g_name 0 o_ring_without_2.nd)) (fun _ _ _ _ _ => (f_one (t_cmp (op_niK (hu1 hr)) (qv 0) (qc 1)))) (fun _ _ _ _ _ => (qv 0))) q_int)))))
      (b_cons (s_set 5 c_ring_without.nd (q_op op_cat (q_sl sl_list (qv 3) (o_some (q_bm PySem.F.plainAttrs_list PySem.F.slot_list_index PySem.F.type_list_index mt_indexL (qv 3) (a_cons (qv 4) a_nil))) o_none) (q_lst (a_cons (qv 4) a_nil))))
      (b_one (s_ret (q_revL (qv 5) (q_un un_neg q_int)))))))))), ?_⟩
    refine ⟨_, rfl, d, kvs, rfl, hd, fun o nd => ?_⟩
    rw [keys_strs L.keys]
    have hd1 : upd H d (.frz o (.dK kvs)) d = some (.frz o (.dK kvs)) := upd_same
    have ht1 : upd H d (.frz o (.dK kvs)) t = some (.dK tk) := by rw [upd_ne (Ne.symm ndt)]; exact ht
    have k1 : Keep d H (upd H d (.frz o (.dK kvs))) := Keep.upd _ _ _
    have L1 : Led (upd H d (.frz o (.dK kvs))) kvs ks G := L.mono fun l xs e => by rw [upd_ne fun z => by rw [z, hd] at e; cases e]; exact e
    have fr1 : ∀ l, upd H d (.frz o (.dK kvs)) l = none → H l = none := fun l e => by
      by_cases z : l = d
      · rw [z, hd1] at e; cases e
      · rw [upd_ne z] at e; exact e
    generalize upd H d (.frz o (.dK kvs)) = H1 at *
    refine comp_S (xs := ks) (f := V.str) (g := fun x => !tol tk x) (σr := [some (.ref t)]) wk_dT (fun H' s => s _ _ hd1) (by have := L.few.1; omega) rfl (fun x HA Q1 sA hx k => ⟨_, rfl, _, rfl, t, _, rfl, DGet.k (k := Sum.inr x) (sA _ _ ht1), _, rfl, k HA (Same.refl _)⟩) (fun x HA Q1 sA hx _ k => ⟨_, rfl, k HA (Same.refl _)⟩) fun l2 H2 s2 hl2 hb2 => ?_
    refine ⟨_, rfl, _, .inl ⟨_, SqL.of hb2, rfl⟩, ?_⟩
    have k2 : Keep d H H2 := k1.trans (Keep.of s2)
    generalize elf : ks.filter (fun x => !tol tk x) = lf at *
    cases lf with
    | nil =>
      refine if_t rfl (qn H2 k2 fun x hx => ?_)
      cases e : tol tk x with
      | true => rfl
      | false =>
        have : x ∈ ks.filter (fun x => !tol tk x) := List.mem_filter.mpr ⟨hx, by rw [e]; rfl⟩
        rw [elf] at this; cases this
    | cons x0 rest =>
      have hx0 : x0 ∈ ks ∧ tol tk x0 = false := by
        have : x0 ∈ ks.filter (fun x => !tol tk x) := by rw [elf]; exact List.mem_cons_self
        obtain ⟨h1, h2⟩ := List.mem_filter.mp this
        exact ⟨h1, by simpa using h2⟩
      refine if_f rfl ⟨few rfl, fun lr hlr => ?_⟩
      have S3 := Same.new (o := .lst ([] : List V)) hlr
      refine ⟨_, rfl, l2, _, 0, .str x0, rfl, rfl, SqL.of (S3 _ _ hb2), at0, ?_⟩
      have hd2 := s2 _ _ hd1
      have ht2 := s2 _ _ ht1
      have L2' := L1.same s2
      have hlr0 : H lr = none := fr1 lr (s2.free hlr)
      refine ⟨fun m σ' H' => ∃ (o5 : Option V) (row : List Str) (x : Str), σ' = [some (.ref d), some (.ref t), some (.ref l2), some (.ref lr), some (.str x), o5] ∧ m = ks.length - row.length ∧ H' lr = some (.lst (row.map V.str)) ∧ Same H2 H' ∧ Wlk ks G tk row x, ⟨_, none, [], x0, rfl, rfl, upd_same, S3, ⟨List.nodup_nil, fun _ z => (nomatch z), fun i a b e => (by cases e), fun a e => (by cases e), hx0.1, hx0.2⟩⟩, ?_⟩
      rintro m σ' H4 ⟨o5, row, x, rfl, rfl, hr4, s4, wl⟩
      have rlen := nodup_len wl.nd wl.sub
      have kfew := L.few.1
      refine ⟨_, rfl, _, rfl, lr, _, rfl, .inl (SqL.of hr4), rfl, flat_strs, _, rfl, ?_⟩
      rw [inS]
      by_cases hin : x ∈ row
      · rw [decide_eq_true hin]
        refine if_f rfl ?_
        obtain ⟨j, hj, ej⟩ := List.getElem_of_mem hin
        have ej : row[j]? = some x := by rw [List.getElem?_eq_getElem hj, ej]
        refine ⟨_, rfl, _, rfl, .inl ⟨rfl, _, SqL.of hr4⟩, _, rfl, lr, row, x, j, rfl, rfl, hr4, ej, fun i hi e => absurd (nodup_ix wl.nd e ej) (by omega), by omega, _, rfl, lr, _, rfl, SqL.of hr4, fun p1 hp1 => ?_⟩
        have e1 : cutV (row.map V.str) (some (j : Int)) none = (row.drop j).map V.str := by rw [List.map_drop]; exact cut_drop (m := j)
        rw [e1]
        have S5 := Same.new (o := .lst ((row.drop j).map V.str)) hp1
        refine ⟨_, rfl, few rfl, fun p2 hp2 => ?_⟩
        have S6 := Same.new (o := .lst [V.str x]) hp2
        refine ⟨p1, p2, _, _, rfl, rfl, S6 _ _ upd_same, upd_same, Nat.le_of_lt (small1000 (by rw [List.length_map, List.length_drop, List.length_singleton]; omega)), fun p3 hp3 => ?_⟩
        rw [show (row.drop j).map V.str ++ [V.str x] = (row.drop j ++ [x]).map V.str by rw [List.map_append]; rfl]
        have S7 := Same.new (o := .lst ((row.drop j ++ [x]).map V.str)) hp3
        refine ⟨_, rfl, p3, _, rfl, SqL.of upd_same, fun p4 hp4 => ?_⟩
        rw [← List.map_reverse]
        have S8 := Same.new (o := .lst ((row.drop j ++ [x]).reverse.map V.str)) hp4
        have S28 := s4.trans (S5.trans (S6.trans (S7.trans S8)))
        have hp40 : H p4 = none := fr1 p4 (s2.free (s4.free (S5.free (S6.free (S7.free hp4)))))
        exact q p4 _ _ hp40 upd_same (ring_of wl.nd wl.ch wl.nx ej) (k2.trans (Keep.of S28))
      · rw [decide_eq_false hin]
        refine if_t rfl ⟨fun σ2 H2' => ∃ m', m' < ks.length - row.length ∧ ∃ (o5 : Option V) (row : List Str) (x : Str), σ2 = [some (.ref d), some (.ref t), some (.ref l2), some (.ref lr), some (.str x), o5] ∧ m' = ks.length - row.length ∧ H2' lr = some (.lst (row.map V.str)) ∧ Same H2 H2' ∧ Wlk ks G tk row x, fun _ _ z => z, ?_⟩
        refine ⟨_, rfl, .inl ⟨rfl, _, SqL.of hr4⟩, _, rfl, lr, _, _, rfl, rfl, hr4, ?_, ?_⟩
        · rw [List.length_map]; exact small1000 (by omega)
        have s5 : Same H2 (upd H4 lr (.lst (row.map V.str ++ [.str x]))) := fun c o e => by rw [upd_ne (ne_of_none e hlr)]; exact s4 _ _ e
        have hr5 : upd H4 lr (.lst (row.map V.str ++ [.str x])) lr = some (.lst ((row ++ [x]).map V.str)) := by rw [upd_same, List.map_append]; rfl
        generalize upd H4 lr (.lst (row.map V.str ++ [.str x])) = H5 at *
        obtain ⟨lt, ev, hlt⟩ := (L2'.same s5).at_ x wl.xk
        have ht5 := s5 _ _ ht2
        have hget : DGet H5 d (.str x) (some (.ref lt)) := .inl ⟨kvs, Sum.inr x, .inr ⟨o, s5 _ _ hd2⟩, rfl, ev.symm⟩
        refine ⟨_, rfl, _, rfl, d, .ref lt, rfl, hget, lt, rfl, ⟨_, SqL.of hlt⟩, ?_⟩
        refine comp_S (xs := G x) (f := V.str) (g := fun y => !tol tk y) (σr := [some (.ref t)]) (wk_list (K := K)) (fun H' s => SqL.of (s _ _ hlt)) (by have := L.few.2 x wl.xk; omega) rfl (fun y HA Q1 sA hy k => ⟨_, rfl, _, rfl, t, _, rfl, DGet.k (k := Sum.inr y) (sA _ _ ht5), _, rfl, k HA (Same.refl _)⟩) (fun y HA Q1 sA hy _ k => ⟨_, rfl, k HA (Same.refl _)⟩) fun l6 H6 s6 hl6 hb6 => ?_
        obtain ⟨y1, hy1, hu1⟩ := hop x wl.xk wl.xu
        cases e6 : (G x).filter (fun y => !tol tk y) with
        | nil =>
          have : y1 ∈ (G x).filter (fun y => !tol tk y) := List.mem_filter.mpr ⟨hy1, by rw [hu1]; rfl⟩
          rw [e6] at this; cases this
        | cons y0 rest6 =>
          rw [e6] at hb6
          have : y0 ∈ (G x).filter (fun y => !tol tk y) := by rw [e6]; exact List.mem_cons_self
          obtain ⟨h1, h2⟩ := List.mem_filter.mp this
          refine ⟨l6, _, 0, .str y0, rfl, rfl, SqL.of hb6, at0, ?_⟩
          have w6 := wl.go hin h1 (L.sub x wl.xk y0 h1) (by simpa using h2)
          have r6 := nodup_len w6.nd w6.sub
          rw [List.length_append, List.length_singleton] at r6
          exact ⟨ks.length - (row.length + 1), by omega, _, row ++ [x], y0, rfl, by rw [List.length_append, List.length_singleton], s6 _ _ hr5, s5.trans s6, w6⟩
end
end K63

set_option Elab.async false
set_option linter.all false
set_option maxRecDepth 100000
set_option maxHeartbeats 4000000
namespace K63
open PySem PySem.Spec PyProof.Rows L2 RW
local macro_rules | `(tactic| walk_at "cond") => `(tactic| first | assumption | decide | omega | exact few rfl | exact .inl ⟨by decide, by decide⟩ | exact .inr ⟨by decide, by decide⟩ | exact .inl ⟨by omega, by omega⟩ | exact .inr ⟨by omega, by omega⟩ | exact ⟨by omega, by omega⟩ | exact ⟨by assumption, by assumption⟩ | exact ⟨by decide, by decide, by decide⟩ | exact .inr ⟨by split <;> decide, by split <;> decide⟩)
local macro_rules | `(tactic| walk_at "rd") => `(tactic| first | with_reducible_and_instances refine ⟨_, rfl, ?_⟩ | refine ⟨_, rfl, ?_⟩ | refine ⟨_, _, rfl, rfl, ?_⟩ | refine ⟨_, _, _, _, rfl, rfl, SqL.of (by assumption), rfl, ?_⟩ | refine ⟨_, _, _, _, rfl, rfl, (by assumption), rfl, ?_⟩ | refine .inl ⟨_, rfl, ?_⟩ | refine .inr ⟨_, rfl, ?_⟩ | refine .inl ⟨_, _, rfl, .inl (by assumption), ?_⟩ | refine ⟨(by walk_at "cond"), ?_⟩)
local macro_rules | `(tactic| walk_at "dsp") => `(tactic| repeat' (first | exact dsp_str (by decide) | exact dsp_int | exact dsp_bl | exact dsp_non | exact dsp_neg | exact dspA_nil | exact dsp_dnew | exact dsp_disp rfl | exact dsp_var rfl (by assumption) | refine dspA_cons ?_ ?_ | refine dsp_tup ?_ ?_ | refine dsp_lst' ?_ | refine n_cons ?_ ?_ | exact n_nil | exact v_c | exact v_var rfl | refine v_tup ?_ | refine dspl_lst ?_ ?_ | refine dspl_cat ?_ ?_ ?_ | exact dspl_var rfl (by assumption) (by assumption) | exact Nat.le_of_ble_eq_true rfl))
local macro_rules | `(tactic| walk_at "each") => `(tactic| repeat' (first | exact forall_nil | refine List.forall_mem_append.mpr ⟨?_, ?_⟩ | refine List.forall_mem_cons.mpr ⟨?_, ?_⟩))
section
variable {P : Program} {w : World} {K : PySem.W.Frag} {mg : Str → Option Value} {base : Heap}
def spElder : Sp := fun vs H Q _ => ∃ (p : Addr) (us : List V) (rs : List (List Str)), vs = [.ref p] ∧ H p = some (.tup us) ∧ TupsAt H us rs ∧ (∀ r ∈ rs, rowL r = true) ∧ rs.length ≤ 20 ∧
  (∀ H', Same H H' → Acyc rs → Q .non H') ∧ ∀ (l : Addr) (xs : List Str) (H' : Hp), H l = none → H' l = some (.lst (xs.map V.str)) → RingG (Gof rs) xs → Same H H' → Q (.ref l) H'
theorem name_short {x : Str} (h : isNameB x = true) : x.length ≤ 1000 := by
  unfold isNameB at h
  simp only [Bool.and_eq_true, decide_eq_true_eq] at h
  omega
theorem tup_at {H : Hp} {us : List V} {rs : List (List Str)} (T : TupsAt H us rs) (h : ∀ r ∈ rs, rowL r = true) {i : Nat} {x : V} (e : us[i]? = some x) : ∃ b a o w', x = .ref b ∧ rs[i]? = some [a, o, w'] ∧ H b = some (.tup [.str a, .str o, .str w']) ∧ [a, o, w'] ∈ rs ∧ isNameB a = true ∧ isNameB o = true := by
  have hi : i < rs.length := by rw [← T.1]; exact (List.getElem?_eq_some_iff.mp e).1
  have er := List.getElem?_eq_getElem hi
  obtain ⟨b, e3, hb⟩ := T.2 i x rs[i] e er
  obtain ⟨a, o, w', ef, n1, n2, _⟩ := rowL_form (h rs[i] (List.getElem_mem hi))
  have hm : rs[i] ∈ rs := List.getElem_mem hi
  rw [ef] at hb er hm
  exact ⟨b, a, o, w', e3, er, hb, hm, n1, n2⟩
theorem ok_elder (Y : Ev K mg) : FnOk P w K mg base CX0 2 Y.a_elder_ring Y.d_elder_ring p_elder_ring spElder := by
  have G_least_ranks : FnOk P w K mg base CX0 1 Y.a_least_ranks Y.d_least_ranks p_least_ranks spLeast := ok_least Y
  have G_ring_without : FnOk P w K mg base CX0 1 Y.a_ring_without Y.d_ring_without p_ring_without spRingW := ok_ringW Y
  refine Y.elder_ring.fn.okQ c_elder_ring (fun vs H Q E h => ?_) (fun cdv A outer s H vs Q E hr h => ?_)
  · obtain ⟨p, us, rs, rfl, _⟩ := h; rfl
  · obtain ⟨p, us, rs, rfl, hp, T, hrow, r20, qn, q⟩ := h
    have ul := T.1
    refine ⟨_, (b_cons (s_setdcomp2 1 (src := [none, none]) o_elder_ring_1 rfl rfl c_elder_ring.nd (i_tup (qv 0)) (fun _ _ _ _ _ => (g_name 0 o_elder_ring_1.nd)) (fun _ _ _ _ _ => f_nil) (fun _ _ _ _ _ => ((i_tupK (K := K) rfl) (q_sl (sl_tupAK (K := K) rfl) (qv 0) o_none (o_some q_int)))) (fun _ _ _ _ _ => (g_name 1 o_elder_ring_1.nd)) (fun _ _ _ _ _ => f_nil) (fun _ _ _ _ _ => (qv 1)) (fun _ _ _ _ _ => (q_lst a_nil)))
      (b_cons (s_for PassesOwn.never rfl (i_tup (qv 0)) (g_tup 3 rfl (gs_cons (g_name 2 c_elder_ring.nd) (gs_cons (g_name 3 c_elder_ring.nd) (gs_cons (g_name 4 c_elder_ring.nd) gs_nil)))) (b_one (s_if (t_cmp op_eq (qv 4) q_str) (b_one (s_expr (q_bm PySem.F.plainAttrs_list PySem.F.slot_list_append PySem.F.type_list_append mt_append (q_dget (hu1 hr) (qv 1) (qv 3)) (a_cons (qv 2) a_nil)))) b_nil)))
      (b_one (s_ret (q_call G_ring_without (hr.mono (by decide)) Y.ring_without.mg Y.ring_without.kp Y.ring_without.b .nil pass0 (a_cons (qv 1) (a_cons (q_call G_least_ranks (hr.mono (by decide)) Y.least_ranks.mg Y.least_ranks.kp Y.least_ranks.b .nil pass0 (a_cons (qv 1) a_nil)) a_nil))))))), ?_⟩
    refine ⟨_, rfl, p, rfl, ⟨_, .inl (.inl hp)⟩, ?_⟩
    refine dcomp2_by (wk_tup (K := K) (xs := us)) (fun l i kvs σ' H' => (∃ o1 o2, σ' = [o1, o2]) ∧ Same H H' ∧ ∃ ks, EL H H' kvs ks (fun _ => []) ∧ ks.length ≤ 2 * i ∧ (∀ x ∈ ks, isNameB x = true) ∧ ∀ a b w', [a, b, w'] ∈ rs.take i → a ∈ ks ∧ b ∈ ks) ?_ ?_ ?_ ?_
    · exact fun l hl => ⟨⟨_, _, rfl⟩, Same.new hl, [], EL.nil, Nat.le_refl _, fun _ z => (nomatch z), fun a b w' z => by rw [List.take_zero] at z; cases z⟩
    · rintro l i kvs σ' H' hl ⟨_, s1, _⟩
      exact .inl (.inl (s1 _ _ hp))
    · rintro l i x kvs σ' H1 hl hi hx ⟨⟨o1, o2, rfl⟩, s1, ks, L1, kl, kn, kc⟩ hl1
      obtain ⟨b, a, o, w', rfl, er, hb, hm, n1, n2⟩ := tup_at T hrow hx
      have hi' : i < rs.length := by omega
      refine ⟨_, rfl, _, rfl, b, _, rfl, .inl (.inl (s1 _ _ hb)), fun z => ?_, fun p2 hp2 => ?_⟩
      · have : cutV [V.str a, V.str o, V.str w'] none (some ((2 : Nat) : Int)) = [V.str a, V.str o] := cut_take (n := 2)
        have z' : cutV [V.str a, V.str o, V.str w'] none (some ((2 : Nat) : Int)) = [V.str a, V.str o, V.str w'] := z
        rw [this] at z'
        cases z'
      have ec : cutV [V.str a, V.str o, V.str w'] none (some 2) = [V.str a, V.str o] := cut_take (n := 2)
      rw [ec]
      have S2 := Same.new (o := .tup [V.str a, V.str o]) hp2
      refine ⟨p2, rfl, ⟨_, .inl (.inl upd_same)⟩, S2 _ _ hl1, ?_⟩
      refine din_by (wk_tup (K := K) (xs := [V.str a, V.str o])) (fun j kvs σ' H' => (∃ o2, σ' = [some (.ref b), o2]) ∧ Same H H' ∧ H' p2 = some (.tup [V.str a, V.str o]) ∧ ∃ ks, EL H H' kvs ks (fun _ => []) ∧ ks.length ≤ 2 * i + j ∧ (∀ x ∈ ks, isNameB x = true) ∧ (∀ a b w', [a, b, w'] ∈ rs.take i → a ∈ ks ∧ b ∈ ks) ∧ (0 < j → a ∈ ks) ∧ (1 < j → o ∈ ks)) ?_ ?_ ?_ ?_
      · exact ⟨⟨_, rfl⟩, s1.trans S2, upd_same, ks, L1.mono fun _ _ e => S2 _ _ e, kl, kn, kc, fun z => absurd z (Nat.lt_irrefl _), fun z => absurd z (Nat.not_lt_zero _)⟩
      · rintro j kvs σ' H' ⟨_, _, h, _⟩
        exact .inl (.inl h)
      · rintro j x kvs σ' H3 hj hx ⟨⟨o2, rfl⟩, s3, hp3, ks, L3, kl3, kn3, kc3, ka3, kb3⟩ hl3
        obtain ⟨nm, rfl, hnm, en⟩ : ∃ nm, x = .str nm ∧ isNameB nm = true ∧ ((j = 0 ∧ nm = a) ∨ (j = 1 ∧ nm = o)) := by
          match j, hj with
          | 0, _ => cases hx; exact ⟨a, rfl, n1, .inl ⟨rfl, rfl⟩⟩
          | 1, _ => cases hx; exact ⟨o, rfl, n2, .inr ⟨rfl, rfl⟩⟩
        have j2 : j < 2 := hj
        have hkl : kvs.length = ks.length := by have := congrArg List.length L3.keys; rwa [List.length_map, List.length_map] at this
        refine ⟨_, rfl, few rfl, fun p4 hp4 => ⟨Sum.inr nm, rfl, ?_, ?_, ⟨_, rfl⟩, ?_, ?_, addS ks nm, ?_, ?_, ?_, ?_, ?_, ?_⟩⟩
        · exact Same.new hp4 _ _ hl3
        · rw [hkl]; exact small1000 (by omega)
        · exact fun c o' e => by rw [upd_ne (ne_of_none e hl)]; exact Same.new hp4 _ _ (s3 _ _ e)
        · rw [upd_ne (ne_of hp3 hl3 (fun z => nomatch z))]; exact Same.new hp4 _ _ hp3
        · refine L3.put rfl hp4 (s3.free hp4) (fun l' xs e => ?_) ?_
          · rw [upd_ne (ne_of e hl3 (fun z => nomatch z))]; exact Same.new hp4 _ _ e
          · rw [upd_ne (Ne.symm (ne_of_none hl3 hp4))]; exact upd_same
        · have := len_addS (ks := ks) (x := nm); omega
        · intro y hy
          rcases mem_addS.mp hy with h | h
          · exact kn3 y h
          · rw [h]; exact hnm
        · intro a' b' w2 z
          obtain ⟨h1, h2⟩ := kc3 a' b' w2 z
          exact ⟨mem_addS.mpr (.inl h1), mem_addS.mpr (.inl h2)⟩
        · intro _
          rcases en with ⟨_, rfl⟩ | ⟨rfl, _⟩
          · exact mem_addS.mpr (.inr rfl)
          · exact mem_addS.mpr (.inl (ka3 (Nat.lt_succ_self 0)))
        · intro z
          rcases en with ⟨rfl, _⟩ | ⟨_, rfl⟩
          · exact absurd z (Nat.lt_irrefl _)
          · exact mem_addS.mpr (.inr rfl)
      · rintro kvs σ' H3 ⟨⟨o2, rfl⟩, s3, hp3, ks, L3, kl3, kn3, kc3, ka3, kb3⟩ hl3
        refine ⟨⟨_, _, rfl⟩, s3, ks, L3, by have : [V.str a, V.str o].length = 2 := rfl; omega, kn3, fun a' b' w2 z => ?_⟩
        rw [List.take_add_one, er] at z
        rcases List.mem_append.mp z with z | z
        · exact kc3 a' b' w2 z
        · have z : [a', b', w2] = [a, o, w'] := by simpa using z
          cases z
          exact ⟨ka3 (by decide : 0 < 2), kb3 (by decide : 1 < 2)⟩
    · rintro l kvs σ' H1 hl ⟨⟨o1, o2, rfl⟩, s1, ks, L1, kl, kn, kc⟩ hl1
      have kc' : ∀ a b w' : Str, [a, b, w'] ∈ rs → a ∈ ks ∧ b ∈ ks := by rw [ul, List.take_length] at kc; exact kc
      have hkl : ks.length ≤ 40 := by omega
      have hp1 := s1 _ _ hp
      refine ⟨_, rfl, p, rfl, ⟨_, .inl (.inl hp1)⟩, ?_⟩
      refine for_by (wk_tup (K := K) (xs := us)) (fun i σ' H' => (∃ o2 o3 o4, σ' = [some (.ref p), some (.ref l), o2, o3, o4]) ∧ Same H H' ∧ H' l = some (.dK kvs) ∧ EL H H' kvs ks (Gof (rs.take i))) ?_ ?_ ?_ ?_
      · exact ⟨⟨_, _, _, rfl⟩, s1, hl1, L1⟩
      · rintro i σ' H' ⟨_, s', _⟩
        exact .inl (.inl (s' _ _ hp))
      · rintro i x σ' H2 hi hx ⟨⟨o2, o3, o4, rfl⟩, s2, hl2, L2⟩
        obtain ⟨b, a, o, w', rfl, er, hb, hm, n1, n2⟩ := tup_at T hrow hx
        refine ⟨b, _, rfl, .inl (.inl (s2 _ _ hb)), rfl, _, _, rfl, _, _, rfl, _, _, rfl, rfl, ?_⟩
        have tk : rs.take (i + 1) = rs.take i ++ [[a, o, w']] := by rw [List.take_add_one, er]; rfl
        refine ⟨_, rfl, rfl, _, rfl, ite2 (fun hc => ?_) (fun hc => ?_)⟩
        · have hw : w' = ("over" : Str) := by
            have := of_decide_eq_true hc
            injection this
          subst hw
          have ok : o ∈ ks := (kc' _ _ _ hm).2
          obtain ⟨lo, ev, hlo, hlo0⟩ := L2.at_ o ok
          have hget : DGet H2 l (.str o) (some (.ref lo)) := by have := DGet.k (k := Sum.inr o) hl2; rw [ev] at this; exact this
          have gl : (Gof (rs.take i) o).length ≤ 20 := by
            have := Gof_len (rs := rs.take i) (b := o)
            rw [List.length_take] at this
            omega
          refine ⟨_, rfl, _, rfl, l, _, rfl, hget, .inl ⟨rfl, _, SqL.of hlo⟩, _, rfl, lo, _, _, rfl, rfl, hlo, ?_, ⟨_, _, _, rfl⟩, ?_, ?_, ?_⟩
          · rw [List.length_map]; exact small1000 (by omega)
          · exact fun c o' e => by rw [upd_ne (ne_of_none e hlo0)]; exact s2 _ _ e
          · rw [upd_ne (ne_of hl2 hlo (fun z => nomatch z))]; exact hl2
          · refine L2.app ok ev ?_ fun y hy => ?_
            · rw [tk, Gof_snoc, if_pos ⟨rfl, rfl⟩]
            · rw [tk, Gof_snoc, if_neg (fun z => hy z.1.symm), List.append_nil]
        · have hw : w' ≠ ("over" : Str) := fun z => hc (by rw [z]; rfl)
          refine ⟨⟨_, _, _, rfl⟩, s2, hl2, ?_⟩
          have : Gof (rs.take (i + 1)) = Gof (rs.take i) := by
            funext c
            rw [tk, Gof_snoc, if_neg (fun z => hw z.2), List.append_nil]
          rw [this]; exact L2
      · rintro σ' H2 ⟨⟨o2, o3, o4, rfl⟩, s2, hl2, L2⟩
        rw [ul, List.take_length] at L2
        have L3 : Led H2 kvs ks (Gof rs) := L2.led (fun x hx y hy => (kc' _ _ _ ((mem_Gof hrow).mp hy)).1) (fun x hx => name_short (kn x hx)) ⟨by omega, fun x _ => by have := Gof_len (rs := rs) (b := x); omega⟩
        refine ⟨_, rfl, _, rfl, l, kvs, ks, Gof rs, rfl, hl2, L3, fun t tk H3 ht0 ht3 Tl s3 => ?_⟩
        have nlt : l ≠ t := ne_of_none hl2 ht0
        have back : ∀ H4, Keep l H3 H4 → Same H H4 := fun H4 k c o e => k c o (ne_of_none e hl) (s3 _ _ (s2 _ _ e))
        refine ⟨l, t, kvs, tk, ks, Gof rs, rfl, s3 _ _ hl2, ht3, nlt, L3.same s3, Tl.opn, fun H4 k4 all => qn H4 (back H4 k4) (acyc_of hrow Tl (fun a b m => (kc' _ _ _ m).2) all), fun lx xs H4 hlx hx4 R k4 => q lx xs H4 (s2.free (s3.free hlx)) hx4 R (back H4 k4)⟩
end
end K63

set_option Elab.async false
set_option linter.all false
set_option maxRecDepth 100000
set_option maxHeartbeats 4000000
namespace K63
open PySem PySem.Spec PyProof.Rows L2 RW
local macro_rules | `(tactic| walk_at "cond") => `(tactic| first | assumption | decide | omega | exact few rfl | exact .inl ⟨by decide, by decide⟩ | exact .inr ⟨by decide, by decide⟩ | exact .inl ⟨by omega, by omega⟩ | exact .inr ⟨by omega, by omega⟩ | exact ⟨by omega, by omega⟩ | exact ⟨by assumption, by assumption⟩ | exact ⟨by decide, by decide, by decide⟩ | exact .inr ⟨by split <;> decide, by split <;> decide⟩)
local macro_rules | `(tactic| walk_at "rd") => `(tactic| first | with_reducible_and_instances refine ⟨_, rfl, ?_⟩ | refine ⟨_, rfl, ?_⟩ | refine ⟨_, _, rfl, rfl, ?_⟩ | refine ⟨_, _, _, _, rfl, rfl, SqL.of (by assumption), rfl, ?_⟩ | refine ⟨_, _, _, _, rfl, rfl, (by assumption), rfl, ?_⟩ | refine .inl ⟨_, rfl, ?_⟩ | refine .inr ⟨_, rfl, ?_⟩ | refine .inl ⟨_, _, rfl, .inl (by assumption), ?_⟩ | refine ⟨(by walk_at "cond"), ?_⟩)
local macro_rules | `(tactic| walk_at "dsp") => `(tactic| repeat' (first | exact dsp_str (by decide) | exact dsp_int | exact dsp_bl | exact dsp_non | exact dsp_neg | exact dspA_nil | exact dsp_dnew | exact dsp_disp rfl | exact dsp_var rfl (by assumption) | refine dspA_cons ?_ ?_ | refine dsp_tup ?_ ?_ | refine dsp_lst' ?_ | refine n_cons ?_ ?_ | exact n_nil | exact v_c | exact v_var rfl | refine v_tup ?_ | refine dspl_lst ?_ ?_ | refine dspl_cat ?_ ?_ ?_ | exact dspl_var rfl (by assumption) (by assumption) | exact Nat.le_of_ble_eq_true rfl))
local macro_rules | `(tactic| walk_at "each") => `(tactic| repeat' (first | exact forall_nil | refine List.forall_mem_append.mpr ⟨?_, ?_⟩ | refine List.forall_mem_cons.mpr ⟨?_, ?_⟩))
section
variable {P : Program} {w : World} {K : PySem.W.Frag} {mg : Str → Option Value} {base : Heap}
def spPeel : Sp := fun vs H Q _ => ∃ (p : Addr) (us : List V) (rs : List (List Str)), vs = [.ref p] ∧ H p = some (.tup us) ∧ TupsAt H us rs ∧ (∀ r ∈ rs, rowL r = true) ∧ rs.length ≤ 20 ∧ ∀ (b : Bool) (H' : Hp), Same H H' → (b = true → Acyc rs) → (b = false → ¬ Acyc rs) → Q (.bl b) H'
theorem rowL3 {r : List Str} (h : rowL r = true) : r.length = 3 ∧ (∀ x ∈ r, x.length ≤ 1000) := by
  obtain ⟨a, b, w, rfl, ha, hb, _, hw⟩ := rowL_form h
  refine ⟨rfl, fun x hx => ?_⟩
  simp only [List.mem_cons, List.not_mem_nil, or_false] at hx
  rcases hx with rfl | rfl | rfl
  · exact name_short ha
  · exact name_short hb
  · rcases hw with ⟨rfl, _⟩ | rfl <;> decide
theorem ix_row {r : List Str} {k : Nat} (h : rowL r = true) (hk : k < 3) : atI (r.map V.str) (k : Int) = some (.str (at_ r k)) := by
  have hl := (rowL3 h).1
  refine atI_nat ?_
  rw [List.getElem?_map, List.getElem?_eq_getElem (by omega)]
  simp [List.getD, show k < r.length by omega]
theorem filt_eq {R : List (List Str)} {g : List Str → Bool} (h : (R.filter g).length = R.length) : R.filter g = R := List.filter_eq_self.mpr (List.length_filter_eq_length_iff.mp h)
theorem ok_peel (Y : Ev K mg) : FnOk P w K mg base CX0 1 Y.a__law_peeled Y.d__law_peeled p__law_peeled spPeel := by
  refine Y._law_peeled.fn.okQ c__law_peeled (fun vs H Q E h => ?_) (fun cdv A outer s H vs Q E hr h => ?_)
  · obtain ⟨p, us, rs, rfl, _⟩ := h; rfl
  · obtain ⟨p, us, rs, rfl, hp, T, hrow, r20, q⟩ := h
    have ul := T.1
    refine ⟨_, (b_cons (s_setcomp 1 (src := [none]) o__law_peeled_1 rfl rfl c__law_peeled.nd (i_tup (qv 0)) (fun _ _ _ _ _ => (g_name 0 o__law_peeled_1.nd)) (fun _ _ _ _ _ => (f_one (t_cmp op_eq (q_ix (ix_tupK (K := K) rfl) (qv 0) q_int) q_str))) (fun _ _ _ _ _ => (qv 0)))
      (b_cons (s_set 2 c__law_peeled.nd (q_op op_add (q_callB call_len2 Y.len bt_len (a_cons (qv 1) a_nil)) q_int))
      (b_cons (s_while (t_cmp op_lt (q_callB call_len2 Y.len bt_len (a_cons (qv 1) a_nil)) (qv 2)) (b_cons (s_set 2 c__law_peeled.nd (q_callB call_len2 Y.len bt_len (a_cons (qv 1) a_nil)))
      (b_cons (s_setC 3 c__law_peeled.nd (q_comp (src := [none]) o__law_peeled_2 rfl rfl (i_list (qv 1)) (fun _ _ _ _ _ => (g_name 0 o__law_peeled_2.nd)) (fun _ _ _ _ _ => f_nil) (fun _ _ _ _ _ => (q_ix (ix_tupK (K := K) rfl) (qv 0) q_int))))
      (b_one (s_setcomp 1 (src := [none, some 3]) o__law_peeled_3 rfl rfl c__law_peeled.nd (i_list (qv 1)) (fun _ _ _ _ _ => (g_name 0 o__law_peeled_3.nd)) (fun _ _ _ _ _ => (f_one (t_cmp (op_in_seqK (K := K) rfl) (q_ix (ix_tupK (K := K) rfl) (qv 0) q_int) (qc 1)))) (fun _ _ _ _ _ => (qv 0)))))))
      (b_one (s_ret (q_cmp (op_eqD (hu64 hr)) (qv 1) (q_lst a_nil))))))), ?_⟩
    refine ⟨_, rfl, p, rfl, ⟨_, .inl (.inl hp)⟩, ?_⟩
    refine comp_TR (us := us) (rs := rs) (g := fun r => decide (at_ r 2 = ("over" : Str))) (σr := []) (wk_tup (K := K)) T (fun H' s => .inl (.inl (s _ _ hp))) (by omega) rfl (fun b r HA Q1 sA hm hb k => ?_) fun l1 us1 H1 s1 hl10 hl1 T1 => ?_
    · refine ⟨_, rfl, b, _, 2, _, rfl, rfl, .inl (.inl hb), ix_row (k := 2) (hrow r hm) (by decide), rfl, _, rfl, ?_⟩
      have := k HA (Same.refl _)
      rw [show decide (V.str (at_ r 2) = V.str "over") = decide (at_ r 2 = ("over" : Str)) from decide_eq_decide.mpr ⟨fun z => by injection z, fun z => by rw [z]⟩]
      exact this
    have P1 := Peel.first rs
    have fl1 := List.length_filter_le (fun r => decide (at_ r 2 = ("over" : Str))) rs
    generalize rs.filter (fun r => decide (at_ r 2 = ("over" : Str))) = R1 at *
    refine ⟨_, rfl, .inl ⟨l1, _, rfl, .inl (SqL.of hl1), _, _, rfl, rfl, ?_⟩⟩
    have u1 := T1.1
    refine ⟨fun m σ' H' => ∃ (o3 : Option V) (l : Addr) (us : List V) (R : List (List Str)), σ' = [some (.ref p), some (.ref l), some (.int (m : Int)), o3] ∧ H' l = some (.lst us) ∧ TupsAt H' us R ∧ Peel rs R ∧ Same H H' ∧ R.length ≤ 20 ∧ (R.length < m ∨ (R.length = m ∧ (R.filter fun r => decide (at_ r 0 ∈ belowOf R)).length = R.length)), ⟨R1.length + 1, none, l1, us1, R1, by rw [u1]; rfl, hl1, T1, P1, s1, by omega, .inl (Nat.lt_succ_self _)⟩, ?_⟩
    rintro m σ' H2 ⟨o3, l, us2, R, rfl, hl2, T2, P2, s2, R20, hm⟩
    have u2 := T2.1
    refine ⟨_, rfl, .inl ⟨l, _, rfl, .inl (SqL.of hl2), _, rfl, _, _, rfl, rfl, _, rfl, ite2 (fun hc => ?_) (fun hc => ?_)⟩⟩
    · have hlt : R.length < m := by have := of_decide_eq_true hc; omega
      refine ⟨fun σ' H' => ∃ m', m' < m ∧ ∃ (o3 : Option V) (l : Addr) (us : List V) (R : List (List Str)), σ' = [some (.ref p), some (.ref l), some (.int (m' : Int)), o3] ∧ H' l = some (.lst us) ∧ TupsAt H' us R ∧ Peel rs R ∧ Same H H' ∧ R.length ≤ 20 ∧ (R.length < m' ∨ (R.length = m' ∧ (R.filter fun r => decide (at_ r 0 ∈ belowOf R)).length = R.length)), fun _ _ z => z, ?_⟩
      refine ⟨_, rfl, .inl ⟨l, _, rfl, .inl (SqL.of hl2), ?_⟩⟩
      have hrR : ∀ r ∈ R, rowL r = true := fun r hr => hrow r (P2.sub r hr).1
      refine ⟨_, rfl, l, rfl, ⟨_, SqL.of hl2⟩, ?_⟩
      refine comp_TS (us := us2) (rs := R) (f := fun r => at_ r 1) (σr := []) (wk_list (K := K)) T2 (fun H' s => SqL.of (s _ _ hl2)) (by omega) rfl (fun b r HA Q1 sA hm hb k => ⟨_, rfl, b, _, 1, _, rfl, rfl, .inl (.inl hb), ix_row (k := 1) (hrR r hm) (by decide), k⟩) fun l3 H3 s3 hl30 hl3 => ?_
      refine ⟨_, rfl, l, rfl, ⟨_, SqL.of (s3 _ _ hl2)⟩, ?_⟩
      refine comp_TR (us := us2) (rs := R) (g := fun r => decide (at_ r 0 ∈ belowOf R)) (σr := [some (.ref l3)]) (wk_list (K := K)) (tups_sm T2 s3) (fun H' s => SqL.of (s _ _ (s3 _ _ hl2))) (by omega) rfl (fun b r HA Q1 sA hm hb k => ?_) fun l4 us4 H4 s4 hl40 hl4 T4 => ?_
      · refine ⟨_, rfl, b, _, 0, _, rfl, rfl, .inl (.inl hb), ix_row (k := 0) (hrR r hm) (by decide), _, rfl, l3, _, rfl, .inl (SqL.of (sA _ _ hl3)), rfl, flat_strs, _, rfl, ?_⟩
        have := k HA (Same.refl _)
        rw [inS]
        exact this
      have fl := List.length_filter_le (fun r => decide (at_ r 0 ∈ belowOf R)) R
      refine ⟨R.length, hlt, _, l4, us4, _, by rw [u2]; rfl, hl4, T4, P2.next, s2.trans (s3.trans s4), by omega, ?_⟩
      rcases Nat.lt_or_ge (R.filter fun r => decide (at_ r 0 ∈ belowOf R)).length R.length with z | z
      · exact .inl z
      · have e : (R.filter fun r => decide (at_ r 0 ∈ belowOf R)).length = R.length := by omega
        refine .inr ⟨e, ?_⟩
        rw [filt_eq e]; exact e
    · have hge : ¬ R.length < m := fun z => hc (decide_eq_true (by omega))
      have full := (hm.resolve_left hge).2
      refine ⟨_, rfl, few rfl, fun p3 hp3 => ?_⟩
      have S3 := Same.new (o := .lst ([] : List V)) hp3
      have hrR : ∀ r ∈ R, rowL r = true := fun r hr => hrow r (P2.sub r hr).1
      have tr := tr_list (S3 _ _ hl2) (repT (tups_sm T2 S3) fun r hr => ⟨by rw [(rowL3 (hrR r hr)).1]; decide, (rowL3 (hrR r hr)).2⟩) (fun d hd => by obtain ⟨r, hr, rfl⟩ := List.mem_map.mp hd; exact row_okD (hrR r hr))
      refine ⟨_, _, tr, tr_lst0 upd_same, Nat.le_trans (Nat.min_le_right _ _) depthL0, ?_⟩
      rw [list_eqv0]
      refine q _ _ (s2.trans S3) (fun z => ?_) (fun z => ?_)
      · have e : R = [] := List.map_eq_nil_iff.mp (of_decide_eq_true z)
        subst e
        exact P2.nil
      · have e : R ≠ [] := fun y => of_decide_eq_false z (by rw [y]; rfl)
        exact P2.some hrow full e
end
end K63

set_option Elab.async false
set_option linter.all false
set_option maxRecDepth 100000
set_option maxHeartbeats 4000000
namespace K63
open PySem PySem.Spec PyProof.Rows L2 RW
local macro_rules | `(tactic| walk_at "cond") => `(tactic| first | assumption | decide | omega | exact few rfl | exact .inl ⟨by decide, by decide⟩ | exact .inr ⟨by decide, by decide⟩ | exact .inl ⟨by omega, by omega⟩ | exact .inr ⟨by omega, by omega⟩ | exact ⟨by omega, by omega⟩ | exact ⟨by assumption, by assumption⟩ | exact ⟨by decide, by decide, by decide⟩ | exact .inr ⟨by split <;> decide, by split <;> decide⟩)
local macro_rules | `(tactic| walk_at "rd") => `(tactic| first | with_reducible_and_instances refine ⟨_, rfl, ?_⟩ | refine ⟨_, rfl, ?_⟩ | refine ⟨_, _, rfl, rfl, ?_⟩ | refine ⟨_, _, _, _, rfl, rfl, SqL.of (by assumption), rfl, ?_⟩ | refine ⟨_, _, _, _, rfl, rfl, (by assumption), rfl, ?_⟩ | refine .inl ⟨_, rfl, ?_⟩ | refine .inr ⟨_, rfl, ?_⟩ | refine .inl ⟨_, _, rfl, .inl (by assumption), ?_⟩ | refine ⟨(by walk_at "cond"), ?_⟩)
local macro_rules | `(tactic| walk_at "dsp") => `(tactic| repeat' (first | exact dsp_str (by decide) | exact dsp_int | exact dsp_bl | exact dsp_non | exact dsp_neg | exact dspA_nil | exact dsp_dnew | exact dsp_disp rfl | exact dsp_var rfl (by assumption) | refine dspA_cons ?_ ?_ | refine dsp_tup ?_ ?_ | refine dsp_lst' ?_ | refine n_cons ?_ ?_ | exact n_nil | exact v_c | exact v_var rfl | refine v_tup ?_ | refine dspl_lst ?_ ?_ | refine dspl_cat ?_ ?_ ?_ | exact dspl_var rfl (by assumption) (by assumption) | exact Nat.le_of_ble_eq_true rfl))
local macro_rules | `(tactic| walk_at "each") => `(tactic| repeat' (first | exact forall_nil | refine List.forall_mem_append.mpr ⟨?_, ?_⟩ | refine List.forall_mem_cons.mpr ⟨?_, ?_⟩))
section
variable {P : Program} {w : World} {K : PySem.W.Frag} {mg : Str → Option Value} {base : Heap}
def spRight : Sp := fun vs H Q _ => ∃ (p : Addr) (v : V) (us : List V) (rs : List (List Str)), vs = [.ref p, v] ∧ H p = some (.tup us) ∧ TupsAt H us rs ∧ (∀ r ∈ rs, rowL r = true) ∧ (rs.map tieL).Nodup ∧ rs.length ≤ 20 ∧
  ((v = .non ∧ Acyc rs) ∨ ∃ (l : Addr) (xs : List Str), v = .ref l ∧ H l = some (.lst (xs.map V.str)) ∧ RingG (Gof rs) xs) ∧ ∀ H', Same H H' → Q (.bl true) H'
theorem ring_few {rs : List (List Str)} {xs : List Str} (h : ∀ r ∈ rs, rowL r = true) (R : RingG (Gof rs) xs) : xs.length ≤ rs.length + 1 := by
  have : (xs.drop 1).length ≤ (belowOf rs).length := nodup_len R.nd fun b hb => by
    obtain ⟨i, hi, rfl⟩ := List.getElem_of_mem hb
    rw [List.length_drop] at hi
    have e : (xs.drop 1)[i] = xs[i + 1] := by rw [List.getElem_drop]; congr 1; omega
    rw [e]
    have := (mem_Gof h).mp (R.nxt i xs[i] xs[i + 1] (List.getElem?_eq_getElem _) (List.getElem?_eq_getElem _))
    exact List.mem_map.mpr ⟨_, this, rfl⟩
  unfold belowOf at this
  rw [List.length_drop, List.length_map] at this
  omega
theorem ok_right (Y : Ev K mg) : FnOk P w K mg base CX0 2 Y.a__law_right Y.d__law_right p__law_right spRight := by
  have G__law_peeled : FnOk P w K mg base CX0 1 Y.a__law_peeled Y.d__law_peeled p__law_peeled spPeel := ok_peel Y
  refine Y._law_right.fn.okQ c__law_right (fun vs H Q E h => ?_) (fun cdv A outer s H vs Q E hr h => ?_)
  · obtain ⟨p, v, us, rs, rfl, _⟩ := h; rfl
  · obtain ⟨p, v, us, rs, rfl, hp, T, hrow, hnd, r20, hv, q⟩ := h
    refine ⟨_, (b_cons (s_if (t_val (q_call G__law_peeled (hr.mono (by decide)) Y._law_peeled.mg Y._law_peeled.kp Y._law_peeled.b .nil pass0 (a_cons (qc 0) a_nil))) (b_one (s_ret (q_cmp op_isN (qv 1) q_non))) b_nil)
      (b_cons (s_if (t_w (w_or (t_not (t_val (q_callB call_isi Y.isinstance bt_isinstance (a_cons (qv 1) (a_cons (q_ty Y.list bt_list) a_nil))))) (w_or (t_cmp op_lt (q_callB call_len2 Y.len bt_len (a_cons (qv 1) a_nil)) q_int) (w_or1 (t_cmp op_ne (q_ix ix_list (qv 1) q_int) (q_ix ix_list (qv 1) (q_un un_neg q_int))))))) (b_one (s_ret q_bl)) b_nil)
      (b_cons (s_if (t_w (w_or (t_not (t_val (q_callB (call_allB rfl) Y.all bt_all (a_cons (q_comp (src := [none]) o__law_right_1 rfl rfl (i_list (qv 1)) (fun _ _ _ _ _ => (g_name 0 o__law_right_1.nd)) (fun _ _ _ _ _ => f_nil) (fun _ _ _ _ _ => (q_callB (call_isiK (K := K) rfl) Y.isinstance bt_isinstance (a_cons (qv 0) (a_cons (q_ty Y.str bt_str) a_nil))))) a_nil)))) (w_or1 (t_cmp op_ne (q_callB call_lenS Y.len bt_len (a_cons (q_callTy (call_setS rfl) Y.set bt_set (a_cons (q_sl sl_list (qv 1) (o_some q_int) o_none) a_nil)) a_nil)) (q_op op_sub (q_callB call_len2 Y.len bt_len (a_cons (qv 1) a_nil)) q_int))))) (b_one (s_ret q_bl)) b_nil)
      (b_one (s_ret (q_callB (call_allB rfl) Y.all bt_all (a_cons (q_comp (src := [none, none, some 0]) o__law_right_2 rfl rfl (i_zip Y.zip (a_cons (qv 1) (a_cons (q_sl sl_list (qv 1) (o_some q_int) o_none) a_nil))) (fun _ _ _ _ _ => (g_tupK (K := K) 2 rfl rfl (gs_cons (g_name 0 o__law_right_2.nd) (gs_cons (g_name 1 o__law_right_2.nd) gs_nil)))) (fun _ _ _ _ _ => f_nil) (fun _ _ _ _ _ => (q_cmp (op_inD (hu64 hr)) (q_tup (a_cons (qv 0) (a_cons (qv 1) (a_cons q_str a_nil)))) (qc 2)))) a_nil))))))), ?_⟩
    refine ⟨_, rfl, p, us, rs, rfl, hp, T, hrow, r20, fun b H1 s1 h1 h2 => ⟨_, rfl, ?_⟩⟩
    rcases hv with ⟨rfl, ac⟩ | ⟨l, xs, rfl, hl, R⟩
    · cases b with
      | false => exact absurd ac (h2 rfl)
      | true => exact if_t rfl ⟨_, rfl, rfl, q H1 s1⟩
    · cases b with
      | true => exact absurd (h1 rfl) (R.not_acyc hrow)
      | false =>
        have h4 := R.four hrow hnd
        have xf := ring_few hrow R
        have hl1 := s1 _ _ hl
        refine if_f rfl ?_
        obtain ⟨ys, z, rfl⟩ : ∃ ys z, xs = ys ++ [z] := ⟨xs.dropLast, xs.getLast (fun z => by rw [z] at h4; simp at h4), (List.dropLast_concat_getLast _).symm⟩
        have e0 : atI ((ys ++ [z]).map V.str) (0 : Int) = some (.str z) := by
          refine atI_nat (j := 0) ?_
          have := R.ends
          rw [List.length_append, List.length_singleton, Nat.add_sub_cancel, List.getElem?_append_right (Nat.le_refl _), Nat.sub_self] at this
          rw [List.getElem?_map, this]; rfl
        have e1 : atI ((ys ++ [z]).map V.str) (-1 : Int) = some (.str z) := by rw [List.map_append]; exact atI_last _ _
        refine ⟨_, rfl, .ref l, "list", _, true, rfl, .lst hl1, rfl, _, rfl, if_f rfl ?_⟩
        refine ⟨_, rfl, .inl ⟨l, _, rfl, .inl (SqL.of hl1), _, _, rfl, rfl, _, rfl, if_f ?_ ?_⟩⟩
        · refine decide_eq_false ?_
          rw [List.length_map]
          omega
        refine ⟨_, rfl, l, _, 0, _, rfl, rfl, SqL.of hl1, e0, _, rfl, 1, rfl, l, _, -1, _, rfl, rfl, SqL.of hl1, e1, rfl, _, rfl, if_f (by rw [decide_eq_true rfl]; rfl) ?_⟩
        refine ⟨_, rfl, l, rfl, ⟨_, SqL.of hl1⟩, ?_⟩
        refine comp_S (xs := ys ++ [z]) (f := fun _ => .bl true) (g := fun _ => true) (σr := []) (wk_list (K := K)) (fun H' s => SqL.of (s _ _ hl1)) (by omega) rfl (fun y HA Q1 sA hy k => k HA (Same.refl _)) (fun y HA Q1 sA hy _ k => ⟨_, rfl, .str y, "str", _, true, rfl, .str y, rfl, k HA (Same.refl _)⟩) fun l2 H2 s2 hl20 hb2 => ?_
        rw [bls_map (f := fun _ => true)] at hb2
        refine ⟨l2, _, rfl, SqL.of hb2, _, rfl, if_f ?_ ?_⟩
        · rw [show (((ys ++ [z]).map fun _ => true).all id) = true by rw [List.all_map]; exact List.all_eq_true.mpr fun _ _ => rfl]; rfl
        have hl2 := s2 _ _ hl1
        have e2 : cutV ((ys ++ [z]).map V.str) (some 1) none = ((ys ++ [z]).drop 1).map V.str := by rw [List.map_drop]; exact cut_drop (m := 1)
        refine ⟨_, rfl, _, rfl, l, _, rfl, SqL.of hl2, fun p3 hp3 => ?_⟩
        rw [e2]
        have S3 := Same.new (o := .lst (((ys ++ [z]).drop 1).map V.str)) hp3
        have dl : ((ys ++ [z]).drop 1).length = (ys ++ [z]).length - 1 := List.length_drop
        refine ⟨p3, _, rfl, upd_same, by omega, R.nd, fun p4 hp4 => ?_⟩
        refine ⟨p4, _, rfl, upd_same, by omega, ?_⟩
        generalize h4' : upd (upd H2 p3 (HO.lst (((ys ++ [z]).drop 1).map V.str))) p4 _ = H4
        have S4 : Same (upd H2 p3 (HO.lst (((ys ++ [z]).drop 1).map V.str))) H4 := by rw [← h4']; exact Same.new hp4
        clear h4'
        have hl4 := S4 _ _ (S3 _ _ hl2)
        refine ⟨_, rfl, .inl ⟨l, _, rfl, .inl (SqL.of hl4), _, _, rfl, rfl, rfl, _, rfl, if_f ?_ ?_⟩⟩
        · rw [decide_eq_true]; rfl
          show V.int _ = V.int _
          congr 1
          rw [List.length_map]
          omega
        have s14 := s1.trans (s2.trans (S3.trans S4))
        refine ⟨_, rfl, _, rfl, _, rfl, l, _, rfl, SqL.of hl4, fun p5 hp5 => ?_⟩
        rw [e2]
        have S5 := Same.new (o := .lst (((ys ++ [z]).drop 1).map V.str)) hp5
        have hl5 := S5 _ _ hl4
        have hp5' := upd_same (H := H4) (a := p5) (o := .lst (((ys ++ [z]).drop 1).map V.str))
        have s15 := s14.trans S5
        refine ⟨l, p5, false, false, _, _, rfl, hl5, hp5', ?_⟩
        generalize (upd H4 p5 (HO.lst (((ys ++ [z]).drop 1).map V.str))) = H5 at *
        have eN : min ((ys ++ [z]).map V.str).length (((ys ++ [z]).drop 1).map V.str).length = (ys ++ [z]).length - 1 := by rw [List.length_map, List.length_map, dl]; omega
        rw [eN]
        generalize ys ++ [z] = xs at *
        have tk : Tr H5 (.ref p) (.tuple (pyL (rs.map tD))) := by
          have rk : Rep H5 (.ref p) (.tup (rs.map tD)) := .mkL (s15 _ _ hp) (by rw [List.length_map]; omega) (repT (tups_sm T s15) fun r hr' => ⟨by rw [(rowL3 (hrow r hr')).1]; decide, (rowL3 (hrow r hr')).2⟩)
          have := tr_of rk (by rw [okD]; exact okL_of fun d hd => by obtain ⟨r, hr', rfl⟩ := List.mem_map.mp hd; exact row_okD (hrow r hr'))
          rw [pyD] at this
          exact this
        refine comp_byY (n := xs.length - 1) (fun lc i bs σ' H' => (∃ o1 o2, σ' = [o1, o2, some (.ref p)]) ∧ bs = (List.replicate i true).map V.bl ∧ Same H5 H') ?_ ?_ ?_ ?_ ?_
        · exact fun lc hlc => ⟨⟨_, _, rfl⟩, rfl, Same.new hlc⟩
        · rintro lc i bs σ' H' hlc hi ⟨_, _, s'⟩
          refine ⟨_, _, .str xs[i], .str xs[i + 1], s' _ _ hl5, s' _ _ hp5', eN, ?_, ?_⟩
          · rw [List.getElem?_map, List.getElem?_eq_getElem (by omega)]; rfl
          · rw [List.getElem?_map, List.getElem?_drop, Nat.add_comm 1 i, List.getElem?_eq_getElem (by omega)]; rfl
        · rintro lc bs σ' H' hlc ⟨_, _, s'⟩
          exact ⟨_, _, s' _ _ hl5, s' _ _ hp5', eN, Nat.le_refl _⟩
        · rintro lc i x bs σ' H6 H7 hlc hi ⟨⟨o1, o2, rfl⟩, rfl, s6⟩ hl6 ⟨Tt, xs', ys', u, v, hx', hy', rfl, hT, hu, hv, rfl⟩
          have ex : xs' = xs.map V.str := SqZ.inj (t := false) hx' (s6 _ _ hl5)
          have ey : ys' = (xs.drop 1).map V.str := SqZ.inj (t := false) hy' (s6 _ _ hp5')
          subst ex ey
          have hu' : u = .str xs[i] := by
            rw [List.getElem?_map, List.getElem?_eq_getElem (by omega)] at hu
            cases hu; rfl
          have hv' : v = .str xs[i + 1] := by
            rw [List.getElem?_map, List.getElem?_drop, Nat.add_comm 1 i, List.getElem?_eq_getElem (by omega)] at hv
            cases hv; rfl
          subst hu' hv'
          have hm : [xs[i], xs[i + 1], "over"] ∈ rs := (mem_Gof hrow).mp (R.nxt i xs[i] xs[i + 1] (List.getElem?_eq_getElem _) (List.getElem?_eq_getElem _))
          have hrm := hrow _ hm
          have S7 := Same.new (o := .tup [V.str xs[i], V.str xs[i + 1]]) hT
          refine ⟨Tt, _, rfl, .inl (.inl upd_same), rfl, _, _, rfl, _, _, rfl, rfl, ?_⟩
          refine ⟨_, rfl, _, rfl, few rfl, fun p8 hp8 => ?_⟩
          have S8 := Same.new (o := .tup [V.str xs[i], V.str xs[i + 1], V.str "over"]) hp8
          have s68 := S7.trans S8
          have s58 := s6.trans s68
          have t8 : Tr (upd (upd H6 Tt (.tup [V.str xs[i], V.str xs[i + 1]])) p8 (.tup [V.str xs[i], V.str xs[i + 1], V.str "over"])) (.ref p8) (pyD (tD [xs[i], xs[i + 1], "over"])) :=
            tr_of (.mkL upd_same (by decide : 3 ≤ 1000) (strs_rep (rowL3 hrm).2)) (row_okD hrm)
          have tk8 : Tr (upd (upd H6 Tt (.tup [V.str xs[i], V.str xs[i + 1]])) p8 (.tup [V.str xs[i], V.str xs[i + 1], V.str "over"])) (.ref p) (.tuple (pyL (rs.map tD))) := by
            have rk : Rep (upd (upd H6 Tt (.tup [V.str xs[i], V.str xs[i + 1]])) p8 (.tup [V.str xs[i], V.str xs[i + 1], V.str "over"])) (.ref p) (.tup (rs.map tD)) := .mkL (s58 _ _ (s15 _ _ hp)) (by rw [List.length_map]; omega) (repT (tups_sm T (s15.trans s58)) fun r hr' => ⟨by rw [(rowL3 (hrow r hr')).1]; decide, (rowL3 (hrow r hr')).2⟩)
            have := tr_of rk (by rw [okD]; exact okL_of fun d hd => by obtain ⟨r, hr', rfl⟩ := List.mem_map.mp hd; exact row_okD (hrow r hr'))
            rw [pyD] at this
            exact this
          refine ⟨_, rfl, _, _, t8, .inr tk8, row_dep, ?_⟩
          rw [row_in, decide_eq_true hm]
          refine ⟨s68 _ _ hl6, ?_, ⟨_, _, rfl⟩, ?_, fun c o e => ?_⟩
          · rw [List.length_map, List.length_replicate]; exact small1000 (by omega)
          · rw [List.replicate_succ', List.map_append]; rfl
          · rw [upd_ne (ne_of_none e hlc)]
            exact s68 _ _ (s6 _ _ e)
        · rintro lc bs σ' H6 hlc ⟨⟨o1, o2, rfl⟩, rfl, s6⟩ hl6
          refine ⟨lc, _, rfl, SqL.of hl6, ?_⟩
          rw [show (List.replicate (xs.length - 1) true).all id = true by rw [List.all_replicate]; simp]
          exact q H6 (s15.trans s6)
end
end K63

set_option Elab.async false
set_option linter.all false
set_option maxRecDepth 100000
set_option maxHeartbeats 4000000
namespace K63
open PySem PySem.Spec PyProof.Rows L2 RW
local macro_rules | `(tactic| walk_at "cond") => `(tactic| first | assumption | decide | omega | exact few rfl | exact .inl ⟨by decide, by decide⟩ | exact .inr ⟨by decide, by decide⟩ | exact .inl ⟨by omega, by omega⟩ | exact .inr ⟨by omega, by omega⟩ | exact ⟨by omega, by omega⟩ | exact ⟨by assumption, by assumption⟩ | exact ⟨by decide, by decide, by decide⟩ | exact .inr ⟨by split <;> decide, by split <;> decide⟩)
local macro_rules | `(tactic| walk_at "rd") => `(tactic| first | with_reducible_and_instances refine ⟨_, rfl, ?_⟩ | refine ⟨_, rfl, ?_⟩ | refine ⟨_, _, rfl, rfl, ?_⟩ | refine ⟨_, _, _, _, rfl, rfl, SqL.of (by assumption), rfl, ?_⟩ | refine ⟨_, _, _, _, rfl, rfl, (by assumption), rfl, ?_⟩ | refine .inl ⟨_, rfl, ?_⟩ | refine .inr ⟨_, rfl, ?_⟩ | refine .inl ⟨_, _, rfl, .inl (by assumption), ?_⟩ | refine ⟨(by walk_at "cond"), ?_⟩)
local macro_rules | `(tactic| walk_at "dsp") => `(tactic| repeat' (first | exact dsp_str (by decide) | exact dsp_int | exact dsp_bl | exact dsp_non | exact dsp_neg | exact dspA_nil | exact dsp_dnew | exact dsp_disp rfl | exact dsp_var rfl (by assumption) | refine dspA_cons ?_ ?_ | refine dsp_tup ?_ ?_ | refine dsp_lst' ?_ | refine n_cons ?_ ?_ | exact n_nil | exact v_c | exact v_var rfl | refine v_tup ?_ | refine dspl_lst ?_ ?_ | refine dspl_cat ?_ ?_ ?_ | exact dspl_var rfl (by assumption) (by assumption) | exact Nat.le_of_ble_eq_true rfl))
local macro_rules | `(tactic| walk_at "each") => `(tactic| repeat' (first | exact forall_nil | refine List.forall_mem_append.mpr ⟨?_, ?_⟩ | refine List.forall_mem_cons.mpr ⟨?_, ?_⟩))
section
variable {P : Program} {w : World} {K : PySem.W.Frag} {mg : Str → Option Value} {base : Heap}
def spTake : Sp := fun vs H Q _ => ∃ (a : Addr) (k n : Int), vs = [.ref a, .int k] ∧ Hand H a n ∧ n < 2 ^ 40 ∧ 0 < k ∧ k < 1073741824 ∧ ∀ d H', 0 ≤ d → d < k → Hand H' a (n + 1) → Keep a H H' → Q (.int d) H'
theorem ok_take (Y : Ev K mg) : FnOk P w K mg base CX0 1 Y.a__law_take Y.d__law_take p__law_take spTake := by
  refine Y._law_take.fn.okQ c__law_take (fun vs H Q E h => ?_) (fun cdv A outer s H vs Q E hr h => ?_)
  · obtain ⟨a, k, n, rfl, _⟩ := h
    rfl
  · obtain ⟨a, k, n, rfl, ⟨x, m, t, hH, m0, m1, t0, t1⟩, hn, k0, k1, q⟩ := h
    refine ⟨_, (b_cons (s_if (t_cmp op_gt (q_ix ix_list (qv 0) q_int) q_int) (b_cons (s_set 2 c__law_take.nd (q_op op_mod (q_ix ix_list (qv 0) q_int) (qv 1)))
      (b_cons (s_asg (q_op op_fdiv (q_ix ix_list (qv 0) q_int) (qv 1)) (g_sub (qv 0) q_int set_list))
      (b_one (s_ret (qv 2))))) b_nil)
      (b_cons (s_asg (q_op op_add (q_ix ix_list (qv 0) q_int) q_int) (g_sub (qv 0) q_int set_list))
      (b_cons (s_set 3 c__law_take.nd (q_ix ix_list (qv 0) q_int))
      (b_cons (s_set 4 c__law_take.nd (q_op op_mod (q_op op_mul (q_ix ix_list (qv 0) q_int) (q_op op_add (q_op op_add q_int (q_op op_mul (q_op op_mul q_int (qv 3)) (qv 3))) (q_op op_mul q_int (qv 3)))) q_int))
      (b_cons (s_set 5 c__law_take.nd (q_op op_add (q_op op_add (q_op op_mod (qv 4) q_int) (q_op op_mul (qv 3) q_int)) q_int))
      (b_cons (s_set 4 c__law_take.nd (q_op op_mod (q_op op_mul (qv 4) (qv 5)) q_int))
      (b_one (s_ret (q_op op_mod (q_op op_add (q_op op_fdiv (qv 4) q_int) (q_op op_fdiv (qv 4) q_int)) (qv 1)))))))))), ?_⟩
    repeat walk_at "rd"
    refine ite2 (fun hx => ?_) (fun hx => ?_)
    · repeat walk_at "rd"
      exact q _ _ (Int.emod_nonneg _ (by omega)) (Int.emod_lt_of_pos _ k0) ⟨_, m, t, upd_same, m0, m1, t0, by omega⟩ (Keep.upd _ _ _)
    · refine ⟨_, rfl, a, _, _, _, rfl, rfl, SqL.of hH, rfl, _, _, rfl, rfl, _, rfl, a, _, _, _, rfl, rfl, hH, rfl, ?_⟩
      have h2 : upd H a (.lst [.int x, .int m, .int (t + 1)]) a = some (.lst [.int x, .int m, .int (t + 1)]) := upd_same
      repeat walk_at "rd"
      exact q _ _ (Int.emod_nonneg _ (by omega)) (Int.emod_lt_of_pos _ k0) ⟨_, m, _, upd_same, m0, m1, by omega, by omega⟩ (Keep.upd _ _ _)
def spPick (K : PySem.W.Frag) : Sp := fun vs H Q _ => ∃ (a : Addr) (n : Int), Hand H a n ∧ n < 2 ^ 40 ∧
  ((∃ (b : Addr) (xs : List V), vs = [.ref a, .ref b] ∧ b ≠ a ∧ SqL K H b xs ∧ 0 < xs.length ∧ xs.length < 1000 ∧ ∀ v H', v ∈ xs → Hand H' a (n + 1) → Keep a H H' → Q v H') ∨
   (∃ z : Str, vs = [.ref a, .str z] ∧ 0 < z.length ∧ z.length < 1000 ∧ ∀ c H', c ∈ z.cps.toList → Hand H' a (n + 1) → Keep a H H' → Q (.str (one c)) H'))
theorem ok_pick (Y : Ev K mg) : FnOk P w K mg base CX0 2 Y.a__law_pick Y.d__law_pick p__law_pick (spPick K) := by
  have G__law_take : FnOk P w K mg base CX0 1 Y.a__law_take Y.d__law_take p__law_take spTake := ok_take Y
  refine Y._law_pick.fn.okQ c__law_pick (fun vs H Q E h => ?_) (fun cdv A outer s H vs Q E hr h => ?_)
  · obtain ⟨a, n, _, _, ⟨b, xs, rfl, _⟩ | ⟨z, rfl, _⟩⟩ := h <;> rfl
  · obtain ⟨a, n, hH, hn, h⟩ := h
    have hl : ∀ m : Nat, m < 1000 → m ≤ sizeLine := fun m h => Nat.le_of_lt (small1000 (Nat.le_of_lt h))
    rcases h with ⟨b, xs, rfl, hb, hS, x0, x1, q⟩ | ⟨z, rfl, z0, z1, q⟩
    · refine ⟨_, (b_one (s_ret (q_ix ix_seq (qv 1) (q_call G__law_take (hr.mono (by decide)) Y._law_take.mg Y._law_take.kp Y._law_take.b .nil pass0 (a_cons (qv 0) (a_cons (q_callB call_len2 Y.len bt_len (a_cons (qv 1) a_nil)) a_nil)))))), ?_⟩
      refine ⟨_, rfl, _, rfl, _, rfl, .inl ⟨b, xs, rfl, .inl hS, a, _, n, rfl, hH, hn, by omega, by omega, fun d H' h0 h1 hH' kp => ?_⟩⟩
      obtain ⟨v, e, hv⟩ := atI_mem h0 h1
      exact .inl ⟨b, xs, d, v, rfl, rfl, kp.sqL hb hS, e, q v H' hv hH' kp⟩
    · refine ⟨_, (b_one (s_ret (q_ix ix_seq (qv 1) (q_call G__law_take (hr.mono (by decide)) Y._law_take.mg Y._law_take.kp Y._law_take.b .nil pass0 (a_cons (qv 0) (a_cons (q_callB call_len2 Y.len bt_len (a_cons (qv 1) a_nil)) a_nil)))))), ?_⟩
      refine ⟨_, rfl, _, rfl, _, rfl, .inr ⟨z, rfl, hl _ z1, a, _, n, rfl, hH, hn, by omega, by omega, fun d H' h0 h1 hH' kp => ?_⟩⟩
      obtain ⟨c, e, hc⟩ := atI_mem (xs := z.cps.toList) h0 (by simpa [Str.length] using h1)
      exact .inr (.inr ⟨z, d, c, rfl, rfl, hl _ z1, e, q c H' hc hH' kp⟩)
def spHand (K : PySem.W.Frag) : Sp := fun vs H Q _ => ∃ (b : Addr) (ns : List Int) (k : Int), vs = [.ref b, .int k] ∧ SqL K H b (ns.map V.int) ∧ 0 ≤ k ∧ k < 1000 ∧ ∀ a H', H a = none → Hand H' a 0 → Same H H' → Q (.ref a) H'
theorem ok_hand (Y : Ev K mg) : FnOk P w K mg base CX0 1 Y.a__law_hand Y.d__law_hand p__law_hand (spHand K) := by
  refine Y._law_hand.fn.okQ c__law_hand (fun vs H Q E h => ?_) (fun cdv A outer s H vs Q E hr h => ?_)
  · obtain ⟨a, k, n, rfl, _⟩ := h
    rfl
  · obtain ⟨b, ns, k, rfl, hS, k0, k1, q⟩ := h
    refine ⟨_, (b_cons (s_set 2 c__law_hand.nd q_int)
      (b_cons (s_if (t_cmp op_lt (qv 1) (q_callB call_len2 Y.len bt_len (a_cons (qv 0) a_nil))) (b_one (s_set 2 c__law_hand.nd (q_ix ix_list (qv 0) (qv 1)))) b_nil)
      (b_one (s_ret (q_lst (a_cons (q_op op_mul (qv 2) (q_callTy call_int1 Y.int bt_int (a_cons (q_cmp op_ge (qv 2) (q_op op_pow q_int q_int)) a_nil))) (a_cons (q_op op_add (q_op op_add (q_op op_mod (qv 2) q_int) (q_op op_mul q_int (qv 1))) q_int) (a_cons q_int a_nil)))))))), ?_⟩
    refine ⟨_, rfl, _, rfl, .inl ⟨b, _, rfl, .inl hS, _, _, rfl, rfl, _, rfl, ?_⟩⟩
    refine ite2 (fun hx => ?_) (fun hx => ?_)
    · have hx' : k < ((ns.map V.int).length : Int) := of_decide_eq_true hx
      obtain ⟨v, e, hv⟩ := atI_mem k0 hx'
      obtain ⟨c, _, rfl⟩ := List.mem_map.mp hv
      refine ⟨_, rfl, _, rfl, b, _, k, _, rfl, rfl, hS, e, ?_⟩
      repeat walk_at "rd"
      intro p hp
      exact q p _ hp ⟨_, _, _, upd_same, by omega, by omega, by decide, by decide⟩ (fun b' o hb' => by rw [upd_ne (ne_of_none hb' hp)]; exact hb')
    · repeat walk_at "rd"
      intro p hp
      exact q p _ hp ⟨_, _, _, upd_same, by omega, by omega, by decide, by decide⟩ (fun b' o hb' => by rw [upd_ne (ne_of_none hb' hp)]; exact hb')
end
end K63

set_option Elab.async false
set_option linter.all false
set_option maxRecDepth 100000
set_option maxHeartbeats 4000000
namespace K63
open PySem PySem.Spec PyProof.Rows L2 RW
local macro_rules | `(tactic| walk_at "cond") => `(tactic| first | assumption | decide | omega | exact few rfl | exact .inl ⟨by decide, by decide⟩ | exact .inr ⟨by decide, by decide⟩ | exact .inl ⟨by omega, by omega⟩ | exact .inr ⟨by omega, by omega⟩ | exact ⟨by omega, by omega⟩ | exact ⟨by assumption, by assumption⟩ | exact ⟨by decide, by decide, by decide⟩ | exact .inr ⟨by split <;> decide, by split <;> decide⟩)
local macro_rules | `(tactic| walk_at "rd") => `(tactic| first | with_reducible_and_instances refine ⟨_, rfl, ?_⟩ | refine ⟨_, rfl, ?_⟩ | refine ⟨_, _, rfl, rfl, ?_⟩ | refine ⟨_, _, _, _, rfl, rfl, SqL.of (by assumption), rfl, ?_⟩ | refine ⟨_, _, _, _, rfl, rfl, (by assumption), rfl, ?_⟩ | refine .inl ⟨_, rfl, ?_⟩ | refine .inr ⟨_, rfl, ?_⟩ | refine .inl ⟨_, _, rfl, .inl (by assumption), ?_⟩ | refine ⟨(by walk_at "cond"), ?_⟩)
local macro_rules | `(tactic| walk_at "dsp") => `(tactic| repeat' (first | exact dsp_str (by decide) | exact dsp_int | exact dsp_bl | exact dsp_non | exact dsp_neg | exact dspA_nil | exact dsp_dnew | exact dsp_disp rfl | exact dsp_var rfl (by assumption) | refine dspA_cons ?_ ?_ | refine dsp_tup ?_ ?_ | refine dsp_lst' ?_ | refine n_cons ?_ ?_ | exact n_nil | exact v_c | exact v_var rfl | refine v_tup ?_ | refine dspl_lst ?_ ?_ | refine dspl_cat ?_ ?_ ?_ | exact dspl_var rfl (by assumption) (by assumption) | exact Nat.le_of_ble_eq_true rfl))
local macro_rules | `(tactic| walk_at "each") => `(tactic| repeat' (first | exact forall_nil | refine List.forall_mem_append.mpr ⟨?_, ?_⟩ | refine List.forall_mem_cons.mpr ⟨?_, ?_⟩))
section
variable {P : Program} {w : World} {K : PySem.W.Frag} {mg : Str → Option Value} {base : Heap}

def spNames2 : Sp := fun vs H Q _ => ∃ (a : Addr) (n : Int) (m : Nat), vs = [.ref a, .int m] ∧ Hand H a n ∧ n < 2 ^ 39 ∧ m ≤ 13 ∧ ∀ (l : Addr) (xs : List Str) (H' : Hp), H l = none → H' l = some (.lst (xs.map V.str)) → xs.length = m → (∀ x ∈ xs, isNameB x = true) → xs.Nodup → (∀ x ∈ xs, x ≠ "nowhere") → Hand H' a (n + 4) → Keep a H H' → Q (.ref l) H'
theorem ok_names2 (Y : Ev K mg) : FnOk P w K mg base CX0 3 Y.a__law_names Y.d__law_names p__law_names spNames2 := by
  have G__law_take : FnOk P w K mg base CX0 1 Y.a__law_take Y.d__law_take p__law_take spTake := ok_take Y
  have G__law_pick : FnOk P w K mg base CX0 2 Y.a__law_pick Y.d__law_pick p__law_pick (spPick K) := ok_pick Y
  refine Y._law_names.fn.okQ c__law_names (fun vs H Q E h => ?_) (fun cdv A outer s H vs Q E hr h => ?_)
  · obtain ⟨a, n, m, rfl, _⟩ := h; rfl
  · obtain ⟨a, n, m, rfl, hH, hn, m13, q⟩ := h
    refine ⟨_, (b_cons (s_setC 2 c__law_names.nd q_str)
      (b_cons (s_setC 3 c__law_names.nd (q_call G__law_take (hr.mono (by decide)) Y._law_take.mg Y._law_take.kp Y._law_take.b .nil pass0 (a_cons (qv 0) (a_cons q_int a_nil))))
      (b_cons (s_setC 4 c__law_names.nd (q_call G__law_pick (hr.mono (by decide)) Y._law_pick.mg Y._law_pick.kp Y._law_pick.b .nil pass0 (a_cons (qv 0) (a_cons (q_lstC [V.int 1, V.int 3, V.int 5, V.int 7, V.int 9, V.int 11] (by decide +kernel)) a_nil))))
      (b_cons (s_setcomp 5 (src := [none, some 3, some 2, some 4]) o__law_names_1 rfl rfl c__law_names.nd (i_rng1 Y.range (a_cons (qv 1) a_nil)) (fun _ _ _ _ _ => (g_name 0 o__law_names_1.nd)) (fun _ _ _ _ _ => f_nil) (fun _ _ _ _ _ => (q_op op_mul_strN (q_ix ix_str (qc 2) (q_op op_mod (q_op op_add (qc 1) (q_op op_mul (qc 3) (qv 0))) q_int)) (q_op op_add q_int (q_op op_mod (q_op op_add (q_op op_mul (qv 0) (qv 0)) (qc 1)) q_int)))))
      (b_cut (s_if (t_cmp op_eq (q_call G__law_take (hr.mono (by decide)) Y._law_take.mg Y._law_take.kp Y._law_take.b .nil pass0 (a_cons (qv 0) (a_cons q_int a_nil))) q_int) (b_cons (s_set 6 c__law_names.nd (q_lstC [V.str "goal", V.str "to", V.str "by", V.str "houses", V.str "tie", V.str "like", V.str "hand", V.str "keep", V.str "put", V.str "mark", V.str "long", V.str "from", V.str "strike"] (by decide +kernel)))
      (b_cons (s_set 7 c__law_names.nd (q_call G__law_take (hr.mono (by decide)) Y._law_take.mg Y._law_take.kp Y._law_take.b .nil pass0 (a_cons (qv 0) (a_cons q_int a_nil))))
      (b_one (s_for PassesOwn.never rfl (i_rng1 Y.range (a_cons (q_callB (call_min2 rfl) Y.min bt_min (a_cons (qv 1) (a_cons q_int a_nil))) a_nil)) (g_name 8 c__law_names.nd) (b_one (s_asg (q_ix ix_list (qv 6) (q_op op_mod (q_op op_add (qv 7) (q_op op_mul q_int (qv 8))) q_int)) (g_sub (qv 5) (qv 8) set_list))))))) b_nil)
      (b_one (s_ret (qv 5)))))))), ?_⟩
    refine ⟨_, rfl, a, 26, n, rfl, hH, by omega, by decide, by decide, fun f' H1 f0 f26 hH1 k1 => ?_⟩
    obtain ⟨f, rfl⟩ : ∃ f : Nat, f' = (f : Int) := ⟨f'.toNat, by omega⟩
    refine ⟨_, rfl, by decide, fun pl hpl => ⟨a, n + 1, hH1.new hpl, by omega, .inl ⟨pl, _, rfl, hH1.ne hpl, SqL.of upd_same, by decide, by decide, fun v H2 hv hH2 k2 => ?_⟩⟩⟩
    obtain ⟨st, rfl, st0, st11⟩ : ∃ st : Nat, v = .int (st : Int) ∧ st ∈ steps ∧ st ≤ 11 := by
      simp only [List.mem_cons, List.not_mem_nil, or_false] at hv
      rcases hv with rfl | rfl | rfl | rfl | rfl | rfl
      · exact ⟨1, rfl, by decide, by decide⟩
      · exact ⟨3, rfl, by decide, by decide⟩
      · exact ⟨5, rfl, by decide, by decide⟩
      · exact ⟨7, rfl, by decide, by decide⟩
      · exact ⟨9, rfl, by decide, by decide⟩
      · exact ⟨11, rfl, by decide, by decide⟩
    have kp2 : Keep a H H2 := k1.trans ((Keep.new hpl).trans k2)
    refine ⟨_, rfl, m, rfl, by omega, by omega, ?_⟩
    refine comp_by wk_rng (fun l i ys σ' H' => (∃ o, σ' = [o, some (.int (f : Int)), some (.str lettersS), some (.int (st : Int))]) ∧ ys = ((List.range i).map (nmS f st)).map V.str ∧ Hand H' a (n + 1 + 1) ∧ Keep a H2 H') ?_ (fun _ _ _ _ _ _ _ => trivial) ?_ ?_
    · exact fun l hl => ⟨⟨_, rfl⟩, rfl, hH2.new hl, Keep.new hl⟩
    · rintro l i y ys σ' H' hl hi rfl ⟨⟨o, rfl⟩, rfl, hH', k'⟩ hl'
      have hi13 : i < 13 := by have : i < m := by omega
                               omega
      have hr26 : (f + st * i) % 26 < 26 := Nat.mod_lt _ (by decide)
      have ei : ((f : Int) + (st : Int) * (0 + (i : Int))) % 26 = (((f + st * i) % 26 : Nat) : Int) := by rw [Int.zero_add]; push_cast; rfl
      have ec : atI lettersS.cps.toList (((f : Int) + (st : Int) * (0 + (i : Int))) % 26) = some (97 + (f + st * i) % 26) := by
        rw [ei]; exact atI_nat (letters_at _ (List.mem_range.mpr hr26))
      have en : (1 + ((0 + (i : Int)) * (0 + (i : Int)) + (f : Int)) % 8) = ((1 + (i * i + f) % 8 : Nat) : Int) := by rw [Int.zero_add]; push_cast; rfl
      have g8 : (i * i + f) % 8 < 8 := Nat.mod_lt _ (by decide)
      refine ⟨_, rfl, _, rfl, _, rfl, _, rfl, _, _, rfl, rfl, .inl ⟨by omega, by omega⟩, _, _, rfl, rfl, _, _, rfl, rfl, (by decide : (0 : Int) < 26), lettersS, _, _, rfl, rfl, by rw [letters_len]; decide, ec, _, rfl, _, rfl, _, _, rfl, rfl, .inl ⟨by omega, by omega⟩, _, rfl, _, _, rfl, rfl, _, _, rfl, rfl, (by decide : (0 : Int) < 8), _, _, rfl, rfl, one (97 + (f + st * i) % 26), _, rfl, rfl, by rw [en]; omega, by rw [en]; omega, by rw [one_len]; decide, by rw [one_len]; decide, ?_⟩
      have nl := hH2.ne hl
      refine ⟨hl', ?_, ⟨_, rfl⟩, ?_, hH'.updNe nl, k'.updNew hl⟩
      · rw [List.length_map, List.length_map, List.length_range]; exact small1000 (by omega)
      · rw [en, Int.toNat_natCast, List.range_succ, List.map_append, List.map_append]; rfl
    · rintro l ys σ' H3 hl ⟨⟨o, rfl⟩, rfl, hH3, k3⟩ hl'
      have nl := hH2.ne hl
      rw [Int.toNat_natCast] at hl'
      have e0 : (List.range m).map (nmS f st) = (List.range m).map (nameS f st 0 0) := by
        apply List.map_congr_left
        intro k _
        unfold nameS
        rw [if_neg (by omega)]
      have hln : H l = none := by
        cases e : H l with
        | none => rfl
        | some o => exact absurd (kp2 l o nl e) (by rw [hl]; exact fun z => nomatch z)
      refine ⟨fun σ' H' => (∃ o6 o7 o8, σ' = [some (.ref a), some (.int m), some (.str lettersS), some (.int (f : Int)), some (.int (st : Int)), some (.ref l), o6, o7, o8]) ∧ (∃ sp j : Nat, H' l = some (.lst (((List.range m).map (nameS f st sp j)).map V.str)) ∧ sp < 13 ∧ j ≤ 4) ∧ Hand H' a (n + 4) ∧ Keep a H H', ?_, ?_⟩
      · refine ⟨_, rfl, a, 6, n + 1 + 1, rfl, hH3, by omega, by decide, by decide, fun d H4 d0 d6 hH4 k4 => ⟨rfl, _, rfl, ite2 (fun _ => ?_) (fun _ => ?_)⟩⟩
        · have hl4 := k4 _ _ nl hl'
          have kp4 : Keep a H H4 := (kp2.trans k3).trans k4
          refine ⟨by decide, fun pk hpk => ?_⟩
          have npl : pk ≠ l := fun z => by rw [z, hl4] at hpk; cases hpk
          have npa := hH4.ne hpk
          refine ⟨_, rfl, a, 13, n + 1 + 1 + 1, rfl, hH4.new hpk, by omega, by decide, by decide, fun sp' H5 sp0 sp13 hH5 k5 => ?_⟩
          obtain ⟨sp, rfl⟩ : ∃ f : Nat, sp' = (f : Int) := ⟨sp'.toNat, by omega⟩
          refine ⟨_, rfl, _, _, rfl, _, rfl, ?_, ?_, ?_⟩
          · split <;> omega
          · split <;> omega
          have e4 : (if (4 : Int) < (m : Int) then (4 : Int) else (m : Int)).toNat = min 4 m := by split <;> omega
          rw [e4]
          refine for_by wk_rng (fun i σ' H' => (∃ o8, σ' = [some (.ref a), some (.int m), some (.str lettersS), some (.int (f : Int)), some (.int (st : Int)), some (.ref l), some (.ref pk), some (.int (sp : Int)), o8]) ∧ H' l = some (.lst (((List.range m).map (nameS f st sp i)).map V.str)) ∧ Hand H' a (n + 4) ∧ Keep a H H' ∧ H' pk = some (.lst (keptL.map V.str))) ?_ (fun _ _ _ _ => trivial) ?_ ?_
          · refine ⟨⟨_, rfl⟩, ?_, hH5.mono (by omega), kp4.trans ((Keep.new hpk).trans k5), k5 _ _ npa upd_same⟩
            have e0' : (List.range m).map (nmS f st) = (List.range m).map (nameS f st sp 0) := by
              apply List.map_congr_left
              intro k _
              unfold nameS
              rw [if_neg (by omega)]
            rw [← e0']
            exact k5 _ _ nl (by rw [upd_ne (Ne.symm npl)]; exact hl4)
          · rintro i y σ' H6 hi4 rfl ⟨⟨o8, rfl⟩, hz, hH6, k6, hp6⟩
            have ek : ((sp : Int) + 3 * (0 + (i : Int))) % 13 = (((sp + 3 * i) % 13 : Nat) : Int) := by rw [Int.zero_add]; push_cast; rfl
            have ev : atI (keptL.map V.str) (((sp : Int) + 3 * (0 + (i : Int))) % 13) = some (.str (kwS sp i)) := by
              rw [ek]; exact atI_nat (by rw [List.getElem?_map, kept_at]; rfl)
            have hix : ixN (((List.range m).map (nameS f st sp i)).map V.str).length (0 + (i : Int)) = some i := by
              unfold ixN
              rw [if_pos (by omega), if_pos (by rw [List.length_map, List.length_map, List.length_range]; omega)]
              congr 1
              omega
            refine ⟨_, rfl, _, rfl, _, rfl, _, _, rfl, rfl, .inl ⟨by decide, by decide⟩, _, _, rfl, rfl, _, _, rfl, rfl, (by decide : (0 : Int) < 13), pk, _, _, _, rfl, rfl, SqL.of hp6, ev, _, rfl, _, rfl, l, _, _, i, rfl, rfl, hz, hix, ?_⟩
            refine ⟨⟨_, rfl⟩, ?_, hH6.updNe nl, k6.updNew hln, by rw [upd_ne npl]; exact hp6⟩
            rw [upd_same, ← List.map_set, name_set (by omega)]
          · rintro σ' H6 ⟨⟨o8, rfl⟩, hz, hH6, k6, _⟩
            exact ⟨⟨_, _, _, rfl⟩, ⟨sp, min 4 m, hz, by omega, by omega⟩, hH6, k6⟩
        · rw [e0] at hl'
          exact ⟨⟨_, _, _, rfl⟩, ⟨0, 0, k4 _ _ nl hl', by decide, by decide⟩, hH4.mono (by omega), (kp2.trans k3).trans k4⟩
      · rintro σ' H' ⟨⟨o6, o7, o8, rfl⟩, ⟨sp, j, hz, hsp, hj⟩, hH', k'⟩
        refine ⟨_, rfl, q l _ H' hln hz (by rw [List.length_map, List.length_range]) (fun x hx => ?_) (names_nodup (by omega) st0 hsp hj m13) (fun x hx => ?_) hH' k'⟩
        · obtain ⟨k, _, rfl⟩ := List.mem_map.mp hx
          exact name_ok _ _ _ _ _
        · obtain ⟨k, _, rfl⟩ := List.mem_map.mp hx
          exact name_here _ _ _ _ _
end
end K63

set_option Elab.async false
set_option linter.all false
set_option maxRecDepth 100000
set_option maxHeartbeats 4000000
namespace K63
open PySem PySem.Spec PyProof.Rows L2 RW
local macro_rules | `(tactic| walk_at "cond") => `(tactic| first | assumption | decide | omega | exact few rfl | exact .inl ⟨by decide, by decide⟩ | exact .inr ⟨by decide, by decide⟩ | exact .inl ⟨by omega, by omega⟩ | exact .inr ⟨by omega, by omega⟩ | exact ⟨by omega, by omega⟩ | exact ⟨by assumption, by assumption⟩ | exact ⟨by decide, by decide, by decide⟩ | exact .inr ⟨by split <;> decide, by split <;> decide⟩)
local macro_rules | `(tactic| walk_at "rd") => `(tactic| first | with_reducible_and_instances refine ⟨_, rfl, ?_⟩ | refine ⟨_, rfl, ?_⟩ | refine ⟨_, _, rfl, rfl, ?_⟩ | refine ⟨_, _, _, _, rfl, rfl, SqL.of (by assumption), rfl, ?_⟩ | refine ⟨_, _, _, _, rfl, rfl, (by assumption), rfl, ?_⟩ | refine .inl ⟨_, rfl, ?_⟩ | refine .inr ⟨_, rfl, ?_⟩ | refine .inl ⟨_, _, rfl, .inl (by assumption), ?_⟩ | refine ⟨(by walk_at "cond"), ?_⟩)
local macro_rules | `(tactic| walk_at "dsp") => `(tactic| repeat' (first | exact dsp_str (by decide) | exact dsp_int | exact dsp_bl | exact dsp_non | exact dsp_neg | exact dspA_nil | exact dsp_dnew | exact dsp_disp rfl | exact dsp_var rfl (by assumption) | refine dspA_cons ?_ ?_ | refine dsp_tup ?_ ?_ | refine dsp_lst' ?_ | refine n_cons ?_ ?_ | exact n_nil | exact v_c | exact v_var rfl | refine v_tup ?_ | refine dspl_lst ?_ ?_ | refine dspl_cat ?_ ?_ ?_ | exact dspl_var rfl (by assumption) (by assumption) | exact Nat.le_of_ble_eq_true rfl))
local macro_rules | `(tactic| walk_at "each") => `(tactic| repeat' (first | exact forall_nil | refine List.forall_mem_append.mpr ⟨?_, ?_⟩ | refine List.forall_mem_cons.mpr ⟨?_, ?_⟩))
section
variable {P : Program} {w : World} {K : PySem.W.Frag} {mg : Str → Option Value} {base : Heap}
def spRows63 : Sp := fun vs H Q _ => ∃ (a h : Addr) (n : Int) (xs : List Str) (many : Nat), vs = [.ref a, .ref h, .int many] ∧ Hand H a n ∧ n < 2 ^ 38 ∧ H h = some (.lst (xs.map V.str)) ∧ h ≠ a ∧ 0 < xs.length ∧ xs.length ≤ 13 ∧ (∀ x ∈ xs, isNameB x = true) ∧ many ≤ 20 ∧
  ∀ (l : Addr) (us : List V) (rs : List (List Str)) (H' : Hp), l ≠ a → H' l = some (.lst us) → TupsAt H' us rs → (∀ r ∈ rs, rowL r = true) → (rs.map tieL).Nodup → rs.length ≤ 20 → Hand H' a (n + 60) → Keep a H H' → Q (.ref l) H'
theorem ok_rows63 (Y : Ev K mg) : FnOk P w K mg base CX0 3 Y.a__law_rows Y.d__law_rows p__law_rows spRows63 := by
  have G__law_pick : FnOk P w K mg base CX0 2 Y.a__law_pick Y.d__law_pick p__law_pick (spPick K) := ok_pick Y
  refine Y._law_rows.fn.okQ c__law_rows (fun vs H Q E h => ?_) (fun cdv A outer s H vs Q E hr h => ?_)
  · obtain ⟨a, h, n, xs, many, rfl, _⟩ := h; rfl
  · obtain ⟨a, h, n, xs, many, rfl, hH, hn, hh, nha, x0, x13, hnm, m20, q⟩ := h
    refine ⟨_, (b_cons (s_setC 3 c__law_rows.nd q_dnewT)
      (b_cons (s_for PassesOwn.never rfl (i_rng1 Y.range (a_cons (qv 2) a_nil)) (g_name 4 c__law_rows.nd) (b_cons (s_par 5 6 c__law_rows.nd (a_cons (q_call G__law_pick (hr.mono (by decide)) Y._law_pick.mg Y._law_pick.kp Y._law_pick.b .nil pass0 (a_cons (qv 0) (a_cons (qv 1) a_nil))) (a_cons (q_call G__law_pick (hr.mono (by decide)) Y._law_pick.mg Y._law_pick.kp Y._law_pick.b .nil pass0 (a_cons (qv 0) (a_cons (qv 1) a_nil))) a_nil)))
      (b_one (s_if (t_w (w_and (t_cmp op_ne (qv 5) (qv 6)) (w_and1 (t_cmp (op_niK (hu1 hr)) (q_tup (a_cons (q_callB (call_min2S rfl) Y.min bt_min (a_cons (qv 5) (a_cons (qv 6) a_nil))) (a_cons (q_callB (call_max2S rfl) Y.max bt_max (a_cons (qv 5) (a_cons (qv 6) a_nil))) a_nil))) (qc 3))))) (b_cons (s_set 7 c__law_rows.nd (q_lst (a_cons (q_tup (a_cons (qv 5) (a_cons (qv 6) (a_cons q_str a_nil)))) (a_cons (q_tup (a_cons (qv 5) (a_cons (qv 6) (a_cons q_str a_nil)))) (a_cons (q_tup (a_cons (q_callB (call_min2S rfl) Y.min bt_min (a_cons (qv 5) (a_cons (qv 6) a_nil))) (a_cons (q_callB (call_max2S rfl) Y.max bt_max (a_cons (qv 5) (a_cons (qv 6) a_nil))) (a_cons q_str a_nil)))) a_nil)))))
      (b_one (s_dput (hu1 hr) (qc 3) (q_tup (a_cons (q_callB (call_min2S rfl) Y.min bt_min (a_cons (qv 5) (a_cons (qv 6) a_nil))) (a_cons (q_callB (call_max2S rfl) Y.max bt_max (a_cons (qv 5) (a_cons (qv 6) a_nil))) a_nil))) (q_call G__law_pick (hr.mono (by decide)) Y._law_pick.mg Y._law_pick.kp Y._law_pick.b .nil pass0 (a_cons (qv 0) (a_cons (qv 7) a_nil)))))) b_nil))))
      (b_one (s_ret (q_comp (src := [none, some 3]) o__law_rows_1 rfl rfl (i_dictT (qc 3)) (fun _ _ _ _ _ => (g_name 0 o__law_rows_1.nd)) (fun _ _ _ _ _ => f_nil) (fun _ _ _ _ _ => (q_dget (hu1 hr) (qc 1) (qv 0)))))))), ?_⟩
    refine fun dd hdd => ?_
    have nda : dd ≠ a := hH.ne hdd
    have S0 := Same.new (o := .dT []) hdd
    refine ⟨_, rfl, many, rfl, by omega, by omega, ?_⟩
    rw [Int.toNat_natCast]
    refine for_by wk_rng (fun i σ' H' => (∃ o4 o5 o6 o7, σ' = [some (.ref a), some (.ref h), some (.int many), some (.ref dd), o4, o5, o6, o7]) ∧ (∃ kvs rs, H' dd = some (.dT kvs) ∧ RT H' kvs rs ∧ rs.length ≤ i) ∧ Hand H' a (n + 3 * i) ∧ Keep a H H') ?_ (fun _ _ _ _ => trivial) ?_ ?_
    · exact ⟨⟨_, _, _, _, rfl⟩, ⟨[], [], upd_same, RT.nil, Nat.le_refl _⟩, (hH.new hdd).mono (by omega), Keep.of S0⟩
    · rintro i y σ' H1 hi rfl ⟨⟨o4, o5, o6, o7, rfl⟩, ⟨kvs, rs, hd1, R1, rl⟩, hH1, k1⟩
      have hh1 := k1 _ _ nha hh
      refine ⟨_, rfl, _, rfl, a, _, hH1, by omega, .inl ⟨h, _, rfl, nha, SqL.of hh1, by rw [List.length_map]; exact x0, by rw [List.length_map]; omega, fun v1 H2 hv1 hH2 k2 => ?_⟩⟩
      have hh2 := k2 _ _ nha hh1
      refine ⟨_, rfl, _, rfl, a, _, hH2, by omega, .inl ⟨h, _, rfl, nha, SqL.of hh2, by rw [List.length_map]; exact x0, by rw [List.length_map]; omega, fun v2 H3 hv2 hH3 k3 => ?_⟩⟩
      obtain ⟨x, hx, rfl⟩ := List.mem_map.mp hv1
      obtain ⟨z, hz, rfl⟩ := List.mem_map.mp hv2
      have nx := hnm x hx
      have nz := hnm z hz
      have k13 := k2.trans k3
      have k03 := k1.trans k13
      have hd3 := k13 _ _ nda hd1
      have m13 : Mono H1 H3 := (Mono.keep k2 hH1 hH2).trans (.keep k3 hH2 hH3)
      have R3 : RT H3 kvs rs := R1.mono fun b xs e => m13.tup _ _ e
      have skip : ∀ (x4 x5 x6 x7 : Option V), ∃ o4 o5 o6 o7 : Option V, [some (V.ref a), some (V.ref h), some (V.int many), some (V.ref dd), x4, x5, x6, x7] = [some (V.ref a), some (V.ref h), some (V.int many), some (V.ref dd), o4, o5, o6, o7] := fun _ _ _ _ => ⟨_, _, _, _, rfl⟩
      refine ⟨_, _, rfl, _, rfl, _, rfl, rfl, _, rfl, ?_⟩
      by_cases hne : x = z
      · subst hne
        rw [decide_eq_true rfl]
        exact if_f rfl (if_f rfl ⟨skip _ _ _ _, ⟨kvs, rs, hd3, R3, by omega⟩, hH3.mono (by push_cast; omega), k03⟩)
      rw [decide_eq_false (fun e => hne (by injection e))]
      refine if_t rfl ⟨_, rfl, _, rfl, _, _, rfl, _, rfl, _, rfl, _, _, rfl, few rfl, fun p4 hp4 => ?_⟩
      have S4 := Same.new (o := .tup [V.str (mnS x z), V.str (mxS x z)]) hp4
      have g4 := DGet.t (k := kOf [mnS x z, mxS x z]) (S4 _ _ hd3) (upd_same (H := H3) (a := p4) (o := .tup [V.str (mnS x z), V.str (mxS x z)]))
      refine ⟨_, rfl, dd, _, rfl, g4, _, rfl, ?_⟩
      have hd4 := S4 _ _ hd3
      have R4 : RT _ kvs rs := R3.mono fun b xs e => S4 _ _ e
      have hH4 := hH3.new (o := .tup [V.str (mnS x z), V.str (mxS x z)]) hp4
      have k04 := k03.trans (Keep.of (a := a) S4)
      clear g4
      generalize (upd H3 p4 (.tup [V.str (mnS x z), V.str (mxS x z)])) = H4 at *
      cases ev : valV kvs (kOf [mnS x z, mxS x z]) with
      | some v => exact if_f rfl ⟨skip _ _ _ _, ⟨kvs, rs, hd4, R4, by omega⟩, hH4.mono (by push_cast; omega), k04⟩
      | none =>
        refine if_t rfl ⟨_, rfl, _, rfl, few rfl, fun p5 hp5 => ⟨_, rfl, _, rfl, few rfl, fun p6 hp6 => ⟨_, rfl, _, rfl, _, _, rfl, _, rfl, _, rfl, _, _, rfl, few rfl, fun p7 hp7 => ⟨few rfl, fun l8 hl8 => ?_⟩⟩⟩⟩
        have S5 := Same.new (o := .tup [V.str x, V.str z, V.str "over"]) hp5
        have S6 := Same.new (o := .tup [V.str x, V.str z, V.str "over"]) hp6
        have S7 := Same.new (o := .tup [V.str (mnS x z), V.str (mxS x z), V.str "equal"]) hp7
        have S8 := Same.new (o := .lst [V.ref p5, V.ref p6, V.ref p7]) hl8
        have e5 := S8 _ _ (S7 _ _ (S6 _ _ (upd_same (H := H4) (a := p5) (o := .tup [V.str x, V.str z, V.str "over"]))))
        have e6 := S8 _ _ (S7 _ _ (upd_same (H := upd H4 p5 (.tup [V.str x, V.str z, V.str "over"])) (a := p6) (o := .tup [V.str x, V.str z, V.str "over"])))
        have e7 := S8 _ _ (upd_same (H := upd (upd H4 p5 (.tup [V.str x, V.str z, V.str "over"])) p6 (.tup [V.str x, V.str z, V.str "over"])) (a := p7) (o := .tup [V.str (mnS x z), V.str (mxS x z), V.str "equal"]))
        have s48 := S5.trans (S6.trans (S7.trans S8))
        have hH8 := hH4.same s48
        have nl8 : l8 ≠ a := (hH4.same (S5.trans (S6.trans S7))).ne hl8
        refine ⟨_, rfl, _, rfl, a, _, hH8, by omega, .inl ⟨l8, _, rfl, nl8, SqL.of upd_same, (by decide : 0 < 3), (by decide : 3 < 1000), fun v9 H9 hv9 hH9 k9 => ?_⟩⟩
        have m9 := Mono.keep k9 hH8 hH9
        generalize (upd (upd (upd (upd H4 p5 (.tup [V.str x, V.str z, V.str "over"])) p6 (.tup [V.str x, V.str z, V.str "over"])) p7 (.tup [V.str (mnS x z), V.str (mxS x z), V.str "equal"])) l8 (.lst [V.ref p5, V.ref p6, V.ref p7])) = H8 at *
        have R9 : RT H9 kvs rs := R4.mono fun b xs e => m9.tup _ _ (s48 _ _ e)
        have hd9 := k9 _ _ nda (s48 _ _ hd4)
        obtain ⟨b9, r9, rfl, hr9, ht9, hb9⟩ : ∃ b r, v9 = .ref b ∧ rowL r = true ∧ tieL r = pr x z ∧ H9 b = some (.tup (r.map V.str)) := by
          simp only [List.mem_cons, List.not_mem_nil, or_false] at hv9
          rcases hv9 with rfl | rfl | rfl
          · exact ⟨p5, _, rfl, row_over nx nz hne, rfl, m9.tup _ _ e5⟩
          · exact ⟨p6, _, rfl, row_over nx nz hne, rfl, m9.tup _ _ e6⟩
          · exact ⟨p7, _, rfl, row_equal nx nz hne, mm_pr, m9.tup _ _ e7⟩
        refine ⟨_, rfl, _, rfl, _, rfl, _, _, rfl, _, rfl, _, rfl, _, _, rfl, few rfl, fun p10 hp10 => ?_⟩
        have S10 := Same.new (o := .tup [V.str (mnS x z), V.str (mxS x z)]) hp10
        have hd10 := S10 _ _ hd9
        have ek : kOf (tieL r9) = kOf [mnS x z, mxS x z] := by rw [ht9, pr_mm hne]
        refine ⟨dd, _, rfl, .inr ⟨kvs, kOf [mnS x z, mxS x z], p10, hd10, rfl, upd_same, ?_, rfl⟩, skip _ _ _ _, ⟨_, rs ++ [r9], upd_same, ?_, ?_⟩, ?_, ?_⟩
        · have := R4.len
          exact small1000 (by omega)
        · have := (R9.mono fun b xs e => S10 _ _ e).put hr9 (by rw [ek]; exact ev) (S10 _ _ hb9)
          rw [ek] at this
          refine this.mono fun b xs e => ?_
          rw [upd_ne (ne_of e hd10 (fun z => nomatch z))]; exact e
        · rw [List.length_append, List.length_singleton]; omega
        · exact ((hH9.new hp10).updNe nda).mono (by push_cast; omega)
        · exact Keep.updNew (k04.trans ((Keep.of s48).trans (k9.trans (Keep.of S10)))) hdd
    · rintro σ' H1 ⟨⟨o4, o5, o6, o7, rfl⟩, ⟨kvs, rs, hd1, R1, rl⟩, hH1, k1⟩
      refine ⟨_, rfl, dd, kvs, rfl, hd1, fun o bs KA nd => ?_⟩
      have hd2 : upd H1 dd (.frz o (.dT kvs)) dd = some (.frz o (.dT kvs)) := upd_same
      have hH2 := hH1.updNe (o := .frz o (.dT kvs)) nda
      have k2 : Keep a H (upd H1 dd (.frz o (.dT kvs))) := k1.updNew hdd
      have tu : ∀ b xs, H1 b = some (.tup xs) → upd H1 dd (.frz o (.dT kvs)) b = some (.tup xs) := fun b xs e => by rw [upd_ne (ne_of e hd1 (fun z => nomatch z))]; exact e
      have R2 := R1.mono tu
      have KA2 : KeysAt (upd H1 dd (.frz o (.dT kvs))) bs kvs := ⟨KA.1, fun i b kv e1 e2 => tu _ _ (KA.2 i b kv e1 e2)⟩
      generalize upd H1 dd (.frz o (.dT kvs)) = H2 at *
      have kl := R2.len
      refine comp_by wk_dT (fun l i ys σ' H' => (∃ o1, σ' = [o1, some (.ref dd)]) ∧ TupsAt H' ys (rs.take i) ∧ Same H2 H') ?_ ?_ ?_ ?_
      · exact fun l hl => ⟨⟨_, rfl⟩, tups_nil, Same.new hl⟩
      · exact fun l i ys σ' H' _ p => p.2.2 _ _ hd2
      · rintro l i y ys σ' H3 hl hi hy ⟨⟨o1, rfl⟩, T3, s3⟩ hl3
        rw [List.length_map, KA2.1] at hi
        have hi2 : i < rs.length := by omega
        obtain ⟨b, eb, rfl⟩ : ∃ b, bs[i]? = some b ∧ y = .ref b := by
          rw [List.getElem?_map] at hy
          cases e : bs[i]? with
          | none => rw [e] at hy; cases hy
          | some b => rw [e] at hy; cases hy; exact ⟨b, rfl, rfl⟩
        have ekv : kvs[i]? = some kvs[i] := List.getElem?_eq_getElem hi
        have er : rs[i]? = some rs[i] := List.getElem?_eq_getElem hi2
        obtain ⟨br, e1, e2, e3⟩ := R2.at_ i kvs[i] rs[i] ekv er
        have hb := KA2.2 i b kvs[i] eb ekv
        have val := valV_at nd (List.getElem_mem hi)
        rw [e2] at val
        refine ⟨_, rfl, _, rfl, dd, .ref br, rfl, .inr ⟨kvs, kvs[i].1, b, .inr ⟨o, s3 _ _ hd2⟩, rfl, s3 _ _ hb, val.symm⟩, hl3, ?_, ⟨_, rfl⟩, ?_, ?_⟩
        · have := T3.1
          rw [List.length_take] at this
          exact small1000 (by omega)
        · rw [List.take_add_one, er]
          exact tups_snoc T3 hl3 (s3 _ _ e3)
        · exact fun c o e => by rw [upd_ne (ne_of_none e hl)]; exact s3 _ _ e
      · rintro l ys σ' H3 hl ⟨⟨o1, rfl⟩, T3, s3⟩ hl3
        rw [List.length_map, KA2.1, kl, List.take_length] at T3
        exact q l ys rs H3 (hH2.ne hl) hl3 T3 R2.row R2.nd (by omega) ((hH2.same s3).mono (by omega)) (k2.trans (Keep.of s3))
end
end K63

set_option Elab.async false
set_option linter.all false
set_option maxRecDepth 100000
set_option maxHeartbeats 4000000
namespace K63
open PySem PySem.Spec PyProof.Rows L2 RW
local macro_rules | `(tactic| walk_at "cond") => `(tactic| first | assumption | decide | omega | exact few rfl | exact .inl ⟨by decide, by decide⟩ | exact .inr ⟨by decide, by decide⟩ | exact .inl ⟨by omega, by omega⟩ | exact .inr ⟨by omega, by omega⟩ | exact ⟨by omega, by omega⟩ | exact ⟨by assumption, by assumption⟩ | exact ⟨by decide, by decide, by decide⟩ | exact .inr ⟨by split <;> decide, by split <;> decide⟩)
local macro_rules | `(tactic| walk_at "rd") => `(tactic| first | with_reducible_and_instances refine ⟨_, rfl, ?_⟩ | refine ⟨_, rfl, ?_⟩ | refine ⟨_, _, rfl, rfl, ?_⟩ | refine ⟨_, _, _, _, rfl, rfl, SqL.of (by assumption), rfl, ?_⟩ | refine ⟨_, _, _, _, rfl, rfl, (by assumption), rfl, ?_⟩ | refine .inl ⟨_, rfl, ?_⟩ | refine .inr ⟨_, rfl, ?_⟩ | refine .inl ⟨_, _, rfl, .inl (by assumption), ?_⟩ | refine ⟨(by walk_at "cond"), ?_⟩)
local macro_rules | `(tactic| walk_at "dsp") => `(tactic| repeat' (first | exact dsp_str (by decide) | exact dsp_int | exact dsp_bl | exact dsp_non | exact dsp_neg | exact dspA_nil | exact dsp_dnew | exact dsp_disp rfl | exact dsp_var rfl (by assumption) | refine dspA_cons ?_ ?_ | refine dsp_tup ?_ ?_ | refine dsp_lst' ?_ | refine n_cons ?_ ?_ | exact n_nil | exact v_c | exact v_var rfl | refine v_tup ?_ | refine dspl_lst ?_ ?_ | refine dspl_cat ?_ ?_ ?_ | exact dspl_var rfl (by assumption) (by assumption) | exact Nat.le_of_ble_eq_true rfl))
local macro_rules | `(tactic| walk_at "each") => `(tactic| repeat' (first | exact forall_nil | refine List.forall_mem_append.mpr ⟨?_, ?_⟩ | refine List.forall_mem_cons.mpr ⟨?_, ?_⟩))
section
variable {P : Program} {w : World} {K : PySem.W.Frag} {mg : Str → Option Value} {base : Heap}
def spRinged63 : Sp := fun vs H Q _ => ∃ (a h : Addr) (n : Int) (xs : List Str), vs = [.ref a, .ref h] ∧ Hand H a n ∧ n < 2 ^ 38 ∧ H h = some (.lst (xs.map V.str)) ∧ h ≠ a ∧ 3 ≤ xs.length ∧ xs.length ≤ 13 ∧ xs.Nodup ∧ (∀ x ∈ xs, isNameB x = true) ∧
  ∀ (l : Addr) (us : List V) (rs : List (List Str)) (H' : Hp), H' l = some (.lst us) → TupsAt H' us rs → (∀ r ∈ rs, rowL r = true) → (rs.map tieL).Nodup → rs.length ≤ 20 → Hand H' a (n + 60) → Keep a H H' → Q (.ref l) H'
theorem seq_nat {n k : Nat} (h : k < n) : seqIndex? (k : Int) n = some k := (ixN_seq (by unfold ixN; rw [if_pos (by omega), if_pos (by omega)]; congr 1)).1
theorem ok_ringed63 (Y : Ev K mg) : FnOk P w K mg base CX0 3 Y.a__law_ringed Y.d__law_ringed p__law_ringed spRinged63 := by
  have G__law_take : FnOk P w K mg base CX0 1 Y.a__law_take Y.d__law_take p__law_take spTake := ok_take Y
  have G__law_pick : FnOk P w K mg base CX0 2 Y.a__law_pick Y.d__law_pick p__law_pick (spPick K) := ok_pick Y
  refine Y._law_ringed.fn.okQ c__law_ringed (fun vs H Q E h => ?_) (fun cdv A outer s H vs Q E hr h => ?_)
  · obtain ⟨a, h, n, xs, rfl, _⟩ := h; rfl
  · obtain ⟨a, h, n, xs, rfl, hH, hn, hh, nha, x3, x13, nd, hnm, q⟩ := h
    refine ⟨_, (b_cons (s_setC 2 c__law_ringed.nd (q_op op_add q_int (q_call G__law_take (hr.mono (by decide)) Y._law_take.mg Y._law_take.kp Y._law_take.b .nil pass0 (a_cons (qv 0) (a_cons (q_op op_sub (q_callB call_len2 Y.len bt_len (a_cons (qc 1) a_nil)) q_int) a_nil)))))
      (b_cons (s_setcomp 3 (src := [none, some 1, some 2]) o__law_ringed_1 rfl rfl c__law_ringed.nd (i_rng1 Y.range (a_cons (qc 2) a_nil)) (fun _ _ _ _ _ => (g_name 0 o__law_ringed_1.nd)) (fun _ _ _ _ _ => f_nil) (fun _ _ _ _ _ => (q_tup (a_cons (q_ix (ix_listK (K := K) rfl) (qc 1) (qv 0)) (a_cons (q_ix (ix_listK (K := K) rfl) (qc 1) (q_op op_mod (q_op op_add (qv 0) q_int) (qc 2))) (a_cons q_str a_nil))))))
      (b_cons (s_set 4 c__law_ringed.nd (q_call G__law_take (hr.mono (by decide)) Y._law_take.mg Y._law_take.kp Y._law_take.b .nil pass0 (a_cons (qv 0) (a_cons q_int a_nil))))
      (b_cut (s_if (t_cmp op_eq (qv 4) q_int) (b_one (s_expr (q_bm PySem.F.plainAttrs_list PySem.F.slot_list_pop PySem.F.type_list_pop mt_popAt (qv 3) (a_cons (q_call G__law_take (hr.mono (by decide)) Y._law_take.mg Y._law_take.kp Y._law_take.b .nil pass0 (a_cons (qv 0) (a_cons (qc 2) a_nil))) a_nil)))) b_nil)
      (b_cut (s_if (t_cmp op_eq (qv 4) q_int) (b_cons (s_asg (q_bm PySem.F.plainAttrs_list PySem.F.slot_list_pop PySem.F.type_list_pop mt_popAt (qv 3) (a_cons (q_call G__law_take (hr.mono (by decide)) Y._law_take.mg Y._law_take.kp Y._law_take.b .nil pass0 (a_cons (qv 0) (a_cons (qc 2) a_nil))) a_nil)) (g_tup 3 rfl (gs_cons (g_name 5 c__law_ringed.nd) (gs_cons (g_name 6 c__law_ringed.nd) (gs_cons (g_name 7 c__law_ringed.nd) gs_nil)))))
      (b_one (s_expr (q_bm PySem.F.plainAttrs_list PySem.F.slot_list_append PySem.F.type_list_append mt_append (qv 3) (a_cons (q_tup (a_cons (q_callB (call_min2S rfl) Y.min bt_min (a_cons (qv 5) (a_cons (qv 6) a_nil))) (a_cons (q_callB (call_max2S rfl) Y.max bt_max (a_cons (qv 5) (a_cons (qv 6) a_nil))) (a_cons q_str a_nil)))) a_nil))))) b_nil)
      (b_cons (s_for PassesOwn.never rfl (i_rng2 Y.range (a_cons (qc 2) (a_cons (q_callB call_len2 Y.len bt_len (a_cons (qc 1) a_nil)) a_nil))) (g_name 8 c__law_ringed.nd) (b_cons (s_set 6 c__law_ringed.nd (q_ix ix_list (qc 1) (q_call G__law_take (hr.mono (by decide)) Y._law_take.mg Y._law_take.kp Y._law_take.b .nil pass0 (a_cons (qv 0) (a_cons (qv 8) a_nil)))))
      (b_one (s_expr (q_bm PySem.F.plainAttrs_list PySem.F.slot_list_append PySem.F.type_list_append mt_append (qv 3) (a_cons (q_call G__law_pick (hr.mono (by decide)) Y._law_pick.mg Y._law_pick.kp Y._law_pick.b .nil pass0 (a_cons (qv 0) (a_cons (q_lst (a_cons (q_tup (a_cons (q_ix ix_list (qc 1) (qv 8)) (a_cons (qv 6) (a_cons q_str a_nil)))) (a_cons (q_tup (a_cons (qv 6) (a_cons (q_ix ix_list (qc 1) (qv 8)) (a_cons q_str a_nil)))) a_nil))) a_nil))) a_nil))))))
      (b_one (s_ret (qv 3))))))))), ?_⟩
    refine ⟨_, rfl, _, rfl, .inl ⟨h, _, rfl, .inl (SqL.of hh), _, _, rfl, rfl, a, _, n, rfl, hH, by omega, by rw [List.length_map]; omega, by rw [List.length_map]; omega, fun d H1 d0 d1 hH1 k1 => ⟨_, _, rfl, rfl, ?_⟩⟩⟩
    rw [List.length_map] at d1
    obtain ⟨sz, esz, sz3, szl⟩ : ∃ sz : Nat, 3 + d = (sz : Int) ∧ 3 ≤ sz ∧ sz ≤ xs.length := ⟨(3 + d).toNat, by omega, by omega, by omega⟩
    dsimp only
    rw [esz]
    have hh1 := k1 _ _ nha hh
    refine ⟨_, rfl, sz, rfl, by omega, by omega, ?_⟩
    rw [Int.toNat_natCast]
    refine comp_by wk_rng (fun l i ys σ' H' => (∃ o, σ' = [o, some (.ref h), some (.int (sz : Int))]) ∧ TupsAt H' ys ((List.range i).map (rgR xs sz)) ∧ Same H1 H') ?_ (fun _ _ _ _ _ _ _ => trivial) ?_ ?_
    · exact fun l hl => ⟨⟨_, rfl⟩, tups_nil, Same.new hl⟩
    · rintro l i y ys σ' H2 hl hi rfl ⟨⟨o, rfl⟩, T2, s2⟩ hl2
      have hm : (i + 1) % sz < sz := Nat.mod_lt _ (by omega)
      have g1 : atI (xs.map V.str) (0 + (i : Int)) = some (.str (at_ xs i)) := by rw [Int.zero_add]; exact atI_nat (by simp [show i < xs.length by omega, List.getD])
      have em : (0 + (i : Int) + 1) % (sz : Int) = (((i + 1) % sz : Nat) : Int) := by rw [Int.zero_add]; push_cast; rfl
      have g2 : atI (xs.map V.str) ((0 + (i : Int) + 1) % (sz : Int)) = some (.str (at_ xs ((i + 1) % sz))) := by rw [em]; exact atI_nat (by simp [show (i + 1) % sz < xs.length by omega, List.getD])
      have hh2 := s2 _ _ hh1
      refine ⟨_, rfl, _, rfl, h, _, _, _, rfl, rfl, SqL.of hh2, g1, _, rfl, _, rfl, _, _, rfl, rfl, _, rfl, _, _, rfl, rfl, by omega, h, _, _, _, rfl, rfl, SqL.of hh2, g2, few rfl, fun p3 hp3 => ?_⟩
      have S3 := Same.new (o := .tup [V.str (at_ xs i), V.str (at_ xs ((i + 1) % sz)), V.str "over"]) hp3
      have tl := T2.1
      rw [List.length_map, List.length_range] at tl
      refine ⟨S3 _ _ hl2, small1000 (by omega), ⟨_, rfl⟩, ?_, fun c o e => ?_⟩
      · rw [List.range_succ, List.map_append]
        exact tups_snoc (tups_sm T2 S3) (S3 _ _ hl2) upd_same
      · rw [upd_ne (ne_of_none e hl)]; exact S3 _ _ (s2 _ _ e)
    · rintro lr ys σ' H2 hlr ⟨⟨o, rfl⟩, T2, s2⟩ hl2
      have RG2 := RG.ring nd hnm sz3 szl
      have rl2 : ((List.range sz).map (rgR xs sz)).length = sz := by rw [List.length_map, List.length_range]
      generalize (List.range sz).map (rgR xs sz) = rs2 at *
      have hH2 := hH1.same s2
      have k2 : Keep a H H2 := k1.trans (Keep.of s2)
      have nla : lr ≠ a := hH1.ne hlr
      have hlr0 : H lr = none := by
        cases e : H lr with
        | none => rfl
        | some o => exact absurd (k1 lr o nla e) (by rw [hlr]; exact fun z => nomatch z)
      refine ⟨_, rfl, a, 4, _, rfl, hH2, by omega, by decide, by decide, fun wy H3 w0 w1 hH3 k3 => ?_⟩
      have m23 := Mono.keep k3 hH2 hH3
      refine ⟨fun σ' H' => (∃ o5 o6 o7 o8, σ' = [some (.ref a), some (.ref h), some (.int (sz : Int)), some (.ref lr), some (.int wy), o5, o6, o7, o8]) ∧ (∃ us rs, H' lr = some (.lst us) ∧ TupsAt H' us rs ∧ RG xs sz rs ∧ rs.length ≤ sz ∧ (wy ≠ 1 → rs.length = sz)) ∧ Hand H' a (n + 3) ∧ Keep a H H', ?_, ?_⟩
      · refine ⟨_, rfl, rfl, _, rfl, ite2 (fun hc => ?_) (fun hc => ?_)⟩
        · have hl3 := k3 _ _ nla hl2
          have yl := T2.1
          refine ⟨_, rfl, .inl ⟨rfl, _, SqL.of hl3⟩, _, rfl, _, rfl, a, _, _, rfl, hH3, by omega, by omega, by omega, fun d2 H4 e0 e1 hH4 k4 => ?_⟩
          obtain ⟨k, rfl⟩ : ∃ k : Nat, d2 = (k : Int) := ⟨d2.toNat, by omega⟩
          have hk : k < ys.length := by omega
          have hl4 := k4 _ _ nla hl3
          have m34 := Mono.keep k4 hH3 hH4
          refine ⟨lr, ys, _, k, ys[k], rfl, rfl, hl4, by omega, by omega, seq_nat hk, List.getElem?_eq_getElem hk, ⟨_, _, _, _, rfl⟩, ⟨_, rs2.eraseIdx k, upd_same, tups_erase T2 k fun b xs e => ?_, RG2.erase k, ?_, fun z => absurd ?_ z⟩, ?_, ?_⟩
          · have e4 := m34.tup _ _ (m23.tup _ _ e)
            rw [upd_ne (ne_of e4 hl4 (fun z => nomatch z))]; exact e4
          · rw [List.length_eraseIdx]; split <;> omega
          · have := of_decide_eq_true hc
            injection this
          · exact (hH4.updNe nla).mono (by omega)
          · exact Keep.updNew (k2.trans (k3.trans k4)) hlr0
        · exact ⟨⟨_, _, _, _, rfl⟩, ⟨ys, rs2, k3 _ _ nla hl2, tups_mo T2 m23, RG2, by omega, fun _ => rl2⟩, hH3.mono (by omega), k2.trans k3⟩
      · rintro σ' H4 ⟨⟨o5, o6, o7, o8, rfl⟩, ⟨us4, rs4, hl4, T4, RG4, rl4, rw4⟩, hH4, k4⟩
        refine ⟨fun σ' H' => (∃ o5 o6 o7 o8, σ' = [some (.ref a), some (.ref h), some (.int (sz : Int)), some (.ref lr), some (.int wy), o5, o6, o7, o8]) ∧ (∃ us rs, H' lr = some (.lst us) ∧ TupsAt H' us rs ∧ RG xs sz rs ∧ rs.length ≤ sz) ∧ Hand H' a (n + 4) ∧ Keep a H H', ?_, ?_⟩
        · refine ⟨_, rfl, rfl, _, rfl, ite2 (fun hc => ?_) (fun hc => ?_)⟩
          · have hwy : wy = 2 := by
              have := of_decide_eq_true hc
              injection this
            have r4 := rw4 (by omega)
            have ul4 := T4.1
            refine ⟨_, rfl, .inl ⟨rfl, _, SqL.of hl4⟩, _, rfl, _, rfl, a, _, _, rfl, hH4, by omega, by omega, by omega, fun d2 H5 e0 e1 hH5 k5 => ?_⟩
            obtain ⟨k, rfl⟩ : ∃ k : Nat, d2 = (k : Int) := ⟨d2.toNat, by omega⟩
            have hk : k < us4.length := by omega
            have hl5 := k5 _ _ nla hl4
            have m45 := Mono.keep k5 hH4 hH5
            obtain ⟨b, r, eb, er, hb⟩ := tups_get T4 (List.getElem?_eq_getElem hk)
            obtain ⟨x1, x2, w', rfl, n1, n2, hne, _⟩ := rowL_form (RG4.row r (List.mem_of_getElem? er))
            refine ⟨lr, us4, _, k, us4[k], rfl, rfl, hl5, by omega, by omega, seq_nat hk, List.getElem?_eq_getElem hk, ?_⟩
            rw [eb]
            have up5 : ∀ b xs, H4 b = some (.tup xs) → upd H5 lr (.lst (us4.eraseIdx k)) b = some (.tup xs) := fun b xs e => by
              have e4 := m45.tup _ _ e
              rw [upd_ne (ne_of e4 hl5 (fun z => nomatch z))]; exact e4
            refine ⟨b, _, rfl, .inl (.inl (up5 _ _ hb)), rfl, _, _, rfl, _, _, rfl, _, _, rfl, rfl, ?_⟩
            have T5 := tups_erase T4 k up5
            have hl6 : upd H5 lr (.lst (us4.eraseIdx k)) lr = some (.lst (us4.eraseIdx k)) := upd_same
            have hH6 := hH5.updNe (o := .lst (us4.eraseIdx k)) nla
            have k6 : Keep a H (upd H5 lr (.lst (us4.eraseIdx k))) := Keep.updNew (k4.trans k5) hlr0
            generalize upd H5 lr (.lst (us4.eraseIdx k)) = H6 at *
            refine ⟨_, rfl, .inl ⟨rfl, _, SqL.of hl6⟩, _, rfl, _, rfl, _, _, rfl, _, rfl, _, rfl, _, _, rfl, few rfl, fun p7 hp7 => ?_⟩
            have S7 := Same.new (o := .tup [V.str (mnS x1 x2), V.str (mxS x1 x2), V.str "equal"]) hp7
            have hl7 := S7 _ _ hl6
            have el : (us4.eraseIdx k).length ≤ us4.length := List.length_eraseIdx_le _ _
            have el2 : (rs4.eraseIdx k).length = sz - 1 := by rw [List.length_eraseIdx, if_pos (by omega), r4]
            refine ⟨lr, _, _, rfl, rfl, hl7, small1000 (by omega), ⟨_, _, _, _, rfl⟩, ⟨_, _, upd_same, tups_snoc (tups_sm T5 S7) hl7 upd_same, RG4.swap er (row_equal n1 n2 hne) mm_pr, ?_⟩, ?_, ?_⟩
            · rw [List.length_append, List.length_singleton, el2]; omega
            · exact ((hH6.new hp7).updNe nla).mono (by omega)
            · exact Keep.updNew (k6.trans (Keep.of S7)) hlr0
          · exact ⟨⟨_, _, _, _, rfl⟩, ⟨us4, rs4, hl4, T4, RG4, rl4⟩, hH4.mono (by omega), k4⟩
        · rintro σ' H5 ⟨⟨o5, o6, o7, o8, rfl⟩, ⟨us5, rs5, hl5, T5, RG5, rl5⟩, hH5, k5⟩
          have hh5 := k5 _ _ nha hh
          refine ⟨_, rfl, _, rfl, .inl ⟨h, _, rfl, .inl (SqL.of hh5), (sz : Int), _, rfl, ⟨by omega, by omega, by rw [List.length_map]; omega, by rw [List.length_map]; omega⟩, ?_⟩⟩
          have eN : (((xs.map V.str).length : Int) - (sz : Int)).toNat = xs.length - sz := by rw [List.length_map]; omega
          rw [eN]
          refine for_by wk_rng (fun i σ' H' => (∃ o5 o6 o7 o8, σ' = [some (.ref a), some (.ref h), some (.int (sz : Int)), some (.ref lr), some (.int wy), o5, o6, o7, o8]) ∧ (∃ us rs, H' lr = some (.lst us) ∧ TupsAt H' us rs ∧ RG xs (sz + i) rs ∧ rs.length ≤ sz + i) ∧ Hand H' a (n + 4 + 2 * i) ∧ Keep a H H') ?_ (fun _ _ _ _ => trivial) ?_ ?_
          · exact ⟨⟨_, _, _, _, rfl⟩, ⟨us5, rs5, hl5, T5, RG5, rl5⟩, hH5.mono (by omega), k5⟩
          · rintro i y σ' H6 hi rfl ⟨⟨o5, o6, o7, o8, rfl⟩, ⟨us6, rs6, hl6, T6, RG6, rl6⟩, hH6, k6⟩
            have hsi : sz + i < xs.length := by omega
            have hh6 := k6 _ _ nha hh
            refine ⟨_, rfl, _, rfl, _, rfl, a, _, _, rfl, hH6, by omega, by omega, by omega, fun d2 H7 e0 e1 hH7 k7 => ?_⟩
            obtain ⟨j, rfl⟩ : ∃ k : Nat, d2 = (k : Int) := ⟨d2.toNat, by omega⟩
            have hj : j < sz + i := by omega
            have hh7 := k7 _ _ nha hh6
            have gj : atI (xs.map V.str) (j : Int) = some (.str (at_ xs j)) := atI_nat (by simp [show j < xs.length by omega, List.getD])
            have gk : atI (xs.map V.str) ((sz : Int) + (i : Int)) = some (.str (at_ xs (sz + i))) := by rw [show (sz : Int) + (i : Int) = ((sz + i : Nat) : Int) by push_cast; rfl]; exact atI_nat (by simp [hsi, List.getD])
            refine ⟨h, _, _, _, rfl, rfl, SqL.of hh7, gj, ?_⟩
            have m67 := Mono.keep k7 hH6 hH7
            have hl7 := k7 _ _ nla hl6
            refine ⟨_, rfl, .inl ⟨rfl, _, SqL.of hl7⟩, _, rfl, _, rfl, _, rfl, h, _, _, _, rfl, rfl, SqL.of hh7, gk, _, rfl, few rfl, fun p8 hp8 => ?_⟩
            have S8 := Same.new (o := .tup [V.str (at_ xs (sz + i)), V.str (at_ xs j), V.str "over"]) hp8
            refine ⟨_, rfl, _, rfl, _, rfl, h, _, _, _, rfl, rfl, SqL.of (S8 _ _ hh7), gk, few rfl, fun p9 hp9 => ?_⟩
            have S9 := Same.new (o := .tup [V.str (at_ xs j), V.str (at_ xs (sz + i)), V.str "over"]) hp9
            refine ⟨few rfl, fun l10 hl10 => ?_⟩
            have S10 := Same.new (o := .lst [V.ref p8, V.ref p9]) hl10
            have e8 := S10 _ _ (S9 _ _ (upd_same (H := H7) (a := p8) (o := .tup [V.str (at_ xs (sz + i)), V.str (at_ xs j), V.str "over"])))
            have e9 := S10 _ _ (upd_same (H := upd H7 p8 (.tup [V.str (at_ xs (sz + i)), V.str (at_ xs j), V.str "over"])) (a := p9) (o := .tup [V.str (at_ xs j), V.str (at_ xs (sz + i)), V.str "over"]))
            have s710 := S8.trans (S9.trans S10)
            have hH10 := hH7.same s710
            have nl10 : l10 ≠ a := (hH7.same (S8.trans S9)).ne hl10
            refine ⟨a, _, hH10, by omega, .inl ⟨l10, _, rfl, nl10, SqL.of upd_same, (by decide : 0 < 2), (by decide : 2 < 1000), fun v11 H11 hv hH11 k11 => ?_⟩⟩
            have m11 := Mono.keep k11 hH10 hH11
            generalize (upd (upd (upd H7 p8 (.tup [V.str (at_ xs (sz + i)), V.str (at_ xs j), V.str "over"])) p9 (.tup [V.str (at_ xs j), V.str (at_ xs (sz + i)), V.str "over"])) l10 (.lst [V.ref p8, V.ref p9])) = H10 at *
            have nk := at_name (i := sz + i) hnm hsi
            have nj := at_name (i := j) hnm (by omega)
            have njk : at_ xs (sz + i) ≠ at_ xs j := fun z => by have := at_inj nd hsi (by omega) z; omega
            obtain ⟨b, r, rfl, hr, ht, hb⟩ : ∃ b r, v11 = .ref b ∧ rowL r = true ∧ tieL r = pr (at_ xs (sz + i)) (at_ xs j) ∧ H11 b = some (.tup (r.map V.str)) := by
              simp only [List.mem_cons, List.not_mem_nil, or_false] at hv
              rcases hv with rfl | rfl
              · exact ⟨p8, _, rfl, row_over nk nj njk, rfl, m11.tup _ _ e8⟩
              · exact ⟨p9, _, rfl, row_over nj nk (Ne.symm njk), pr_comm, m11.tup _ _ e9⟩
            have hl11 := k11 _ _ nla (s710 _ _ hl7)
            have T11 : TupsAt H11 us6 rs6 := tups_mo T6 (m67.trans ((Mono.of s710).trans m11))
            have ul6 := T6.1
            refine ⟨lr, _, _, rfl, rfl, hl11, small1000 (by omega), ⟨_, _, _, _, rfl⟩, ⟨_, _, upd_same, tups_snoc T11 hl11 hb, RG6.more nd hsi hj hr ht, ?_⟩, ?_, ?_⟩
            · rw [List.length_append, List.length_singleton]; omega
            · exact (hH11.updNe nla).mono (by push_cast; omega)
            · exact Keep.updNew (k6.trans (k7.trans ((Keep.of s710).trans k11))) hlr0
          · rintro σ' H6 ⟨⟨o5, o6, o7, o8, rfl⟩, ⟨us6, rs6, hl6, T6, RG6, rl6⟩, hH6, k6⟩
            exact ⟨_, rfl, q lr us6 rs6 H6 hl6 T6 RG6.row RG6.nd (by omega) (hH6.mono (by omega)) k6⟩
end
end K63

set_option Elab.async false
set_option linter.all false
set_option maxRecDepth 100000
set_option maxHeartbeats 4000000
namespace K63
open PySem PySem.Spec PyProof.Rows L2 RW
local macro_rules | `(tactic| walk_at "cond") => `(tactic| first | assumption | decide | omega | exact few rfl | exact .inl ⟨by decide, by decide⟩ | exact .inr ⟨by decide, by decide⟩ | exact .inl ⟨by omega, by omega⟩ | exact .inr ⟨by omega, by omega⟩ | exact ⟨by omega, by omega⟩ | exact ⟨by assumption, by assumption⟩ | exact ⟨by decide, by decide, by decide⟩ | exact .inr ⟨by split <;> decide, by split <;> decide⟩)
local macro_rules | `(tactic| walk_at "rd") => `(tactic| first | with_reducible_and_instances refine ⟨_, rfl, ?_⟩ | refine ⟨_, rfl, ?_⟩ | refine ⟨_, _, rfl, rfl, ?_⟩ | refine ⟨_, _, _, _, rfl, rfl, SqL.of (by assumption), rfl, ?_⟩ | refine ⟨_, _, _, _, rfl, rfl, (by assumption), rfl, ?_⟩ | refine .inl ⟨_, rfl, ?_⟩ | refine .inr ⟨_, rfl, ?_⟩ | refine .inl ⟨_, _, rfl, .inl (by assumption), ?_⟩ | refine ⟨(by walk_at "cond"), ?_⟩)
local macro_rules | `(tactic| walk_at "dsp") => `(tactic| repeat' (first | exact dsp_str (by decide) | exact dsp_int | exact dsp_bl | exact dsp_non | exact dsp_neg | exact dspA_nil | exact dsp_dnew | exact dsp_disp rfl | exact dsp_var rfl (by assumption) | refine dspA_cons ?_ ?_ | refine dsp_tup ?_ ?_ | refine dsp_lst' ?_ | refine n_cons ?_ ?_ | exact n_nil | exact v_c | exact v_var rfl | refine v_tup ?_ | refine dspl_lst ?_ ?_ | refine dspl_cat ?_ ?_ ?_ | exact dspl_var rfl (by assumption) (by assumption) | exact Nat.le_of_ble_eq_true rfl))
local macro_rules | `(tactic| walk_at "each") => `(tactic| repeat' (first | exact forall_nil | refine List.forall_mem_append.mpr ⟨?_, ?_⟩ | refine List.forall_mem_cons.mpr ⟨?_, ?_⟩))
section
variable {P : Program} {w : World} {K : PySem.W.Frag} {mg : Str → Option Value} {base : Heap}
def spLaw (K : PySem.W.Frag) : Sp := fun vs H Q _ => ∃ (a : Addr) (ns : List Int), vs = [.ref a] ∧ SqL K H a (ns.map V.int) ∧ ns.length ≤ 63 ∧ ∀ H', Q (.bl true) H'
theorem ok_law_of (Y : Ev K mg) {fl : Addr} {fdl : FuncData} (FL : Fun K "law" "law" s_law fl fdl) : FnOk P w K mg base CX0 4 fl fdl p_law (spLaw K) := by
  have G__law_take : FnOk P w K mg base CX0 1 Y.a__law_take Y.d__law_take p__law_take spTake := ok_take Y
  have G__law_pick : FnOk P w K mg base CX0 2 Y.a__law_pick Y.d__law_pick p__law_pick (spPick K) := ok_pick Y
  have G__law_hand : FnOk P w K mg base CX0 1 Y.a__law_hand Y.d__law_hand p__law_hand (spHand K) := ok_hand Y
  have G__law_names : FnOk P w K mg base CX0 3 Y.a__law_names Y.d__law_names p__law_names spNames2 := ok_names2 Y
  have G__law_rows : FnOk P w K mg base CX0 3 Y.a__law_rows Y.d__law_rows p__law_rows spRows63 := ok_rows63 Y
  have G__law_ringed : FnOk P w K mg base CX0 3 Y.a__law_ringed Y.d__law_ringed p__law_ringed spRinged63 := ok_ringed63 Y
  have G__law_right : FnOk P w K mg base CX0 2 Y.a__law_right Y.d__law_right p__law_right spRight := ok_right Y
  have G_elder_ring : FnOk P w K mg base CX0 2 Y.a_elder_ring Y.d_elder_ring p_elder_ring spElder := ok_elder Y
  refine FL.okQ c_law (fun vs H Q E h => ?_) (fun cdv A outer s H vs Q E hr h => ?_)
  · obtain ⟨a, ns, rfl, _⟩ := h; rfl
  · obtain ⟨b, ns, rfl, hS, hns, q⟩ := h
    refine ⟨_, (b_cons (s_for PassesOwn.never rfl (i_rng1 Y.range (a_cons (q_callB (call_max2 rfl) Y.max bt_max (a_cons q_int (a_cons (q_callB (call_min2 rfl) Y.min bt_min (a_cons q_int (a_cons (q_callB call_len2 Y.len bt_len (a_cons (qv 0) a_nil)) a_nil))) a_nil))) a_nil)) (g_name 1 c_law.nd) (b_cons (s_set 2 c_law.nd (q_call G__law_hand (hr.mono (by decide)) Y._law_hand.mg Y._law_hand.kp Y._law_hand.b .nil pass0 (a_cons (qv 0) (a_cons (qv 1) a_nil))))
      (b_cons (s_set 3 c_law.nd (q_call G__law_names (hr.mono (by decide)) Y._law_names.mg Y._law_names.kp Y._law_names.b .nil pass0 (a_cons (qv 2) (a_cons (q_call G__law_pick (hr.mono (by decide)) Y._law_pick.mg Y._law_pick.kp Y._law_pick.b .nil pass0 (a_cons (qv 2) (a_cons (q_lstC [V.int 3, V.int 4, V.int 5, V.int 6, V.int 8, V.int 12] (by decide +kernel)) a_nil))) a_nil))))
      (b_cons (s_set 4 c_law.nd (q_call G__law_rows (hr.mono (by decide)) Y._law_rows.mg Y._law_rows.kp Y._law_rows.b .nil pass0 (a_cons (qv 2) (a_cons (qv 3) (a_cons (q_call G__law_pick (hr.mono (by decide)) Y._law_pick.mg Y._law_pick.kp Y._law_pick.b .nil pass0 (a_cons (qv 2) (a_cons (q_lstC [V.int 0, V.int 2, V.int 5, V.int 9, V.int 20] (by decide +kernel)) a_nil))) a_nil)))))
      (b_cut (s_if (t_cmp op_eq (q_call G__law_take (hr.mono (by decide)) Y._law_take.mg Y._law_take.kp Y._law_take.b .nil pass0 (a_cons (qv 2) (a_cons q_int a_nil))) q_int) (b_one (s_set 4 c_law.nd (q_call G__law_ringed (hr.mono (by decide)) Y._law_ringed.mg Y._law_ringed.kp Y._law_ringed.b .nil pass0 (a_cons (qv 2) (a_cons (qv 3) a_nil))))) b_nil)
      (b_cons (s_set 5 c_law.nd (q_callTy call_tuple_of Y.tuple bt_tuple (a_cons (q_callB call_sortedTs Y.sorted bt_sorted (a_cons (qv 4) a_nil)) a_nil)))
      (b_cons (s_set 6 c_law.nd (q_call G_elder_ring (hr.mono (by decide)) Y.elder_ring.mg Y.elder_ring.kp Y.elder_ring.b .nil pass0 (a_cons (qv 5) a_nil)))
      (b_cons (s_if (t_not (t_val (q_call G__law_right (hr.mono (by decide)) Y._law_right.mg Y._law_right.kp Y._law_right.b .nil pass0 (a_cons (qv 5) (a_cons (qv 6) a_nil))))) (b_one (s_ret q_bl)) b_nil)
      (b_one (s_if (t_cmp op_notN (qv 6) q_non) (b_cons (s_expr (q_bm0 PySem.F.plainAttrs_list PySem.F.slot_list_reverse PySem.F.type_list_reverse mt_reverse (qv 6)))
      (b_cons (s_expr (q_bm PySem.F.plainAttrs_list PySem.F.slot_list_append PySem.F.type_list_append mt_append (qv 6) (a_cons q_str a_nil)))
      (b_one (s_if (t_not (t_val (q_call G__law_right (hr.mono (by decide)) Y._law_right.mg Y._law_right.kp Y._law_right.b .nil pass0 (a_cons (qv 5) (a_cons (q_call G_elder_ring (hr.mono (by decide)) Y.elder_ring.mg Y.elder_ring.kp Y.elder_ring.b .nil pass0 (a_cons (qv 5) a_nil)) a_nil))))) (b_one (s_ret q_bl)) b_nil)))) b_nil))))))))))
      (b_one (s_ret q_bl))), ?_⟩
    refine ⟨_, rfl, .inl ⟨b, _, rfl, .inl hS, _, _, rfl, _, _, rfl, _, rfl, ?_, ?_, ?_⟩⟩
    · split <;> (try split) <;> omega
    · rw [List.length_map]
      split <;> (try split) <;> omega
    refine for_by wk_rng (fun i σ' H' => (∃ o1 o2 o3 o4 o5 o6, σ' = [some (.ref b), o1, o2, o3, o4, o5, o6]) ∧ Same H H') ⟨⟨_, _, _, _, _, _, rfl⟩, Same.refl H⟩ (fun _ _ _ _ => trivial) ?_ ?_
    · rintro i y σ' H0 hi rfl ⟨⟨o1, o2, o3, o4, o5, o6, rfl⟩, s0⟩
      have hi' : i < 1000 := by
        refine Nat.lt_of_lt_of_le hi ?_
        rw [List.length_map]
        split <;> (try split) <;> omega
      refine ⟨_, rfl, _, rfl, b, ns, _, rfl, s0.seq hS, by omega, by omega, fun a H1 ha hH1 s1 => ?_⟩
      refine ⟨_, rfl, _, rfl, by decide, fun pl hpl => ⟨a, 0, hH1.new hpl, by decide, .inl ⟨pl, _, rfl, hH1.ne hpl, SqL.of upd_same, by decide, by decide, fun v H2 hv hH2 k2 => ?_⟩⟩⟩
      obtain ⟨m, rfl, m3, m12⟩ : ∃ m : Nat, v = .int (m : Int) ∧ 3 ≤ m ∧ m ≤ 12 := by
        simp only [List.mem_cons, List.not_mem_nil, or_false] at hv
        rcases hv with rfl | rfl | rfl | rfl | rfl | rfl
        · exact ⟨3, rfl, by decide, by decide⟩
        · exact ⟨4, rfl, by decide, by decide⟩
        · exact ⟨5, rfl, by decide, by decide⟩
        · exact ⟨6, rfl, by decide, by decide⟩
        · exact ⟨8, rfl, by decide, by decide⟩
        · exact ⟨12, rfl, by decide, by decide⟩
      have k12 : Keep a H1 H2 := (Keep.new hpl).trans k2
      refine ⟨a, _, m, rfl, hH2, by decide, by omega, fun lh xs H3 hlh hl3 hlen hxn hxd hxw hH3 k3 => ?_⟩
      have nlh : lh ≠ a := hH2.ne hlh
      refine ⟨_, rfl, _, rfl, _, rfl, by decide, fun pm hpm => ⟨a, _, hH3.new hpm, by decide, .inl ⟨pm, _, rfl, hH3.ne hpm, SqL.of upd_same, by decide, by decide, fun v H4 hv hH4 k4 => ?_⟩⟩⟩
      obtain ⟨mm, rfl, m20⟩ : ∃ m : Nat, v = .int (m : Int) ∧ m ≤ 20 := by
        simp only [List.mem_cons, List.not_mem_nil, or_false] at hv
        rcases hv with rfl | rfl | rfl | rfl | rfl
        · exact ⟨0, rfl, by decide⟩
        · exact ⟨2, rfl, by decide⟩
        · exact ⟨5, rfl, by decide⟩
        · exact ⟨9, rfl, by decide⟩
        · exact ⟨20, rfl, by decide⟩
      have k34 : Keep a H3 H4 := (Keep.new hpm).trans k4
      have hl4 := k34 _ _ nlh hl3
      refine ⟨a, lh, _, xs, mm, rfl, hH4, by decide, hl4, nlh, by omega, by omega, hxn, m20, fun lr us rs H5 nlr hlr T5 hrow hnd r20 hH5 k5 => ?_⟩
      have k15 : Keep a H1 H5 := ((k12.trans k3).trans k34).trans k5
      refine ⟨fun σ' H' => ∃ lr us rs, σ' = [some (.ref b), some (.int (0 + (i : Int))), some (.ref a), some (.ref lh), some (.ref lr), o5, o6] ∧ H' lr = some (.lst us) ∧ TupsAt H' us rs ∧ (∀ r ∈ rs, rowL r = true) ∧ (rs.map tieL).Nodup ∧ rs.length ≤ 20 ∧ Keep a H1 H', ?_, ?_⟩
      · refine ⟨_, rfl, a, 2, _, rfl, hH5, by decide, by decide, by decide, fun d H6 d0 d1 hH6 k6 => ⟨rfl, _, rfl, ite2 (fun _ => ?_) (fun _ => ?_)⟩⟩
        · have hl6 := k6 _ _ nlh (k5 _ _ nlh hl4)
          refine ⟨_, rfl, _, rfl, a, lh, _, xs, rfl, hH6, by decide, hl6, nlh, by omega, by omega, hxd, hxn, fun lr7 us7 rs7 H7 hlr7 T7 hrow7 hnd7 r207 hH7 k7 => ?_⟩
          exact ⟨lr7, us7, rs7, rfl, hlr7, T7, hrow7, hnd7, r207, (k15.trans k6).trans k7⟩
        · exact ⟨lr, us, rs, rfl, k6 _ _ nlr hlr, tups_mo T5 (.keep k6 hH5 hH6), hrow, hnd, r20, k15.trans k6⟩
      · rintro σ' H6 ⟨lr, us, rs, rfl, hl6, T6, hrow, hnd, r20, k6⟩
        have s06 : Same H0 H6 := Keep.same_of ha s1 k6
        refine ⟨_, rfl, lr, us, rs, rfl, .inl (SqL.of hl6), T6, fun r hr' => by rw [(rowL3 (hrow r hr')).1]; decide, by omega, fun ls vs' l7 hpm7 hpw T7 hl7 => ⟨l7, _, rfl, .inl ⟨SqL.of upd_same, fun p8 hp8 => ?_⟩⟩⟩
        have S8 := (Same.new (o := .lst vs') hl7).trans (Same.new (o := .tup vs') hp8)
        have T8 := tups_sm T7 S8
        have hp8' : upd (upd H6 l7 (.lst vs')) p8 (.tup vs') p8 = some (.tup vs') := upd_same
        generalize upd (upd H6 l7 (.lst vs')) p8 (.tup vs') = H8 at *
        have hrow8 : ∀ r ∈ ls, rowL r = true := fun r hr' => hrow r (hpm7.mem_iff.mp hr')
        have hnd8 : (ls.map tieL).Nodup := (hpm7.map tieL).nodup_iff.mpr hnd
        have r208 : ls.length ≤ 20 := by rw [hpm7.length_eq]; exact r20
        have s08 := s06.trans S8
        refine ⟨_, rfl, p8, vs', ls, rfl, hp8', T8, hrow8, r208, fun H9 s9 ac => ?_, fun lf xf H9 hlf hf9 R s9 => ?_⟩
        · refine ⟨_, rfl, _, rfl, p8, .non, vs', ls, rfl, s9 _ _ hp8', tups_sm T8 s9, hrow8, hnd8, r208, .inl ⟨rfl, ac⟩, fun H10 s10 => ⟨_, rfl, if_f rfl ?_⟩⟩
          exact ⟨_, rfl, rfl, _, rfl, if_f rfl ⟨⟨_, _, _, _, _, _, rfl⟩, s0.trans (s08.trans (s9.trans s10))⟩⟩
        · refine ⟨_, rfl, _, rfl, p8, .ref lf, vs', ls, rfl, s9 _ _ hp8', tups_sm T8 s9, hrow8, hnd8, r208, .inr ⟨lf, xf, rfl, hf9, R⟩, fun H10 s10 => ⟨_, rfl, if_f rfl ?_⟩⟩
          refine ⟨_, rfl, rfl, _, rfl, if_t rfl ?_⟩
          have hf10 := s10 _ _ hf9
          refine ⟨_, rfl, .inl ⟨rfl, _, SqL.of hf10⟩, lf, _, rfl, rfl, hf10, ?_⟩
          have xf60 := ring_few hrow8 R
          refine ⟨_, rfl, .inl ⟨rfl, _, SqL.of upd_same⟩, lf, _, _, rfl, rfl, upd_same, ?_, ?_⟩
          · rw [List.length_reverse, List.length_map]; exact small1000 (by omega)
          rw [upd_upd]
          have s12 : ∀ ys : List V, Same H8 (upd H10 lf (.lst ys)) := fun ys c o e => by rw [upd_ne (ne_of_none e hlf)]; exact s10 _ _ (s9 _ _ e)
          have s12 := s12 ((xf.map V.str).reverse ++ [.str "x"])
          generalize upd H10 lf (.lst ((xf.map V.str).reverse ++ [.str "x"])) = H12 at *
          refine ⟨_, rfl, _, rfl, p8, vs', ls, rfl, s12 _ _ hp8', tups_sm T8 s12, hrow8, r208, fun H13 s13 ac => absurd ac (R.not_acyc hrow8), fun lf2 xf2 H13 hlf2 hf13 R2 s13 => ?_⟩
          refine ⟨p8, .ref lf2, vs', ls, rfl, s13 _ _ (s12 _ _ hp8'), tups_sm T8 (s12.trans s13), hrow8, hnd8, r208, .inr ⟨lf2, xf2, rfl, hf13, R2⟩, fun H14 s14 => ⟨_, rfl, if_f rfl ?_⟩⟩
          exact ⟨⟨_, _, _, _, _, _, rfl⟩, s0.trans (s08.trans (s12.trans (s13.trans s14)))⟩
    · rintro σ' H4 _
      exact q H4
end
end K63

set_option Elab.async false
set_option linter.all false
set_option maxRecDepth 100000
set_option maxHeartbeats 4000000
namespace K63
open PySem PySem.Spec PyProof.Rows L2 RW
theorem walk {l : PySem.W.OpenLaw} {q : Program} {loose : List Str} {XP : (Str → Option Value) → Heap → Prop} {YP : World → Heap → Prop} {d : DefRec} {K : Params → PySem.W.Frag} (hn : l.most = some 63) (hdf : d.params.defaults = [])
    (hY : ∀ (w : World) (h : Heap), YP w h → (K w.params).In h)
    (F : ∀ (w : World) (mg : Str → Option Value) (fa : Addr) (h : Heap), (K w.params).In h → h.Ns mainGlobals mg → mg d.name = some (.ref fa) →
      ∃ fd : FuncData, (∀ (s : Shared) (u : Value), BindsTo s fd ⟨[u], []⟩ [("_law_script", u)]) ∧ ∀ base : Heap, (K w.params).In base → base.Ns mainGlobals mg → FnOk l.prog w (K w.params) mg base CX0 4 fa fd ["_law_script"] (spLaw (K w.params))) :
    PySem.W.WalkO q loose XP YP l.row.toRowW d [] (fun f vs => PySem.call f vs) :=
  L2.walk_of (n := 63) (k := 4) (x := "_law_script") (CX := fun _ => CX0) (sp := fun w => spLaw (K w.params)) hn (by decide) hdf ⟨rfl, by decide, by decide, rfl⟩ hY F (fun _ _ a ns hl _ hS => ⟨a, ns, rfl, hS, hl, fun _ => rfl⟩) fun _ _ _ _ _ z => z

theorem all_mk {l : PySem.W.OpenLaw} {w : World} {K : PySem.W.Frag} {h : Heap} {mg : Str → Option Value} {fa : Addr} (X : K.In h) (G : h.Ns mainGlobals mg) (hfa : mg "law" = some (.ref fa))
    {f1 : Addr} {od1 an1 : Option Addr} {sl1 : Array (Option Value)} {oc1 kV1 dc1 pm1 cd1 ct1 : Value}
    (a1 : PySem.W.nsIn K mainGlobals "least_ranks" = some (some (.ref f1))) (l1 : K.lookup f1 = some ⟨oc1, od1, .func (PySem.W.fnOf "least_ranks" "least_ranks" (defArgs s_least_ranks) (defBody s_least_ranks) (defScope s_least_ranks) .none kV1 dc1 pm1 an1 cd1 ct1), sl1⟩) (c1 : PySem.W.codeIn K cd1 "least_ranks" = true) (k1 : PySem.W.keepIn K (.ref f1) = true)
    {f2 : Addr} {od2 an2 : Option Addr} {sl2 : Array (Option Value)} {oc2 kV2 dc2 pm2 cd2 ct2 : Value}
    (a2 : PySem.W.nsIn K mainGlobals "ring_without" = some (some (.ref f2))) (l2 : K.lookup f2 = some ⟨oc2, od2, .func (PySem.W.fnOf "ring_without" "ring_without" (defArgs s_ring_without) (defBody s_ring_without) (defScope s_ring_without) .none kV2 dc2 pm2 an2 cd2 ct2), sl2⟩) (c2 : PySem.W.codeIn K cd2 "ring_without" = true) (k2 : PySem.W.keepIn K (.ref f2) = true)
    {f3 : Addr} {od3 an3 : Option Addr} {sl3 : Array (Option Value)} {oc3 kV3 dc3 pm3 cd3 ct3 : Value}
    (a3 : PySem.W.nsIn K mainGlobals "elder_ring" = some (some (.ref f3))) (l3 : K.lookup f3 = some ⟨oc3, od3, .func (PySem.W.fnOf "elder_ring" "elder_ring" (defArgs s_elder_ring) (defBody s_elder_ring) (defScope s_elder_ring) .none kV3 dc3 pm3 an3 cd3 ct3), sl3⟩) (c3 : PySem.W.codeIn K cd3 "elder_ring" = true) (k3 : PySem.W.keepIn K (.ref f3) = true)
    {f4 : Addr} {od4 an4 : Option Addr} {sl4 : Array (Option Value)} {oc4 kV4 dc4 pm4 cd4 ct4 : Value}
    (a4 : PySem.W.nsIn K mainGlobals "_law_hand" = some (some (.ref f4))) (l4 : K.lookup f4 = some ⟨oc4, od4, .func (PySem.W.fnOf "_law_hand" "_law_hand" (defArgs s__law_hand) (defBody s__law_hand) (defScope s__law_hand) .none kV4 dc4 pm4 an4 cd4 ct4), sl4⟩) (c4 : PySem.W.codeIn K cd4 "_law_hand" = true) (k4 : PySem.W.keepIn K (.ref f4) = true)
    {f5 : Addr} {od5 an5 : Option Addr} {sl5 : Array (Option Value)} {oc5 kV5 dc5 pm5 cd5 ct5 : Value}
    (a5 : PySem.W.nsIn K mainGlobals "_law_take" = some (some (.ref f5))) (l5 : K.lookup f5 = some ⟨oc5, od5, .func (PySem.W.fnOf "_law_take" "_law_take" (defArgs s__law_take) (defBody s__law_take) (defScope s__law_take) .none kV5 dc5 pm5 an5 cd5 ct5), sl5⟩) (c5 : PySem.W.codeIn K cd5 "_law_take" = true) (k5 : PySem.W.keepIn K (.ref f5) = true)
    {f6 : Addr} {od6 an6 : Option Addr} {sl6 : Array (Option Value)} {oc6 kV6 dc6 pm6 cd6 ct6 : Value}
    (a6 : PySem.W.nsIn K mainGlobals "_law_pick" = some (some (.ref f6))) (l6 : K.lookup f6 = some ⟨oc6, od6, .func (PySem.W.fnOf "_law_pick" "_law_pick" (defArgs s__law_pick) (defBody s__law_pick) (defScope s__law_pick) .none kV6 dc6 pm6 an6 cd6 ct6), sl6⟩) (c6 : PySem.W.codeIn K cd6 "_law_pick" = true) (k6 : PySem.W.keepIn K (.ref f6) = true)
    {f7 : Addr} {od7 an7 : Option Addr} {sl7 : Array (Option Value)} {oc7 kV7 dc7 pm7 cd7 ct7 : Value}
    (a7 : PySem.W.nsIn K mainGlobals "_law_names" = some (some (.ref f7))) (l7 : K.lookup f7 = some ⟨oc7, od7, .func (PySem.W.fnOf "_law_names" "_law_names" (defArgs s__law_names) (defBody s__law_names) (defScope s__law_names) .none kV7 dc7 pm7 an7 cd7 ct7), sl7⟩) (c7 : PySem.W.codeIn K cd7 "_law_names" = true) (k7 : PySem.W.keepIn K (.ref f7) = true)
    {f8 : Addr} {od8 an8 : Option Addr} {sl8 : Array (Option Value)} {oc8 kV8 dc8 pm8 cd8 ct8 : Value}
    (a8 : PySem.W.nsIn K mainGlobals "_law_rows" = some (some (.ref f8))) (l8 : K.lookup f8 = some ⟨oc8, od8, .func (PySem.W.fnOf "_law_rows" "_law_rows" (defArgs s__law_rows) (defBody s__law_rows) (defScope s__law_rows) .none kV8 dc8 pm8 an8 cd8 ct8), sl8⟩) (c8 : PySem.W.codeIn K cd8 "_law_rows" = true) (k8 : PySem.W.keepIn K (.ref f8) = true)
    {f9 : Addr} {od9 an9 : Option Addr} {sl9 : Array (Option Value)} {oc9 kV9 dc9 pm9 cd9 ct9 : Value}
    (a9 : PySem.W.nsIn K mainGlobals "_law_ringed" = some (some (.ref f9))) (l9 : K.lookup f9 = some ⟨oc9, od9, .func (PySem.W.fnOf "_law_ringed" "_law_ringed" (defArgs s__law_ringed) (defBody s__law_ringed) (defScope s__law_ringed) .none kV9 dc9 pm9 an9 cd9 ct9), sl9⟩) (c9 : PySem.W.codeIn K cd9 "_law_ringed" = true) (k9 : PySem.W.keepIn K (.ref f9) = true)
    {f10 : Addr} {od10 an10 : Option Addr} {sl10 : Array (Option Value)} {oc10 kV10 dc10 pm10 cd10 ct10 : Value}
    (a10 : PySem.W.nsIn K mainGlobals "_law_peeled" = some (some (.ref f10))) (l10 : K.lookup f10 = some ⟨oc10, od10, .func (PySem.W.fnOf "_law_peeled" "_law_peeled" (defArgs s__law_peeled) (defBody s__law_peeled) (defScope s__law_peeled) .none kV10 dc10 pm10 an10 cd10 ct10), sl10⟩) (c10 : PySem.W.codeIn K cd10 "_law_peeled" = true) (k10 : PySem.W.keepIn K (.ref f10) = true)
    {f11 : Addr} {od11 an11 : Option Addr} {sl11 : Array (Option Value)} {oc11 kV11 dc11 pm11 cd11 ct11 : Value}
    (a11 : PySem.W.nsIn K mainGlobals "_law_right" = some (some (.ref f11))) (l11 : K.lookup f11 = some ⟨oc11, od11, .func (PySem.W.fnOf "_law_right" "_law_right" (defArgs s__law_right) (defBody s__law_right) (defScope s__law_right) .none kV11 dc11 pm11 an11 cd11 ct11), sl11⟩) (c11 : PySem.W.codeIn K cd11 "_law_right" = true) (k11 : PySem.W.keepIn K (.ref f11) = true)
    {f12 : Addr} {od12 an12 : Option Addr} {sl12 : Array (Option Value)} {oc12 kV12 dc12 pm12 cd12 ct12 : Value}
    (a12 : PySem.W.nsIn K mainGlobals "law" = some (some (.ref f12))) (l12 : K.lookup f12 = some ⟨oc12, od12, .func (PySem.W.fnOf "law" "law" (defArgs s_law) (defBody s_law) (defScope s_law) .none kV12 dc12 pm12 an12 cd12 ct12), sl12⟩) (c12 : PySem.W.codeIn K cd12 "law" = true) (k12 : PySem.W.keepIn K (.ref f12) = true)
    (z_isinstance : PySem.W.nsIn K mainGlobals "isinstance" = some none)
    (z_str : PySem.W.nsIn K mainGlobals "str" = some none)
    (z_len : PySem.W.nsIn K mainGlobals "len" = some none)
    (z_all : PySem.W.nsIn K mainGlobals "all" = some none)
    (z_int : PySem.W.nsIn K mainGlobals "int" = some none)
    (z_tuple : PySem.W.nsIn K mainGlobals "tuple" = some none)
    (z_range : PySem.W.nsIn K mainGlobals "range" = some none)
    (z_max : PySem.W.nsIn K mainGlobals "max" = some none)
    (z_min : PySem.W.nsIn K mainGlobals "min" = some none)
    (z_sorted : PySem.W.nsIn K mainGlobals "sorted" = some none)
    (z_list : PySem.W.nsIn K mainGlobals "list" = some none)
    (z_zip : PySem.W.nsIn K mainGlobals "zip" = some none)
    (z_set : PySem.W.nsIn K mainGlobals "set" = some none)
    : ∃ fd : FuncData, (∀ (s : Shared) (v : Value), BindsTo s fd ⟨[v], []⟩ [("_law_script", v)]) ∧ ∀ base : Heap, K.In base → base.Ns mainGlobals mg → FnOk l.prog w K mg base CX0 4 fa fd ["_law_script"] (spLaw K) := by
  have e := hfa.symm.trans (PySem.W.mg_of X G a12)
  cases e
  have F1 := fun_mk (st := s_least_ranks) l1 c1 k1
  have F2 := fun_mk (st := s_ring_without) l2 c2 k2
  have F3 := fun_mk (st := s_elder_ring) l3 c3 k3
  have F4 := fun_mk (st := s__law_hand) l4 c4 k4
  have F5 := fun_mk (st := s__law_take) l5 c5 k5
  have F6 := fun_mk (st := s__law_pick) l6 c6 k6
  have F7 := fun_mk (st := s__law_names) l7 c7 k7
  have F8 := fun_mk (st := s__law_rows) l8 c8 k8
  have F9 := fun_mk (st := s__law_ringed) l9 c9 k9
  have F10 := fun_mk (st := s__law_peeled) l10 c10 k10
  have F11 := fun_mk (st := s__law_right) l11 c11 k11
  have F12 := fun_mk (st := s_law) l12 c12 k12
  have b1 := F1.binds (ps := p_least_ranks) fun _ _ _ _ _ _ => of1 (fun _ => rfl)
  have b2 := F2.binds (ps := p_ring_without) fun _ _ _ _ _ _ => of2 (fun _ _ => rfl)
  have b3 := F3.binds (ps := p_elder_ring) fun _ _ _ _ _ _ => of1 (fun _ => rfl)
  have b4 := F4.binds (ps := p__law_hand) fun _ _ _ _ _ _ => of2 (fun _ _ => rfl)
  have b5 := F5.binds (ps := p__law_take) fun _ _ _ _ _ _ => of2 (fun _ _ => rfl)
  have b6 := F6.binds (ps := p__law_pick) fun _ _ _ _ _ _ => of2 (fun _ _ => rfl)
  have b7 := F7.binds (ps := p__law_names) fun _ _ _ _ _ _ => of2 (fun _ _ => rfl)
  have b8 := F8.binds (ps := p__law_rows) fun _ _ _ _ _ _ => of3 (fun _ _ _ => rfl)
  have b9 := F9.binds (ps := p__law_ringed) fun _ _ _ _ _ _ => of2 (fun _ _ => rfl)
  have b10 := F10.binds (ps := p__law_peeled) fun _ _ _ _ _ _ => of1 (fun _ => rfl)
  have b11 := F11.binds (ps := p__law_right) fun _ _ _ _ _ _ => of2 (fun _ _ => rfl)
  have b12 := F12.binds (ps := p_law) fun _ _ _ _ _ _ => of1 (fun _ => rfl)
  have Y : Ev K mg := {
    a_least_ranks := f1, d_least_ranks := _, least_ranks := ⟨F1, b1, PySem.W.mg_of X G a1, k1⟩,
    a_ring_without := f2, d_ring_without := _, ring_without := ⟨F2, b2, PySem.W.mg_of X G a2, k2⟩,
    a_elder_ring := f3, d_elder_ring := _, elder_ring := ⟨F3, b3, PySem.W.mg_of X G a3, k3⟩,
    a__law_hand := f4, d__law_hand := _, _law_hand := ⟨F4, b4, PySem.W.mg_of X G a4, k4⟩,
    a__law_take := f5, d__law_take := _, _law_take := ⟨F5, b5, PySem.W.mg_of X G a5, k5⟩,
    a__law_pick := f6, d__law_pick := _, _law_pick := ⟨F6, b6, PySem.W.mg_of X G a6, k6⟩,
    a__law_names := f7, d__law_names := _, _law_names := ⟨F7, b7, PySem.W.mg_of X G a7, k7⟩,
    a__law_rows := f8, d__law_rows := _, _law_rows := ⟨F8, b8, PySem.W.mg_of X G a8, k8⟩,
    a__law_ringed := f9, d__law_ringed := _, _law_ringed := ⟨F9, b9, PySem.W.mg_of X G a9, k9⟩,
    a__law_peeled := f10, d__law_peeled := _, _law_peeled := ⟨F10, b10, PySem.W.mg_of X G a10, k10⟩,
    a__law_right := f11, d__law_right := _, _law_right := ⟨F11, b11, PySem.W.mg_of X G a11, k11⟩,
    a_law := fa, d_law := _, law := ⟨F12, b12, PySem.W.mg_of X G a12, k12⟩,
    isinstance := PySem.W.mg_none_of X G z_isinstance,
    str := PySem.W.mg_none_of X G z_str,
    len := PySem.W.mg_none_of X G z_len,
    all := PySem.W.mg_none_of X G z_all,
    int := PySem.W.mg_none_of X G z_int,
    tuple := PySem.W.mg_none_of X G z_tuple,
    range := PySem.W.mg_none_of X G z_range,
    max := PySem.W.mg_none_of X G z_max,
    min := PySem.W.mg_none_of X G z_min,
    sorted := PySem.W.mg_none_of X G z_sorted,
    list := PySem.W.mg_none_of X G z_list,
    zip := PySem.W.mg_none_of X G z_zip,
    set := PySem.W.mg_none_of X G z_set }
  exact ⟨PySem.W.fnOf "law" "law" (defArgs s_law) (defBody s_law) (defScope s_law) .none kV12 dc12 pm12 an12 cd12 ct12, fun s v => .of_eq rfl, fun base _ _ => ok_law_of Y F12⟩
end K63
open PySem PySem.W PyProof.Rows
set_option maxRecDepth 100000 in
set_option maxHeartbeats 0 in
theorem PySem.Challenge.cw_restways_k63_rings_of_elders_holds : PySem.Challenge.rw_restways_k63_rings_of_elders.Holds := by
  w_on; o_law; k_head; (case hw => w_witness2)
  k_fill
  refine K63.walk (l := PySem.Challenge.rw_restways_k63_rings_of_elders) rfl rfl (fun w h Y => PySem.W.kIn_of Y) ?F
  case F =>
    intro w mg fa h KX G hmg
    refine' K63.all_mk KX G hmg ?a1 ?l1 ?c1 ?k1 ?a2 ?l2 ?c2 ?k2 ?a3 ?l3 ?c3 ?k3 ?a4 ?l4 ?c4 ?k4 ?a5 ?l5 ?c5 ?k5 ?a6 ?l6 ?c6 ?k6 ?a7 ?l7 ?c7 ?k7 ?a8 ?l8 ?c8 ?k8 ?a9 ?l9 ?c9 ?k9 ?a10 ?l10 ?c10 ?k10 ?a11 ?l11 ?c11 ?k11 ?a12 ?l12 ?c12 ?k12 ?z_isinstance ?z_str ?z_len ?z_all ?z_int ?z_tuple ?z_range ?z_max ?z_min ?z_sorted ?z_list ?z_zip ?z_set
    (case a1 => k_is)
    (case l1 => k_is)
    (case c1 => k_is)
    (case k1 => k_is)
    (case a2 => k_is)
    (case l2 => k_is)
    (case c2 => k_is)
    (case k2 => k_is)
    (case a3 => k_is)
    (case l3 => k_is)
    (case c3 => k_is)
    (case k3 => k_is)
    (case a4 => k_is)
    (case l4 => k_is)
    (case c4 => k_is)
    (case k4 => k_is)
    (case a5 => k_is)
    (case l5 => k_is)
    (case c5 => k_is)
    (case k5 => k_is)
    (case a6 => k_is)
    (case l6 => k_is)
    (case c6 => k_is)
    (case k6 => k_is)
    (case a7 => k_is)
    (case l7 => k_is)
    (case c7 => k_is)
    (case k7 => k_is)
    (case a8 => k_is)
    (case l8 => k_is)
    (case c8 => k_is)
    (case k8 => k_is)
    (case a9 => k_is)
    (case l9 => k_is)
    (case c9 => k_is)
    (case k9 => k_is)
    (case a10 => k_is)
    (case l10 => k_is)
    (case c10 => k_is)
    (case k10 => k_is)
    (case a11 => k_is)
    (case l11 => k_is)
    (case c11 => k_is)
    (case k11 => k_is)
    (case a12 => k_is)
    (case l12 => k_is)
    (case c12 => k_is)
    (case k12 => k_is)
    (case z_isinstance => k_is)
    (case z_str => k_is)
    (case z_len => k_is)
    (case z_all => k_is)
    (case z_int => k_is)
    (case z_tuple => k_is)
    (case z_range => k_is)
    (case z_max => k_is)
    (case z_min => k_is)
    (case z_sorted => k_is)
    (case z_list => k_is)
    (case z_zip => k_is)
    (case z_set => k_is)
