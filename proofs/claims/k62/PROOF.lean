import PyProof.Rows.All
import Wide.All
import OpenK.AllK
import Wide.FinOn
import Lean
import PyProof.EqAt
import PyProof.EqKinds
import PyProof.TupleCall
import KE.KSortTup
import KE.KDictSum
import PyProof.Rows.SortStr
import PyProof.AutoSeq1
import PyProof.ZipIter
import PyProof.StrCalls
import KE.KStrOpen
import PySem.Challenge.RW_restways_k62_kin_or_none
set_option Elab.async false
set_option linter.all false
set_option maxRecDepth 100000
/-! THE HAND LAYER, for ints, bools, texts, own classes, LISTS and tuples (index, slices, in, append, pop ..), calls, loops. Paste it whole ahead of your own text; what your proof does not reach may be deleted. -/
namespace L2
open PySem PySem.Spec PyProof.Rows

/-- a key: an int or a str -/
abbrev Key := Sum Int Str
def keyIs : Key → Value → Bool
  | .inl k, v => Value.isInt k v
  | .inr x, v => Value.isStrOf x v
def keyH (w : World) : Key → Int
  | .inl k => hashInt k
  | .inr x => hashStr w x
theorem keyIs_shape : ∀ {k : Key} {v : Value}, keyIs k v = true → (∃ i t, k = Sum.inl i ∧ v = Value.int i t) ∨ (∃ x t, k = Sum.inr x ∧ v = Value.str x t)
  | .inl i, v, h => by
    obtain ⟨t, e⟩ := Value.isInt_shape (k := i) (v := v) h
    exact .inl ⟨i, t, rfl, e⟩
  | .inr x, v, h => by
    obtain ⟨t, e⟩ := Value.isStrOf_shape (x := x) (v := v) h
    exact .inr ⟨x, t, rfl, e⟩
theorem keyIs_int (i : Int) (t : Tok) : keyIs (.inl i) (.int i t) = true := by simp [keyIs, Value.isInt]
theorem keyIs_str (x : Str) (t : Tok) : keyIs (.inr x) (.str x t) = true := by simp [keyIs, Value.isStrOf]
theorem key_ll (a b : Int) : decide ((Sum.inl a : Key) = Sum.inl b) = (a == b) := by
  by_cases e : a = b
  · subst e; simp
  · have h : ¬ (Sum.inl a : Key) = Sum.inl b := fun q => e (Sum.inl.inj q)
    rw [decide_eq_false h]
    exact (beq_eq_false_iff_ne.mpr e).symm
theorem key_rr (a b : Str) : decide ((Sum.inr a : Key) = Sum.inr b) = decide (a = b) := by
  by_cases e : a = b
  · subst e; simp
  · have h : ¬ (Sum.inr a : Key) = Sum.inr b := fun q => e (Sum.inr.inj q)
    rw [decide_eq_false h, decide_eq_false e]
theorem key_lr (a : Int) (b : Str) : decide ((Sum.inl a : Key) = Sum.inr b) = false := decide_eq_false (fun q => nomatch q)
theorem key_rl (a : Str) (b : Int) : decide ((Sum.inr a : Key) = Sum.inl b) = false := decide_eq_false (fun q => nomatch q)

def mixKind (prog : Program) (w : World) : PySem.KeyKind prog w Key where
  is := keyIs
  hash := keyH w
  inj := fun v a b ha hb => by
    rcases keyIs_shape ha with ⟨i, t, rfl, rfl⟩ | ⟨x, t, rfl, rfl⟩
    · rcases keyIs_shape hb with ⟨j, u, rfl, e⟩ | ⟨y, u, rfl, e⟩
      · injection e with e1 _; rw [e1]
      · exact nomatch e
    · rcases keyIs_shape hb with ⟨j, u, rfl, e⟩ | ⟨y, u, rfl, e⟩
      · exact nomatch e
      · injection e with e1 _; rw [e1]
  byValue := fun k v h => by
    rcases keyIs_shape h with ⟨i, t, rfl, rfl⟩ | ⟨x, t, rfl, rfl⟩ <;> rfl
  pyHash := fun hv h => by
    rcases keyIs_shape hv with ⟨i, t, rfl, rfl⟩ | ⟨x, t, rfl, rfl⟩
    · exact wpAny_pyHash_int h
    · exact wpAny_pyHash_str h
  eqBool := fun hu hv h => by
    rcases keyIs_shape hu with ⟨i, t, rfl, rfl⟩ | ⟨x, t, rfl, rfl⟩
    · rcases keyIs_shape hv with ⟨j, u, rfl, rfl⟩ | ⟨y, u, rfl, rfl⟩
      · rw [key_ll] at h; exact wpAny_eqBool_int h
      · rw [key_lr] at h; exact SeqAt.EqAt.int_str i t y u _ _ _ _ h
    · rcases keyIs_shape hv with ⟨j, u, rfl, rfl⟩ | ⟨y, u, rfl, rfl⟩
      · rw [key_rl] at h; exact SeqAt.EqAt.str_int x t j u _ _ _ _ h
      · rw [key_rr] at h; exact wpAny_eqBool_str h
  «strs» := fun k x t v h => by
    rcases keyIs_shape h with ⟨i, u, rfl, e⟩ | ⟨y, u, rfl, e⟩
    · exact nomatch e
    · injection e with e1 _
      subst e1
      cases v <;> rfl

theorem mixKind_int (prog : Program) (w : World) (i : Int) (t : Tok) : (mixKind prog w).is (.inl i) (.int i t) = true := keyIs_int i t
theorem mixKind_str (prog : Program) (w : World) (x : Str) (t : Tok) : (mixKind prog w).is (.inr x) (.str x t) = true := keyIs_str x t
end L2

namespace L2
open PySem PySem.Spec PyProof.Rows

/-- a value, without the heap -/
inductive V where
  | non | bl (b : Bool) | int (i : Int) | str (x : Str) | byt (b : Array UInt8) | flt (b : UInt64) | ref (a : Addr) | ty (n : String)
  deriving DecidableEq

def RelV : V → Value → Prop
  | .non, u => u = Value.none
  | .bl b, u => u = Value.bool b
  | .int i, u => ∃ t, u = Value.int i t
  | .str x, u => ∃ t, u = Value.str x t
  | .byt b, u => ∃ t, u = Value.bytes b t
  | .flt b, u => ∃ t, u = Value.float b t
  | .ref a, u => u = Value.ref a
  | .ty n, u => u = Value.type n

abbrev Vals : List V → List Value → Prop := Paired RelV
theorem Vals.length {xs : List V} {us : List Value} (r : Vals xs us) : xs.length = us.length := Paired.length r
theorem Vals.get : ∀ {xs : List V} {us : List Value} {i : Nat} {x : V}, Vals xs us → xs[i]? = some x → ∃ u, us[i]? = some u ∧ RelV x u
  | _, _, _, _, .nil, e => by simp at e
  | _, _, 0, _, .cons r _, e => by simp at e; subst e; exact ⟨_, rfl, r⟩
  | _, _, i + 1, x, .cons _ t, e => by
    obtain ⟨u, h1, h2⟩ := Vals.get (i := i) (x := x) t (by simpa using e)
    exact ⟨u, by simpa using h1, h2⟩
theorem Vals.set {x : V} {u : Value} (r : RelV x u) : ∀ {xs : List V} {us : List Value} (i : Nat), Vals xs us → Vals (xs.set i x) (us.set i u)
  | _, _, _, .nil => .nil
  | _, _, 0, .cons _ t => .cons r t
  | _, _, i + 1, .cons q t => .cons q (Vals.set r i t)
theorem Vals.append : ∀ {xs ys : List V} {us ws : List Value}, Vals xs us → Vals ys ws → Vals (xs ++ ys) (us ++ ws)
  | _, _, _, _, .nil, s => s
  | _, _, _, _, .cons r t, s => .cons r (Vals.append t s)
theorem Vals.take : ∀ {xs : List V} {us : List Value} (n : Nat), Vals xs us → Vals (xs.take n) (us.take n)
  | _, _, 0, _ => .nil
  | _, _, _ + 1, .nil => .nil
  | _, _, n + 1, .cons r t => .cons r (Vals.take n t)
theorem Vals.drop : ∀ {xs : List V} {us : List Value} (n : Nat), Vals xs us → Vals (xs.drop n) (us.drop n)
  | _, _, 0, r => r
  | _, _, _ + 1, .nil => .nil
  | _, _, n + 1, .cons _ t => Vals.drop n t

def RelO : Option V → Option Value → Prop
  | some v, some u => RelV v u
  | none, none => True
  | _, _ => False
def KV {κ : Type} : List (κ × V) → List (κ × Value) → Prop := Paired fun (p : κ × V) (q : κ × Value) => p.1 = q.1 ∧ RelV p.2 q.2

/-- a key of a dict (00_mix): an int or a text -/
def kV : Key → V
  | .inl i => .int i
  | .inr x => .str x

/-- what stands at a tracked address -/
inductive HO where
  /-- a list -/
  | lst (xs : List V)
  /-- a tuple (never changes) -/
  | tup (xs : List V)
  /-- a dict whose keys are ints and texts; one whose keys are tuples of ints and texts (the empty one is both) -/
  | dK (kvs : List (Key × V)) | dT (kvs : List (List Key × V))
  /-- a set of ints: its members, its size -/
  | set (S : Int → Bool) (n : Nat)
  /-- an instance of the class at C, its dict at dx, its attributes -/
  | ins (C dx : Addr) (fs : List (Str × V))
  /-- the dict of the instance at x -/
  | own (x : Addr)
  /-- the dict of an exception -/
  | xd (fs : List (Str × V))
  /-- a bound method, f of x -/
  | met (f x : Addr)
  /-- a range object lo, lo + 1, .. below hi -/
  | rng (lo hi : Int)
  /-- a thing that is known to the object (the script; a dict while a loop walks it): read, never written while it is so -/
  | frz (o : Obj) (u : HO)
  /-- a code object's table -/
  | tbl (ps : Array Value)
  /-- any other thing, by what is true of its one object (a def of one's own: SetO a S n := HO.ext fun h => ..) -/
  | ext (φ : Heap → Prop)

abbrev Hp := Addr → Option HO
def upd (H : Hp) (a : Addr) (o : HO) : Hp := fun b => if b = a then some o else H b
theorem upd_same {H : Hp} {a : Addr} {o : HO} : upd H a o a = some o := by unfold upd; rw [if_pos rfl]
theorem upd_ne {H : Hp} {a b : Addr} {o : HO} (h : b ≠ a) : upd H a o b = H b := by unfold upd; rw [if_neg h]
theorem upd_upd {H : Hp} {a : Addr} {o u : HO} : upd (upd H a o) a u = upd H a u := by
  funext b; unfold upd; split <;> rfl
theorem ne_of_none {H : Hp} {a b : Addr} {o : HO} (h : H a = some o) (h' : H b = none) : a ≠ b := by
  intro e; subst e; rw [h] at h'; cases h'
/-- nothing hangs at it -/
def NoDict (h : Heap) (a : Addr) : Prop := ∀ o, h.get? a = some o → o.dict = none
theorem NoDict.new {h : Heap} {o : Obj} (e : o.dict = none) (f : (h.push o).get? h.objs.size = some o) : NoDict (h.push o) h.objs.size := fun o' z => by rw [f] at z; cases z; exact e

section
variable (P : Program) (w : World)
def ObjOk (H : Hp) (h : Heap) (a : Addr) : HO → Prop
  | .lst xs => xs.length ≤ sizeLine ∧ ∃ (its : List Value) (n : Nat), Vals xs its ∧ h.get? a = some { cls := .type "list", data := .seq its.toArray n }
  | .tup xs => xs.length ≤ sizeLine ∧ ∃ its : List Value, Vals xs its ∧ IsTup h a its.toArray ∧ NoDict h a
  | .dK kvs => kvs.length ≤ sizeLine ∧ (a == sysModules) = false ∧ ∃ vs, KV kvs vs ∧ h.DictOf (mixKind P w) a vs
  | .dT kvs => kvs.length ≤ sizeLine ∧ (a == sysModules) = false ∧ ∃ xs : List (List Key × Addr × Value),
      Paired (fun (p : List Key × V) (q : List Key × Addr × Value) => p.1 = q.1 ∧ H q.2.1 = some (.tup (p.1.map kV)) ∧ RelV p.2 q.2.2) kvs xs ∧
      ∃ o es ep, h.get? a = some o ∧ o.ExactDict ∧ o.data = .dict es ep ∧ es.toList = xs.map (entryOfKey (tupleKind (mixKind P w))) ∧ (xs.map (·.1)).Nodup
  | .set S n => h.SetOf (intKind P w) a S n
  | .ins C dx fs => H dx = some (.own a) ∧ fs.length ≤ 1000 ∧ dx ≠ a ∧ h.get? a = some (PySem.W.instObj C dx) ∧
      ∃ mA, h.Ns1 dx mA ∧ (∀ f, RelO (fs.lookup f) (mA f)) ∧ PySem.Within mA (fs.map (·.1))
  | .own _ => ∃ o, h.get? a = some o
  | .xd fs => ∃ mA, h.Ns1 a mA ∧ ∀ f, RelO (fs.lookup f) (mA f)
  | .rng lo hi => ∃ t u v, h.get? a = some { cls := .type "range", data := .fields #[.int lo t, .int hi u, .int 1 v] }
  | .frz o u => h.get? a = some o ∧ ObjOk H h a u
  | .tbl ps => h.get? a = some { cls := .none, data := .fields ps }
  | .met f x => h.get? a = some (PySem.W.methodObj (.ref f) (.ref x))
  | .ext φ => φ h ∧ (∃ o, h.get? a = some o) ∧ ∀ h1 h2 : Heap, φ h1 → (∀ o, h1.get? a = some o → h2.get? a = some o) → φ h2
/-- the abstract heap is held -/
def HOk (H : Hp) (h : Heap) : Prop := ∀ a o, H a = some o → ObjOk P w H h a o
end

section
variable {P : Program} {w : World} {H H' : Hp} {h h' : Heap} {a : Addr} {o : HO}
theorem ObjOk.lt (x : ObjOk P w H h a o) : a < h.objs.size := by
  cases o with
  | lst xs => obtain ⟨_, _, _, _, e⟩ := x; exact Heap.lt_size e
  | tup xs => obtain ⟨_, _, _, p, _⟩ := x; exact p.lt
  | dK kvs => obtain ⟨_, _, _, _, o, _, _, e, _⟩ := x; exact Heap.lt_size e
  | dT kvs => obtain ⟨_, _, _, _, o, _, _, e, _⟩ := x; exact Heap.lt_size e
  | set S n => obtain ⟨o, _, _, _, e, _⟩ := x; exact Heap.lt_size e
  | ins C dx fs => obtain ⟨_, _, _, e, _⟩ := x; exact Heap.lt_size e
  | own y => obtain ⟨_, e⟩ := x; exact Heap.lt_size e
  | xd fs => obtain ⟨_, ⟨_, _, _, e, _⟩, _⟩ := x; exact Heap.lt_size e
  | rng lo hi => obtain ⟨_, _, _, e⟩ := x; exact Heap.lt_size e
  | frz ob u => obtain ⟨e, _⟩ := x; exact Heap.lt_size e
  | tbl ps => exact Heap.lt_size (show h.get? a = some _ from x)
  | met f y => exact Heap.lt_size (show h.get? a = some _ from x)
  | ext φ => obtain ⟨_, ⟨_, e⟩, _⟩ := x; exact Heap.lt_size e
theorem Paired.mapP {α β : Type} {F G : α → β → Prop} : ∀ {l₁ : List α} {l₂ : List β}, Paired F l₁ l₂ → (∀ a b, F a b → G a b) → Paired G l₁ l₂
  | _, _, .nil, _ => .nil
  | _, _, .cons r t, f => .cons (f _ _ r) (Paired.mapP t f)
/-- what an object's description leans on: its own object, its own dict, the tuples -/
theorem ObjOk.stay (x : ObjOk P w H h a o) (k : ∀ b u, (b = a ∨ H b = some (.own a)) → h.get? b = some u → h'.get? b = some u)
    (ho : ∀ b, H b = some (.own a) → H' b = some (.own a)) (ht : ∀ b xs, H b = some (.tup xs) → H' b = some (.tup xs)) : ObjOk P w H' h' a o := by
  induction o with
  | lst xs => obtain ⟨z, its, n, r, e⟩ := x; exact ⟨z, its, n, r, k _ _ (.inl rfl) e⟩
  | tup xs => obtain ⟨z, its, r, ⟨ob, e, c⟩, nd⟩ := x; exact ⟨z, its, r, ⟨ob, k _ _ (.inl rfl) e, c⟩, fun o q => by rw [k _ _ (.inl rfl) e] at q; cases q; exact nd _ e⟩
  | dK kvs => obtain ⟨z, y, vs, r, ob, es, ep, e, c⟩ := x; exact ⟨z, y, vs, r, ob, es, ep, k _ _ (.inl rfl) e, c⟩
  | dT kvs =>
    obtain ⟨z, y, xs, r, ob, es, ep, e, c⟩ := x
    exact ⟨z, y, xs, Paired.mapP r fun p q z => ⟨z.1, ht _ _ z.2.1, z.2.2⟩, ob, es, ep, k _ _ (.inl rfl) e, c⟩
  | set S n => obtain ⟨ob, es, ep, t, e, c⟩ := x; exact ⟨ob, es, ep, t, k _ _ (.inl rfl) e, c⟩
  | ins C dx fs =>
    obtain ⟨d, z, ne, e, mA, ⟨od, es, ep, e2, c⟩, r⟩ := x
    exact ⟨ho _ d, z, ne, k _ _ (.inl rfl) e, mA, ⟨od, es, ep, k _ _ (.inr d) e2, c⟩, r⟩
  | own y => obtain ⟨ob, e⟩ := x; exact ⟨ob, k _ _ (.inl rfl) e⟩
  | xd fs => obtain ⟨mA, ⟨od, es, ep, e, c⟩, r⟩ := x; exact ⟨mA, ⟨od, es, ep, k _ _ (.inl rfl) e, c⟩, r⟩
  | rng lo hi => obtain ⟨t, u, v, e⟩ := x; exact ⟨t, u, v, k _ _ (.inl rfl) e⟩
  | frz ob u ih => obtain ⟨e, q⟩ := x; exact ⟨k _ _ (.inl rfl) e, ih q⟩
  | tbl ps =>
    have e : h.get? a = some { cls := .none, data := .fields ps } := x
    show h'.get? a = some { cls := .none, data := .fields ps }
    exact k a _ (.inl rfl) e
  | met f y =>
    have e : h.get? a = some (PySem.W.methodObj (.ref f) (.ref y)) := x
    show h'.get? a = some (PySem.W.methodObj (.ref f) (.ref y))
    exact k a _ (.inl rfl) e
  | ext φ => obtain ⟨p, ⟨o, e⟩, st⟩ := x; exact ⟨st _ _ p fun o q => k _ _ (.inl rfl) q, ⟨o, k _ _ (.inl rfl) e⟩, st⟩
theorem HOk.lt (x : HOk P w H h) (e : H a = some o) : a < h.objs.size := (x a o e).lt
theorem HOk.fresh (x : HOk P w H h) (e : h.objs.size ≤ a) : H a = none := by
  cases q : H a with
  | none => rfl
  | some u => exact absurd (Nat.lt_of_lt_of_le (x.lt q) e) (Nat.lt_irrefl _)
/-- every object of the heap is kept -/
theorem HOk.kept (x : HOk P w H h) (k : ∀ b u, h.get? b = some u → h'.get? b = some u) : HOk P w H h' := fun a o e =>
  (x a o e).stay (fun b u _ q => k b u q) (fun _ q => q) fun _ _ q => q
/-- a new object is laid and tracked -/
theorem HOk.laid (x : HOk P w H h) (k : ∀ b u, h.get? b = some u → h'.get? b = some u) (hp : h.objs.size ≤ a) (new : ObjOk P w (upd H a o) h' a o) : HOk P w (upd H a o) h' := fun b u e => by
  have hn := x.fresh hp
  by_cases hb : b = a
  · subst hb; rw [upd_same] at e; cases e; exact new
  · rw [upd_ne hb] at e
    exact (x b u e).stay (fun c v _ q => k c v q) (fun c q => by rw [upd_ne (ne_of_none q hn)]; exact q) fun c xs q => by rw [upd_ne (ne_of_none q hn)]; exact q
end

/-- what may be read as u: it is u, or a known u -/
def Rd (H : Hp) (a : Addr) (u : HO) : Prop := H a = some u ∨ ∃ o, H a = some (.frz o u)
theorem Rd.ok {P : Program} {w : World} {H : Hp} {h : Heap} {a : Addr} {u : HO} (r : Rd H a u) (x : HOk P w H h) : ObjOk P w H h a u := by
  rcases r with r | ⟨o, r⟩
  · exact x a u r
  · obtain ⟨_, q⟩ := x a _ r
    exact q
/-- what may be written -/
def Mut : Option HO → Prop
  | some (.lst _) => True
  | some (.dK _) => True
  | some (.dT _) => True
  | some (.set _ _) => True
  | some (.ins _ _ _) => True
  | some (.ext _) => True
  | _ => False
section
variable {P : Program} {w : World} {H : Hp} {h h' : Heap} {x e : Addr} {o' : HO}
/-- the object at e is changed: x itself, or the dict of the instance x -/
theorem HOk.write (ok : HOk P w H h) (mu : Mut (H x)) (he : e = x ∨ H e = some (.own x)) (k : ∀ b u, b ≠ e → h.get? b = some u → h'.get? b = some u) (heo : ∃ u, h'.get? e = some u)
    (new : ObjOk P w (upd H x o') h' x o') : HOk P w (upd H x o') h' := fun b u q => by
  have nown : ∀ c y, H c = some (.own y) → c ≠ x := fun c y r z => by subst z; rw [r] at mu; exact mu
  have ntup : ∀ c xs, H c = some (.tup xs) → c ≠ x := fun c xs r z => by subst z; rw [r] at mu; exact mu
  by_cases hb : b = x
  · subst hb; rw [upd_same] at q; cases q; exact new
  · rw [upd_ne hb] at q
    by_cases hbe : b = e
    · have q' : H b = some (.own x) := by
        rcases he with z | z
        · exact absurd (hbe.trans z) hb
        · rw [hbe]; exact z
      rw [q] at q'; cases q'
      obtain ⟨v, hv⟩ := heo
      exact ⟨v, by rw [hbe]; exact hv⟩
    · refine (ok b u q).stay (fun c v hc r => k c v ?_ r) (fun c r => by rw [upd_ne (nown c b r)]; exact r) fun c xs r => by rw [upd_ne (ntup c xs r)]; exact r
      rcases hc with rfl | hc
      · exact hbe
      · rintro rfl
        rcases he with z | z
        · exact nown c b hc z
        · rw [hc] at z; cases z; exact hb rfl
end

/-! ### kept unless tracked; of the frames at fs (the callers') the slots may change (an exception that passes writes there); of the records at ex (iterators) nothing is said -/
structure Un (fs ex : List Addr) (H H' : Hp) (h h' : Heap) : Prop where
  keep : ∀ b o, h.get? b = some o → H b = none → b ∉ fs → b ∉ ex → h'.get? b = some o
  slot : ∀ b o, h.get? b = some o → H b = none → b ∈ fs → b ∉ ex → ∃ sl, h'.get? b = some { o with slots := sl }
  free : ∀ b o, h.get? b = some o → H b = none → b ∉ ex → H' b = none
  there : ∀ b o, h.get? b = some o → b ∉ ex → ∃ o', h'.get? b = some o'
  tups : ∀ b xs, H b = some (.tup xs) → H' b = some (.tup xs)
  frzs : ∀ b o u, H b = some (.frz o u) → H' b = some (.frz o u)
  tbls : ∀ b ps, H b = some (.tbl ps) → ∃ more, H' b = some (.tbl (ps ++ more))
section
variable {fs fs' ex ex' : List Addr} {H H1 H2 : Hp} {h h1 h2 h' : Heap} {a x e : Addr} {o : HO}
theorem Un.any (u : Un fs ex H H1 h h1) {b : Addr} {ob : Obj} (q : h.get? b = some ob) (n : H b = none) (hx : b ∉ ex) : ∃ sl, h1.get? b = some { ob with slots := sl } := by
  by_cases hb : b ∈ fs
  · exact u.slot b ob q n hb hx
  · exact ⟨ob.slots, u.keep b ob q n hb hx⟩
theorem Un.kept (k : ∀ b u, h.get? b = some u → h'.get? b = some u) : Un fs ex H H h h' :=
  ⟨fun b ob q _ _ _ => k b ob q, fun b ob q _ _ _ => ⟨ob.slots, k b ob q⟩, fun _ _ _ n _ => n, fun b ob q _ => ⟨ob, k b ob q⟩, fun _ _ q => q, fun _ _ _ q => q, fun _ ps q => ⟨#[], by rw [q]; simp⟩⟩
theorem Un.refl : Un fs ex H H h h := Un.kept fun _ _ q => q
theorem Un.laid (k : ∀ b u, h.get? b = some u → h'.get? b = some u) (hp : h.objs.size ≤ a) (hn : H a = none) : Un fs ex H (upd H a o) h h' where
  keep := fun b u q _ _ _ => k b u q
  slot := fun b u q _ _ _ => ⟨u.slots, k b u q⟩
  free := fun b u q n _ => by rw [upd_ne (Nat.ne_of_lt (Nat.lt_of_lt_of_le (Heap.lt_size q) hp))]; exact n
  there := fun b u q _ => ⟨u, k b u q⟩
  tups := fun b xs q => by rw [upd_ne (ne_of_none q hn)]; exact q
  frzs := fun b u xs q => by rw [upd_ne (ne_of_none q hn)]; exact q
  tbls := fun b ps q => ⟨#[], by rw [upd_ne (ne_of_none q hn), q]; simp⟩
theorem Un.write (mu : Mut (H x)) (he : e = x ∨ H e = some (.own x)) (k : ∀ b u, b ≠ e → h.get? b = some u → h'.get? b = some u) (heo : ∃ u, h'.get? e = some u) : Un fs ex H (upd H x o) h h' := by
  have hx : ∀ b, H b = none → b ≠ x := fun b n z => by subst z; rw [n] at mu; exact mu
  have hb : ∀ b, H b = none → b ≠ e := fun b n z => by
    subst z
    rcases he with r | r
    · exact hx b n r
    · rw [n] at r; cases r
  have hm : ∀ b u, H b = some u → ¬ Mut (some u) → b ≠ x := fun b u q nm z => by subst z; rw [q] at mu; exact nm mu
  refine ⟨fun b u q n _ _ => k b u (hb b n) q, fun b u q n _ _ => ⟨u.slots, k b u (hb b n) q⟩, fun b u q n _ => by rw [upd_ne (hx b n)]; exact n, fun b u q _ => ?_,
    fun b xs q => by rw [upd_ne (hm b _ q fun z => z)]; exact q, fun b u xs q => by rw [upd_ne (hm b _ q fun z => z)]; exact q, fun b ps q => ⟨#[], by rw [upd_ne (hm b _ q fun z => z), q]; simp⟩⟩
  by_cases hbe : b = e
  · subst hbe; exact heo
  · exact ⟨u, k b u hbe q⟩
end

/-! ### the heap without what is tracked -/
def trk (h : Heap) (H : Hp) : List Addr := (List.range h.objs.size).filter fun a => (H a).isSome
def hidT (h : Heap) (H : Hp) : Heap := PySem.W.hideAll h (trk h H)
theorem hidT_size (h : Heap) (H : Hp) : (hidT h H).objs.size = h.objs.size := PySem.W.hideAll_size _ _
theorem hidT_get {h : Heap} {H : Hp} {b : Addr} {o : Obj} (e : h.get? b = some o) (n : H b = none) : (hidT h H).get? b = some o :=
  PySem.W.hideAll_get _ e fun hm => by
    have q : (H b).isSome = true := (List.mem_filter.mp hm).2
    rw [n] at q; simp at q
theorem of_hidT {h : Heap} {H : Hp} {b : Addr} {o : Obj} (e : (hidT h H).get? b = some o) : h.get? b = some o ∧ H b = none := by
  have e' : h.get? b = some o := PySem.W.of_hideAll (trk h H) e
  refine ⟨e', ?_⟩
  cases q : H b with
  | none => rfl
  | some x =>
    have hm : b ∈ trk h H := List.mem_filter.mpr ⟨List.mem_range.mpr (Heap.lt_size e'), by simp [q]⟩
    have z : (hidT h H).get? b = none := PySem.W.hideAll_none (trk h H) hm
    rw [z] at e; cases e

/-! ### OpenK's ledger, filled with every new object but one -/
end L2

namespace L2
open PySem PySem.Spec PyProof.Rows

/-- the module's facts, over the base: the heap at the law's entry without what is tracked there -/
structure Mod (K : PySem.W.Frag) (mg : Str → Option Value) (base : Heap) : Prop where
  kin : K.In base
  glob : base.Ns mainGlobals mg
  blt : ∃ mb, base.Ns builtinsNs mb ∧ ∀ x : Str, x ≠ "__name__" → mb x = bootBuiltins x
  nolimit : base.NoLimit

/-- the context: a def's body (or a comprehension's block) running. base: fixed through the whole law; s₀, H₀: the entry; outer: the frames whose slots others may change (a def's callers); stack: all frames that run;
   ex: iterators that were made ahead of the entry and are walked here (a comprehension's); fn: the names whose cells were made at the entry (a def: all; a comprehension's block: its own); calm: not within an except suite; pn: pins that every state bears; xe: what is wanted of an exception that leaves the code -/
structure Cx where
  prog : Program
  w : World
  K : PySem.W.Frag
  mg : Str → Option Value
  base : Heap
  A : Around
  N : List Str
  s₀ : Shared
  H₀ : Hp
  env : Env
  outer : List Env
  stack : List Env
  ex : List Addr
  fn : Str → Bool
  calm : Bool
  pn : List (Addr × Obj)
  xe : Value → Shared → Prop
/-- the callers' frames -/
def frs (l : List Env) : List Addr := l.filterMap (·.frame)
abbrev Cx.fs (X : Cx) : List Addr := frs X.outer

def Vis (sc : Scope) (x : Str) : Prop := sc.names.lookup x = some .local ∨ sc.names.lookup x = some .cell ∨ sc.names.lookup x = some .free
def Loc (sc : Scope) (x : Str) : Prop := sc.names.lookup x = some .local ∨ sc.names.lookup x = some .cell
def Look (env : Env) (h : Heap) (m : Str → Option Value) (x : Str) (u : Value) : Prop :=
  (env.kindOf x = some .local ∧ m x = some u) ∨ ((env.kindOf x = some .cell ∨ env.kindOf x = some .free) ∧ ∃ c, env.cells.lookup x = some c ∧ h.IsCell c (some u))

structure Cx.Ok (X : Cx) : Prop where
  mod : Mod X.K X.mg X.base
  kind : X.env.scope.kind = .function
  glob : X.env.globals = mainGlobals
  blt : X.env.builtins = builtinsNs
  above : X.s₀.heap.objs.size ≤ X.env.locals
  inj : ∀ x y c, X.env.cells.lookup x = some c → X.env.cells.lookup y = some c → x = y
  has : ∀ x, (X.env.kindOf x = some .cell ∨ X.env.kindOf x = some .free) → ∃ c, X.env.cells.lookup x = some c
  cab : ∀ x c, X.fn x = true → X.env.cells.lookup x = some c → X.s₀.heap.objs.size ≤ c
  hd : X.calm = true → X.A.handled = none
  frames : X.A.frames = some X.stack
  stk : X.stack = X.outer ∨ (X.stack = X.env :: X.outer ∧ X.env.frame = some X.env.locals)
  exf : ∀ b ∈ X.ex, b ≠ X.env.locals ∧ ∀ x c, X.env.cells.lookup x = some c → c ≠ b
  bs : ∀ b o, X.base.get? b = some o → X.s₀.heap.get? b = some o ∧ X.H₀ b = none
  bsz : X.base.objs.size ≤ X.s₀.heap.objs.size
  noex : ∀ b o, X.base.get? b = some o → b ∉ X.ex
  exfs : ∀ b ∈ X.ex, b ∉ X.fs
  funs : X.s₀.heap.FunFrames X.base X.outer
  frf : ∀ b ∈ X.fs, X.H₀ b = none

structure Inv (X : Cx) (pins : List (Addr × Obj)) (σ : List (Option V)) (H : Hp) (s : Shared) : Prop where
  ok : X.Ok
  os : s.os = X.s₀.os
  bare : AllBare s.gens
  base : Un X.fs X.ex X.H₀ H X.s₀.heap s.heap
  loc : ∃ m, s.heap.Ns X.env.locals m ∧ ∀ (i : Nat) (x : Str) (v : V), X.N[i]? = some x → σ[i]? = some (some v) → Vis X.env.scope x → ∃ u, RelV v u ∧ Look X.env s.heap m x u
  cell : ∀ x c, X.env.cells.lookup x = some c → ∃ v, s.heap.IsCell c v
  free : H X.env.locals = none
  freeC : ∀ x c, X.env.cells.lookup x = some c → H c = none
  pin : ∀ p ∈ X.pn ++ pins, s.heap.get? p.1 = some p.2 ∧ H p.1 = none ∧ p.1 ≠ X.env.locals ∧ p.1 ∉ X.fs ∧ ∀ v, p.2.data ≠ .cell v
  hok : HOk X.prog X.w H s.heap
  len : σ.length = X.N.length

section
variable {X : Cx} {pins : List (Addr × Obj)} {σ : List (Option V)} {H H' : Hp} {s : Shared} {h' : Heap}

theorem Cx.Ok.nofr (ok : X.Ok) {b : Addr} {o : Obj} (e : X.base.get? b = some o) : b ∉ X.fs := fun hb => by
  have := (ok.funs.mem hb).1
  rw [e] at this; cases this
theorem Inv.bs (I : Inv X pins σ H s) : ∀ b o, X.base.get? b = some o → s.heap.get? b = some o ∧ H b = none := fun b o e =>
  ⟨I.base.keep b o (I.ok.bs b o e).1 (I.ok.bs b o e).2 (I.ok.nofr e) (I.ok.noex b o e), I.base.free b o (I.ok.bs b o e).1 (I.ok.bs b o e).2 (I.ok.noex b o e)⟩
theorem Inv.bk (I : Inv X pins σ H s) : ∀ b o, X.base.get? b = some o → s.heap.get? b = some o := fun b o e => (I.bs b o e).1
theorem Inv.mod (I : Inv X pins σ H s) : Mod X.K X.mg X.base := I.ok.mod
theorem Inv.kIn (I : Inv X pins σ H s) : X.K.In s.heap := I.ok.mod.kin.keeps I.bk
theorem Inv.lt (I : Inv X pins σ H s) : X.env.locals < s.heap.objs.size := let ⟨_, hn, _⟩ := I.loc; hn.lt
theorem Inv.sz (I : Inv X pins σ H s) : X.s₀.heap.objs.size ≤ s.heap.objs.size := Nat.le_trans I.ok.above (Nat.le_of_lt I.lt)
theorem Inv.nofs (I : Inv X pins σ H s) {a : Addr} (h : s.heap.objs.size ≤ a) : a ∉ X.fs := fun hb => by
  obtain ⟨_, o, ho, _⟩ := I.ok.funs.mem hb
  exact absurd (Nat.lt_of_lt_of_le (Heap.lt_size ho) (Nat.le_trans I.sz h)) (Nat.lt_irrefl _)
theorem Inv.cne (I : Inv X pins σ H s) : ∀ x c, X.env.cells.lookup x = some c → c ≠ X.env.locals := fun x c e z => by
  obtain ⟨v, o, ho, hd⟩ := I.cell x c e
  obtain ⟨m, ⟨o', es, ep, ho', hd', _⟩, _⟩ := I.loc
  rw [z, ho'] at ho; cases ho; rw [hd'] at hd; cases hd
theorem Inv.funs (I : Inv X pins σ H s) : s.heap.FunFrames X.base X.outer := by
  have all : ∀ (l : List Env), (∀ b ∈ frs l, b ∈ X.fs) → X.s₀.heap.FunFrames X.base l → s.heap.FunFrames X.base l := by
    intro l
    induction l with
    | nil => intro _ _; trivial
    | cons env r ih =>
      intro hs hl
      obtain ⟨hk, ⟨L, o, hf, hn, ho, hd⟩, hr⟩ := hl
      have hL : L ∈ X.fs := hs L (by unfold frs; rw [List.filterMap_cons, hf]; exact List.mem_cons_self)
      obtain ⟨sl, e⟩ := I.base.slot L o ho (I.ok.frf L hL) hL fun z => I.ok.exfs L z hL
      exact ⟨hk, ⟨L, _, hf, hn, e, hd⟩, ih (fun b hb => hs b (by unfold frs; rw [List.filterMap_cons, hf]; exact List.mem_cons_of_mem _ hb)) hr⟩
  exact all X.outer (fun _ hb => hb) I.ok.funs

/-- the frames that run, for a call -/
theorem Inv.stack (I : Inv X pins σ H s) : s.heap.FunFrames X.base X.stack := by
  rcases I.ok.stk with e | ⟨e, hf⟩
  · rw [e]; exact I.funs
  · rw [e]
    obtain ⟨m, hn, _⟩ := I.loc
    refine .cons (by rw [I.ok.kind]; decide) hf hn ?_ I.funs
    exact Heap.get?_none_of_le (Nat.le_trans I.ok.bsz I.ok.above)
theorem Inv.stkSub (I : Inv X pins σ H s) : ∀ b ∈ frs X.stack, b ∈ X.env.locals :: X.fs := fun b hb => by
  rcases I.ok.stk with e | ⟨e, hf⟩
  · rw [e] at hb; exact List.mem_cons_of_mem _ hb
  · rw [e] at hb
    unfold frs at hb
    rw [List.filterMap_cons, hf] at hb
    exact hb
theorem Inv.stkFree (I : Inv X pins σ H s) : ∀ b ∈ frs X.stack, H b = none := fun b hb => by
  rcases List.mem_cons.mp (I.stkSub b hb) with e | hb
  · rw [e]; exact I.free
  · obtain ⟨_, o, ho, _⟩ := I.ok.funs.mem hb
    exact I.base.free b o ho (I.ok.frf b hb) fun z => I.ok.exfs b z hb

/-- THE STEP: the untracked objects but the frame and the records at ch are kept (the callers' frames up to slots), the frame's map is kept, the new abstract heap is held -/
theorem Inv.step {g' : Array GenState} {t' : Nat} {d' : Drawn} {ch : List Addr} (I : Inv X pins σ H s)
    (hch : ∀ b ∈ ch, (b ∈ X.ex ∨ X.s₀.heap.objs.size ≤ b) ∧ b ≠ X.env.locals ∧ (∀ x c, X.env.cells.lookup x = some c → c ≠ b) ∧ ∀ p ∈ X.pn ++ pins, p.1 ≠ b)
    (keep : ∀ b o, b ≠ X.env.locals → b ∉ X.fs → b ∉ ch → s.heap.get? b = some o → H b = none → h'.get? b = some o)
    (slot : ∀ b o, b ≠ X.env.locals → b ∈ X.fs → b ∉ ch → s.heap.get? b = some o → H b = none → ∃ sl, h'.get? b = some { o with slots := sl }) (free : ∀ b o, b ∉ ch → s.heap.get? b = some o → H b = none → H' b = none)
    (there : ∀ b o, b ∉ ch → s.heap.get? b = some o → ∃ o', h'.get? b = some o')
    (tups : ∀ b xs, H b = some (.tup xs) → H' b = some (.tup xs)) (frzs : ∀ b o u, H b = some (.frz o u) → H' b = some (.frz o u)) (tbls : ∀ b ps, H b = some (.tbl ps) → ∃ more, H' b = some (.tbl (ps ++ more)))
    (ns : ∀ m, s.heap.Ns X.env.locals m → h'.Ns X.env.locals m) (hok : HOk X.prog X.w H' h') (hg : AllBare g') :
    Inv X pins σ H' { s with heap := h', gens := g', drawn := d', toks := t' } := by
  have neL : ∀ b o, X.s₀.heap.get? b = some o → b ≠ X.env.locals := fun b o e => Nat.ne_of_lt (Nat.lt_of_lt_of_le (Heap.lt_size e) I.ok.above)
  have neC : ∀ b o, X.s₀.heap.get? b = some o → b ∉ X.ex → b ∉ ch := fun b o e hx hb => by
    rcases (hch b hb).1 with z | z
    · exact hx z
    · exact absurd (Nat.lt_of_lt_of_le (Heap.lt_size e) z) (Nat.lt_irrefl _)
  have cellK : ∀ x c, X.env.cells.lookup x = some c → ∀ v, s.heap.IsCell c v → h'.IsCell c v := fun x c e v ⟨o, ho, hd⟩ => by
    have nch : c ∉ ch := fun z => (hch c z).2.2.1 x c e rfl
    by_cases hc : c ∈ X.fs
    · obtain ⟨sl, q⟩ := slot c o (I.cne x c e) hc nch ho (I.freeC x c e)
      exact ⟨_, q, hd⟩
    · exact ⟨o, keep c o (I.cne x c e) hc nch ho (I.freeC x c e), hd⟩
  refine ⟨I.ok, I.os, hg, ⟨fun b o e n hb hx => ?_, fun b o e n hb hx => ?_, fun b o e n hx => ?_, fun b o e hx => ?_, fun b xs e => tups b xs (I.base.tups b xs e), fun b o xs e => frzs b o xs (I.base.frzs b o xs e), fun b ps e => ?_⟩, ?_, fun x c e => ?_, ?_, fun x c e => ?_, fun p hp => ?_, hok, I.len⟩
  · exact keep b o (neL b o e) hb (neC b o e hx) (I.base.keep b o e n hb hx) (I.base.free b o e n hx)
  · obtain ⟨sl, e1⟩ := I.base.slot b o e n hb hx
    obtain ⟨sl', e2⟩ := slot b _ (neL b o e) hb (neC b o e hx) e1 (I.base.free b o e n hx)
    exact ⟨sl', e2⟩
  · obtain ⟨o', e1⟩ := I.base.there b o e hx
    exact free b o' (neC b o e hx) e1 (I.base.free b o e n hx)
  · obtain ⟨o', e1⟩ := I.base.there b o e hx
    exact there b o' (neC b o e hx) e1
  · obtain ⟨m1, e1⟩ := I.base.tbls b ps e
    obtain ⟨m2, e2⟩ := tbls b _ e1
    exact ⟨m1 ++ m2, by rw [e2, Array.append_assoc]⟩
  · obtain ⟨m, hn, hl⟩ := I.loc
    refine ⟨m, ns m hn, fun i x v e1 e2 e3 => ?_⟩
    obtain ⟨u, r, l⟩ := hl i x v e1 e2 e3
    refine ⟨u, r, ?_⟩
    rcases l with l | ⟨k, c, e, z⟩
    · exact .inl l
    · exact .inr ⟨k, c, e, cellK x c e _ z⟩
  · obtain ⟨v, z⟩ := I.cell x c e
    exact ⟨v, cellK x c e v z⟩
  · obtain ⟨m, ⟨o, _, _, ho, _⟩, _⟩ := I.loc
    exact free _ o (fun z => (hch _ z).2.1 rfl) ho I.free
  · obtain ⟨v, o, ho, hd⟩ := I.cell x c e
    exact free c o (fun z => (hch c z).2.2.1 x c e rfl) ho (I.freeC x c e)
  · obtain ⟨e, n, ne, nf, d⟩ := I.pin p hp
    have nch : p.1 ∉ ch := fun z => (hch p.1 z).2.2.2 p hp rfl
    exact ⟨keep p.1 p.2 ne nf nch e n, free p.1 p.2 nch e n, ne, nf, d⟩
/-- .. where the frame's own object is kept too -/
theorem Inv.un {t' : Nat} (I : Inv X pins σ H s) (u : Un X.fs [] H H' s.heap h') (hok : HOk X.prog X.w H' h') : Inv X pins σ H' { s with heap := h', toks := t' } := by
  obtain ⟨m, ⟨o, es, ep, ho, r⟩, _⟩ := id I.loc
  obtain ⟨sl, hL⟩ := u.any ho I.free (by simp)
  exact I.step (g' := s.gens) (d' := s.drawn) (ch := []) (fun _ z => nomatch z) (fun b o _ hb _ e n => u.keep b o e n hb (by simp)) (fun b o _ hb _ e n => u.slot b o e n hb (by simp)) (fun b o _ e n => u.free b o e n (by simp)) (fun b o _ e => u.there b o e (by simp)) u.tups u.frzs u.tbls (fun m' hm => by
    obtain ⟨o', es', ep', ho', r'⟩ := hm
    rw [ho] at ho'; cases ho'
    exact ⟨_, es', ep', hL, r'⟩) hok I.bare
/-- behind a call (or a comprehension's block): the slots of this frame may have changed too, the records at ch may have turned -/
theorem Inv.call {g' : Array GenState} {t' : Nat} {d' : Drawn} {ch : List Addr} (I : Inv X pins σ H s) (u : Un (frs X.stack) ch H H' s.heap h') (hok : HOk X.prog X.w H' h') (hg : AllBare g')
    (hch : ∀ b ∈ ch, (b ∈ X.ex ∨ X.s₀.heap.objs.size ≤ b) ∧ b ≠ X.env.locals ∧ (∀ x c, X.env.cells.lookup x = some c → c ≠ b) ∧ ∀ p ∈ X.pn ++ pins, p.1 ≠ b) :
    Inv X pins σ H' { s with heap := h', gens := g', drawn := d', toks := t' } := by
  obtain ⟨m, ⟨o, es, ep, ho, r⟩, _⟩ := id I.loc
  obtain ⟨sl, hL⟩ := u.any ho I.free fun z => (hch _ z).2.1 rfl
  exact I.step (ch := ch) hch (fun b o hL hb hc e n => u.keep b o e n (fun z => (List.mem_cons.mp (I.stkSub b z)).elim hL hb) hc) (fun b o _ _ hc e n => u.any e n hc) (fun b o hc e n => u.free b o e n hc) (fun b o hc e => u.there b o e hc) u.tups u.frzs u.tbls (fun m' hm => by
    obtain ⟨o', es', ep', ho', r'⟩ := hm
    rw [ho] at ho'; cases ho'
    exact ⟨_, es', ep', hL, r'⟩) hok hg
/-- an untracked record of ours (an iterator) has turned -/
theorem Inv.turned {t' : Nat} {it : Addr} (I : Inv X pins σ H s) (k : ∀ b o, b ≠ it → s.heap.get? b = some o → h'.get? b = some o) (hn : H it = none) (hL : it ≠ X.env.locals)
    (h1 : it ∈ X.ex ∨ X.s₀.heap.objs.size ≤ it) (h2 : ∀ x c, X.env.cells.lookup x = some c → c ≠ it) (h3 : ∀ p ∈ X.pn ++ pins, p.1 ≠ it) : Inv X pins σ H { s with heap := h', toks := t' } := by
  have nit : ∀ b u, H b = some u → b ≠ it := fun b u e z => by rw [z, hn] at e; cases e
  refine I.step (g' := s.gens) (d' := s.drawn) (ch := [it]) (fun b hb => ?_) (fun b o _ _ hc e _ => k b o (fun z => hc (by simp [z])) e) (fun b o _ _ hc e _ => ⟨o.slots, k b o (fun z => hc (by simp [z])) e⟩) (fun _ _ _ _ n => n)
    (fun b o hc e => ⟨o, k b o (fun z => hc (by simp [z])) e⟩) (fun _ _ e => e) (fun _ _ _ e => e) (fun b ps e => ⟨#[], by rw [e]; simp⟩) (fun m hm => ?_) (fun b u e => ?_) I.bare
  · have e : b = it := by simpa using hb
    subst e
    exact ⟨h1, hL, h2, h3⟩
  · obtain ⟨o, es, ep, ho, r⟩ := hm
    exact ⟨o, es, ep, k _ o (Ne.symm hL) ho, r⟩
  · refine (I.hok b u e).stay (fun c v hc q => k c v ?_ q) (fun _ q => q) fun _ _ q => q
    rcases hc with z | z
    · rw [z]; exact nit b u e
    · exact nit c _ z
theorem Inv.tok (I : Inv X pins σ H s) (t : Nat) : Inv X pins σ H { s with toks := t } := I.un (h' := s.heap) (t' := t) Un.refl I.hok
/-- all objects kept -/
theorem Inv.kept {t' : Nat} (I : Inv X pins σ H s) (k : ∀ b u, s.heap.get? b = some u → h'.get? b = some u) : Inv X pins σ H { s with heap := h', toks := t' } := I.un (Un.kept k) (I.hok.kept k)
/-- a new object laid and tracked -/
theorem Inv.laid {a : Addr} {o : HO} {t' : Nat} (I : Inv X pins σ H s) (k : ∀ b u, s.heap.get? b = some u → h'.get? b = some u) (hp : s.heap.objs.size ≤ a) (new : ObjOk X.prog X.w (upd H a o) h' a o) :
    Inv X pins σ (upd H a o) { s with heap := h', toks := t' } := I.un (Un.laid k hp (I.hok.fresh hp)) (I.hok.laid k hp new)
/-- an object written -/
theorem Inv.write {x e : Addr} {o : HO} {t' : Nat} (I : Inv X pins σ H s) (mu : Mut (H x)) (he : e = x ∨ H e = some (.own x)) (k : ∀ b u, b ≠ e → s.heap.get? b = some u → h'.get? b = some u) (heo : ∃ u, h'.get? e = some u)
    (new : ObjOk X.prog X.w (upd H x o) h' x o) : Inv X pins σ (upd H x o) { s with heap := h', toks := t' } := I.un (Un.write mu he k heo) (I.hok.write mu he k heo new)
theorem Inv.pins_of {pins' : List (Addr × Obj)} (I : Inv X pins σ H s) (h : ∀ p ∈ pins', s.heap.get? p.1 = some p.2 ∧ H p.1 = none ∧ p.1 ≠ X.env.locals ∧ p.1 ∉ X.fs ∧ ∀ v, p.2.data ≠ .cell v) : Inv X pins' σ H s :=
  ⟨I.ok, I.os, I.bare, I.base, I.loc, I.cell, I.free, I.freeC, fun p hp => (List.mem_append.mp hp).elim (fun z => I.pin p (List.mem_append_left _ z)) (h p), I.hok, I.len⟩

theorem nodup_ix {N : List Str} (hN : N.Nodup) {i j : Nat} {x : Str} (a : N[i]? = some x) (b : N[j]? = some x) : i = j := by
  obtain ⟨h1, e1⟩ := List.getElem?_eq_some_iff.mp a
  obtain ⟨h2, e2⟩ := List.getElem?_eq_some_iff.mp b
  exact (List.getElem_inj hN).mp (e1.trans e2.symm)

/-- a name is stored; what changed -/
theorem store_ok2 {M : Model} {A : Around} {E : Value → Shared → Prop} {i : Nat} {x : Str} {v : V} {u : Value} {Q : Unit → Shared → Prop} (I : Inv X pins σ H s) (hN : X.N.Nodup) (hi : X.N[i]? = some x) (hx : Loc X.env.scope x) (r : RelV v u)
    (h : ∀ s', Inv X pins (σ.set i (some v)) H s' → (∃ a, Heap.SameBut a s.heap s'.heap ∧ (a = X.env.locals ∨ X.env.cells.lookup x = some a)) → Q () s') (hf : X.fn x = true ∨ X.env.scope.names.lookup x = some .local := by first | exact .inl rfl | exact .inr rfl | assumption) : wpAny M A (storeName X.env x u) Q E s := by
  obtain ⟨m, hn, hl⟩ := id I.loc
  have hcls : (X.env.scope.kind == .class || (X.env.scope.kind == .module && X.env.locals != X.env.globals)) = false := by rw [I.ok.kind]; rfl
  have hiσ : i < σ.length := by rw [I.len]; exact (List.getElem?_eq_some_iff.mp hi).1
  have cne := I.cne
  have tracked : ∀ {a : Addr} {h' : Heap}, (∃ o, s.heap.get? a = some o ∧ H a = none) → Heap.SameBut a s.heap h' → HOk X.prog X.w H h' := fun {a h'} ha hs b ob e => by
    obtain ⟨_, _, hfree⟩ := ha
    refine (I.hok b ob e).stay (fun c w' hc q => (hs.2 c ?_).trans q) (fun _ q => q) fun _ _ q => q
    rintro rfl
    rcases hc with rfl | hc
    · rw [hfree] at e; cases e
    · rw [hfree] at hc; cases hc
  rcases hx with hk | hk
  · refine wpAny_storeName_local hk hn (fun h' hn' hs => ?_) hcls
    obtain ⟨oL, _, _, hoL, _⟩ := id hn
    refine h _ ⟨I.ok, I.os, I.bare, ⟨fun b o e n hb hx => ?_, fun b o e n hb hx => ?_, I.base.free, fun b o e hx => ?_, I.base.tups, I.base.frzs, I.base.tbls⟩, ⟨_, hn', fun j y v' e1 e2 e3 => ?_⟩, fun y c e => ?_, I.free, I.freeC, fun p hp => ?_, tracked ⟨oL, hoL, I.free⟩ hs, by simpa using I.len⟩ ⟨_, hs, .inl rfl⟩
    · exact (hs.2 b (Nat.ne_of_lt (Nat.lt_of_lt_of_le (Heap.lt_size e) I.ok.above))).trans (I.base.keep b o e n hb hx)
    · obtain ⟨sl, e1⟩ := I.base.slot b o e n hb hx
      exact ⟨sl, (hs.2 b (Nat.ne_of_lt (Nat.lt_of_lt_of_le (Heap.lt_size e) I.ok.above))).trans e1⟩
    · obtain ⟨o', e1⟩ := I.base.there b o e hx
      exact ⟨o', (hs.2 b (Nat.ne_of_lt (Nat.lt_of_lt_of_le (Heap.lt_size e) I.ok.above))).trans e1⟩
    · by_cases hj : j = i
      · subst hj
        rw [hi] at e1; cases e1
        rw [List.getElem?_set_self hiσ] at e2
        cases e2
        exact ⟨u, r, .inl ⟨hk, by simp⟩⟩
      · rw [List.getElem?_set_ne (Ne.symm hj)] at e2
        obtain ⟨u', r', q⟩ := hl j y v' e1 e2 e3
        refine ⟨u', r', ?_⟩
        rcases q with ⟨k, e⟩ | ⟨k, c, e, z⟩
        · refine .inl ⟨k, ?_⟩
          have : y ≠ x := fun e => hj (nodup_ix hN e1 (e ▸ hi))
          simp [this, e]
        · exact .inr ⟨k, c, e, z.sameBut hs (cne y c e)⟩
    · obtain ⟨w', z⟩ := I.cell y c e
      exact ⟨w', z.sameBut hs (cne y c e)⟩
    · obtain ⟨e, n, ne, nf, d⟩ := I.pin p hp
      exact ⟨(hs.2 p.1 ne).trans e, n, ne, nf, d⟩
  · have hfn : X.fn x = true := by
      rcases hf with z | z
      · exact z
      · rw [z] at hk; cases hk
    obtain ⟨c, hc⟩ := I.ok.has x (.inl hk)
    obtain ⟨w', z⟩ := I.cell x c hc
    refine wpAny_storeName_cell I.ok.kind hk hc z (fun h' hc' hs => ?_)
    obtain ⟨oc, hoc, hocd⟩ := id z
    refine h { s with heap := h' } ⟨I.ok, I.os, I.bare, ⟨fun b o e n hb hx => ?_, fun b o e n hb hx => ?_, I.base.free, fun b o e hx => ?_, I.base.tups, I.base.frzs, I.base.tbls⟩, ⟨m, hn.sameBut hs (Ne.symm (cne x c hc)), fun j y v' e1 e2 e3 => ?_⟩, fun y c' e => ?_, I.free, I.freeC, fun p hp => ?_, tracked ⟨oc, hoc, I.freeC x c hc⟩ hs, by simpa using I.len⟩ ⟨c, hs, .inr hc⟩
    · exact (hs.2 b (Nat.ne_of_lt (Nat.lt_of_lt_of_le (Heap.lt_size e) (I.ok.cab x c hfn hc)))).trans (I.base.keep b o e n hb hx)
    · obtain ⟨sl, e1⟩ := I.base.slot b o e n hb hx
      exact ⟨sl, (hs.2 b (Nat.ne_of_lt (Nat.lt_of_lt_of_le (Heap.lt_size e) (I.ok.cab x c hfn hc)))).trans e1⟩
    · obtain ⟨o', e1⟩ := I.base.there b o e hx
      exact ⟨o', (hs.2 b (Nat.ne_of_lt (Nat.lt_of_lt_of_le (Heap.lt_size e) (I.ok.cab x c hfn hc)))).trans e1⟩
    · by_cases hj : j = i
      · subst hj
        rw [hi] at e1; cases e1
        rw [List.getElem?_set_self hiσ] at e2
        cases e2
        exact ⟨u, r, .inr ⟨.inl hk, c, hc, hc'⟩⟩
      · rw [List.getElem?_set_ne (Ne.symm hj)] at e2
        obtain ⟨u', r', q⟩ := hl j y v' e1 e2 e3
        refine ⟨u', r', ?_⟩
        rcases q with q | ⟨k, c', e, z'⟩
        · exact .inl q
        · refine .inr ⟨k, c', e, z'.sameBut hs ?_⟩
          rintro rfl
          exact hj (nodup_ix hN e1 (I.ok.inj _ _ _ e hc ▸ hi))
    · by_cases hcc : c' = c
      · subst hcc; exact ⟨_, hc'⟩
      · obtain ⟨w2, z2⟩ := I.cell y c' e
        exact ⟨w2, z2.sameBut hs hcc⟩
    · obtain ⟨e, n, ne, nf, d⟩ := I.pin p hp
      refine ⟨(hs.2 p.1 ?_).trans e, n, ne, nf, d⟩
      intro q
      rw [q, hoc] at e
      have q' : oc = p.2 := Option.some.inj e
      exact d w' (by rw [← q']; exact hocd)
theorem store_ok {M : Model} {A : Around} {E : Value → Shared → Prop} {i : Nat} {x : Str} {v : V} {u : Value} {Q : Unit → Shared → Prop} (I : Inv X pins σ H s) (hN : X.N.Nodup) (hi : X.N[i]? = some x) (hx : Loc X.env.scope x) (r : RelV v u)
    (h : ∀ s', Inv X pins (σ.set i (some v)) H s' → Q () s') (hf : X.fn x = true ∨ X.env.scope.names.lookup x = some .local := by first | exact .inl rfl | exact .inr rfl | assumption) : wpAny M A (storeName X.env x u) Q E s :=
  store_ok2 I hN hi hx r (fun s' I' _ => h s' I') hf
/-- behind a call or a block, the state as it is -/
theorem Inv.call' {s' : Shared} {ch : List Addr} (I : Inv X pins σ H s) (ho : s'.os = s.os) (u : Un (frs X.stack) ch H H' s.heap s'.heap) (hok : HOk X.prog X.w H' s'.heap) (hg : AllBare s'.gens)
    (hch : ∀ b ∈ ch, (b ∈ X.ex ∨ X.s₀.heap.objs.size ≤ b) ∧ b ≠ X.env.locals ∧ (∀ x c, X.env.cells.lookup x = some c → c ≠ b) ∧ ∀ p ∈ X.pn ++ pins, p.1 ≠ b) : Inv X pins σ H' s' := by
  obtain ⟨h', g', d', t', o'⟩ := s'
  have e : o' = s.os := ho
  subst e
  exact I.call (g' := g') (t' := t') (d' := d') u hok hg hch
end

/-! ### the judgements -/
/-- an exception: its class, its own dict's address (where it has one), the abstract heap behind it -/
abbrev XK := Value → Option Addr → Hp → Prop
abbrev St := List (Option V)
abbrev VK := V → Hp → Prop
/-- an expression's reading; a test's; an argument list's -/
abbrev TE := St → Hp → VK → Prop
abbrev TT := St → Hp → (Bool → Hp → Prop) → Prop
abbrev TA := St → Hp → (List V → Hp → Prop) → Prop
/-- what is wanted behind a statement -/
structure Ends where
  nx : St → Hp → Prop
  rt : VK
  bk : St → Hp → Prop := fun _ _ => False
  ct : St → Hp → Prop := fun _ _ => False
abbrev TS := Ends → St → Hp → Prop

def EP (X : Cx) (pins : List (Addr × Obj)) (σ : St) (Q : VK) (u : Value) (s' : Shared) : Prop := ∃ v H', Inv X pins σ H' s' ∧ RelV v u ∧ Q v H'
def TP (X : Cx) (pins : List (Addr × Obj)) (σ : St) (Q : Bool → Hp → Prop) (b : Bool) (s' : Shared) : Prop := ∃ H', Inv X pins σ H' s' ∧ Q b H'
def AP (X : Cx) (pins : List (Addr × Obj)) (σ : St) (Q : List V → Hp → Prop) (us : List Value) (s' : Shared) : Prop := ∃ vs H', Inv X pins σ H' s' ∧ Vals vs us ∧ Q vs H'
def SP (X : Cx) (pins : List (Addr × Obj)) (D : Ends) (f : Flow) (s' : Shared) : Prop :=
  match f with
  | .next => ∃ σ' H', Inv X pins σ' H' s' ∧ D.nx σ' H'
  | .brk => ∃ σ' H', Inv X pins σ' H' s' ∧ D.bk σ' H'
  | .cont => ∃ σ' H', Inv X pins σ' H' s' ∧ D.ct σ' H'
  | .ret u => ∃ v σ' H', Inv X pins σ' H' s' ∧ RelV v u ∧ D.rt v H'

def PE (X : Cx) (e : Expr) (t : TE) : Prop :=
  ∀ (pins : List (Addr × Obj)) (s : Shared) (σ : St) (H : Hp) (Q : VK), Inv X pins σ H s → t σ H Q → wpAny (model X.prog X.w) X.A (eval e X.env) (EP X pins σ Q) X.xe s
def PT (X : Cx) (e : Expr) (t : TT) : Prop :=
  ∀ (pins : List (Addr × Obj)) (s : Shared) (σ : St) (H : Hp) (Q : Bool → Hp → Prop), Inv X pins σ H s → t σ H Q → wpAny (model X.prog X.w) X.A (isTrue e X.env (eval e X.env)) (TP X pins σ Q) X.xe s
/-- a test whatever its 'whole' is (and, or) -/
def PW (X : Cx) (e : Expr) (t : TT) : Prop :=
  ∀ (whole : Sem Value) (pins : List (Addr × Obj)) (s : Shared) (σ : St) (H : Hp) (Q : Bool → Hp → Prop), Inv X pins σ H s → t σ H Q → wpAny (model X.prog X.w) X.A (isTrue e X.env whole) (TP X pins σ Q) X.xe s
theorem PW.pt {X : Cx} {e : Expr} {t : TT} (h : PW X e t) : PT X e t := h _
/-- an argument list (no star), from the left -/
def PA (X : Cx) (es : List Expr) (t : TA) : Prop :=
  ∀ (pos : Pos) (pins : List (Addr × Obj)) (s : Shared) (σ : St) (H : Hp) (Q : List V → Hp → Prop), Inv X pins σ H s → t σ H Q → wpAny (model X.prog X.w) X.A (spliced (backTo pos (starEach es X.env))) (AP X pins σ Q) X.xe s
def PS (X : Cx) (st : Stmt) (t : TS) : Prop :=
  ∀ (pins : List (Addr × Obj)) (s : Shared) (σ : St) (H : Hp) (D : Ends), Inv X pins σ H s → t D σ H → wpAny (model X.prog X.w) X.A (exec st X.env) (SP X pins D) X.xe s
def PSs (X : Cx) (st : List Stmt) (t : TS) : Prop :=
  ∀ (pins : List (Addr × Obj)) (s : Shared) (σ : St) (H : Hp) (D : Ends), Inv X pins σ H s → t D σ H → wpAny (model X.prog X.w) X.A (execs st X.env) (SP X pins D) X.xe s
/-- weaken the end -/
theorem thn {α : Type} {t : Sem α} {Q Q' : α → Shared → Prop} {M : Model} {A : Around} {E : Value → Shared → Prop} {s : Shared} (h : wpAny M A t Q E s) (hQ : ∀ a s, Q a s → Q' a s) : wpAny M A t Q' E s := wpAny_mono h hQ fun _ _ x => x
end L2

namespace L2
open PySem PySem.Spec PyProof.Rows
section
variable {X : Cx}

/-- two expressions in a row -/
theorem bin {a b : Expr} {ta tb : TE} (ha : PE X a ta) (hb : PE X b tb) {pins : List (Addr × Obj)} {s : Shared} {σ : St} {H : Hp} {R : V → V → Hp → Prop} (I : Inv X pins σ H s) (h : ta σ H fun x H1 => tb σ H1 fun y H2 => R x y H2)
    {α : Type} {Q : α → Shared → Prop} {f : Value → Value → Sem α}
    (hf : ∀ v u s2 x y H2, Inv X pins σ H2 s2 → RelV x v → RelV y u → R x y H2 → wpAny (model X.prog X.w) X.A (f v u) Q X.xe s2) :
    wpAny (model X.prog X.w) X.A (eval a X.env) (fun v s₁ => wpAny (model X.prog X.w) X.A (eval b X.env) (fun u s₂ => wpAny (model X.prog X.w) X.A (f v u) Q X.xe s₂) X.xe s₁) X.xe s := by
  refine thn (ha pins s σ H _ I h) fun v s1 ⟨x, H1, I1, r1, q1⟩ => ?_
  refine thn (hb pins s1 σ H1 _ I1 q1) fun u s2 ⟨y, H2, I2, r2, q2⟩ => ?_
  exact hf v u s2 x y H2 I2 r1 r2 q2

/-! ### names and constants -/
def tVar (i : Nat) : TE := fun σ H Q => ∃ v, σ[i]? = some (some v) ∧ Q v H
def tC (v : V) : TE := fun _ H Q => Q v H
theorem pe_var {i : Nat} {x : Str} {pos : Pos} (hN : X.N[i]? = some x) (hv : Vis X.env.scope x) (hd : (x == ("__debug__" : Str)) = false := by decide) (hcd : (x == ("__classdict__" : Str)) = false := by decide) : PE X (.Name x pos) (tVar i) := by
  intro pins s σ H Q I h
  obtain ⟨v, e, h⟩ := h
  obtain ⟨m, hn, hl⟩ := I.loc
  obtain ⟨u, r, l⟩ := hl i x v hN e hv
  have fin : EP X pins σ Q u s := ⟨v, H, I, r, h⟩
  rcases l with ⟨hk, hm⟩ | ⟨hk, c, hc, hcell⟩
  · exact wpAny_Name (wpAny_loadName_local I.ok.kind hk hn hm fin) hd
  · rcases hk with hk | hk
    · exact wpAny_Name (wpAny_loadName_cell I.ok.kind hk hc hcell fin) hd
    · exact wpAny_Name (wpAny_loadName_free I.ok.kind hk hc hcell fin hcd) hd
theorem pe_int {i j pos} : PE X (.Constant (.int i) j pos) (tC (.int i)) := fun _ _ _ H _ I h => wpAny_Constant_int ⟨.int i, H, I.tok _, ⟨_, rfl⟩, h⟩
theorem pe_bl {b j pos} : PE X (.Constant (.bool b) j pos) (tC (.bl b)) := fun _ _ _ H _ I h => Constant_bool ⟨.bl b, H, I, rfl, h⟩
theorem pe_non {j pos} : PE X (.Constant .none j pos) (tC .non) := fun _ _ _ H _ I h => Constant_none ⟨.non, H, I, rfl, h⟩
theorem pe_str {x j pos} : PE X (.Constant (.str x) j pos) (tC (.str x)) := fun _ _ _ H _ I h => Calls.Constant_str ⟨.str x, H, I.tok _, ⟨_, rfl⟩, h⟩

/-- a global name of the def -/
def Gl (X : Cx) (x : Str) : Prop := X.env.kindOf x = some .globalImplicit
theorem ld_glob {E : Value → Shared → Prop} {pins : List (Addr × Obj)} {s : Shared} {σ : St} {H : Hp} {x : Str} {u : Value} {pos : Pos} {Q : Value → Shared → Prop} (I : Inv X pins σ H s) (hg : Gl X x) (hm : X.mg x = some u) (h : Q u s)
    (hd : (x == ("__debug__" : Str)) = false := by decide) : wpAny (model X.prog X.w) X.A (eval (.Name x pos) X.env) Q E s :=
  Calls.Name_function_global I.ok.kind hg (Calls.loadGlobal_global (by rw [I.ok.glob]; exact I.mod.glob.keeps I.bk) hm h) hd
theorem ld_blt {E : Value → Shared → Prop} {pins : List (Addr × Obj)} {s : Shared} {σ : St} {H : Hp} {x : Str} {u : Value} {pos : Pos} {Q : Value → Shared → Prop} (I : Inv X pins σ H s) (hg : Gl X x) (hm : X.mg x = none) (hv : bootBuiltins x = some u) (h : Q u s)
    (hn : x ≠ "__name__" := by decide) (hd : (x == ("__debug__" : Str)) = false := by decide) : wpAny (model X.prog X.w) X.A (eval (.Name x pos) X.env) Q E s := by
  obtain ⟨mb, h1, h2⟩ := I.mod.blt
  exact Calls.Name_function_global I.ok.kind hg (Calls.loadGlobal_builtin (by rw [I.ok.glob]; exact I.mod.glob.keeps I.bk) hm (by rw [I.ok.blt]; exact h1.keeps I.bk) ((h2 x hn).trans hv) h) hd
/-- a module's constant, a class, a function, as a value -/
theorem pe_glob {x : Str} {v : V} {u : Value} {pos : Pos} (hg : Gl X x) (hm : X.mg x = some u) (r : RelV v u) (hd : (x == ("__debug__" : Str)) = false := by decide) : PE X (.Name x pos) (tC v) :=
  fun _ _ _ H _ I h => ld_glob I hg hm ⟨v, H, I, r, h⟩ hd
theorem pe_bltn {x : Str} {v : V} {u : Value} {pos : Pos} (hg : Gl X x) (hm : X.mg x = none) (hv : bootBuiltins x = some u) (r : RelV v u) (hn : x ≠ "__name__" := by decide) (hd : (x == ("__debug__" : Str)) = false := by decide) : PE X (.Name x pos) (tC v) :=
  fun _ _ _ H _ I h => ld_blt I hg hm hv ⟨v, H, I, r, h⟩ hn hd

/-! ### arithmetic -/
variable {a b : Expr} {ta tb : TE} {pos : Pos}

/-! ### comparisons -/
def PC (X : Cx) (op : CmpOp) (a b : Expr) (t : TE) : Prop :=
  ∀ (pins : List (Addr × Obj)) (s : Shared) (σ : St) (H : Hp) (Q : VK), Inv X pins σ H s → t σ H Q →
    wpAny (model X.prog X.w) X.A (eval a X.env) (fun v s₁ => wpAny (model X.prog X.w) X.A (eval b X.env) (fun u s₂ => wpAny (model X.prog X.w) X.A (compareOp op v u) (EP X pins σ Q) X.xe s₂) X.xe s₁) X.xe s
/-- a comparison as a value, as a test -/
def tB (t : TE) : TT := fun σ H Q => t σ H fun x H1 => ∃ c, x = .bl c ∧ Q c H1
theorem pt_cmp {op : CmpOp} {t : TE} (h : PC X op a b t) (h1 : behindInMarks op b = false := by first | exact nobehind _ (by decide) (by decide) | rfl) : PT X (.Compare a [op] [b] pos) (tB t) := by
  intro pins s σ H Q I hw
  refine wpAny_isTrue_Compare1 (thn (h pins s σ H _ I hw) fun v s1 h1 => thn h1 fun u s2 h2 => thn h2 fun c s3 ⟨x, H1, I1, r1, q1⟩ => ?_) h1
  obtain ⟨d, rfl, q⟩ := q1
  cases r1
  exact wpAny_truthy_bool ⟨H1, I1, q⟩
/-- an expression whose value is a bool, as a test -/
theorem pt_val {e : Expr} {t : TE} (h : PE X e t) (he : ∀ whole, isTrue e X.env whole = (do let v ← whole; standAt e.pos; holding [v] (truthy v)) := by intro _; rfl) : PT X e (tB t) := by
  intro pins s σ H Q I hw
  refine isTrue_plain (thn (h pins s σ H _ I hw) fun v s1 ⟨x, H1, I1, r1, q1⟩ => ?_) (he _)
  obtain ⟨d, rfl, q⟩ := q1
  cases r1
  exact wpAny_truthy_bool ⟨H1, I1, q⟩

/-! ### and, or, not -/
variable {tA tB' : TT} {rest : List Expr}
def tAnd (t u : TT) : TT := fun σ H Q => t σ H fun c H1 => if c = true then u σ H1 Q else Q false H1
def tOr (t u : TT) : TT := fun σ H Q => t σ H fun c H1 => if c = true then Q true H1 else u σ H1 Q
def tNot (t : TT) : TT := fun σ H Q => t σ H fun c H1 => Q (!c) H1
theorem pw_and1 (ha : PT X a tA) : PW X (.BoolOp .And [a] pos) tA := by
  intro wh pins s σ H Q I h
  refine isTrue_and (thn (ha pins s σ H Q I h) fun c s1 e => ?_)
  cases c with
  | true => exact isTrue_and_nil e
  | false => exact e
theorem pw_or1 (ha : PT X a tA) : PW X (.BoolOp .Or [a] pos) tA := by
  intro wh pins s σ H Q I h
  refine isTrue_or (thn (ha pins s σ H Q I h) fun c s1 e => ?_)
  cases c with
  | false => exact isTrue_or_nil e
  | true => exact e
theorem pw_and (ha : PT X a tA) (hb : PW X (.BoolOp .And (b :: rest) pos) tB') : PW X (.BoolOp .And (a :: b :: rest) pos) (tAnd tA tB') := by
  intro wh pins s σ H Q I h
  refine isTrue_and (thn (ha pins s σ H _ I h) fun c s1 ⟨H1, I1, q1⟩ => ?_)
  cases c with
  | true => exact hb wh pins s1 σ H1 Q I1 q1
  | false => exact ⟨H1, I1, q1⟩
theorem pw_or (ha : PT X a tA) (hb : PW X (.BoolOp .Or (b :: rest) pos) tB') : PW X (.BoolOp .Or (a :: b :: rest) pos) (tOr tA tB') := by
  intro wh pins s σ H Q I h
  refine isTrue_or (thn (ha pins s σ H _ I h) fun c s1 ⟨H1, I1, q1⟩ => ?_)
  cases c with
  | true => exact ⟨H1, I1, q1⟩
  | false => exact hb wh pins s1 σ H1 Q I1 q1
theorem pt_not (ha : PT X a tA) : PT X (.UnaryOp .Not a pos) (tNot tA) := by
  intro pins s σ H Q I h
  exact isTrue_not (ha pins s σ H (fun c H1 => Q (!c) H1) I h)
/-- .. as values (bools) -/
def tAndV (ta tb : TE) : TE := fun σ H Q => ta σ H fun x H1 => ∃ c, x = .bl c ∧ if c = true then tb σ H1 Q else Q (.bl false) H1
theorem pe_one {op} {t : TE} (h : PE X a t) : PE X (.BoolOp op [a] pos) t := fun pins s σ H Q I hw => BoolOp_one (h pins s σ H Q I hw)
theorem pe_and (ha : PE X a ta) (hb : PE X (.BoolOp .And (b :: rest) pos) tb) : PE X (.BoolOp .And (a :: b :: rest) pos) (tAndV ta tb) := by
  intro pins s σ H Q I h
  refine BoolOp_and (thn (ha pins s σ H _ I h) fun v s1 ⟨x, H1, I1, r1, q1⟩ => ?_)
  obtain ⟨c, rfl, q1⟩ := q1
  cases r1
  refine wpAny_truthy_bool ?_
  cases c with
  | true => exact hb pins s1 σ H1 Q I1 q1
  | false => exact ⟨.bl false, H1, I1, rfl, q1⟩
/-- a if t else b -/
def tIf (t : TT) (ta tb : TE) : TE := fun σ H Q => t σ H fun c H1 => if c = true then ta σ H1 Q else tb σ H1 Q
theorem pe_ifExp {c : Expr} (hc : PT X c tA) (ha : PE X a ta) (hb : PE X b tb) : PE X (.IfExp c a b pos) (tIf tA ta tb) := by
  intro pins s σ H Q I h
  refine wpAny_IfExp (thn (hc pins s σ H _ I h) fun d s1 ⟨H1, I1, q1⟩ => ?_)
  cases d with
  | true => exact ha pins s1 σ H1 Q I1 q1
  | false => exact hb pins s1 σ H1 Q I1 q1
end
end L2

namespace L2
open PySem PySem.Spec PyProof.Rows

/-! ### a list, a tuple that is read: tracked, frozen, or an object of the module -/
def SqL (K : PySem.W.Frag) (H : Hp) (a : Addr) (xs : List V) : Prop :=
  Rd H a (.lst xs) ∨
    ∃ (o : Obj) (its : Array Value) (n : Nat), K.lookup a = some o ∧ o.cls = .type "list" ∧ o.dict = none ∧ o.data = .seq its n ∧ its.size ≤ sizeLine ∧ Vals xs its.toList
def SqT (K : PySem.W.Frag) (H : Hp) (a : Addr) (xs : List V) : Prop :=
  Rd H a (.tup xs) ∨
    ∃ (o : Obj) (its : Array Value) (n : Nat), K.lookup a = some o ∧ o.cls = .type "tuple" ∧ o.data = .seq its n ∧ its.size ≤ sizeLine ∧ Vals xs its.toList
def absV : Value → Option V
  | .none => some .non
  | .bool b => some (.bl b)
  | .int i _ => some (.int i)
  | .str x _ => some (.str x)
  | .bytes b _ => some (.byt b)
  | .float b _ => some (.flt b)
  | .ref a => some (.ref a)
  | .type n => some (.ty n)
  | _ => none
theorem RelV.abs {x : V} {u : Value} (r : RelV x u) : absV u = some x := by
  cases x with
  | non => cases r; rfl
  | bl _ => cases r; rfl
  | int _ => obtain ⟨t, rfl⟩ := r; rfl
  | str _ => obtain ⟨t, rfl⟩ := r; rfl
  | byt _ => obtain ⟨t, rfl⟩ := r; rfl
  | flt _ => obtain ⟨t, rfl⟩ := r; rfl
  | ref _ => cases r; rfl
  | ty _ => cases r; rfl
theorem RelV.inj {x y : V} {u : Value} (r : RelV x u) (q : RelV y u) : x = y := Option.some.inj (r.abs.symm.trans q.abs)
theorem Vals.inj : ∀ {xs ys : List V} {us : List Value}, Vals xs us → Vals ys us → xs = ys
  | _, _, _, .nil, .nil => rfl
  | _, _, _, .cons r t, .cons r' t' => by rw [r.inj r', Vals.inj t t']
section
variable {X : Cx} {pins : List (Addr × Obj)} {σ : St} {H : Hp} {s : Shared} {a : Addr} {xs ys : List V}
theorem SqL.of {K : PySem.W.Frag} (h : H a = some (.lst xs)) : SqL K H a xs := .inl (.inl h)
theorem SqT.of {K : PySem.W.Frag} (h : H a = some (.tup xs)) : SqT K H a xs := .inl (.inl h)
theorem Inv.list (I : Inv X pins σ H s) (h : SqL X.K H a xs) : ∃ its : List Value, Vals xs its ∧ PlainL s.heap a its.toArray ∧ xs.length ≤ sizeLine := by
  rcases h with h | ⟨o, its, n, hk, hc, hd, hs, hz, r⟩
  · obtain ⟨z, its, n, r, e⟩ := h.ok I.hok
    exact ⟨its, r, ⟨_, n, e, rfl, rfl, rfl⟩, z⟩
  · refine ⟨its.toList, r, ⟨o, n, I.kIn a o hk, hc, hd, by simpa using hs⟩, ?_⟩
    have e := r.length
    simp only [Array.length_toList] at e
    omega
theorem Inv.tuple (I : Inv X pins σ H s) (h : SqT X.K H a xs) : ∃ its : List Value, Vals xs its ∧ IsTup s.heap a its.toArray ∧ xs.length ≤ sizeLine := by
  rcases h with h | ⟨o, its, n, hk, hc, hs, hz, r⟩
  · obtain ⟨z, its, r, p, _⟩ := h.ok I.hok
    exact ⟨its, r, p, z⟩
  · refine ⟨its.toList, r, ⟨o, I.kIn a o hk, hc, n, by simpa using hs⟩, ?_⟩
    have e := r.length
    simp only [Array.length_toList] at e
    omega
theorem Inv.list_inj (I : Inv X pins σ H s) (h : SqL X.K H a xs) (h' : SqL X.K H a ys) : xs = ys := by
  obtain ⟨its, r, ⟨o, n, e, _, _, d⟩, _⟩ := I.list h
  obtain ⟨its', r', ⟨o', n', e', _, _, d'⟩, _⟩ := I.list h'
  rw [e] at e'; cases e'
  rw [d] at d'
  injection d' with d1 _
  have : its = its' := by simpa using congrArg Array.toList d1
  subst this
  exact r.inj r'
theorem Inv.tuple_inj (I : Inv X pins σ H s) (h : SqT X.K H a xs) (h' : SqT X.K H a ys) : xs = ys := by
  obtain ⟨its, r, ⟨o, e, _, n, d⟩, _⟩ := I.tuple h
  obtain ⟨its', r', ⟨o', e', _, n', d'⟩, _⟩ := I.tuple h'
  rw [e] at e'; cases e'
  rw [d] at d'
  injection d' with d1 _
  have : its = its' := by simpa using congrArg Array.toList d1
  subst this
  exact r.inj r'
end

/-! ### another wish about exceptions -/
abbrev Cx.wish (X : Cx) (E : Value → Shared → Prop) : Cx := { X with xe := E }
/-- no exception leaves -/
abbrev Cx.nox (X : Cx) : Cx := X.wish fun _ _ => False
theorem Cx.Ok.wish {X : Cx} (ok : X.Ok) (E : Value → Shared → Prop) : (X.wish E).Ok :=
  ⟨ok.mod, ok.kind, ok.glob, ok.blt, ok.above, ok.inj, ok.has, ok.cab, ok.hd, ok.frames, ok.stk, ok.exf, ok.bs, ok.bsz, ok.noex, ok.exfs, ok.funs, ok.frf⟩
theorem Cx.Ok.unwish {X : Cx} {E : Value → Shared → Prop} (ok : (X.wish E).Ok) : X.Ok :=
  ⟨ok.mod, ok.kind, ok.glob, ok.blt, ok.above, ok.inj, ok.has, ok.cab, ok.hd, ok.frames, ok.stk, ok.exf, ok.bs, ok.bsz, ok.noex, ok.exfs, ok.funs, ok.frf⟩
section
variable {X : Cx} {pins : List (Addr × Obj)} {σ : St} {H : Hp} {s : Shared} {E : Value → Shared → Prop}
theorem Inv.wish (I : Inv X pins σ H s) (E : Value → Shared → Prop) : Inv (X.wish E) pins σ H s := ⟨I.ok.wish E, I.os, I.bare, I.base, I.loc, I.cell, I.free, I.freeC, I.pin, I.hok, I.len⟩
theorem Inv.unwish (I : Inv (X.wish E) pins σ H s) : Inv X pins σ H s := ⟨I.ok.unwish, I.os, I.bare, I.base, I.loc, I.cell, I.free, I.freeC, I.pin, I.hok, I.len⟩
theorem SP.unwish {D : Ends} {f : Flow} {s' : Shared} (h : SP (X.wish E) pins D f s') : SP X pins D f s' := by
  cases f with
  | next => obtain ⟨σ', H', I, q⟩ := h; exact ⟨σ', H', I.unwish, q⟩
  | brk => obtain ⟨σ', H', I, q⟩ := h; exact ⟨σ', H', I.unwish, q⟩
  | cont => obtain ⟨σ', H', I, q⟩ := h; exact ⟨σ', H', I.unwish, q⟩
  | ret u => obtain ⟨v, σ', H', I, r, q⟩ := h; exact ⟨v, σ', H', I.unwish, r, q⟩
theorem PSs.nox {st : List Stmt} {t : TS} (h : PSs X.nox st t) : PSs X st t := fun pins s σ H D I hw =>
  wpAny_mono (h pins s σ H D (I.wish _) hw) (fun _ _ q => q.unwish) fun _ _ z => False.elim z
end

/-! ### blocks and small statements -/
section
variable {X : Cx} {st : Stmt} {rest : List Stmt} {t u : TS} {e : Expr} {te : TE} {pos : Pos}
def tNext : TS := fun D σ H => D.nx σ H
def tSeq (t u : TS) : TS := fun D σ H => t { D with nx := u D } σ H
theorem pss_nil : PSs X [] tNext := fun _ _ σ H _ I h => wpAny_execs_nil ⟨σ, H, I, h⟩
theorem pss_cons (h1 : PS X st t) (h2 : PSs X rest u) : PSs X (st :: rest) (tSeq t u) := by
  intro pins s σ H D I h
  refine wpAny_execs_cons (thn (h1 pins s σ H { D with nx := u D } I h) fun f s1 q => ?_)
  cases f with
  | next =>
    obtain ⟨σ', H', I', q⟩ := q
    exact h2 pins s1 σ' H' D I' q
  | ret v => exact q
  | brk => exact q
  | cont => exact q
theorem pss_one (h1 : PS X st t) : PSs X [st] t := by
  intro pins s σ H D I h
  refine wpAny_execs_cons (thn (h1 pins s σ H D I h) fun f s1 q => ?_)
  cases f with
  | next => exact wpAny_execs_nil q
  | ret v => exact q
  | brk => exact q
  | cont => exact q
/-- in a def's body nothing is shown -/
theorem Inv.quiet {pins : List (Addr × Obj)} {σ : St} {H : Hp} {s : Shared} (I : Inv X pins σ H s) : interactive X.env = false := by simp [interactive, I.ok.kind]
/-- an expression whose value is dropped -/
def tDrop (te : TE) : TS := fun D σ H => te σ H fun _ H1 => D.nx σ H1
theorem ps_expr (he : PE X e te) (hs : swapsWith e none pos.line X.env = pure false := by rfl) : PS X (.Expr e pos) (tDrop te) := by
  intro pins s σ H D I h
  exact wpAny_Expr_any (thn (he pins s σ H _ I h) fun v s1 ⟨x, H1, I1, r1, q1⟩ => ⟨σ, H1, I1, q1⟩) I.quiet hs
def tRet (te : TE) : TS := fun D σ H => te σ H D.rt
theorem ps_ret (he : PE X e te) : PS X (.Return (some e) pos) (tRet te) := by
  intro pins s σ H D I h
  exact wpAny_Return_some (thn (he pins s σ H _ I h) fun v s1 ⟨x, H1, I1, r1, q1⟩ => ⟨x, σ, H1, I1, r1, q1⟩)
def tIfS (c : TT) (t u : TS) : TS := fun D σ H => c σ H fun b H1 => if b = true then t D σ H1 else u D σ H1
theorem ps_if {c : Expr} {a b : List Stmt} {tc : TT} (hc : PT X c tc) (ha : PSs X a t) (hb : PSs X b u) : PS X (.If c a b pos) (tIfS tc t u) := by
  intro pins s σ H D I h
  refine wpAny_If (thn (hc pins s σ H _ I h) fun d s1 ⟨H1, I1, q1⟩ => ?_)
  cases d with
  | true => exact ha pins s1 σ H1 D I1 q1
  | false => exact hb pins s1 σ H1 D I1 q1
end

/-! ### targets -/
abbrev TG := V → St → Hp → (St → Hp → Prop) → Prop
abbrev TGs := List V → St → Hp → (St → Hp → Prop) → Prop
def PG (X : Cx) (target : Expr) (t : TG) : Prop :=
  ∀ (pins : List (Addr × Obj)) (s : Shared) (σ : St) (H : Hp) (v : V) (u : Value) (Q : St → Hp → Prop), Inv X pins σ H s → RelV v u → t v σ H Q →
    wpAny (model X.prog X.w) X.A (assign target X.env u) (fun _ s' => ∃ σ' H', Inv X pins σ' H' s' ∧ Q σ' H') X.xe s
/-- several targets, one after another -/
def PGs (X : Cx) (ts : List Expr) (t : TGs) : Prop :=
  ∀ (pins : List (Addr × Obj)) (s : Shared) (σ : St) (H : Hp) (vs : List V) (us : List Value) (Q : St → Hp → Prop), Inv X pins σ H s → Vals vs us → t vs σ H Q →
    wpAny (model X.prog X.w) X.A (assignInOrder ((assignEach ts X.env).map (·.2)) us) (fun _ s' => ∃ σ' H', Inv X pins σ' H' s' ∧ Q σ' H') X.xe s
/-- o[i] = v, by values -/
abbrev TSet := V → V → V → Hp → (Hp → Prop) → Prop
def PSet (X : Cx) (t : TSet) : Prop :=
  ∀ (pins : List (Addr × Obj)) (s : Shared) (σ : St) (H : Hp) (o i v : V) (ov iv u : Value) (Q : Hp → Prop), Inv X pins σ H s → RelV o ov → RelV i iv → RelV v u → t o i v H Q →
    wpAny (model X.prog X.w) X.A (setItem ov iv u) (fun _ s' => ∃ H', Inv X pins σ H' s' ∧ Q H') X.xe s
section
variable {X : Cx} {pos : Pos}
def gName (i : Nat) : TG := fun v σ H Q => Q (σ.set i (some v)) H
theorem pg_name {i : Nat} {x : Str} (hN : X.N.Nodup) (hi : X.N[i]? = some x) (hx : Loc X.env.scope x) (hf : X.fn x = true ∨ X.env.scope.names.lookup x = some .local := by first | exact .inl rfl | exact .inr rfl | assumption) : PG X (.Name x pos) (gName i) := by
  intro pins s σ H v u Q I r h
  exact wpAny_assign_Name (store_ok I hN hi hx r (fun s' I' => ⟨_, H, I', h⟩) hf)
def gNil : TGs := fun vs σ H Q => vs = [] ∧ Q σ H
def gCons (t : TG) (u : TGs) : TGs := fun vs σ H Q => ∃ v r, vs = v :: r ∧ t v σ H fun σ' H' => u r σ' H' Q
theorem pgs_nil : PGs X [] gNil := by
  intro pins s σ H vs us Q I r h
  obtain ⟨e, h⟩ := h
  subst e
  cases r
  exact assignInOrder_nil ⟨σ, H, I, h⟩
theorem pgs_cons {e : Expr} {es : List Expr} {t : TG} {u : TGs} (h1 : PG X e t) (h2 : PGs X es u)
    (hs : (assignEach (e :: es) X.env).map (·.2) = assign e X.env :: (assignEach es X.env).map (·.2) := by rfl) : PGs X (e :: es) (gCons t u) := by
  intro pins s σ H vs us Q I r h
  obtain ⟨v, vr, e1, h⟩ := h
  subst e1
  cases r with
  | cons r rr =>
    rw [hs]
    refine assignInOrder_cons (thn (h1 pins s σ H _ _ _ I r h) fun _ s1 ⟨σ1, H1, I1, q1⟩ => ?_)
    exact h2 pins s1 σ1 H1 _ _ Q I1 rr q1
/-- (a, b, ..) = a tuple of that length -/
def gTup (K : PySem.W.Frag) (n : Nat) (t : TGs) : TG := fun v σ H Q => ∃ a xs, v = .ref a ∧ SqT K H a xs ∧ xs.length = n ∧ t xs σ H Q
theorem pg_tup {es : List Expr} {k : Nat} {t : TGs} {n : Nat} (hc : X.calm = true) (h : PGs X es t)
    (hn : (assignEach es X.env).length = n := by rfl) (hst : (assignEach es X.env).findIdx? (·.1) = none := by rfl) : PG X (.Tuple es k pos) (gTup X.K n t) := by
  intro pins s σ H v u Q I r hw
  obtain ⟨a, xs, e1, hq, hl, hw⟩ := hw
  subst e1
  cases r
  obtain ⟨its, rv, ht, hz⟩ := I.tuple hq
  refine assign_Tuple_tuple (I.ok.hd hc) ht (by simp [hn, ← hl, rv.length]) hst fun h' hx => ?_
  have I1 : Inv X pins σ H { s with heap := h' } := I.kept (t' := s.toks) fun b o e => hx b o (Nat.ne_of_lt (Heap.lt_size e)) e
  exact h pins _ σ H xs _ Q I1 (by simpa using rv) hw
/-- o[i] = .. -/
def gSub (to ti : TE) (t : TSet) : TG := fun v σ H Q => to σ H fun o H1 => ti σ H1 fun i H2 => t o i v H2 fun H3 => Q σ H3
theorem pg_sub {o i : Expr} {to ti : TE} {t : TSet} (ho : PE X o to) (hi : PE X i ti) (hs : PSet X t)
    (ha : ∀ v, assign (.Subscript o i pos) X.env v = (do
      let ov ← holding [v] (eval o X.env)
      let iv ← holding [v, ov] (eval i X.env)
      standAt pos
      holding [v, ov, iv] (setItem ov iv v)
      release [v, ov, iv] []) := by intro _; rfl) : PG X (.Subscript o i pos) (gSub to ti t) := by
  intro pins s σ H v u Q I r h
  rw [ha]
  refine wpAny_bind (wpAny_holding (thn (ho pins s σ H _ I h) fun ov s1 ⟨x, H1, I1, r1, q1⟩ => ?_))
  refine wpAny_bind (wpAny_holding (thn (hi pins s1 σ H1 _ I1 q1) fun iv s2 ⟨y, H2, I2, r2, q2⟩ => ?_))
  refine wpAny_bind (wpAny_standAt (wpAny_bind (wpAny_holding (thn (hs pins s2 σ H2 x y v ov iv u _ I2 r1 r2 r q2) fun _ s3 ⟨H3, I3, q3⟩ => ?_))))
  exact wpAny_release ⟨σ, H3, I3, q3⟩
/-- target = value -/
def tAsg (te : TE) (g : TG) : TS := fun D σ H => te σ H fun x H1 => g x σ H1 D.nx
theorem ps_asg {tg e : Expr} {te : TE} {g : TG} (he : PE X e te) (hg : PG X tg g) (hs : swapsWithSole [tg] e pos.line X.env = pure false := by rfl) (hw : swappedStores [tg] e X.env = pure none := by rfl)
    (h1 : (assignEach [tg] X.env).map (·.2) = [assign tg X.env] := by rfl) : PS X (.Assign [tg] e pos) (tAsg te g) := by
  intro pins s σ H D I h
  refine wpAny_Assign_stores (thn (he pins s σ H _ I h) fun v s1 ⟨x, H1, I1, r1, q1⟩ => ?_) hs hw
  rw [h1]
  exact thn (hg pins s1 σ H1 x v _ I1 r1 q1) fun _ s2 q => q
/-- name = value -/
theorem ps_set {i : Nat} {x : Str} {e : Expr} {te : TE} {pos' : Pos} (hN : X.N.Nodup) (hi : X.N[i]? = some x) (hx : Loc X.env.scope x) (he : PE X e te) (hs : swapsWith e (some (.Name x pos')) pos.line X.env = pure false := by rfl) (hf : X.fn x = true ∨ X.env.scope.names.lookup x = some .local := by first | exact .inl rfl | exact .inr rfl | assumption) :
    PS X (.Assign [.Name x pos'] e pos) (tAsg te (gName i)) := by
  intro pins s σ H D I h
  refine wpAny_Assign_Name (thn (he pins s σ H _ I h) fun v s1 ⟨y, H1, I1, r1, q1⟩ => ?_) hs
  exact store_ok I1 hN hi hx r1 (fun s2 I2 => ⟨_, H1, I2, q1⟩) hf
/-- a, b = x, y with plain local names: stored from the right; the pair itself is not tracked (the opening rows as in PyProof/Rows/TupAssign.lean:23) -/
def tPar (i j : Nat) (ta : TA) : TS := fun D σ H => ta σ H fun vs H1 => ∃ v w, vs = [v, w] ∧ D.nx ((σ.set i (some v)).set j (some w)) H1
theorem ps_par {i j : Nat} {x y : Str} {a b : Expr} {ta : TA} {px py pt : Pos} {kt k2 pt2} (hc : X.calm = true) (hN : X.N.Nodup) (hi : X.N[i]? = some x) (hj : X.N[j]? = some y) (hij : i ≠ j)
    (hx : X.env.scope.names.lookup x = some .local) (hy : X.env.scope.names.lookup y = some .local) (ha : PA X [a, b] ta)
    (hw : swappedStores [.Tuple [.Name x px, .Name y py] kt pt] (.Tuple [a, b] k2 pt2) X.env = pure (some [x, y]))
    (hs : swapsWithSole [.Tuple [.Name x px, .Name y py] kt pt] (.Tuple [a, b] k2 pt2) pos.line X.env = pure false := by rfl) :
    PS X (.Assign [.Tuple [.Name x px, .Name y py] kt pt] (.Tuple [a, b] k2 pt2) pos) (tPar i j ta) := by
  intro pins s σ H D I h
  rw [exec_Assign_arm]
  refine wpAny_bind (wpAny_standAt ?_)
  rw [hs]
  refine wpAny_bind (wpAny_pure ?_)
  rw [if_neg (by decide)]
  refine wpAny_bind (Tuple_ (thn (ha _ pins s σ H _ I h) fun us s1 ⟨vs, H1, I1, r1, q1⟩ => ?_))
  obtain ⟨v, w, e1, q1⟩ := q1
  subst e1
  obtain ⟨u1, u2, rfl, rv, rw'⟩ : ∃ u1 u2, us = [u1, u2] ∧ RelV v u1 ∧ RelV w u2 := by
    cases r1 with
    | cons p q =>
      cases q with
      | cons p' q' =>
        cases q'
        exact ⟨_, _, rfl, p, p'⟩
  refine wpAny_newObj_type ?_ (by show 2 ≤ sizeLine; decide)
  have I2 : Inv X pins σ H1 { s1 with heap := s1.heap.push { cls := .type "tuple", data := .seq [u1, u2].toArray } } := I1.kept (t' := s1.toks) fun b o e => Heap.get?_push_of_some _ e
  rw [hw]
  refine wpAny_bind (wpAny_pure ?_)
  show wpAny (model X.prog X.w) X.A (do rule "assign.swapped-stores"; let items ← unpackItems (.ref s1.heap.objs.size) 2 none; assignInOrder [fun v => bindName X.env y v, fun v => bindName X.env x v] items.reverse; pure Flow.next) _ _ _
  refine wpAny_bind (wpAny_rule (wpAny_bind (unpackItems_tuple (items := #[u1, u2]) (I.ok.hd hc) (IsTup.new s1.heap _) fun h' hx' => ?_)))
  have I3 := I2.kept (h' := h') (t' := s1.toks) fun b o e => hx' b o (Nat.ne_of_lt (Heap.lt_size e)) e
  show wpAny _ _ (assignInOrder [fun v => bindName X.env y v, fun v => bindName X.env x v] [u2, u1] >>= fun _ => pure Flow.next) _ _ _
  refine wpAny_bind (assignInOrder_cons (wpAny_bindName (store_ok I3 hN hj (.inl hy) rw' (fun s2 I4 => ?_) (.inr hy))))
  refine assignInOrder_cons (wpAny_bindName (store_ok I4 hN hi (.inl hx) rv (fun s3 I5 => assignInOrder_nil (wpAny_pure ?_)) (.inr hx)))
  rw [List.set_comm _ _ (Ne.symm hij)] at I5
  exact ⟨_, H1, I5, q1⟩
end

/-! ### while -/
section
variable {X : Cx} {pos : Pos}
end

/-! ### what a loop or a comprehension walks -/
/-- at turn i: it yields x (the heap may grow), or it stops -/
structure It where
  go : Nat → Hp → Prop
  yld : Nat → Hp → V → Hp → Prop
  stop : Nat → Hp → Prop
/-- the iterator's own objects may turn: they are not the frame's, not pinned, younger than the entry (or a comprehension's own) -/
def FpOk (X : Cx) (pins : List (Addr × Obj)) (H : Hp) (b : Addr) : Prop :=
  H b = none ∧ b ≠ X.env.locals ∧ b ∉ X.fs ∧ (b ∈ X.ex ∨ X.s₀.heap.objs.size ≤ b) ∧ (∀ x c, X.env.cells.lookup x = some c → c ≠ b) ∧ ∀ p ∈ X.pn ++ pins, p.1 ≠ b
theorem Inv.fpOk {X : Cx} {pins : List (Addr × Obj)} {σ : St} {H H' : Hp} {s : Shared} {b : Addr} (I : Inv X pins σ H s) (hb : s.heap.objs.size ≤ b) (hn : H' b = none) : FpOk X pins H' b := by
  refine ⟨hn, Nat.ne_of_gt (Nat.lt_of_lt_of_le I.lt hb), I.nofs hb, .inr (Nat.le_trans I.sz hb), fun x c e z => ?_, fun p hp z => ?_⟩
  · obtain ⟨v, q⟩ := I.cell x c e
    exact absurd (Nat.lt_of_lt_of_le q.lt (by rw [z]; exact hb)) (Nat.lt_irrefl _)
  · exact absurd (Nat.lt_of_lt_of_le (Heap.lt_size (I.pin p hp).1) (by rw [z]; exact hb)) (Nat.lt_irrefl _)
structure Turn (P : Program) (w : World) (K : PySem.W.Frag) (tg : Expr) (J : It) (fp : List Addr) (it : Addr) (tn : Nat → Heap → Prop) : Prop where
  mem : it ∈ fp
  obj : ∀ i h, tn i h → ∀ b ∈ fp, ∃ o, h.get? b = some o ∧ ∀ v, o.data ≠ .cell v
  keep : ∀ i h h', tn i h → (∀ b ∈ fp, ∀ o, h.get? b = some o → h'.get? b = some o) → tn i h'
  item : ∀ (X : Cx), X.prog = P → X.w = w → X.K = K → X.calm = true → ∀ (i : Nat) (pins : List (Addr × Obj)) (s : Shared) (σ : St) (H : Hp) (E : Value → Shared → Prop), Inv X pins σ H s → (∀ b ∈ fp, FpOk X pins H b) → tn i s.heap → J.go i H →
    wpAny (model P w) X.A (pyNext (.ref it)) (fun r s1 => ∃ u, r = some u ∧
      wpAny (model P w) X.A (letOwnedTupleGo tg (.ref it) u) (fun _ s2 => ∃ x H', Inv X pins σ H' s2 ∧ RelV x u ∧ J.yld i H x H' ∧ tn (i + 1) s2.heap ∧ ∀ b ∈ fp, H' b = none) E s1) E s
  done : ∀ (X : Cx), X.prog = P → X.w = w → X.K = K → X.calm = true → ∀ (i : Nat) (pins : List (Addr × Obj)) (s : Shared) (σ : St) (H : Hp) (E : Value → Shared → Prop), Inv X pins σ H s → (∀ b ∈ fp, FpOk X pins H b) → tn i s.heap → J.stop i H →
    wpAny (model P w) X.A (pyNext (.ref it)) (fun r s1 => r = none ∧ Inv X pins σ H s1) E s
  self : ∀ (A : Around) (i : Nat) (s : Shared) (Q : Value → Shared → Prop) (E : Value → Shared → Prop), tn i s.heap → Q (.ref it) s → wpAny (model P w) A (pyIter (.ref it)) Q E s
abbrev TI := St → Hp → (It → Hp → Prop) → Prop
/-- an iterator has come -/
def PIE (X : Cx) (pins : List (Addr × Obj)) (σ : St) (tg : Expr) (R : It → Hp → Prop) (itv : Value) (s2 : Shared) : Prop :=
  ∃ (it : Addr) (fp : List Addr) (tn : Nat → Heap → Prop) (J : It) (H' : Hp), itv = .ref it ∧ Inv X pins σ H' s2 ∧ Turn X.prog X.w X.K tg J fp it tn ∧ tn 0 s2.heap ∧ (∀ b ∈ fp, FpOk X pins H' b) ∧ R J H'
def PI (X : Cx) (tg iter : Expr) (wi : TI) : Prop :=
  ∀ (pins : List (Addr × Obj)) (s : Shared) (σ : St) (H : Hp) (R : It → Hp → Prop), Inv X pins σ H s → wi σ H R →
    wpAny (model X.prog X.w) X.A (eval iter X.env) (fun v s1 => wpAny (model X.prog X.w) X.A (pyIter v) (PIE X pins σ tg R) X.xe s1) X.xe s

/-- the step ahead of the store is nothing for an iterator that keeps no tuple -/
theorem go_of {M : Model} {A : Around} {E : Value → Shared → Prop} {s : Shared} {tg : Expr} {it : Addr} {u : Value} {o : Obj} {n : String} {vs : Array Value} {Q : Unit → Shared → Prop} (ho : s.heap.get? it = some o) (hc : o.cls = .type n) (hd : o.data = .fields vs)
    (hn : ["enumerate", "zip", "dict_itemiterator", "dict_reverseitemiterator", "odict_iterator", "itertools.zip_longest", "itertools.pairwise"].contains n = false) (hQ : Q () s) : wpAny M A (letOwnedTupleGo tg (.ref it) u) Q E s := by
  unfold letOwnedTupleGo
  cases tg <;> first
    | exact wpAny_pure hQ
    | (cases u <;> first
        | exact wpAny_pure hQ
        | (refine wpAny_bind (wpAny_load ho ?_)
           rw [hc, hd]
           show wpAny M A (if (["enumerate", "zip", "dict_itemiterator", "dict_reverseitemiterator", "odict_iterator", "itertools.zip_longest", "itertools.pairwise"].contains n && vs[0]? == some (rawInt _)) = true then _ else _) Q E s
           rw [if_neg (by intro h; rw [hn, Bool.false_and] at h; cases h)]
           exact wpAny_pure hQ))

/-- the list at a, as it stands at each turn (a loop may append to it) -/
def Itl (K : PySem.W.Frag) (a : Addr) : It :=
  ⟨fun i H => ∃ xs x, SqL K H a xs ∧ xs[i]? = some x, fun i H x H' => H' = H ∧ ∀ xs, SqL K H a xs → xs[i]? = some x, fun i H => ∃ xs, SqL K H a xs ∧ xs.length ≤ i⟩
def Itt (K : PySem.W.Frag) (a : Addr) : It :=
  ⟨fun i H => ∃ xs x, SqT K H a xs ∧ xs[i]? = some x, fun i H x H' => H' = H ∧ ∀ xs, SqT K H a xs → xs[i]? = some x, fun i H => ∃ xs, SqT K H a xs ∧ xs.length ≤ i⟩
/-- lo, lo + 1, .. (n of them) -/
def Itr (lo : Int) (n : Nat) : It := ⟨fun i _ => i < n, fun i H x H' => H' = H ∧ x = .int (lo + i), fun i _ => n ≤ i⟩
theorem turn_list {P : Program} {w : World} {K : PySem.W.Frag} {tg : Expr} (a it : Addr) : Turn P w K tg (Itl K a) [it] it (fun i h => h.IsListIter it a i) where
  mem := by simp
  obj := fun i h st b hb => by
    have e : b = it := by simpa using hb
    subst e
    obtain ⟨o, e, c, d⟩ := st
    exact ⟨o, e, fun v z => by rw [d] at z; cases z⟩
  keep := fun i h h' st k => st.at fun o e => k it (by simp) o e
  item := by
    intro X hP hw hK hc i pins s σ H E I hf st hg
    subst hP hw hK
    obtain ⟨xs, x, hq, hx⟩ := hg
    obtain ⟨its, rv, p, hz⟩ := I.list hq
    obtain ⟨u, hu, ru⟩ := rv.get hx
    obtain ⟨f0, f1, f2, f3, f4, f5⟩ := hf it (by simp)
    refine wpAny_pyNext_list_item st p.isList (x := u) (by simpa using hu) fun h' st' sb => ?_
    have I1 : Inv X pins σ H { s with heap := h' } := I.turned (t' := s.toks) (fun b o hb e => (sb.2 b hb).trans e) f0 f1 f3 f4 f5
    obtain ⟨o, e, c, d⟩ := id st'
    exact ⟨u, rfl, go_of (s := { s with heap := h' }) e c d (by decide) ⟨x, H, I1, ru, ⟨rfl, fun ys hy => by rw [I.list_inj hy hq]; exact hx⟩, st', fun b hb => (hf b hb).1⟩⟩
  done := by
    intro X hP hw hK hc i pins s σ H E I hf st hg
    subst hP hw hK
    obtain ⟨xs, hq, hx⟩ := hg
    obtain ⟨its, rv, p, hz⟩ := I.list hq
    obtain ⟨f0, f1, f2, f3, f4, f5⟩ := hf it (by simp)
    have hl := rv.length
    exact wpAny_pyNext_list_end (I.ok.hd hc) st p.isList (by simp; omega) fun h' eb => ⟨rfl, I.turned (t' := s.toks) (fun b o hb e => eb b o hb e) f0 f1 f3 f4 f5⟩
  self := fun _ _ _ _ _ st h => wpAny_pyIter_listiter st h
theorem turn_tuple {P : Program} {w : World} {K : PySem.W.Frag} {tg : Expr} (a it : Addr) : Turn P w K tg (Itt K a) [it] it (fun i h => h.IsTupleIter it a i) where
  mem := by simp
  obj := fun i h st b hb => by
    have e : b = it := by simpa using hb
    subst e
    obtain ⟨o, e, c, d⟩ := st
    exact ⟨o, e, fun v z => by rw [d] at z; cases z⟩
  keep := fun i h h' st k => st.at fun o e => k it (by simp) o e
  item := by
    intro X hP hw hK hc i pins s σ H E I hf st hg
    subst hP hw hK
    obtain ⟨xs, x, hq, hx⟩ := hg
    obtain ⟨its, rv, p, hz⟩ := I.tuple hq
    obtain ⟨u, hu, ru⟩ := rv.get hx
    obtain ⟨f0, f1, f2, f3, f4, f5⟩ := hf it (by simp)
    refine wpAny_pyNext_tuple_item st (show s.heap.IsTuple a its.toArray from p) (x := u) (by simpa using hu) fun h' st' sb => ?_
    have I1 : Inv X pins σ H { s with heap := h' } := I.turned (t' := s.toks) (fun b o hb e => (sb.2 b hb).trans e) f0 f1 f3 f4 f5
    obtain ⟨o, e, c, d⟩ := id st'
    exact ⟨u, rfl, go_of (s := { s with heap := h' }) e c d (by decide) ⟨x, H, I1, ru, ⟨rfl, fun ys hy => by rw [I.tuple_inj hy hq]; exact hx⟩, st', fun b hb => (hf b hb).1⟩⟩
  done := by
    intro X hP hw hK hc i pins s σ H E I hf st hg
    subst hP hw hK
    obtain ⟨xs, hq, hx⟩ := hg
    obtain ⟨its, rv, p, hz⟩ := I.tuple hq
    obtain ⟨f0, f1, f2, f3, f4, f5⟩ := hf it (by simp)
    have hl := rv.length
    exact wpAny_pyNext_tuple_end (I.ok.hd hc) st (show s.heap.IsTuple a its.toArray from p) (by simp; omega) fun h' eb => ⟨rfl, I.turned (t' := s.toks) (fun b o hb e => eb b o hb e) f0 f1 f3 f4 f5⟩
  self := fun _ _ _ _ _ st h => wpAny_pyIter_tupleiter st h
theorem turn_range {P : Program} {w : World} {K : PySem.W.Frag} {tg : Expr} (it : Addr) (lo : Int) (n : Nat) : Turn P w K tg (Itr lo n) [it] it (fun i h => IsRangeIter h it (lo + (i : Nat) * 1) ((n : Int) - (i : Nat)) 1) where
  mem := by simp
  obj := fun i h st b hb => by
    have e : b = it := by simpa using hb
    subst e
    exact ⟨_, st, fun v z => by
      have z' : Data.fields _ = Data.cell v := z
      cases z'⟩
  keep := fun i h h' st k => k it (by simp) _ st
  item := by
    intro X hP hw hK hc i pins s σ H E I hf st hg
    subst hP hw hK
    obtain ⟨f0, f1, f2, f3, f4, f5⟩ := hf it (by simp)
    have W := Walks.range (prog := X.prog) (w := X.w) (I.ok.hd hc) it lo 1 n
    refine W.item i s _ _ hg st fun v h' tk hv st' kk => ?_
    obtain ⟨t, rfl⟩ := hv
    have I1 : Inv X pins σ H { s with heap := h', toks := tk } := I.turned (fun b o hb e => kk b o (by simpa using hb) e) f0 f1 f3 f4 f5
    refine ⟨_, rfl, go_of (s := { s with heap := h', toks := tk }) (n := "range_iterator") st' rfl rfl (by decide) ⟨.int (lo + i), H, I1, ⟨t, ?_⟩, ⟨rfl, rfl⟩, st', fun b hb => (hf b hb).1⟩⟩
    rw [Int.mul_one]
  done := by
    intro X hP hw hK hc i pins s σ H E I hf st hg
    subst hP hw hK
    obtain ⟨f0, f1, f2, f3, f4, f5⟩ := hf it (by simp)
    exact wpAny_pyNext_range_end (I.ok.hd hc) st (by have : n ≤ i := hg; omega) fun h' eb => ⟨rfl, I.turned (t' := s.toks) (fun b o hb e => eb b o hb e) f0 f1 f3 f4 f5⟩
  self := fun _ _ _ _ _ st h => wpAny_pyIter_rangeiter st h
end L2

namespace L2
open PySem PySem.Spec PyProof.Rows
section
variable {X : Cx} {tg : Expr}
def iList (K : PySem.W.Frag) (tl : TE) : TI := fun σ H R => tl σ H fun x H1 => ∃ a, x = .ref a ∧ (∃ xs, SqL K H1 a xs) ∧ R (Itl K a) H1
def iTup (K : PySem.W.Frag) (tl : TE) : TI := fun σ H R => tl σ H fun x H1 => ∃ a, x = .ref a ∧ (∃ xs, SqT K H1 a xs) ∧ R (Itt K a) H1
theorem pi_list {l : Expr} {tl : TE} (hl : PE X l tl) : PI X tg l (iList X.K tl) := by
  intro pins s σ H R I h
  refine thn (hl pins s σ H _ I h) fun v s1 ⟨x, H1, I1, r1, q1⟩ => ?_
  obtain ⟨a, e, ⟨xs, hq⟩, q⟩ := q1
  subst e
  cases r1
  obtain ⟨its, rv, p, hz⟩ := I1.list hq
  refine wpAny_pyIter_list p.isList ?_
  refine ⟨s1.heap.objs.size, [s1.heap.objs.size], _, _, H1, rfl, I1.kept (t' := s1.toks) fun b o e => Heap.get?_push_of_some _ e, turn_list a _, ⟨_, Heap.get?_push_size _ rfl, rfl, rfl⟩, fun b hb => ?_, q⟩
  have e : b = s1.heap.objs.size := by simpa using hb
  subst e
  exact I1.fpOk (Nat.le_refl _) (I1.hok.fresh (Nat.le_refl _))
theorem pi_tup {l : Expr} {tl : TE} (hl : PE X l tl) : PI X tg l (iTup X.K tl) := by
  intro pins s σ H R I h
  refine thn (hl pins s σ H _ I h) fun v s1 ⟨x, H1, I1, r1, q1⟩ => ?_
  obtain ⟨a, e, ⟨xs, hq⟩, q⟩ := q1
  subst e
  cases r1
  obtain ⟨its, rv, p, hz⟩ := I1.tuple hq
  refine wpAny_pyIter_tuple (show s1.heap.IsTuple a its.toArray from p) ?_
  refine ⟨s1.heap.objs.size, [s1.heap.objs.size], _, _, H1, rfl, I1.kept (t' := s1.toks) fun b o e => Heap.get?_push_of_some _ e, turn_tuple a _, ⟨_, Heap.get?_push_size _ rfl, rfl, rfl⟩, fun b hb => ?_, q⟩
  have e : b = s1.heap.objs.size := by simpa using hb
  subst e
  exact I1.fpOk (Nat.le_refl _) (I1.hok.fresh (Nat.le_refl _))
/-- a range object just made, walked -/
theorem range_it {pins : List (Addr × Obj)} {σ : St} {H : Hp} {s : Shared} {R : It → Hp → Prop} {E : Value → Shared → Prop} {lo hi : Int} {t u v : Tok} {tk : Nat} (I : Inv X pins σ H s) (h1 : -(2 ^ 62) ≤ lo) (h2 : lo < 2 ^ 62) (h3 : -(2 ^ 62) ≤ hi) (h4 : hi < 2 ^ 62)
    (q : R (Itr lo (hi - lo).toNat) H) : wpAny (model X.prog X.w) X.A (pyIter (.ref s.heap.objs.size)) (PIE X pins σ tg R) E { s with heap := s.heap.push { cls := .type "range", data := .fields #[.int lo t, .int hi u, .int 1 v] }, toks := tk } := by
  refine wpAny_pyIter_range (IsRange.new ..) (small_one h1 h2 h3 h4) ?_
  have I1 : Inv X pins σ H { s with heap := s.heap.push { cls := .type "range", data := .fields #[.int lo t, .int hi u, .int 1 v] }, toks := tk } := I.kept fun b o e => Heap.get?_push_of_some _ e
  refine ⟨(s.heap.push { cls := .type "range", data := .fields #[.int lo t, .int hi u, .int 1 v] }).objs.size, [(s.heap.push { cls := .type "range", data := .fields #[.int lo t, .int hi u, .int 1 v] }).objs.size], _, _, H, rfl,
    I1.kept (t' := tk) fun b o e => Heap.get?_push_of_some _ e, turn_range _ lo (hi - lo).toNat, ?_, fun b hb => ?_, q⟩
  · have e1 : lo + ((0 : Nat) : Int) * 1 = lo := by simp
    have e2 : (((hi - lo).toNat : Nat) : Int) - ((0 : Nat) : Int) = Builtin.Range.rangeSize lo hi 1 := by rw [rangeSize_one]; split <;> omega
    show IsRangeIter _ _ (lo + ((0 : Nat) : Int) * 1) ((((hi - lo).toNat : Nat) : Int) - ((0 : Nat) : Int)) 1
    rw [e1, e2]
    exact Heap.get?_push_size _ rfl
  · have e : b = (s.heap.push { cls := .type "range", data := .fields #[.int lo t, .int hi u, .int 1 v] }).objs.size := by simpa using hb
    subst e
    exact I1.fpOk (Nat.le_refl _) (I1.hok.fresh (Nat.le_refl _))
def iRng1 (ta : TA) : TI := fun σ H R => ta σ H fun vs H1 => ∃ j : Int, vs = [.int j] ∧ -(2 ^ 62) ≤ j ∧ j < 2 ^ 62 ∧ R (Itr 0 j.toNat) H1
def iRng2 (ta : TA) : TI := fun σ H R => ta σ H fun vs H1 => ∃ i j : Int, vs = [.int i, .int j] ∧ (-(2 ^ 62) ≤ i ∧ i < 2 ^ 62 ∧ -(2 ^ 62) ≤ j ∧ j < 2 ^ 62) ∧ R (Itr i (j - i).toNat) H1
theorem pi_range1 {a : Expr} {ta : TA} {p pos : Pos} (hg : Gl X "range") (hm : X.mg "range" = none) (ha : PA X [a] ta) (hs : starEach [a] X.env = [(false, eval a X.env)] := by rfl) : PI X tg (.Call (.Name "range" p) [a] [] pos) (iRng1 ta) := by
  intro pins s σ H R I h
  refine Call_ (ld_blt I hg hm boot_range (PyProof.Rows.callWith_type1 (thn (ha pos pins s σ H _ I h) fun us s1 ⟨vs, H1, I1, r1, q1⟩ => ?_) hs rfl))
  obtain ⟨j, e, q1, q2, q⟩ := q1
  subst e
  cases r1 with
  | cons r rr =>
    cases rr
    obtain ⟨t, rfl⟩ := r
    exact call_range_1 (range_it I1 (by omega) (by omega) q1 q2 (by simpa using q))
theorem pi_range2 {a b : Expr} {ta : TA} {p pos : Pos} (hg : Gl X "range") (hm : X.mg "range" = none) (ha : PA X [a, b] ta) (hs : starEach [a, b] X.env = [(false, eval a X.env), (false, eval b X.env)] := by rfl) (hs2 : starEach [b] X.env = [(false, eval b X.env)] := by rfl) :
    PI X tg (.Call (.Name "range" p) [a, b] [] pos) (iRng2 ta) := by
  intro pins s σ H R I h
  refine Call_ (ld_blt I hg hm boot_range (PyProof.Rows.callWith_type1 (thn (ha pos pins s σ H _ I h) fun us s1 ⟨vs, H1, I1, r1, q1⟩ => ?_) (by rw [hs, hs2]) (by rw [hs2]; rfl)))
  obtain ⟨i, j, e, ⟨q1, q2, q3, q4⟩, q⟩ := q1
  subst e
  cases r1 with
  | cons r rr =>
    cases rr with
    | cons r' rr =>
      cases rr
      obtain ⟨t, rfl⟩ := r
      obtain ⟨t', rfl⟩ := r'
      exact call_range_2 (range_it I1 q1 q2 q3 q4 q)

/-! ### for -/
/-- W: the invariant by the turn and a measure; N: what the body is to reach -/
def tFor (wi : TI) (g : TG) (tb : TS) : TS := fun D σ H => wi σ H fun J H1 => ∃ W : Nat → Nat → St → Hp → Prop, (∃ m, W 0 m σ H1) ∧ ∀ i m σ H, W i m σ H →
  (J.stop i H ∧ D.nx σ H) ∨ (J.go i H ∧ ∃ N : St → Hp → Prop, (∀ σ' H', N σ' H' → ∃ m', m' < m ∧ W (i + 1) m' σ' H') ∧ ∀ x H', J.yld i H x H' → g x σ H' fun σ2 H2 => tb { D with nx := N, ct := N, bk := D.nx } σ2 H2)
/-- the records at fp as they stand -/
def pinsAt (fp : List Addr) (h : Heap) : List (Addr × Obj) := fp.filterMap fun b => (h.get? b).map fun o => (b, o)
theorem mem_pinsAt {fp : List Addr} {h : Heap} {b : Addr} {o : Obj} (hb : b ∈ fp) (e : h.get? b = some o) : (b, o) ∈ pinsAt fp h := List.mem_filterMap.mpr ⟨b, hb, by rw [e]; rfl⟩
theorem of_pinsAt {fp : List Addr} {h : Heap} {p : Addr × Obj} (hp : p ∈ pinsAt fp h) : p.1 ∈ fp ∧ h.get? p.1 = some p.2 := by
  obtain ⟨b, hb, e⟩ := List.mem_filterMap.mp hp
  cases q : h.get? b with
  | none => rw [q] at e; cases e
  | some o =>
    rw [q] at e
    have e' : (b, o) = p := Option.some.inj e
    subst e'
    exact ⟨hb, q⟩
theorem Inv.pinned {pins : List (Addr × Obj)} {σ : St} {H : Hp} {s : Shared} {fp : List Addr} (I : Inv X pins σ H s) (hf : ∀ b ∈ fp, FpOk X pins H b) (ho : ∀ b ∈ fp, ∃ o, s.heap.get? b = some o ∧ ∀ v, o.data ≠ .cell v) : Inv X (pins ++ pinsAt fp s.heap) σ H s :=
  I.pins_of fun p hp => (List.mem_append.mp hp).elim (fun z => I.pin p (List.mem_append_right _ z)) fun z => by
    obtain ⟨hb, e⟩ := of_pinsAt z
    obtain ⟨f0, f1, f2, _⟩ := hf p.1 hb
    obtain ⟨o, e', d⟩ := ho p.1 hb
    rw [e] at e'; cases e'
    exact ⟨e, f0, f1, f2, d⟩
theorem Inv.unpinned {pins pl : List (Addr × Obj)} {σ : St} {H : Hp} {s : Shared} (I : Inv X (pins ++ pl) σ H s) : Inv X pins σ H s := I.pins_of fun p hp => I.pin p (List.mem_append_right _ (List.mem_append_left _ hp))
theorem ps_for {iter : Expr} {body : List Stmt} {wi : TI} {g : TG} {tb : TS} {pos : Pos} (hp : PassesOwn (model X.prog X.w) X.A X.env X.xe) (hc : X.calm = true) (hi : PI X tg iter wi) (hg : PG X tg g) (hb : PSs X body tb)
    (hs : ∀ x, foldedSetIterable iter X.env x = pure x := by intro _; rfl) : PS X (.For tg iter body [] pos) (tFor wi g tb) := by
  intro pins s σ H D I h
  refine wpAny_For (thn (hi pins s σ H _ I h) fun v s1 h1 => thn h1 fun itv s2 h2 => ?_) hs
  obtain ⟨it, fp, tn, J, H2, e, I2, T, st2, f2, W, ⟨m0, w0⟩, turn⟩ := h2
  subst e
  -- what stays true of the iterator's objects through the loop
  have stat : ∀ {H' : Hp}, (∀ b ∈ fp, H' b = none) → ∀ b ∈ fp, FpOk X pins H' b := fun hn b hb => ⟨hn b hb, (f2 b hb).2⟩
  refine codeAny_forLoop_any (fun n s' => ∃ i σ' H', Inv X pins σ' H' s' ∧ tn i s'.heap ∧ (∀ b ∈ fp, H' b = none) ∧ W i n σ' H') ?_ m0 ⟨0, σ, H2, I2, st2, fun b hb => (f2 b hb).1, w0⟩
  rintro n s3 ⟨i, σ3, H3, I3, st3, fr3, w3⟩
  rcases turn i n σ3 H3 w3 with ⟨stop, qn⟩ | ⟨go, N, hN, step⟩
  · refine wpAny_passesOwn hp (thn (T.done X rfl rfl rfl hc i pins s3 σ3 H3 X.xe I3 (stat fr3) st3 stop) fun r s4 ⟨hr, I4⟩ => ?_)
    subst hr
    exact wpAny_execs_nil ⟨σ3, H3, I4, qn⟩
  · refine wpAny_passesOwn hp (thn (T.item X rfl rfl rfl hc i pins s3 σ3 H3 X.xe I3 (stat fr3) st3 go) fun r s4 ⟨u, hr, h4⟩ => ?_)
    subst hr
    refine wpAny_passesOwn hp (thn h4 fun _ s5 ⟨x, H5, I5, r5, y5, st5, fr5⟩ => ?_)
    have I5' := I5.pinned (stat fr5) (T.obj _ _ st5)
    refine wpAny_passesOwn hp (thn (hg _ s5 σ3 H5 x u _ I5' r5 (step x H5 y5)) fun _ s6 ⟨σ6, H6, I6, q6⟩ => ?_)
    refine wpAny_passesOwn hp (thn (hb _ s6 σ6 H6 _ I6 q6) fun f s7 q7 => ?_)
    have again : ∀ {σ7 : St} {H7 : Hp}, Inv X (pins ++ pinsAt fp s5.heap) σ7 H7 s7 → N σ7 H7 → ∃ m, m < n ∧ ∃ i σ' H', Inv X pins σ' H' s7 ∧ tn i s7.heap ∧ (∀ b ∈ fp, H' b = none) ∧ W i m σ' H' := fun {σ7 H7} I7 n7 => by
      obtain ⟨m', hm, w7⟩ := hN σ7 H7 n7
      refine ⟨m', hm, i + 1, σ7, H7, I7.unpinned, T.keep _ _ _ st5 fun b hb o e => (I7.pin (b, o) (List.mem_append_right _ (List.mem_append_right _ (mem_pinsAt hb e)))).1, fun b hb => ?_, w7⟩
      obtain ⟨o, e, d⟩ := T.obj _ _ st5 b hb
      exact (I7.pin (b, o) (List.mem_append_right _ (List.mem_append_right _ (mem_pinsAt hb e)))).2.1
    cases f with
    | next => obtain ⟨σ7, H7, I7, n7⟩ := q7; exact again I7 n7
    | cont => obtain ⟨σ7, H7, I7, n7⟩ := q7; exact again I7 n7
    | brk => obtain ⟨σ7, H7, I7, q7⟩ := q7; exact ⟨σ7, H7, I7.unpinned, q7⟩
    | ret v => obtain ⟨x7, σ7, H7, I7, r7, q7⟩ := q7; exact ⟨x7, σ7, H7, I7.unpinned, r7, q7⟩
end

/-! ### the forms one uses -/
end L2

namespace L2
open PySem PySem.Spec PyProof.Rows

abbrev R2 := V → V → Hp → VK → Prop
/-- a two-place operation on values: f is binaryOp op, inplaceOp op or compareOp op -/
def OpR (X : Cx) (f : Value → Value → Sem Value) (r : R2) : Prop :=
  ∀ (pins : List (Addr × Obj)) (s : Shared) (σ : St) (H : Hp) (x y : V) (v u : Value) (Q : VK), Inv X pins σ H s → RelV x v → RelV y u → r x y H Q →
    wpAny (model X.prog X.w) X.A (f v u) (EP X pins σ Q) X.xe s
/-- a one-place operation -/
def UnR (X : Cx) (f : Value → Sem Value) (r : V → Hp → VK → Prop) : Prop :=
  ∀ (pins : List (Addr × Obj)) (s : Shared) (σ : St) (H : Hp) (x : V) (v : Value) (Q : VK), Inv X pins σ H s → RelV x v → r x H Q →
    wpAny (model X.prog X.w) X.A (f v) (EP X pins σ Q) X.xe s
/-- a call of a value that is known (a builtin, a type) with values -/
def CallR (X : Cx) (f : Value) (r : List V → Hp → VK → Prop) : Prop :=
  ∀ (pins : List (Addr × Obj)) (s : Shared) (σ : St) (H : Hp) (xs : List V) (us : List Value) (Q : VK), Inv X pins σ H s → Vals xs us → r xs H Q →
    wpAny (model X.prog X.w) X.A (call f us) (EP X pins σ Q) X.xe s

def tOp (r : R2) (ta tb : TE) : TE := fun σ H Q => ta σ H fun x H1 => tb σ H1 fun y H2 => r x y H2 Q
def tUn (r : V → Hp → VK → Prop) (ta : TE) : TE := fun σ H Q => ta σ H fun x H1 => r x H1 Q
/-- ints in, under C, and a value out -/
def rI (C : Int → Int → Prop) (g : Int → Int → V) : R2 := fun x y H Q => ∃ i j, x = .int i ∧ y = .int j ∧ C i j ∧ Q (g i j) H
def rI0 (g : Int → Int → V) : R2 := fun x y H Q => ∃ i j, x = .int i ∧ y = .int j ∧ Q (g i j) H
def rU (g : Int → V) : V → Hp → VK → Prop := fun x H Q => ∃ i, x = .int i ∧ Q (g i) H

section
variable {X : Cx} {a b c : Expr} {ta tb tc : TE} {pos : Pos}

theorem binT (ha : PE X a ta) (hb : PE X b tb) {pins : List (Addr × Obj)} {s : Shared} {σ : St} {H : Hp} {R : V → V → Hp → Prop} (I : Inv X pins σ H s)
    (h : ta σ H fun x H1 => tb σ H1 fun y H2 => R x y H2) {Q : Value → Shared → Prop} {f : Value → Value → Sem Value}
    (hf : ∀ v u s2 x y H2, Inv X pins σ H2 s2 → RelV x v → RelV y u → R x y H2 → wpAny (model X.prog X.w) X.A (f v u) Q X.xe s2) :
    wpAny (model X.prog X.w) X.A (eval a X.env) (fun v s₁ => wpAny (model X.prog X.w) X.A (eval b X.env) (fun u s₂ => wpAny (model X.prog X.w) X.A (f v u) Q X.xe s₂) X.xe s₁) X.xe s := by
  refine thn (ha pins s σ H _ I h) fun v s1 ⟨x, H1, I1, r1, q1⟩ => ?_
  refine thn (hb pins s1 σ H1 _ I1 q1) fun u s2 ⟨y, H2, I2, r2, q2⟩ => ?_
  exact hf v u s2 x y H2 I2 r1 r2 q2

theorem pe_op {op : Operator} {r : R2} (ho : OpR X (binaryOp op) r) (ha : PE X a ta) (hb : PE X b tb) : PE X (.BinOp a op b pos) (tOp r ta tb) := by
  intro pins s σ H Q I h
  exact wpAny_BinOp (binT ha hb I h fun v u s2 x y H2 I2 rx ry q => ho pins s2 σ H2 x y v u Q I2 rx ry q)
theorem pe_un {op : UnaryOp} {r : V → Hp → VK → Prop} (ho : UnR X (unaryOp op) r) (ha : PE X a ta) : PE X (.UnaryOp op a pos) (tUn r ta) := by
  intro pins s σ H Q I h
  exact UnaryOp_ (thn (ha pins s σ H _ I h) fun v s1 ⟨x, H1, I1, r1, q1⟩ => ho pins s1 σ H1 x v Q I1 r1 q1)

/-! ### ints -/
theorem opI {f : Value → Value → Sem Value} {C : Int → Int → Prop} {g : Int → Int → Int}
    (rule : ∀ (i j : Int) (t u : Tok) (s : Shared) (Q : Value → Shared → Prop) (E : Value → Shared → Prop), C i j → Q (.int (g i j) s.toks) { s with toks := s.toks + 1 } → wpAny (model X.prog X.w) X.A (f (.int i t) (.int j u)) Q E s) :
    OpR X f (rI C fun i j => .int (g i j)) := by
  intro pins s σ H x y v u Q I rx ry h
  obtain ⟨i, j, rfl, rfl, hc, q⟩ := h
  obtain ⟨t, rfl⟩ := rx
  obtain ⟨t', rfl⟩ := ry
  exact rule i j t t' s _ _ hc ⟨.int (g i j), H, I.tok _, ⟨_, rfl⟩, q⟩
theorem opI0 {f : Value → Value → Sem Value} {g : Int → Int → Int}
    (rule : ∀ (i j : Int) (t u : Tok) (s : Shared) (Q : Value → Shared → Prop) (E : Value → Shared → Prop), Q (.int (g i j) s.toks) { s with toks := s.toks + 1 } → wpAny (model X.prog X.w) X.A (f (.int i t) (.int j u)) Q E s) :
    OpR X f (rI0 fun i j => .int (g i j)) := by
  intro pins s σ H x y v u Q I rx ry h
  obtain ⟨i, j, rfl, rfl, q⟩ := h
  obtain ⟨t, rfl⟩ := rx
  obtain ⟨t', rfl⟩ := ry
  exact rule i j t t' s _ _ ⟨.int (g i j), H, I.tok _, ⟨_, rfl⟩, q⟩
theorem opB0 {f : Value → Value → Sem Value} {g : Int → Int → Bool}
    (rule : ∀ (i j : Int) (t u : Tok) (s : Shared) (Q : Value → Shared → Prop) (E : Value → Shared → Prop), Q (.bool (g i j)) s → wpAny (model X.prog X.w) X.A (f (.int i t) (.int j u)) Q E s) :
    OpR X f (rI0 fun i j => .bl (g i j)) := by
  intro pins s σ H x y v u Q I rx ry h
  obtain ⟨i, j, rfl, rfl, q⟩ := h
  obtain ⟨t, rfl⟩ := rx
  obtain ⟨t', rfl⟩ := ry
  exact rule i j t t' s _ _ ⟨.bl (g i j), H, I, rfl, q⟩

def CDiv (i j : Int) : Prop := 0 < j ∧ j < 1073741824
def CPow (i j : Int) : Prop := 0 ≤ j ∧ j ≤ 1000000 ∧ i.natAbs < 2 ^ 64
def CMul (i j : Int) : Prop := (-(2 ^ 64) < i ∧ i < 2 ^ 64) ∨ (-(2 ^ 64) < j ∧ j < 2 ^ 64)
theorem CMul.ok {i j : Int} (h : CMul i j) : IntMulOk i j := by
  rcases h with ⟨h1, h2⟩ | ⟨h1, h2⟩
  · exact .of_left (intBits_le_64 h1 h2)
  · exact .of_right (intBits_le_64 h1 h2)

theorem op_add : OpR X (binaryOp .Add) (rI0 fun i j => .int (i + j)) := opI0 fun _ _ _ _ _ _ _ q => add_int q
theorem op_sub : OpR X (binaryOp .Sub) (rI0 fun i j => .int (i - j)) := opI0 fun _ _ _ _ _ _ _ q => sub_int q
theorem op_mul : OpR X (binaryOp .Mult) (rI CMul fun i j => .int (i * j)) := opI fun _ _ _ _ _ _ _ hc q => mul_int q hc.ok
/-- // by a positive divisor -/
theorem op_fdiv : OpR X (binaryOp .FloorDiv) (rI CDiv fun i j => .int (i / j)) := opI fun i j _ _ _ _ _ hc q => by
  have h1 : (0 : Int) < j := hc.1
  have h2 : j < 1073741824 := hc.2
  exact floordiv_int (by omega) (by rw [Int.fdiv_eq_ediv_of_nonneg i (by omega)]; exact q) (.inl (PyProof.noPylong_small (by omega)))
/-- % by a positive divisor of any size -/
theorem op_mod : OpR X (binaryOp .Mod) (rI (fun _ j => 0 < j) fun i j => .int (i % j)) := opI fun i j _ _ _ _ _ hc q => by
  have h1 : (0 : Int) < j := hc
  exact mod_int' (by omega) (by rw [Int.fmod_eq_emod_of_nonneg i (by omega)]; exact q)
theorem op_pow : OpR X (binaryOp .Pow) (rI CPow fun i j => .int (i ^ j.toNat)) := opI fun _ _ _ _ _ _ _ hc q => pow_int_small hc.1 hc.2.1 hc.2.2 q


theorem unI {f : Value → Sem Value} {g : Int → Int}
    (rule : ∀ (i : Int) (t : Tok) (s : Shared) (Q : Value → Shared → Prop) (E : Value → Shared → Prop), Q (.int (g i) s.toks) { s with toks := s.toks + 1 } → wpAny (model X.prog X.w) X.A (f (.int i t)) Q E s) :
    UnR X f (rU fun i => .int (g i)) := by
  intro pins s σ H x v Q I rx h
  obtain ⟨i, rfl, q⟩ := h
  obtain ⟨t, rfl⟩ := rx
  exact rule i t s _ _ ⟨.int (g i), H, I.tok _, ⟨_, rfl⟩, q⟩
theorem un_neg : UnR X (unaryOp .USub) (rU fun i => .int (-i)) := unI fun _ _ _ _ _ q => neg_int q

/-! ### bools among ints: n += (a < b) -/
end

/-! ### comparisons -/
/-- the scalars that == tells apart as data does -/
def scal : V → V → Bool
  | .non, .non => true | .non, .int _ => true | .int _, .non => true | .non, .bl _ => true | .bl _, .non => true | .non, .str _ => true | .str _, .non => true
  | .int _, .int _ => true | .bl _, .bl _ => true | .str _, .str _ => true | .byt _, .byt _ => true
  | .int _, .str _ => true | .str _, .int _ => true | .bl _, .str _ => true | .str _, .bl _ => true
  | _, _ => false
def rEq : R2 := fun x y H Q => scal x y = true ∧ Q (.bl (decide (x = y))) H
def rNe : R2 := fun x y H Q => scal x y = true ∧ Q (.bl (!decide (x = y))) H

theorem dec_int {i j : Int} : decide (V.int i = V.int j) = (i == j) := by
  rw [Bool.eq_iff_iff]
  simp
theorem dec_bl {i j : Bool} : decide (V.bl i = V.bl j) = (i == j) := by
  rw [Bool.eq_iff_iff]
  simp
theorem dec_str {i j : Str} : decide (V.str i = V.str j) = (i == j) := by
  rw [Bool.eq_iff_iff]
  simp
theorem dec_byt {i j : Array UInt8} : decide (V.byt i = V.byt j) = (i.toList == j.toList) := by
  rw [Bool.eq_iff_iff]
  cases i
  cases j
  simp

section
variable {X : Cx} {a b c : Expr} {ta tb tc : TE} {pos : Pos}
theorem fin_bl {pins : List (Addr × Obj)} {σ : St} {H : Hp} {s : Shared} {Q : VK} {k k' : Bool} (I : Inv X pins σ H s) (q : Q (.bl k) H) (e : k = k') : EP X pins σ Q (.bool k') s := by
  subst e
  exact ⟨.bl k, H, I, rfl, q⟩
theorem op_eq : OpR X (compareOp .Eq) rEq := by
  intro pins s σ H x y v u Q I rx ry h
  obtain ⟨hs, q⟩ := h
  cases x with
  | non =>
    cases rx
    cases y with
    | non => cases ry; exact PySem.EqNone.eq_none_none (fin_bl I q (by simp))
    | bl j => cases ry; exact PySem.EqNone.eq_none_bool (fin_bl I q (by simp))
    | int j => obtain ⟨t', rfl⟩ := ry; exact PySem.EqNone.eq_none_int (fin_bl I q (by simp))
    | str j => obtain ⟨t', rfl⟩ := ry; exact PySem.EqNone.eq_none_str (fin_bl I q (by simp))
    | _ => exact absurd (show false = true from hs) Bool.false_ne_true
  | bl i =>
    cases rx
    cases y with
    | non => cases ry; exact PySem.EqNone.eq_bool_none (fin_bl I q (by simp))
    | bl j => cases ry; exact eq_bool (fin_bl I q dec_bl)
    | str j => obtain ⟨t', rfl⟩ := ry; exact PySem.EqMixed.eq_bool_str (fin_bl I q (by simp))
    | _ => exact absurd (show false = true from hs) Bool.false_ne_true
  | int i =>
    obtain ⟨t, rfl⟩ := rx
    cases y with
    | non => cases ry; exact PySem.EqNone.eq_int_none (fin_bl I q (by simp))
    | int j => obtain ⟨t', rfl⟩ := ry; exact eq_int (fin_bl I q dec_int)
    | str j => obtain ⟨t', rfl⟩ := ry; exact PySem.EqMixed.eq_int_str (fin_bl I q (by simp))
    | _ => exact absurd (show false = true from hs) Bool.false_ne_true
  | str i =>
    obtain ⟨t, rfl⟩ := rx
    cases y with
    | non => cases ry; exact PySem.EqNone.eq_str_none (fin_bl I q (by simp))
    | bl j => cases ry; exact PySem.EqMixed.eq_str_bool (fin_bl I q (by simp))
    | int j => obtain ⟨t', rfl⟩ := ry; exact PySem.EqMixed.eq_str_int (fin_bl I q (by simp))
    | str j => obtain ⟨t', rfl⟩ := ry; exact eq_str (fin_bl I q dec_str)
    | _ => exact absurd (show false = true from hs) Bool.false_ne_true
  | byt i =>
    obtain ⟨t, rfl⟩ := rx
    cases y with
    | byt j => obtain ⟨t', rfl⟩ := ry; exact PySem.W.eq_bytes (fin_bl I q dec_byt)
    | _ => exact absurd (show false = true from hs) Bool.false_ne_true
  | _ => cases y <;> exact absurd (show false = true from hs) Bool.false_ne_true
theorem op_ne : OpR X (compareOp .NotEq) rNe := by
  intro pins s σ H x y v u Q I rx ry h
  obtain ⟨hs, q⟩ := h
  cases x with
  | non =>
    cases rx
    cases y with
    | non => cases ry; exact PySem.EqNone.ne_none_none (fin_bl I q (by simp))
    | bl j => cases ry; exact PySem.EqNone.ne_none_bool (fin_bl I q (by simp))
    | int j => obtain ⟨t', rfl⟩ := ry; exact PySem.EqNone.ne_none_int (fin_bl I q (by simp))
    | str j => obtain ⟨t', rfl⟩ := ry; exact PySem.EqNone.ne_none_str (fin_bl I q (by simp))
    | _ => exact absurd (show false = true from hs) Bool.false_ne_true
  | bl i =>
    cases rx
    cases y with
    | non => cases ry; exact PySem.EqNone.ne_bool_none (fin_bl I q (by simp))
    | bl j => cases ry; exact ne_bool (fin_bl I q (congrArg not dec_bl))
    | str j => obtain ⟨t', rfl⟩ := ry; exact PySem.EqMixed.ne_bool_str (fin_bl I q (by simp))
    | _ => exact absurd (show false = true from hs) Bool.false_ne_true
  | int i =>
    obtain ⟨t, rfl⟩ := rx
    cases y with
    | non => cases ry; exact PySem.EqNone.ne_int_none (fin_bl I q (by simp))
    | int j => obtain ⟨t', rfl⟩ := ry; exact ne_int (fin_bl I q (congrArg not dec_int))
    | str j => obtain ⟨t', rfl⟩ := ry; exact PySem.EqMixed.ne_int_str (fin_bl I q (by simp))
    | _ => exact absurd (show false = true from hs) Bool.false_ne_true
  | str i =>
    obtain ⟨t, rfl⟩ := rx
    cases y with
    | non => cases ry; exact PySem.EqNone.ne_str_none (fin_bl I q (by simp))
    | bl j => cases ry; exact PySem.EqMixed.ne_str_bool (fin_bl I q (by simp))
    | int j => obtain ⟨t', rfl⟩ := ry; exact PySem.EqMixed.ne_str_int (fin_bl I q (by simp))
    | str j => obtain ⟨t', rfl⟩ := ry; exact ne_str (fin_bl I q (congrArg not dec_str))
    | _ => exact absurd (show false = true from hs) Bool.false_ne_true
  | byt i =>
    obtain ⟨t, rfl⟩ := rx
    cases y with
    | byt j => obtain ⟨t', rfl⟩ := ry; exact PySem.W.ne_bytes (fin_bl I q (congrArg not dec_byt))
    | _ => exact absurd (show false = true from hs) Bool.false_ne_true
  | _ => cases y <;> exact absurd (show false = true from hs) Bool.false_ne_true

theorem op_lt : OpR X (compareOp .Lt) (rI0 fun i j => .bl (decide (i < j))) := opB0 fun _ _ _ _ _ _ _ q => lt_int q
theorem op_le : OpR X (compareOp .LtE) (rI0 fun i j => .bl (decide (i ≤ j))) := opB0 fun _ _ _ _ _ _ _ q => le_int q
theorem op_gt : OpR X (compareOp .Gt) (rI0 fun i j => .bl (decide (j < i))) := opB0 fun _ _ _ _ _ _ _ q => gt_int q
theorem op_ge : OpR X (compareOp .GtE) (rI0 fun i j => .bl (decide (j ≤ i))) := opB0 fun _ _ _ _ _ _ _ q => ge_int q
theorem op_lt_str : OpR X (compareOp .Lt) (fun x y H Q => ∃ i j, x = .str i ∧ y = .str j ∧ Q (.bl (decide (i.cps.toList < j.cps.toList))) H) := by
  intro pins s σ H x y v u Q I rx ry h
  obtain ⟨i, j, rfl, rfl, q⟩ := h
  obtain ⟨t, rfl⟩ := rx
  obtain ⟨t', rfl⟩ := ry
  exact lt_str (fin_bl I q rfl)




/-- a comparison as a value; hm: nomark b, or (for in, not in) by with_unfolding_all rfl -/
theorem pe_cmpR {op : CmpOp} {r : R2} (ho : OpR X (compareOp op) r) (ha : PE X a ta) (hb : PE X b tb) (hm : behindInMarks op b = false) : PE X (.Compare a [op] [b] pos) (tOp r ta tb) := by
  intro pins s σ H Q I h
  exact wpAny_Compare1 (binT ha hb I h fun v u s2 x y H2 I2 rx ry q => ho pins s2 σ H2 x y v u Q I2 rx ry q) hm
/-- a reading of a value as a test -/
def tTest (t : TE) : TT := fun σ H Q => t σ H fun x H' => ∃ k, x = .bl k ∧ Q k H'
theorem pt_cmpR {op : CmpOp} {r : R2} (ho : OpR X (compareOp op) r) (ha : PE X a ta) (hb : PE X b tb) (hm : behindInMarks op b = false) : PT X (.Compare a [op] [b] pos) (tTest (tOp r ta tb)) := by
  intro pins s σ H Q I h
  refine wpAny_isTrue_Compare1 (thn (ha pins s σ H _ I h) fun v s1 ⟨x, H1, I1, r1, q1⟩ => thn (hb pins s1 σ H1 _ I1 q1) fun u s2 ⟨y, H2, I2, r2, q2⟩ =>
    thn (ho pins s2 σ H2 x y v u _ I2 r1 r2 q2) fun c s3 ⟨z, H3, I3, r3, k, e, q3⟩ => ?_) hm
  subst e
  cases r3
  exact wpAny_truthy_bool ⟨H3, I3, q3⟩
/-- a op1 b op2 c -/
def tChain (r r' : R2) (ta tb tc : TE) : TE := fun σ H Q => ta σ H fun x H1 => tb σ H1 fun y H2 => r x y H2 fun z H3 => ∃ k, z = .bl k ∧
  (if k = true then tc σ H3 fun w' H4 => r' y w' H4 Q else Q (.bl false) H3)
theorem pe_chain {op op' : CmpOp} {r r' : R2} (ho : OpR X (compareOp op) r) (ho' : OpR X (compareOp op') r') (ha : PE X a ta) (hb : PE X b tb) (hc : PE X c tc)
    (hm : lastMarks [op, op'] [b, c] = false := by with_unfolding_all rfl) : PE X (.Compare a [op, op'] [b, c] pos) (tChain r r' ta tb tc) := by
  intro pins s σ H Q I h
  refine Compare_chain (thn (ha pins s σ H _ I h) fun v s1 ⟨x, H1, I1, r1, q1⟩ => chain_link (thn (hb pins s1 σ H1 _ I1 q1) fun u s2 ⟨y, H2, I2, r2, q2⟩ =>
    thn (ho pins s2 σ H2 x y v u _ I2 r1 r2 q2) fun d s3 ⟨z, H3, I3, r3, k, e, q3⟩ => ?_)) hm
  subst e
  cases r3
  refine wpAny_truthy_bool ?_
  cases k with
  | false => exact ite_ff ⟨.bl false, H3, I3, rfl, q3⟩
  | true => exact ite_tt (chain_last (thn (hc pins s3 σ H3 _ I3 q3) fun w' s4 ⟨z', H4, I4, r4, q4⟩ => ho' pins s4 σ H4 y z' u w' Q I4 r2 r4 q4))
theorem pt_chain {op op' : CmpOp} {r r' : R2} (ho : OpR X (compareOp op) r) (ho' : OpR X (compareOp op') r') (ha : PE X a ta) (hb : PE X b tb) (hc : PE X c tc)
    (hm : lastMarks [op, op'] [b, c] = false := by with_unfolding_all rfl) : PT X (.Compare a [op, op'] [b, c] pos) (tTest (tChain r r' ta tb tc)) := by
  intro pins s σ H Q I h
  refine isTrue_chain (thn (ha pins s σ H _ I h) fun v s1 ⟨x, H1, I1, r1, q1⟩ => test_link (thn (hb pins s1 σ H1 _ I1 q1) fun u s2 ⟨y, H2, I2, r2, q2⟩ =>
    thn (ho pins s2 σ H2 x y v u _ I2 r1 r2 q2) fun d s3 ⟨z, H3, I3, r3, k, e, q3⟩ => ?_)) hm
  subst e
  cases r3
  refine wpAny_truthy_bool ?_
  cases k with
  | false =>
    obtain ⟨k', e', q'⟩ := q3
    cases e'
    exact ite_ff ⟨H3, I3, q'⟩
  | true =>
    refine ite_tt (test_last (thn (hc pins s3 σ H3 _ I3 q3) fun w' s4 ⟨z', H4, I4, r4, q4⟩ => thn (ho' pins s4 σ H4 y z' u w' _ I4 r2 r4 q4) fun d' s5 ⟨z2, H5, I5, r5, k2, e2, q5⟩ => ?_))
    subst e2
    cases r5
    exact wpAny_truthy_bool ⟨H5, I5, q5⟩

/-! ### truth -/
theorem line63 : (sizeLine : Nat) < 2 ^ 63 := by rw [sizeLine_eq]; decide

/-! ### strs and bytes -/
theorem op_add_str : OpR X (binaryOp .Add) (fun x y H Q => ∃ i j, x = .str i ∧ y = .str j ∧ i.length + j.length ≤ sizeLine ∧ Q (.str (i ++ j)) H) := by
  intro pins s σ H x y v u Q I rx ry h
  obtain ⟨i, j, rfl, rfl, hz, q⟩ := h
  obtain ⟨t, rfl⟩ := rx
  obtain ⟨t', rfl⟩ := ry
  exact add_str (fun t' tk => ⟨.str (i ++ j), H, I.tok _, ⟨_, rfl⟩, q⟩) hz


/-! ### scalar builtins, by CallR -/
theorem vals1 {x : V} {us : List Value} (r : Vals [x] us) : ∃ u, us = [u] ∧ RelV x u := by
  cases r with
  | cons r1 r2 => cases r2; exact ⟨_, rfl, r1⟩
theorem vals2 {x y : V} {us : List Value} (r : Vals [x, y] us) : ∃ u w', us = [u, w'] ∧ RelV x u ∧ RelV y w' := by
  cases r with
  | cons r1 r2 =>
    cases r2 with
    | cons r3 r4 => cases r4; exact ⟨_, _, rfl, r1, r3⟩
theorem call_max2 (hc : X.calm = true) : CallR X (.builtin "max") (fun xs H Q => ∃ i j, xs = [.int i, .int j] ∧ Q (.int (if j > i then j else i)) H) := by
  intro pins s σ H xs us Q I r h
  obtain ⟨i, j, rfl, q⟩ := h
  obtain ⟨u, w', rfl, ⟨t, rfl⟩, ⟨t', rfl⟩⟩ := vals2 r
  refine max_two_ints (I.ok.hd hc) fun h' tk k => ⟨_, H, I.kept k, ?_, q⟩
  by_cases hj : j > i
  · rw [if_pos hj, if_pos hj]; exact ⟨_, rfl⟩
  · rw [if_neg hj, if_neg hj]; exact ⟨_, rfl⟩
theorem call_min2 (hc : X.calm = true) : CallR X (.builtin "min") (fun xs H Q => ∃ i j, xs = [.int i, .int j] ∧ Q (.int (if j < i then j else i)) H) := by
  intro pins s σ H xs us Q I r h
  obtain ⟨i, j, rfl, q⟩ := h
  obtain ⟨u, w', rfl, ⟨t, rfl⟩, ⟨t', rfl⟩⟩ := vals2 r
  refine min_two_ints (I.ok.hd hc) fun h' tk k => ⟨_, H, I.kept k, ?_, q⟩
  by_cases hj : j < i
  · rw [if_pos hj, if_pos hj]; exact ⟨_, rfl⟩
  · rw [if_neg hj, if_neg hj]; exact ⟨_, rfl⟩
theorem call_int1 : CallR X (.type "int") (fun xs H Q => (∃ i, xs = [.int i] ∧ Q (.int i) H) ∨ ∃ k, xs = [.bl k] ∧ Q (.int (if k then 1 else 0)) H) := by
  intro pins s σ H xs us Q I r h
  rcases h with ⟨i, rfl, q⟩ | ⟨k, rfl, q⟩
  · obtain ⟨u, rfl, t, rfl⟩ := vals1 r
    exact call_int_int ⟨.int i, H, I, ⟨_, rfl⟩, q⟩
  · obtain ⟨u, rfl, r1⟩ := vals1 r
    cases r1
    exact call_int_bool ⟨.int (if k then 1 else 0), H, I.tok _, ⟨_, rfl⟩, q⟩
end
end L2

namespace L2
open PySem PySem.Spec PyProof.Rows

/-! ### an instance, its attributes a map -/
structure ObjM (h : Heap) (x dx C : Addr) (mA : Str → Option Value) : Prop where
  obj : h.get? x = some (PySem.W.instObj C dx)
  ns : h.Ns1 dx mA
  ne : dx ≠ x

theorem lookIn_ns {h : Heap} {dx : Addr} {mA : Str → Option Value} (n : h.Ns1 dx mA) : ∃ od, h.get? dx = some od ∧ ∀ name, PySem.W.lookIn name od = some (mA name) := by
  obtain ⟨o, es, ep, ho, hd, hk, _, hm⟩ := n
  refine ⟨o, ho, fun name => ?_⟩
  have e := hm name
  unfold nsFind findBy at e
  rw [← Array.find?_toList] at e
  unfold PySem.W.lookIn
  rw [hd]
  dsimp only
  split
  · rename_i y q
    rw [q] at e
    exact congrArg some e
  · rename_i q
    rw [q] at e
    have a : es.toList.any (·.refKey) = false := by
      rw [List.any_eq_false]
      intro y hy
      obtain ⟨z, t, hkey⟩ := hk y (Array.mem_toList_iff.mp hy)
      simp [DictEntry.refKey, hkey]
    have a' : ¬ es.toList.any (·.refKey) = true := by rw [a]; exact Bool.false_ne_true
    rw [if_neg a']
    exact congrArg some e

theorem ObjM.look {h : Heap} {x dx C : Addr} {mA : Str → Option Value} (I : ObjM h x dx C mA) : ∃ od, PySem.W.InstAt h x (PySem.W.instObj C dx) C (some od) ∧ ∀ name, PySem.W.lookIn name od = some (mA name) :=
  let ⟨od, ho, hl⟩ := lookIn_ns I.ns
  ⟨od, ⟨I.obj, rfl, rfl, ho⟩, hl⟩

section
variable {prog : Program} {w : World} {A : Around} {E : Value → Shared → Prop} {s : Shared} {K : PySem.W.Frag} {x dx C f : Addr} {mA : Str → Option Value} {name : Str} {v : Value}





end

/-! ### the attributes as a list of pairs -/

theorem RelO.some_of {v : V} {o : Option Value} (r : RelO (some v) o) : ∃ u, o = some u ∧ RelV v u := by
  cases o with
  | none => exact (show False from r).elim
  | some u => exact ⟨u, rfl, r⟩

section
variable {P : Program} {w : World} {H H' : Hp} {h h' : Heap} {a C dx : Addr} {fs fs' : List (Str × V)}
theorem ins_get (hok : HOk P w H h) (e : H a = some (.ins C dx fs)) : ∃ mA, ObjM h a dx C mA ∧ (∀ f, RelO (fs.lookup f) (mA f)) ∧ PySem.Within mA (fs.map (·.1)) ∧ fs.length ≤ 1000 ∧ H dx = some (.own a) := by
  obtain ⟨d, z, ne, ob, mA, n, r, q⟩ := (show ObjOk P w H h a (.ins C dx fs) from hok a _ e)
  exact ⟨mA, ⟨ob, n, ne⟩, r, q, z, d⟩
end

/-! ### what of the text a class must have -/
structure Cls (K : PySem.W.Frag) (C : Addr) : Prop where
  pg : PySem.W.plainGet K C Str.empty = true
  hd : PySem.W.hasDictIn K C = true
  po : PySem.W.plainOver K C = true
  sa : PySem.W.findIn K (.ref C) "__setattr__" = some (some (.builtin "object.__setattr__"))
theorem Cls.get {K : PySem.W.Frag} {C : Addr} (c : Cls K C) (f : Str) : PySem.W.plainGet K C f = true := c.pg
/-- a constant of the class -/
structure Con (K : PySem.W.Frag) (C : Addr) (f : Str) (v : V) (u : Value) : Prop where
  at_ : PySem.W.findIn K (.ref C) f = some (some u)
  rel : RelV v u
  get : PySem.W.specialIn K u "__get__" = some none
  cp : PySem.W.copiedNames.contains f = false
/-- a method: a plain def of the class or of one above it -/
structure Meth (K : PySem.W.Frag) (C : Addr) (m : Str) (f : Addr) : Prop where
  at_ : PySem.W.findIn K (.ref C) m = some (some (.ref f))
  fn : PySem.W.isFn K (.ref f) = true
  kp : PySem.W.keepIn K (.ref f) = true

section
variable {X : Cx} {pins : List (Addr × Obj)} {σ : St} {H : Hp} {s : Shared} {a C dx : Addr} {fs : List (Str × V)} {f : Str} {v : V} {A : Around} {E : Value → Shared → Prop}






end

/-! ### readings and rules -/

section
variable {X : Cx} {o e value : Expr} {f : Str} {pos pos' tpos : Pos} {ta tv : TE}

end

/-! ### isinstance -/
section
variable {X : Cx} {pins : List (Addr × Obj)} {σ : St} {H : Hp} {s : Shared} {A : Around} {E : Value → Shared → Prop} {Q : Value → Shared → Prop} {c : Value} {b : Bool}
/-- the type of a value, as the fragment's deciders take it; for an instance its class -/
inductive TyOf (K : PySem.W.Frag) (H : Hp) : V → Value → Prop where
  | non : TyOf K H .non (.type "NoneType")
  | bl (x : Bool) : TyOf K H (.bl x) (.type "bool")
  | int (i : Int) : TyOf K H (.int i) (.type "int")
  | str (x : Str) : TyOf K H (.str x) (.type "str")
  | flt (x : UInt64) : TyOf K H (.flt x) (.type "float")
  | lst {a : Addr} {xs : List V} (e : H a = some (.lst xs)) : TyOf K H (.ref a) (.type "list")
  | frz {a : Addr} {o : Obj} {xs : List V} (e : H a = some (.frz o (.lst xs))) : TyOf K H (.ref a) (.type "list")
  | tup {a : Addr} {xs : List V} (e : H a = some (.tup xs)) : TyOf K H (.ref a) (.type "tuple")
  | dK {a : Addr} {kvs : List (Key × V)} (e : H a = some (.dK kvs)) : TyOf K H (.ref a) (.type "dict")
  | dT {a : Addr} {kvs : List (List Key × V)} (e : H a = some (.dT kvs)) : TyOf K H (.ref a) (.type "dict")
  | ins {a C dx : Addr} {fs : List (Str × V)} (e : H a = some (.ins C dx fs)) (cl : Cls K C) (ha : PySem.W.findIn K (.ref C) "__class__" = some (some (.builtin "object.__class__")))
      (hn : PySem.W.specialIn K (.builtin "object.__class__") "__get__" = some (some (.builtin "getset_descriptor.__get__"))) (htk : PySem.W.takesIn K (.builtin "object.__class__") = some true)
      (hm : PySem.W.mroIn K C (.type "object") = some true) : TyOf K H (.ref a) (.ref C)
/-- isinstance(x, c) for one class c, a built-in or an own one: kitOne's answer -/
theorem isinst_ok {x : V} {u t : Value} (I : Inv X pins σ H s) (rx : RelV x u) (ty : TyOf X.K H x t) (e : PySem.W.kitOne X.K t c = some b) (h : ∀ tk, Q (.bool b) { s with toks := tk }) :
    wpAny (model X.prog X.w) A (call (.builtin "isinstance") [u, c]) Q E s := by
  cases ty with
  | non => cases (show u = Value.none from rx); exact PySem.W.kia_one PySem.W.kitx_none I.kIn True.intro e (fun z => nomatch z) h
  | bl y => cases (show u = Value.bool y from rx); exact PySem.W.kia_one PySem.W.kitx_bool I.kIn True.intro e (fun z => nomatch z) h
  | int i => obtain ⟨t, q⟩ := (show ∃ t, u = Value.int i t from rx); cases q; exact PySem.W.kia_one PySem.W.kitx_int I.kIn True.intro e (fun z => nomatch z) h
  | str y => obtain ⟨t, q⟩ := (show ∃ t, u = Value.str y t from rx); cases q; exact PySem.W.kia_one PySem.W.kitx_str I.kIn True.intro e (fun z => nomatch z) h
  | flt y => obtain ⟨t, q⟩ := (show ∃ t, u = Value.float y t from rx); cases q; exact PySem.W.kia_one PySem.W.kitx_float I.kIn True.intro e (fun z => nomatch z) h
  | @lst a xs ea =>
    cases (show u = Value.ref a from rx)
    obtain ⟨_, _, n, _, h1⟩ := (show ObjOk X.prog X.w H s.heap a (.lst xs) from I.hok a _ ea)
    exact PySem.W.kia_one PySem.W.kitx_list I.kIn ⟨_, h1, rfl⟩ e (fun z => nomatch z) h
  | @frz a ob xs ea =>
    cases (show u = Value.ref a from rx)
    obtain ⟨_, _, _, n, _, h1⟩ := (show ObjOk X.prog X.w H s.heap a (.frz ob (.lst xs)) from I.hok a _ ea)
    exact PySem.W.kia_one PySem.W.kitx_list I.kIn ⟨_, h1, rfl⟩ e (fun z => nomatch z) h
  | @tup a xs ea =>
    cases (show u = Value.ref a from rx)
    obtain ⟨_, _, _, p, _⟩ := (show ObjOk X.prog X.w H s.heap a (.tup xs) from I.hok a _ ea)
    obtain ⟨o, h1, h2, _⟩ := p
    exact PySem.W.kia_one PySem.W.kitx_tuple I.kIn ⟨o, h1, h2⟩ e (fun z => nomatch z) h
  | @dK a kvs ea =>
    cases (show u = Value.ref a from rx)
    obtain ⟨_, _, vs, _, p⟩ := (show ObjOk X.prog X.w H s.heap a (.dK kvs) from I.hok a _ ea)
    obtain ⟨o, es, ep, h1, h2, _⟩ := p
    exact PySem.W.kia_one PySem.W.kitx_dict I.kIn ⟨o, h1, h2.1⟩ e (fun z => nomatch z) h
  | @dT a kvs ea =>
    cases (show u = Value.ref a from rx)
    obtain ⟨_, _, xs, _, o, es, ep, h1, h2, _⟩ := (show ObjOk X.prog X.w H s.heap a (.dT kvs) from I.hok a _ ea)
    exact PySem.W.kia_one PySem.W.kitx_dict I.kIn ⟨o, h1, h2.1⟩ e (fun z => nomatch z) h
  | @ins a C dx fs ea cl ha hn htk hm =>
    cases (show u = Value.ref a from rx)
    obtain ⟨mA, O, _⟩ := ins_get I.hok ea
    obtain ⟨od, J, _⟩ := O.look
    exact PySem.W.kia_one (PySem.W.kitx_own (cl.get _) cl.hd ha hn htk hm) I.kIn J e (fun z => nomatch z) h
end
end L2

namespace L2
open PySem PySem.Spec PyProof.Rows

/-! ### room -/
structure Room (k : Nat) (A : Around) : Prop where
  hd : A.handled = none
  dp : A.depth + 3 * k + 5 < recursionLimit
  un : A.units + 16 * k + 200 < cLine
  gd : A.guards = some []
theorem Room.mono {j k : Nat} {A : Around} (r : Room k A) (h : j ≤ k) : Room j A := ⟨r.hd, by have := r.dp; omega, by have := r.un; omega, r.gd⟩
theorem Room.deeper {k : Nat} {A : Around} (r : Room (k + 1) A) (env : Env) : Room k (A.deeper env) :=
  ⟨r.hd, by have := r.dp; show A.depth + 1 + 3 * k + 5 < _; omega, by have := r.un; show A.units + 3 + 16 * k + 200 < _; omega, r.gd⟩
theorem Room.depth {k : Nat} {A : Around} (r : Room k A) : A.depth < recursionLimit := by have := r.dp; omega
theorem Room.units {k : Nat} {A : Around} (r : Room k A) : A.units + 64 < cLine := by have := r.un; omega

/-! ### argument lists and displays -/
def tNil : TA := fun _ H Q => Q [] H
def tCons (ta : TE) (tr : TA) : TA := fun σ H Q => ta σ H fun x H1 => tr σ H1 fun xs H2 => Q (x :: xs) H2
section
variable {X : Cx} {e : Expr} {es : List Expr} {te : TE} {t : TA} {pos : Pos}
theorem pa_nil : PA X [] tNil := fun _ _ _ _ H Q I h => Calls.spliced_nil ⟨[], H, I, .nil, h⟩
theorem pa_cons (ha : PE X e te) (hr : PA X es t) (hs : starEach (e :: es) X.env = (false, eval e X.env) :: starEach es X.env := by rfl) : PA X (e :: es) (tCons te t) := by
  intro pos pins s σ H Q I h
  rw [hs]
  show wpAny _ _ (spliced ((false, eval e X.env) :: backTo pos (starEach es X.env))) _ _ s
  refine Calls.spliced_cons (thn (ha pins s σ H _ I h) fun u s1 ⟨x, H1, I1, r1, q1⟩ => ?_)
  exact thn (hr pos pins s1 σ H1 _ I1 q1) fun us s2 ⟨xs, H2, I2, r2, q2⟩ => ⟨x :: xs, H2, I2, .cons r1 r2, q2⟩

/-- a tuple, a list of written items -/
def tTup (t : TA) : TE := fun σ H Q => t σ H fun xs H1 => xs.length ≤ sizeLine ∧ ∀ p, H1 p = none → Q (.ref p) (upd H1 p (.tup xs))
def tLst (t : TA) : TE := fun σ H Q => t σ H fun xs H1 => xs.length ≤ sizeLine ∧ ∀ p, H1 p = none → Q (.ref p) (upd H1 p (.lst xs))
theorem pe_tup {x1} (h : PA X es t) : PE X (.Tuple es x1 pos) (tTup t) := by
  intro pins s σ H Q I hq
  refine wpAny_Tuple_spliced (thn (h pos pins s σ H _ I hq) fun us s1 ⟨xs, H1, I1, r, z, q⟩ => ⟨by rw [← r.length]; exact z, ?_⟩)
  have hf : H1 s1.heap.objs.size = none := I1.hok.fresh (Nat.le_refl _)
  refine ⟨.ref s1.heap.objs.size, upd H1 s1.heap.objs.size (.tup xs), I1.laid (t' := s1.toks) (fun b u e => Heap.get?_push_of_some _ e) (Nat.le_refl _) ?_, rfl, q _ hf⟩
  exact ⟨z, us, r, ⟨_, Heap.get?_push_size _ rfl, rfl, _, rfl⟩, NoDict.new rfl (Heap.get?_push_size _ rfl)⟩
theorem pe_lst (h : PA X es t) : PE X (.List es pos) (tLst t) := by
  intro pins s σ H Q I hq
  refine wpAny_List_spliced (thn (h pos pins s σ H _ I hq) fun us s1 ⟨xs, H1, I1, r, z, q⟩ => ⟨by rw [← r.length]; exact z, ?_⟩)
  have hf : H1 s1.heap.objs.size = none := I1.hok.fresh (Nat.le_refl _)
  refine ⟨.ref s1.heap.objs.size, upd H1 s1.heap.objs.size (.lst xs), I1.laid (t' := s1.toks) (fun b u e => Heap.get?_push_of_some _ e) (Nat.le_refl _) ?_, rfl, q _ hf⟩
  exact ⟨z, us, 0, r, Heap.get?_push_size _ rfl⟩
end

/-! ### what a def promises -/
/-- a def's promise: the bound arguments in the parameters' order, the heap, the wanted end, the wanted exception -/
abbrev Sp := List V → Hp → VK → XK → Prop
/-- how an exception lies behind a call (file 08 gives it): the callers' frames, abstract heap and state ahead of the call, the wish, the exception, the state -/
abbrev CXT := List Env → Hp → Shared → XK → Value → Shared → Prop

/-- the state at a call -/
structure Env0 (P : Program) (w : World) (K : PySem.W.Frag) (mg : Str → Option Value) (base : Heap) (A : Around) (outer : List Env) (s : Shared) (H : Hp) : Prop where
  frames : A.frames = some outer
  mod : Mod K mg base
  bs : ∀ b o, base.get? b = some o → s.heap.get? b = some o ∧ H b = none
  bsz : base.objs.size ≤ s.heap.objs.size
  funs : s.heap.FunFrames base outer
  frf : ∀ b ∈ frs outer, H b = none
  hok : HOk P w H s.heap
  bare : AllBare s.gens
/-- a call's end -/
def CE (outer : List Env) (P : Program) (w : World) (H : Hp) (s : Shared) (Q : VK) (u : Value) (s' : Shared) : Prop :=
  ∃ v H', s'.os = s.os ∧ AllBare s'.gens ∧ Un (frs outer) [] H H' s.heap s'.heap ∧ HOk P w H' s'.heap ∧ RelV v u ∧ Q v H'
def CR (CX : CXT) (outer : List Env) (P : Program) (w : World) (H : Hp) (s : Shared) (Q : VK) (E : XK) (r : Result) (s' : Shared) : Prop :=
  match r with
  | .ok (.ret u) => CE outer P w H s Q u s'
  | .ok _ => False
  | .error e => CX outer H s E e s'
structure FnOk (P : Program) (w : World) (K : PySem.W.Frag) (mg : Str → Option Value) (base : Heap) (CX : CXT) (k : Nat) (f : Addr) (fd : FuncData) (ps : List Str) (sp : Sp) : Prop where
  len : ∀ vs H Q E, sp vs H Q E → vs.length = ps.length
  run : ∀ (A : Around) (outer : List Env) (s : Shared) (H : Hp) (args : Args) (us : List Value) (vs : List V) (Q : VK) (E : XK), Room k A → Env0 P w K mg base A outer s H → BindsTo s fd args (ps.zip us) → Vals vs us → sp vs H Q E →
    codeAny (model P w) A (.call (.ref f) args) (CR CX outer P w H s Q E) s


section
variable {X : Cx} {pins : List (Addr × Obj)} {σ : St} {H : Hp} {s s' : Shared}
/-- from a body: what a callee wants -/
theorem Inv.env0 (I : Inv X pins σ H s) : Env0 X.prog X.w X.K X.mg X.base X.A X.stack s H :=
  ⟨I.ok.frames, I.ok.mod, I.bs, Nat.le_trans I.ok.bsz I.sz, I.stack, I.stkFree, I.hok, I.bare⟩
/-- behind a call -/
theorem Inv.after {Q : VK} {u : Value} (I : Inv X pins σ H s) (h : CE X.stack X.prog X.w H s Q u s') : EP X pins σ Q u s' := by
  obtain ⟨v, H', os, bare, un, hok, r, q⟩ := h
  obtain ⟨hh, g, d, t, os'⟩ := s'
  obtain rfl : os' = s.os := os
  exact ⟨v, H', I.call (h' := hh) (g' := g) (d' := d) (t' := t) (ch := []) un hok bare (fun b z => absurd z (by simp)), r, q⟩
end

/-! ### calls -/
/-- f(..): the written arguments, then the defaults dvs; E: what is wanted of an exception -/
def tCall (sp : Sp) (dvs : List V) (E : XK) (t : TA) : TE := fun σ H Q => t σ H fun vs H1 => sp (vs ++ dvs) H1 Q E

/-- how the parameters are bound: us the positional arguments, kw the keywords' values by name, ds the defaults that fill up -/
def Binds (K : PySem.W.Frag) (fd : FuncData) (ps : List Str) (ds : List Value) : Prop :=
  ∀ (s : Shared) (us : List Value), K.In s.heap → (us ++ ds).length = ps.length → BindsTo s fd ⟨us, []⟩ (ps.zip (us ++ ds))
/-- every parameter is given -/
theorem Binds.all {K : PySem.W.Frag} {fd : FuncData} {ps : List Str} (h : ∀ us : List Value, us.length = ps.length → bindArgs fd ⟨us, []⟩ = pure (ps.zip us)) : Binds K fd ps [] := fun s us _ hl => by
  rw [List.append_nil] at hl ⊢
  exact .of_eq (h us hl)

/-- an exception of a callee reaches what this body wants of exceptions -/
def Passes (CX : CXT) (X : Cx) (E : XK) : Prop := ∀ (pins : List (Addr × Obj)) (σ : St) (H : Hp) (s : Shared) (e : Value) (s' : Shared), Inv X pins σ H s → CX X.stack H s E e s' → X.xe e s'

section
variable {X : Cx} {CX : CXT} {k : Nat} {f C : Addr} {fd : FuncData} {ps : List Str} {sp : Sp} {dvs : List V} {ds : List Value} {E : XK} {x m : Str} {p pos apos : Pos} {e o : Expr} {es : List Expr} {ta : TE} {t : TA}

/-- the callee runs -/
theorem run_fn {pins : List (Addr × Obj)} {σ : St} {H : Hp} {s : Shared} {Q : VK} {us : List Value} {vs : List V} (F : FnOk X.prog X.w X.K X.mg X.base CX k f fd ps sp) (hr : Room k X.A) (hb : Binds X.K fd ps ds) (hd : Vals dvs ds) (hx : Passes CX X E)
    (I : Inv X pins σ H s) (r : Vals vs us) (h : sp (vs ++ dvs) H Q E) : wpAny (model X.prog X.w) X.A (call (.ref f) us) (EP X pins σ Q) X.xe s := by
  have r2 : Vals (vs ++ dvs) (us ++ ds) := r.append hd
  have hl : (us ++ ds).length = ps.length := by rw [← r2.length]; exact F.len _ _ _ _ h
  refine wpAny_call (codeAny_mono (F.run X.A X.stack s H ⟨us, []⟩ (us ++ ds) (vs ++ dvs) Q E hr I.env0 (hb s us I.kIn hl) r2 h) fun r s' hq => ?_)
  cases r with
  | error e => exact hx pins σ H s e s' I hq
  | ok fl =>
    cases fl with
    | ret u => exact I.after hq
    | next => exact False.elim hq
    | brk => exact False.elim hq
    | cont => exact False.elim hq

theorem pe_call (F : FnOk X.prog X.w X.K X.mg X.base CX k f fd ps sp) (hr : Room k X.A) (hg : Gl X x) (hm : X.mg x = some (.ref f)) (hk : PySem.W.keepIn X.K (.ref f) = true) (hb : Binds X.K fd ps ds) (hd : Vals dvs ds) (hx : Passes CX X E)
    (ha : PA X (e :: es) t) (hdb : (x == ("__debug__" : Str)) = false := by decide) (he : starEach (e :: es) X.env = (false, eval e X.env) :: starEach es X.env := by rfl) (hpl : (backTo pos (starEach es X.env)).any (·.1) = false := by rfl) :
    PE X (.Call (.Name x p) (e :: es) [] pos) (tCall sp dvs E t) := by
  intro pins s σ H Q I h
  refine wpAny_Call_Name_kw (ld_glob I hg hm ?_ hdb)
  refine PySem.W.callWith_K (h₀ := X.base) I.ok.mod.kin hk (thn (ha pos pins s σ H _ I h) fun us s1 ⟨vs, H1, I1, r, q⟩ => ⟨I1.kIn, ?_⟩) he hpl
  exact run_fn F hr hb hd hx I1 r q


/-- what a class must have to be made -/
structure Mk (K : PySem.W.Frag) (C f : Addr) : Prop where
  makes : PySem.W.makesIn K C = true
  init : PySem.W.findIn K (.ref C) "__init__" = some (some (.ref f))
  fn : PySem.W.isFn K (.ref f) = true
  kp : PySem.W.keepIn K (.ref C) = true

end

/-! ### keywords -/
section
variable {X : Cx} {CX : CXT} {k : Nat} {f C : Addr} {fd : FuncData} {ps ks : List Str} {sp : Sp} {E : XK} {x m : Str} {p pos apos kpos : Pos} {e o : Expr} {es : List Expr} {kws : List Keyword} {te ta : TE} {t tk : TA} {nm : Option Str}

/-- how a call with keywords binds: g puts the positional values us and the keywords' values ws (names ks) in the parameters' order, defaults among them -/
structure KBinds (K : PySem.W.Frag) (fd : FuncData) (ps ks : List Str) (g : List Value → List Value → List Value) (gV : List V → List V → List V) : Prop where
  to : ∀ (s : Shared) (us ws : List Value), K.In s.heap → (g us ws).length = ps.length → BindsTo s fd ⟨us, ks.zip ws⟩ (ps.zip (g us ws))
  rel : ∀ {vs : List V} {us : List Value} {zs : List V} {ws : List Value}, Vals vs us → Vals zs ws → Vals (gV vs zs) (g us ws)
variable {g : List Value → List Value → List Value} {gV : List V → List V → List V}
end

/-! ### a def's body keeps its promise -/
/-- names: the parameters first -/
structure FnScope (N P : List Str) (sc : Scope) : Prop where
  kind : sc.kind = .function
  co : sc.isCoroutine = false
  gen : sc.isGenerator = false
  nd : N.Nodup
  pre : N.take P.length = P
  par : ∀ x ∈ P, sc.names.lookup x = some .local ∨ sc.names.lookup x = some .cell
  nofree : ∀ y ∈ sc.names, y.2 ≠ .free

theorem bindL_out {kindOf : Str → Option NameKind} {x : Str} : ∀ {binds : List (Str × Value)} {m : Str → Option Value}, (∀ v, (x, v) ∉ binds) → bindL kindOf binds m x = m x
  | [], _, _ => rfl
  | (n, v) :: r, m, h => by
    unfold bindL
    rw [bindL_out fun w hw => h w (List.mem_cons_of_mem _ hw)]
    split
    · have : x ≠ n := by rintro rfl; exact h v List.mem_cons_self
      simp [this]
    · rfl
theorem bindC_out {kindOf : Str → Option NameKind} {x : Str} : ∀ {binds : List (Str × Value)} {m : Str → Option Value}, (∀ v, (x, v) ∉ binds) → bindC kindOf binds m x = m x
  | [], _, _ => rfl
  | (n, v) :: r, m, h => by
    unfold bindC
    rw [bindC_out fun w hw => h w (List.mem_cons_of_mem _ hw)]
    split
    · rfl
    · have : x ≠ n := by rintro rfl; exact h v List.mem_cons_self
      simp [this]
theorem bindL_get {kindOf : Str → Option NameKind} {x : Str} {v : Value} : ∀ {P : List Str} {vs : List Value} {i : Nat} {m : Str → Option Value}, P.Nodup → P[i]? = some x → vs[i]? = some v → kindOf x = some .local →
    bindL kindOf (P.zip vs) m x = some v
  | [], _, _, _, _, h, _, _ => by simp at h
  | _ :: _, [], _, _, _, _, h, _ => by simp at h
  | p :: P, w :: vs, 0, m, nd, h1, h2, hk => by
    simp at h1 h2; subst h1; subst h2
    show bindL kindOf ((p, w) :: P.zip vs) m p = _
    unfold bindL
    rw [bindL_out fun v hv => (List.nodup_cons.mp nd).1 (List.of_mem_zip hv).1, if_pos hk]
    simp
  | p :: P, w :: vs, i + 1, m, nd, h1, h2, hk => by
    show bindL kindOf ((p, w) :: P.zip vs) m x = _
    unfold bindL
    exact bindL_get (i := i) (List.nodup_cons.mp nd).2 (by simpa using h1) (by simpa using h2) hk
theorem bindC_get {kindOf : Str → Option NameKind} {x : Str} {v : Value} : ∀ {P : List Str} {vs : List Value} {i : Nat} {m : Str → Option Value}, P.Nodup → P[i]? = some x → vs[i]? = some v → kindOf x ≠ some .local →
    bindC kindOf (P.zip vs) m x = some v
  | [], _, _, _, _, h, _, _ => by simp at h
  | _ :: _, [], _, _, _, _, h, _ => by simp at h
  | p :: P, w :: vs, 0, m, nd, h1, h2, hk => by
    simp at h1 h2; subst h1; subst h2
    show bindC kindOf ((p, w) :: P.zip vs) m p = _
    unfold bindC
    rw [bindC_out fun v hv => (List.nodup_cons.mp nd).1 (List.of_mem_zip hv).1, if_neg hk]
    simp
  | p :: P, w :: vs, i + 1, m, nd, h1, h2, hk => by
    show bindC kindOf ((p, w) :: P.zip vs) m x = _
    unfold bindC
    exact bindC_get (i := i) (List.nodup_cons.mp nd).2 (by simpa using h1) (by simpa using h2) hk

/-- the names' values at the entry -/
def start (N : List Str) (vs : List V) : St := vs.map some ++ List.replicate (N.length - vs.length) none

/-- the context of a def's body, at its entry; an exception leaves the frame, then lies as CX says -/
def cxOf (CX : CXT) (P : Program) (w : World) (K : PySem.W.Frag) (mg : Str → Option Value) (base : Heap) (N : List Str) (qual : Str) (scope : Scope) (f : Addr) (cd : Value) (A : Around) (outer : List Env) (s : Shared) (H : Hp) (E : XK) : Cx where
  prog := P
  w := w
  K := K
  mg := mg
  base := base
  A := A.deeper (envOfC qual scope s.heap.objs.size f cd)
  N := N
  s₀ := s
  H₀ := H
  env := envOfC qual scope s.heap.objs.size f cd
  outer := outer
  stack := envOfC qual scope s.heap.objs.size f cd :: outer
  ex := []
  calm := true
  fn := fun _ => true
  pn := []
  xe := fun e s' => wpAny (model P w) (A.deeper (envOfC qual scope s.heap.objs.size f cd)) (leaving (envOfC qual scope s.heap.objs.size f cd) e) (fun _ s'' => CX outer H s E e s'') (fun e' s'' => CX outer H s E e' s'') s'

theorem cell_has {sc : Scope} {n : Nat} {x : Str} (h : sc.names.lookup x = some .cell) : ∃ c, (cellsFrom n sc.names []).lookup x = some c := by
  have q := PySem.W.cellsFrom_some sc.names n [] (.inl h)
  exact Option.isSome_iff_exists.mp q

theorem inv_start {CX : CXT} {P : Program} {w : World} {K : PySem.W.Frag} {mg : Str → Option Value} {base : Heap} {N ps : List Str} {qual : Str} {scope : Scope} {f : Addr} {cd : Value} {A : Around} {outer : List Env} {s s1 : Shared} {H : Hp} {E : XK} {us : List Value} {vs : List V}
    (S : FnScope N ps scope) (hd : A.handled = none) (e0 : Env0 P w K mg base A outer s H) (hl : vs.length = ps.length) (r : Vals vs us)
    (x : InCallC s s.heap.objs.size (bindL (envOfC qual scope s.heap.objs.size f cd).kindOf (ps.zip us) fun _ => none) (cellsFrom (s.heap.objs.size + 1) scope.names []) (bindC (envOfC qual scope s.heap.objs.size f cd).kindOf (ps.zip us) fun _ => none) s1) :
    Inv (cxOf CX P w K mg base N qual scope f cd A outer s H E) [] (start N vs) H s1 := by
  have hpl : ps.length ≤ N.length := by have := congrArg List.length S.pre; rw [List.length_take] at this; omega
  obtain ⟨h1, tk, rfl, hk⟩ := x.done
  have noA : ∀ b : Addr, b ∉ (cxOf CX P w K mg base N qual scope f cd A outer s H E).ex := fun b z => absurd (show b ∈ ([] : List Addr) from z) (by simp)
  refine ⟨⟨e0.mod, S.kind, rfl, rfl, Nat.le_refl _, fun y z c h1 h2 => ?_, fun y hy => ?_, fun y c _ h => ?_, fun _ => hd, Around.frames_deeper e0.frames, .inr ⟨rfl, rfl⟩, fun b z => absurd z (noA b), e0.bs, e0.bsz, fun b _ _ => noA b, fun b z => absurd z (noA b), e0.funs, e0.frf⟩,
    rfl, e0.bare, Un.kept hk, ⟨_, x.toInCall.ns, fun i y v h1 h2 h3 => ?_⟩, fun y c h => ⟨_, x.cell y c h⟩, e0.hok.fresh (Nat.le_refl _), fun y c h => ?_, fun p hp => absurd (show p ∈ ([] : List (Addr × Obj)) from hp) (by simp), e0.hok.kept hk, ?_⟩
  · exact name_of_addr x.apart (PySem.mem_of_lookup h1) (PySem.mem_of_lookup h2)
  · have hy : scope.names.lookup y = some .cell ∨ scope.names.lookup y = some .free := hy
    rcases hy with hy | hy
    · exact cell_has hy
    · exact absurd rfl (S.nofree _ (PySem.mem_of_lookup hy))
  · exact Nat.le_of_lt (x.above y c (PySem.mem_of_lookup h))
  · have hi : i < vs.length := by
      unfold start at h2
      by_cases hi : i < vs.length
      · exact hi
      · rw [List.getElem?_append_right (by simpa using hi)] at h2
        rw [List.getElem?_replicate] at h2
        split at h2 <;> cases h2
    have ha : vs[i]? = some v := by
      unfold start at h2
      rw [List.getElem?_append_left (by simpa using hi), List.getElem?_map] at h2
      cases e : vs[i]? with
      | none => rw [e] at h2; cases h2
      | some a => rw [e] at h2; cases h2; rfl
    obtain ⟨u, hu, rv⟩ := r.get ha
    have hp : ps[i]? = some y := by
      rw [← S.pre, List.getElem?_take_of_lt (by omega)]; exact h1
    have ndP : ps.Nodup := by rw [← S.pre]; exact S.nd.sublist (List.take_sublist _ _)
    refine ⟨u, rv, ?_⟩
    rcases S.par y (List.mem_of_getElem? hp) with k | k
    · exact .inl ⟨k, bindL_get ndP hp hu k⟩
    · obtain ⟨c, e⟩ := cell_has (n := s.heap.objs.size + 1) k
      refine .inr ⟨.inl k, c, e, ?_⟩
      have q := x.cell y c e
      rw [bindC_get ndP hp hu (by show scope.names.lookup y ≠ _; rw [k]; decide)] at q
      exact q
  · exact e0.hok.fresh (Nat.le_of_lt (x.above y c (PySem.mem_of_lookup h)))
  · unfold start
    show _ = N.length
    rw [List.length_append, List.length_map, List.length_replicate]
    omega

/-- THE RULE: a def (or a method) of the text, by its body. The body's reading t is chosen for each entry; it is run at the parameters' values -/
theorem fn_of {CX : CXT} {P : Program} {w : World} {K : PySem.W.Frag} {mg : Str → Option Value} {base : Heap} {k : Nat} {f : Addr} {name qual : Str} {params : Arguments} {body : List Stmt} {scope : Scope} {dV kV doc pm cdv ct oc : Value} {an od : Option Addr}
    {osl : Array (Option Value)} {N ps : List Str} {sp : Sp} (lk : K.lookup f = some ⟨oc, od, .func (PySem.W.fnOf name qual params body scope dV kV doc pm an cdv ct), osl⟩) (hcd : PySem.W.codeIn K cdv qual = true) (S : FnScope N ps scope)
    (len : ∀ vs H Q E, sp vs H Q E → vs.length = ps.length)
    (hbody : ∀ (A : Around) (outer : List Env) (s : Shared) (H : Hp) (vs : List V) (Q : VK) (E : XK), Room k (A.deeper (envOfC qual scope s.heap.objs.size f cdv)) → sp vs H Q E →
      ∃ t, PSs (cxOf CX P w K mg base N qual scope f cdv A outer s H E) body t ∧ t { nx := fun _ H' => Q .non H', rt := Q } (start N vs) H) :
    FnOk P w K mg base CX (k + 1) f (PySem.W.fnOf name qual params body scope dV kV doc pm an cdv ct) ps sp := by
  refine ⟨len, fun A outer s H args us vs Q E hr e0 hb r hsp => ?_⟩
  have hl := len _ _ _ _ hsp
  have KX : K.In s.heap := e0.mod.kin.keeps fun b o e => (e0.bs b o e).1
  have lim : s.heap.NoLimit := e0.mod.nolimit.keeps fun b o e => (e0.bs b o e).1
  have hkind : ∀ y ∈ ps.zip us, scope.names.lookup y.1 = some .local ∨ (scope.names.lookup y.1 = some .cell ∧ ((cellsFrom (s.heap.objs.size + 1) scope.names []).lookup y.1).isSome = true) := fun ⟨n, v⟩ hy => by
    rcases S.par n (List.of_mem_zip hy).1 with q | q
    · exact .inl q
    · exact .inr ⟨q, PySem.W.cellsFrom_some _ _ _ (.inl q)⟩
  refine codeAny_call_function hr.depth (KX _ _ lk) rfl S.co S.gen rfl (PySem.W.codeRec_of KX hcd) (hb _ _ _ _ ?_)
  refine wpAny_newFunctionEnv_cells S.kind hkind fun env he s1 x => ?_
  subst he
  refine ⟨lim.keeps x.toInCall.keep, codeAny_func ?_⟩
  obtain ⟨t, ht, hq⟩ := hbody A outer s H vs Q E (hr.deeper _) hsp
  have I : Inv (cxOf CX P w K mg base N qual scope f cdv A outer s H E) [] (start N vs) H s1 := inv_start S hr.hd e0 hl r x
  refine wpAny_mono (ht [] s1 (start N vs) H _ I hq) (fun fl s' hs => ?_) fun e s' hs => hs
  have fin : ∀ {σ' : St} {H' : Hp} {v : V} {u : Value}, Inv (cxOf CX P w K mg base N qual scope f cdv A outer s H E) [] σ' H' s' → RelV v u → Q v H' → CE outer P w H s Q u s' :=
    fun {σ' H' v u} J rv q => ⟨v, H', J.os, J.bare, J.base, J.hok, rv, q⟩
  cases fl with
  | ret u =>
    obtain ⟨v, σ', H', J, rv, q⟩ := hs
    exact fin J rv q
  | next =>
    obtain ⟨σ', H', J, q⟩ := hs
    exact fin (v := V.non) (u := Value.none) J rfl q
  | brk =>
    obtain ⟨_, _, _, q⟩ := hs
    exact False.elim q
  | cont =>
    obtain ⟨_, _, _, q⟩ := hs
    exact False.elim q
end L2

namespace L2
open PySem PySem.Spec PyProof.Rows
section
variable {X : Cx} {x : Str} {p pos : Pos} {e : Expr} {es : List Expr} {t : TA} {id T : String} {r : List V → Hp → VK → Prop}

def tCB (r : List V → Hp → VK → Prop) (t : TA) : TE := fun σ H Q => t σ H fun vs H1 => r vs H1 Q
/-- f(e, ..), f a built-in function -/
theorem pe_callB (hc : CallR X (.builtin id) r) (hg : Gl X x) (hm : X.mg x = none) (hv : bootBuiltins x = some (.builtin id)) (ha : PA X (e :: es) t) (hn : x ≠ "__name__" := by decide) (hdb : (x == ("__debug__" : Str)) = false := by decide)
    (he : starEach (e :: es) X.env = (false, eval e X.env) :: starEach es X.env := by rfl) (hpl : (backTo pos (starEach es X.env)).any (·.1) = false := by rfl) : PE X (.Call (.Name x p) (e :: es) [] pos) (tCB r t) := by
  intro pins s σ H Q I h
  refine wpAny_Call_Name_kw (ld_blt I hg hm hv ?_ hn hdb)
  exact PyProof.Rows.callWith_builtin1 (thn (ha pos pins s σ H _ I h) fun us s1 ⟨vs, H1, I1, r1, q1⟩ => hc pins s1 σ H1 vs us Q I1 r1 q1) he hpl
/-- T(e, ..), T a built-in type -/
theorem pe_callTy (hc : CallR X (.type T) r) (hg : Gl X x) (hm : X.mg x = none) (hv : bootBuiltins x = some (.type T)) (ha : PA X (e :: es) t) (hn : x ≠ "__name__" := by decide) (hdb : (x == ("__debug__" : Str)) = false := by decide)
    (he : starEach (e :: es) X.env = (false, eval e X.env) :: starEach es X.env := by rfl) (hpl : (backTo pos (starEach es X.env)).any (·.1) = false := by rfl) : PE X (.Call (.Name x p) (e :: es) [] pos) (tCB r t) := by
  intro pins s σ H Q I h
  refine wpAny_Call_Name_kw (ld_blt I hg hm hv ?_ hn hdb)
  exact PyProof.Rows.callWith_type1 (thn (ha pos pins s σ H _ I h) fun us s1 ⟨vs, H1, I1, r1, q1⟩ => hc pins s1 σ H1 vs us Q I1 r1 q1) he hpl
end
end L2

namespace HT
open PySem PyProof.Rows



section
open PySem.SeqAt
open PySem.AutoSeq1 (wpAny_loadPart')
open PySem.MeetsSeq PySem.MeetsSeq2 PySem.MeetsSeq3

end

section
variable {prog : Program} {w : World} {A : Around} {E : Value → Shared → Prop} {s : Shared}


/-- t + u, t not empty -/
theorem cat_tup {t b : Addr} {vs ws : List Value} {Q : Value → Shared → Prop} (ht : IsTup s.heap t vs.toArray) (hb : IsTup s.heap b ws.toArray) (hv : vs ≠ [])
    (h1 : ws = [] → Q (.ref t) s) (h2 : ws ≠ [] → Q (.ref s.heap.objs.size) { s with heap := s.heap.push { cls := .type "tuple", data := .seq (vs ++ ws).toArray } })
    (hsz : vs.length + ws.length ≤ sizeLine) : wpAny (model prog w) A (binaryOp .Add (.ref t) (.ref b)) Q E s := by
  obtain ⟨⟨cls, dd, data, sl⟩, ho, hc, n, hd⟩ := id ht
  obtain ⟨⟨cls2, dd2, data2, sl2⟩, ho2, hc2, n2, hd2⟩ := id hb
  simp only at hc hd hc2 hd2
  subst hc hd hc2 hd2
  have e : vs.toArray ++ ws.toArray = (vs ++ ws).toArray := by simp
  by_cases hw : ws = []
  · exact concat_meets ⟨_, ho, rfl⟩ ⟨_, ho2, rfl⟩ noFill_tuple_add seq_tuple_add PySem.F.slot_tuple_add PySem.F.entry_tuple_add (PySem.F.args_tuple_add_2 _ _)
      (tuple_addW1 t b vs.toArray ws.toArray n n2 dd dd2 sl sl2 (by simpa using hv) (by simp [hw])) ⟨ho, ho2, h1 hw⟩
  · refine concat_meets ⟨_, ho, rfl⟩ ⟨_, ho2, rfl⟩ noFill_tuple_add seq_tuple_add PySem.F.slot_tuple_add PySem.F.entry_tuple_add (PySem.F.args_tuple_add_2 _ _)
      (tuple_addW2 t b vs.toArray ws.toArray n n2 dd dd2 sl sl2 (by simpa using hv) (by simpa using hw) (by rw [List.size_toArray, List.size_toArray]; exact hsz)) ⟨ho, ho2, ?_⟩
    rw [e]
    exact h2 hw

/-! ### t[a:b], not the whole -/
/-- a slice's bound as a place among n (d where it is left out) -/
def sIx (n d : Nat) : Option Int → Nat
  | none => d
  | some v => if v < 0 then (v + (n : Int)).toNat else min v.toNat n
theorem sIx_le (n d : Nat) (hd : d ≤ n) (o : Option Int) : sIx n d o ≤ n := by
  cases o with
  | none => exact hd
  | some v =>
    show (if v < 0 then (v + (n : Int)).toNat else min v.toNat n) ≤ n
    by_cases hv : v < 0
    · rw [if_pos hv]; omega
    · rw [if_neg hv]; exact Nat.min_le_right _ _
theorem clip_eq (v : Int) (n d : Nat) : (if v < 0 then max (v + (n : Int)) 0 else min v (n : Int)) = ((sIx n d (some v) : Nat) : Int) := by
  show (if v < 0 then max (v + (n : Int)) 0 else min v (n : Int)) = (((if v < 0 then (v + (n : Int)).toNat else min v.toNat n) : Nat) : Int)
  by_cases hv : v < 0
  · simp only [if_pos hv]; omega
  · simp only [if_neg hv]; omega
theorem adjust_gen (lo hi : Option Int) (n : Nat) : Builtin.Slice.sliceAdjust lo hi 1 (n : Int) = (((sIx n 0 lo : Nat) : Int), ((sIx n n hi : Nat) : Int)) := by
  have h1 : ¬ ((1 : Int) < 0) := by omega
  unfold Builtin.Slice.sliceAdjust
  simp only [h1, if_false]
  refine Prod.ext ?_ ?_
  · cases lo with
    | none => rfl
    | some v => exact clip_eq v n 0
  · cases hi with
    | none => rfl
    | some v => exact clip_eq v n n
theorem places_gen (i j : Nat) : Builtin.Slice.slicePlaces (i : Int) (j : Int) 1 = j - i := by
  unfold Builtin.Slice.slicePlaces
  have h1 : (1 : Int) > 0 := by omega
  simp only [h1, if_true, Int.ediv_one]
  split <;> omega
theorem slicePart_ {v : Value} {o : Option Int} {Q : Option Int → Shared → Prop} (p : IsPart v o) (h : Q o s) : wpAny (model prog w) A (Builtin.Slice.slicePartIndex v) Q E s := by
  cases p with
  | none => exact slicePart_none h
  | int i t => exact slicePart_int h
theorem sliceApplied_gen {sl : Addr} {vl vu : Value} {lo hi : Option Int} {n : Nat} {Q : Int × Int × Nat → Shared → Prop} (hs : s.heap.IsSliceOf sl vl vu .none) (pl : IsPart vl lo) (pu : IsPart vu hi)
    (h : Q (((sIx n 0 lo : Nat) : Int), 1, sIx n n hi - sIx n 0 lo) s) : wpAny (model prog w) A (Builtin.Slice.sliceApplied (.ref sl) (pure (n : Int))) Q E s := by
  obtain ⟨os, hos, hcs, hds⟩ := id hs
  unfold Builtin.Slice.sliceApplied Builtin.Slice.sliceFields
  refine wpAny_bind (wpAny_bind (wpAny_field hos hds (x := vl) rfl (wpAny_bind (wpAny_field hos hds (x := vu) rfl (wpAny_bind (wpAny_field hos hds (x := .none) rfl (wpAny_pure ?_)))))))
  refine wpAny_bind (slicePart_none ?_)
  show wpAny _ _ (if ((1 : Int) == 0) = true then _ else _) _ _ s
  rw [if_neg (by decide)]
  refine wpAny_bind (slicePart_ pl (wpAny_bind (slicePart_ pu (wpAny_bind (wpAny_pure ?_)))))
  show wpAny _ _ (match Builtin.Slice.sliceAdjust lo hi 1 (n : Int) with | (lo, hi) => pure (lo, (1 : Int), Builtin.Slice.slicePlaces lo hi 1)) _ _ s
  rw [adjust_gen lo hi n]
  show wpAny _ _ (pure (((sIx n 0 lo : Nat) : Int), (1 : Int), Builtin.Slice.slicePlaces ((sIx n 0 lo : Nat) : Int) ((sIx n n hi : Nat) : Int) 1)) _ _ s
  rw [places_gen]
  exact wpAny_pure h
theorem pick_gen (xs : Array Value) (i k : Nat) : ((List.range k).filterMap fun (m : Nat) => xs[((i : Int) + (m : Int) * 1).toNat]?).toArray = ((xs.toList.drop i).take k).toArray := by
  have e : (fun (m : Nat) => xs[((i : Int) + (m : Int) * 1).toNat]?) = fun m => xs[i + m]? := by
    funext m
    have : ((i : Int) + (m : Int) * 1).toNat = i + m := by omega
    rw [this]
  rw [e]
  have := pick_run xs i k
  rw [List.filterMap_map] at this
  have e2 : ((fun x => xs[x]?) ∘ fun x => i + x) = fun m => xs[i + m]? := rfl
  rw [e2] at this
  rw [this]

theorem getItem_tuple_cut {t sl : Addr} {items : Array Value} {vl vu : Value} {lo hi : Option Int} {Q : Value → Shared → Prop} (ht : IsTup s.heap t items) (hs : s.heap.IsSliceOf sl vl vu .none) (pl : IsPart vl lo) (pu : IsPart vu hi)
    (hw : ¬ (sIx items.size 0 lo = 0 ∧ sIx items.size items.size hi = items.size))
    (h : Q (.ref s.heap.objs.size) { s with heap := s.heap.push { cls := .type "tuple", data := .seq ((items.toList.drop (sIx items.size 0 lo)).take (sIx items.size items.size hi - sIx items.size 0 lo)).toArray } })
    (hsz : items.size ≤ sizeLine) : wpAny (model prog w) A (getItem (.ref t) (.ref sl)) Q E s := by
  have htake : sizeOk (.seq ((items.toList.drop (sIx items.size 0 lo)).take (sIx items.size items.size hi - sIx items.size 0 lo)).toArray) := by
    show ((items.toList.drop (sIx items.size 0 lo)).take (sIx items.size items.size hi - sIx items.size 0 lo)).toArray.size ≤ sizeLine
    rw [List.size_toArray, List.length_take, List.length_drop, Array.length_toList]
    omega
  have hj : sIx items.size items.size hi ≤ items.size := sIx_le _ _ (Nat.le_refl _) hi
  obtain ⟨os, hos, hcs, hds⟩ := id hs
  have hTs : s.TypeIs (.ref sl) "slice" := ⟨os, hos, hcs⟩
  unfold getItem
  try with_reducible refine wpAny_holding ?_
  first | refine wpAny_bind (wpAny_pure ?_) | skip
  refine wpAny_bind (wpAny_sequenceKey ht.typeIs (by decide) ?_)
  refine wpAny_bind (wpAny_callSpecial?_slot (name := Str.ofString "__getitem__") ht.typeIs PyProof.Rows.slot_tuple_getitem
    (wpAny_call_entry PyProof.Rows.slot_tuple_getitem ht.typeIs entry_tuple_getitem ?_ (args_tuple_getitem _ _)))
  show wpAny _ _ (Builtin.Tuple.tupleItemsOf (.ref t) >>= _) _ _ s
  refine wpAny_bind (tupleItemsOf_ ht ?_)
  refine wpAny_bind (wpAny_typeOf hTs ?_)
  rw [if_pos (by decide)]
  refine wpAny_bind (sliceApplied_gen hs pl pu ?_)
  have hno : ¬ ((((sIx items.size 0 lo : Nat) : Int) == 0 && (1 : Int) == 1 && (sIx items.size items.size hi - sIx items.size 0 lo) == items.size) = true) := by
    intro q
    rw [Bool.and_eq_true, Bool.and_eq_true] at q
    have q1 : ((sIx items.size 0 lo : Nat) : Int) = 0 := eq_of_beq q.1.1
    have q2 : sIx items.size items.size hi - sIx items.size 0 lo = items.size := eq_of_beq q.2
    exact hw ⟨by omega, by omega⟩
  show wpAny _ _ (if (((sIx items.size 0 lo : Nat) : Int) == 0 && (1 : Int) == 1 && (sIx items.size items.size hi - sIx items.size 0 lo) == items.size) = true then _ else _) _ _ s
  rw [if_neg hno, pick_gen]
  first
    | exact wpAny_bind (m := Builtin.Tuple.tupleExact _) (wpAny_newObj_type (wpAny_pure ⟨_, rfl, wpAny_pure h⟩) htake)
    | exact wpAny_bind (m := Builtin.Tuple.tupleExact _) (wpAny_newObj_type (wpAny_bind (wpAny_pure (wpAny_pure ⟨_, rfl, wpAny_pure h⟩))) htake)
    | exact wpAny_bind (wpAny_bind (m := Builtin.Tuple.tupleExact _) (wpAny_newObj_type (wpAny_pure (wpAny_pure ⟨_, rfl, wpAny_pure h⟩)) htake))
    | exact wpAny_bind (wpAny_bind (m := Builtin.Tuple.tupleExact _) (wpAny_newObj_type (wpAny_pure ⟨_, rfl, wpAny_pure h⟩) htake))
end
end HT

namespace L2
open PySem PySem.Spec PyProof.Rows

/-! ### the parts of a slice -/
abbrev TO := St → Hp → (Option Int → Hp → Prop) → Prop
/-- a slice's part (left out, or an int) -/
def PO (X : Cx) (e : Option Expr) (t : TO) : Prop :=
  ∀ (pins : List (Addr × Obj)) (s : Shared) (σ : St) (H : Hp) (Q : Option Int → Hp → Prop), Inv X pins σ H s → t σ H Q →
    wpAny (model X.prog X.w) X.A (evalPart e X.env) (fun u s' => ∃ o H', Inv X pins σ H' s' ∧ IsPart u o ∧ Q o H') X.xe s
def tNoPart : TO := fun _ H Q => Q none H
def tPart (t : TE) : TO := fun σ H Q => t σ H fun x H1 => ∃ i, x = .int i ∧ Q (some i) H1


section
variable {X : Cx} {e : Expr} {te : TE} {lo hi : Option Expr} {tl th : TO} {pos p2 : Pos}

theorem po_none : PO X none tNoPart := by
  intro pins s σ H Q I h
  rw [evalPart_none]
  exact wpAny_pure ⟨none, H, I, .none, h⟩
theorem po_some (h : PE X e te) : PO X (some e) (tPart te) := by
  intro pins s σ H Q I hw
  rw [evalPart_some]
  refine thn (h pins s σ H _ I hw) fun u s1 ⟨x, H1, I1, r1, q1⟩ => ?_
  obtain ⟨i, rfl, q⟩ := q1
  obtain ⟨t, rfl⟩ := r1
  exact ⟨some i, H1, I1, .int i t, q⟩

/-- what a slice of a value is, by values: the slice object stands at sl -/
def SlR (X : Cx) (r : V → Option Int → Option Int → Hp → VK → Prop) : Prop :=
  ∀ (pins : List (Addr × Obj)) (s : Shared) (σ : St) (H : Hp) (x : V) (v vl vu : Value) (lo hi : Option Int) (sl : Addr) (Q : VK), Inv X pins σ H s → RelV x v → s.heap.IsSliceOf sl vl vu .none → IsPart vl lo → IsPart vu hi → r x lo hi H Q →
    ∃ T id, typeLookup (.type T) "__getitem__" = pure (some (.builtin id)) ∧ s.TypeIs v T ∧ wpAny (model X.prog X.w) X.A (getItem v (.ref sl)) (EP X pins σ Q) X.xe s
def tSl (r : V → Option Int → Option Int → Hp → VK → Prop) (te : TE) (tl th : TO) : TE := fun σ H Q => te σ H fun x H1 => tl σ H1 fun l H2 => th σ H2 fun u H3 => r x l u H3 Q
/-- a[lo:hi], any a -/
theorem pe_slice {r : V → Option Int → Option Int → Hp → VK → Prop} (hr : SlR X r) (he : PE X e te) (hl : PO X lo tl) (hu : PO X hi th) : PE X (.Subscript e (.Slice lo hi none p2) pos) (tSl r te tl th) := by
  intro pins s σ H Q I h
  refine Subscript_ (thn (he pins s σ H _ I h) fun v s1 ⟨x, H1, I1, r1, q1⟩ => ?_)
  refine wpAny_Slice (thn (hl pins s1 σ H1 _ I1 q1) fun vl s2 ⟨l, H2, I2, pl, q2⟩ => thn (hu pins s2 σ H2 _ I2 q2) fun vu s3 ⟨u, H3, I3, pu, q3⟩ => ?_)
  rw [evalPart_none]
  refine wpAny_pure ?_
  have I4 : Inv X pins σ H3 { s3 with heap := s3.heap.push { cls := .type "slice", data := .fields #[vl, vu, .none] } } := I3.kept (t' := s3.toks) fun b ob q => Heap.get?_push_of_some _ q
  obtain ⟨T, id, hT, ht, hg⟩ := hr pins { s3 with heap := s3.heap.push { cls := .type "slice", data := .fields #[vl, vu, .none] } } σ H3 x v vl vu l u s3.heap.objs.size Q I4 r1 (Heap.IsSliceOf.new ..) pl pu q3
  show wpAny (model X.prog X.w) X.A (subscriptTail e (.Slice lo hi none p2) v (.ref s3.heap.objs.size)) (EP X pins σ Q) X.xe { s3 with heap := s3.heap.push { cls := .type "slice", data := .fields #[vl, vu, .none] } }
  exact tail_any (ops := [.ref s3.heap.objs.size, v]) ht hT hg (by with_unfolding_all rfl)

/-- the items of xs[lo:hi] -/
def cutV (xs : List V) (lo hi : Option Int) : List V := (xs.drop (HT.sIx xs.length 0 lo)).take (HT.sIx xs.length xs.length hi - HT.sIx xs.length 0 lo)
theorem cutV_length (xs : List V) (lo hi : Option Int) : (cutV xs lo hi).length ≤ xs.length := by
  unfold cutV
  rw [List.length_take, List.length_drop]
  omega
/-- t[lo:hi], not the whole of it (the whole would be t itself) -/
def rSlT (K : PySem.W.Frag) : V → Option Int → Option Int → Hp → VK → Prop := fun x lo hi H Q => ∃ a xs, x = .ref a ∧ SqT K H a xs ∧
  ¬ (HT.sIx xs.length 0 lo = 0 ∧ HT.sIx xs.length xs.length hi = xs.length) ∧ ∀ p, H p = none → Q (.ref p) (upd H p (.tup (cutV xs lo hi)))
theorem sl_tup : SlR X (rSlT X.K) := by
  intro pins s σ H x v vl vu lo hi sl Q I rx hs pl pu h
  obtain ⟨a, xs, rfl, hx, hw, q⟩ := h
  cases rx
  obtain ⟨its, r, ht, hz⟩ := I.tuple hx
  have hlen : its.toArray.size = xs.length := by rw [List.size_toArray]; exact r.length.symm
  refine ⟨"tuple", _, PyProof.Rows.slot_tuple_getitem.lookup, ht.typeIs, ?_⟩
  refine HT.getItem_tuple_cut ht hs pl pu (by rw [hlen]; exact hw) ?_ (by rw [hlen]; exact hz)
  rw [hlen]
  refine ⟨.ref s.heap.objs.size, _, I.laid (t' := s.toks) (o := .tup (cutV xs lo hi)) (fun b ob q => Heap.get?_push_of_some _ q) (Nat.le_refl _) ?_, rfl, q _ (I.hok.fresh (Nat.le_refl _))⟩
  exact ⟨Nat.le_trans (cutV_length xs lo hi) hz, _, (r.drop (HT.sIx xs.length 0 lo)).take (HT.sIx xs.length xs.length hi - HT.sIx xs.length 0 lo), IsTup.new _ _, NoDict.new rfl (Heap.get?_push_size _ rfl)⟩

/-! ### t < u, t + u -/
/-- t + u, t not empty: u empty gives t itself -/
def rCatT (K : PySem.W.Frag) : R2 := fun x y H Q => ∃ a b xs ys, x = .ref a ∧ y = .ref b ∧ SqT K H a xs ∧ SqT K H b ys ∧ xs ≠ [] ∧ xs.length + ys.length ≤ sizeLine ∧
  (ys = [] → Q (.ref a) H) ∧ (ys ≠ [] → ∀ p, H p = none → Q (.ref p) (upd H p (.tup (xs ++ ys))))
theorem Vals.nil_iff {xs : List V} {us : List Value} (r : Vals xs us) : us = [] ↔ xs = [] := by
  cases r with
  | nil => simp
  | cons _ _ => simp
theorem op_catT : OpR X (binaryOp .Add) (rCatT X.K) := by
  intro pins s σ H x y v u Q I rx ry h
  obtain ⟨a, b, xs, ys, rfl, rfl, ha, hb, hx, hz, q1, q2⟩ := h
  cases rx
  cases ry
  obtain ⟨its, r1, p1, _⟩ := I.tuple ha
  obtain ⟨its2, r2, p2, _⟩ := I.tuple hb
  refine HT.cat_tup p1 p2 (fun z => hx (r1.nil_iff.mp z)) (fun z => ⟨.ref a, H, I, rfl, q1 (r2.nil_iff.mp z)⟩) (fun z => ?_) (by rw [← r1.length, ← r2.length]; exact hz)
  refine ⟨.ref s.heap.objs.size, _, I.laid (t' := s.toks) (o := .tup (xs ++ ys)) (fun b ob q => Heap.get?_push_of_some _ q) (Nat.le_refl _) ?_, rfl, q2 (fun w => z (r2.nil_iff.mpr w)) _ (I.hok.fresh (Nat.le_refl _))⟩
  exact ⟨by rw [List.length_append]; exact hz, _, r1.append r2, IsTup.new _ _, NoDict.new rfl (Heap.get?_push_size _ rfl)⟩
end
end L2

namespace L2
open PySem PySem.Spec PyProof.Rows

/-! ### places -/
/-- the place that an index of any sign means -/
def ixN (n : Nat) (i : Int) : Option Nat := if 0 ≤ i then (if i < n then some i.toNat else none) else if -(n : Int) ≤ i then some (i + n).toNat else none
def atI {α : Type} (xs : List α) (i : Int) : Option α := (ixN xs.length i).bind fun j => xs[j]?
theorem ixN_seq {n : Nat} {i : Int} {j : Nat} (h : ixN n i = some j) : seqIndex? i n = some j ∧ j < n ∧ -(n : Int) ≤ i ∧ i < n := by
  unfold ixN at h
  by_cases h0 : 0 ≤ i
  · rw [if_pos h0] at h
    by_cases h1 : i < n
    · rw [if_pos h1] at h
      have e : i.toNat = j := Option.some.inj h
      exact ⟨by rw [seqIndex_of h0 h1, e], by omega, by omega, h1⟩
    · rw [if_neg h1] at h; cases h
  · rw [if_neg h0] at h
    by_cases h1 : -(n : Int) ≤ i
    · rw [if_pos h1] at h
      have e : (i + n).toNat = j := Option.some.inj h
      exact ⟨by rw [seqIndex_neg (by omega) h1, e], by omega, h1, by omega⟩
    · rw [if_neg h1] at h; cases h
theorem atI_get {α : Type} {xs : List α} {i : Int} {v : α} (h : atI xs i = some v) : ∃ j, seqIndex? i xs.length = some j ∧ xs[j]? = some v ∧ j < xs.length ∧ -(xs.length : Int) ≤ i ∧ i < xs.length := by
  unfold atI at h
  cases e : ixN xs.length i with
  | none => rw [e] at h; cases h
  | some j =>
    rw [e] at h
    obtain ⟨h1, h2, h3, h4⟩ := ixN_seq e
    exact ⟨j, h1, h, h2, h3, h4⟩
theorem atI_nat {α : Type} {xs : List α} {j : Nat} {v : α} (h : xs[j]? = some v) : atI xs (j : Int) = some v := by
  have hj : j < xs.length := (List.getElem?_eq_some_iff.mp h).1
  have e : ixN xs.length (j : Int) = some j := by
    unfold ixN
    rw [if_pos (by omega), if_pos (by omega)]; simp
  unfold atI; rw [e]; exact h

/-! ### what may be subscripted -/
/-- what stands as an index of a plain subscript -/
def PlainIx (b : Expr) : Prop := ∀ o i, subscripted b false o i = operate [o, i] (getItem o i)
/-- a subscript by values -/
def IxR (X : Cx) (r : R2) : Prop :=
  ∀ (value slice : Expr) (pins : List (Addr × Obj)) (s : Shared) (σ : St) (H : Hp) (x y : V) (v u : Value) (Q : VK), Inv X pins σ H s → RelV x v → RelV y u → r x y H Q →
    subscripted slice false v u = operate [v, u] (getItem v u) → wpAny (model X.prog X.w) X.A (subscriptTail value slice v u) (EP X pins σ Q) X.xe s
/-- a call of a builtin's method by values: the receiver, the arguments -/
def MtR (X : Cx) (id : String) (r : V → List V → Hp → VK → Prop) : Prop :=
  ∀ (pins : List (Addr × Obj)) (s : Shared) (σ : St) (H : Hp) (x : V) (xs : List V) (v : Value) (us : List Value) (Q : VK), Inv X pins σ H s → RelV x v → Vals xs us → r x xs H Q →
    wpAny (model X.prog X.w) X.A (call (.builtin id) (v :: us)) (EP X pins σ Q) X.xe s
section
variable {X : Cx} {a b : Expr} {ta tb : TE} {pos : Pos}
theorem IxR.or {r r' : R2} (h : IxR X r) (h' : IxR X r') : IxR X (fun x y H Q => r x y H Q ∨ r' x y H Q) := by
  intro value slice pins s σ H x y v u Q I rx ry q hs
  rcases q with q | q
  · exact h value slice pins s σ H x y v u Q I rx ry q hs
  · exact h' value slice pins s σ H x y v u Q I rx ry q hs
/-- a[b] -/
theorem pe_ix {r : R2} (hr : IxR X r) (ha : PE X a ta) (hb : PE X b tb) (hs : PlainIx b) : PE X (.Subscript a b pos) (tOp r ta tb) := by
  intro pins s σ H Q I h
  exact Subscript_ (binT ha hb I h fun v u s2 x y H2 I2 rx ry q => hr a b pins s2 σ H2 x y v u Q I2 rx ry q (hs _ _))

def rIxL (K : PySem.W.Frag) : R2 := fun x y H Q => ∃ p xs i v, x = .ref p ∧ y = .int i ∧ SqL K H p xs ∧ atI xs i = some v ∧ Q v H
def rIxT (K : PySem.W.Frag) : R2 := fun x y H Q => ∃ p xs i v, x = .ref p ∧ y = .int i ∧ SqT K H p xs ∧ atI xs i = some v ∧ Q v H
def rIxS : R2 := fun x y H Q => ∃ z i c, x = .str z ∧ y = .int i ∧ z.length ≤ sizeLine ∧ atI z.cps.toList i = some c ∧ Q (.str ⟨#[c]⟩) H
theorem ix_list : IxR X (rIxL X.K) := by
  intro value slice pins s σ H x y v u Q I rx ry h hs
  obtain ⟨p, xs, i, z, rfl, rfl, hq, he, q⟩ := h
  cases rx
  obtain ⟨t, rfl⟩ := ry
  obtain ⟨its, r, pl, hz⟩ := I.list hq
  obtain ⟨j, h1, h2, h3, h4, h5⟩ := atI_get he
  obtain ⟨w, ew, rw'⟩ := r.get h2
  have hl := r.length
  have hn := line63
  have fin : EP X pins σ Q w s := ⟨z, H, I, rw', q⟩
  by_cases h0 : 0 ≤ i
  · have hj : i.toNat = j := by
      rw [seqIndex_of h0 h5] at h1
      exact Option.some.inj h1
    exact item_listR pl.isList h0 (by omega) (by rw [hj]; simpa using ew) fin hs
  · have hj : (i + (its.toArray.size : Int)).toNat = j := by
      rw [seqIndex_neg (by omega) h4] at h1
      rw [List.size_toArray, ← hl]
      exact Option.some.inj h1
    exact subscriptTail_builtinR (x := w) pl.isList.typeIs slot_list_getitem.lookup
      (wpAny_getItem_list_neg (Q := fun r s' => r = w ∧ EP X pins σ Q r s') pl.isList (by omega) (by rw [List.size_toArray] <;> omega) (by omega) (by rw [hj]; simpa using ew) ⟨rfl, fin⟩) hs
theorem ix_tup : IxR X (rIxT X.K) := by
  intro value slice pins s σ H x y v u Q I rx ry h hs
  obtain ⟨p, xs, i, z, rfl, rfl, hq, he, q⟩ := h
  cases rx
  obtain ⟨t, rfl⟩ := ry
  obtain ⟨its, r, pl, hz⟩ := I.tuple hq
  obtain ⟨j, h1, h2, h3, h4, h5⟩ := atI_get he
  obtain ⟨w, ew, rw'⟩ := r.get h2
  have hl := r.length
  have hn := line63
  have fin : EP X pins σ Q w s := ⟨z, H, I, rw', q⟩
  exact subscriptTail_builtinR (x := w) pl.typeIs slot_tuple_getitem.lookup
    (getItem_tuple (j := j) (Q := fun r s' => r = w ∧ EP X pins σ Q r s') pl (by omega) (by omega) (by rw [List.size_toArray, ← hl]; exact h1) (by simpa using ew) ⟨rfl, fin⟩) hs
theorem ix_str : IxR X rIxS := by
  intro value slice pins s σ H x y v u Q I rx ry h hs
  obtain ⟨z, i, c, rfl, rfl, hz, he, q⟩ := h
  obtain ⟨t, rfl⟩ := rx
  obtain ⟨t', rfl⟩ := ry
  obtain ⟨j, h1, h2, h3, h4, h5⟩ := atI_get he
  have hl : z.cps.toList.length = z.length := by simp [Str.length]
  rw [hl] at h1 h4 h5
  have hn := line63
  exact tail_any (typeIs_str s z t) slot_str_getitem.lookup (getItem_str (c := c) (by
    have e1 : decide (i < -(2 ^ 63 : Int)) = false := decide_eq_false (by omega)
    have e2 : decide (i ≥ 2 ^ 63) = false := decide_eq_false (by omega)
    rw [e1, e2, Bool.or_false]) (by rw [h1]; simpa using h2) ⟨.str ⟨#[c]⟩, H, I.tok _, ⟨_, rfl⟩, q⟩) hs
/-- list, tuple or str -/
def rIx (K : PySem.W.Frag) : R2 := fun x y H Q => rIxL K x y H Q ∨ rIxT K x y H Q ∨ rIxS x y H Q
theorem ix_seq : IxR X (rIx X.K) := ix_list.or (ix_tup.or ix_str)

/-! ### xs[i] = v, any sign -/
/-- the list's object behind a store -/
theorem mapSeq_set (its : List Value) (n j : Nat) (u : Value) : Obj.mapSeq (·.setIfInBounds j u) { cls := .type "list", data := .seq its.toArray n } = { cls := .type "list", data := .seq (its.set j u).toArray n } := by
  simp [Obj.mapSeq]
theorem Inv.lst {pins : List (Addr × Obj)} {σ : St} {H : Hp} {s : Shared} {p : Addr} {xs : List V} (I : Inv X pins σ H s) (h : H p = some (.lst xs)) :
    ∃ (its : List Value) (n : Nat), Vals xs its ∧ s.heap.get? p = some { cls := .type "list", data := .seq its.toArray n } ∧ xs.length ≤ sizeLine := by
  obtain ⟨z, its, n, r, e⟩ := I.hok p _ h
  exact ⟨its, n, r, e, z⟩
/-- the list at p is written by an update of its object -/
theorem Inv.lstUpd {pins : List (Addr × Obj)} {σ : St} {H : Hp} {s : Shared} {p : Addr} {xs ys : List V} {its its' : List Value} {n n' : Nat} {f : Obj → Obj} (I : Inv X pins σ H s) (h : H p = some (.lst xs))
    (ho : s.heap.get? p = some { cls := .type "list", data := .seq its.toArray n }) (hf : f { cls := .type "list", data := .seq its.toArray n } = { cls := .type "list", data := .seq its'.toArray n' }) (r : Vals ys its') (hz : ys.length ≤ sizeLine) (t : Nat) :
    Inv X pins σ (upd H p (.lst ys)) { s with heap := s.heap.update p f, toks := t } := by
  have e : (s.heap.update p f).get? p = some { cls := .type "list", data := .seq its'.toArray n' } := by
    rw [Heap.get?_update_self f ho (by rw [hf] <;> rfl), hf]
  refine I.write (x := p) (e := p) (by rw [h]; trivial) (.inl rfl) (fun b u hb q => (Heap.get?_update_other _ _ (Ne.symm hb)).trans q) ⟨_, e⟩ ?_
  exact ⟨hz, its', n', r, e⟩
def rSetL : V → V → V → Hp → (Hp → Prop) → Prop := fun o i v H Q => ∃ p xs k j, o = .ref p ∧ i = .int k ∧ H p = some (.lst xs) ∧ ixN xs.length k = some j ∧ Q (upd H p (.lst (xs.set j v)))
theorem set_list : PSet X rSetL := by
  intro pins s σ H o i v ov iv u Q I ro ri rv h
  obtain ⟨p, xs, k, j, rfl, rfl, hp, hj, q⟩ := h
  cases ro
  obtain ⟨t, rfl⟩ := ri
  obtain ⟨its, n, r, ho, hz⟩ := I.lst hp
  obtain ⟨h1, h2, h3, h4⟩ := ixN_seq hj
  have hl := r.length
  have hn := line63
  have I' : Inv X pins σ (upd H p (.lst (xs.set j v))) { s with heap := s.heap.update p (Obj.mapSeq (·.setIfInBounds j u)) } :=
    I.lstUpd hp ho (mapSeq_set its n j u) (r.set rv j) (by rw [List.length_set]; exact hz) s.toks
  by_cases h0 : 0 ≤ k
  · have hk : k.toNat = j := by
      rw [seqIndex_of h0 h4] at h1
      exact Option.some.inj h1
    exact PySem.W.ki_setAt ho h0 (by omega) (by rw [List.size_toArray, ← hl]; exact h4) (by rw [hk]; exact ⟨_, I', q⟩)
  · have hk : (k + (its.toArray.size : Int)).toNat = j := by
      rw [seqIndex_neg (by omega) h3] at h1
      rw [List.size_toArray, ← hl]
      exact Option.some.inj h1
    exact PySem.W.ki_setBack ho (by omega) (by rw [List.size_toArray, ← hl]; exact h3) (by omega) (by rw [hk]; exact ⟨_, I', q⟩)

/-! ### slices -/
theorem slice_bounds (lo hi : Option Int) (n : Nat) : (sliceBounds lo hi none n).1 = ((HT.sIx n 0 lo : Nat) : Int) ∧ (sliceBounds lo hi none n).2.1 = ((HT.sIx n n hi : Nat) : Int) ∧ (sliceBounds lo hi none n).2.2 = 1 := by
  refine ⟨?_, ?_, rfl⟩
  · cases lo with
    | none => simp [sliceBounds, HT.sIx]
    | some i =>
      simp only [sliceBounds, HT.sIx, Option.getD_none, show (1 : Int) > 0 by decide, if_true]
      by_cases h : i < 0
      · simp only [h, if_true] <;> omega
      · simp only [h, if_false] <;> omega
  · cases hi with
    | none => simp [sliceBounds, HT.sIx]
    | some i =>
      simp only [sliceBounds, HT.sIx, Option.getD_none, show (1 : Int) > 0 by decide, if_true]
      by_cases h : i < 0
      · simp only [h, if_true] <;> omega
      · simp only [h, if_false] <;> omega
theorem slicePick_cut (its : List Value) (lo hi : Option Int) : slicePick its.toArray lo hi none = ((its.drop (HT.sIx its.length 0 lo)).take (HT.sIx its.length its.length hi - HT.sIx its.length 0 lo)).toArray := by
  obtain ⟨h1, h2, h3⟩ := slice_bounds lo hi its.toArray.size
  unfold slicePick
  rw [h1, h2, h3]
  simp only [sliceRange_one, pick_run, List.size_toArray] <;> rfl
/-- xs[lo:hi] of a list: a new list -/
def rSlL (K : PySem.W.Frag) : V → Option Int → Option Int → Hp → VK → Prop := fun x lo hi H Q => ∃ a xs, x = .ref a ∧ SqL K H a xs ∧ ∀ p, H p = none → Q (.ref p) (upd H p (.lst (cutV xs lo hi)))
theorem sl_list : SlR X (rSlL X.K) := by
  intro pins s σ H x v vl vu lo hi sl Q I rx hs pl pu h
  obtain ⟨a, xs, rfl, hx, q⟩ := h
  cases rx
  obtain ⟨its, r, ht, hz⟩ := I.list hx
  have hlen := r.length
  refine ⟨"list", _, slot_list_getitem.lookup, ht.isList.typeIs, ?_⟩
  refine wpAny_getItem_list_slice ht.isList hs pl pu .none (by simp) ?_ (by rw [List.size_toArray] <;> omega)
  rw [slicePick_cut, ← hlen]
  refine ⟨.ref s.heap.objs.size, _, I.laid (t' := s.toks) (o := .lst (cutV xs lo hi)) (fun b ob q => Heap.get?_push_of_some _ q) (Nat.le_refl _) ?_, rfl, q _ (I.hok.fresh (Nat.le_refl _))⟩
  exact ⟨Nat.le_trans (cutV_length xs lo hi) hz, _, 0, (r.drop (HT.sIx xs.length 0 lo)).take (HT.sIx xs.length xs.length hi - HT.sIx xs.length 0 lo), Heap.get?_push_size _ rfl⟩

/-! ### in, not in: flat items -/
def flatV : V → Bool
  | .non => true
  | .bl _ => true
  | .int _ => true
  | .str _ => true
  | _ => false
/-- == of flat values -/
def eqV : V → V → Bool
  | .non, .non => true
  | .bl a, .bl b => a == b
  | .bl a, .int b => (if a then 1 else 0) == b
  | .int a, .bl b => a == (if b then 1 else 0)
  | .int a, .int b => a == b
  | .str a, .str b => a == b
  | _, _ => false
theorem eqAt_V {A : Around} {s : Shared} {y x : V} {u v : Value} (ry : RelV y u) (rx : RelV x v) (fy : flatV y = true) (fx : flatV x = true) : SeqAt.EqAt A s u v (eqV y x) := by
  cases y with
  | non =>
    cases ry
    cases x with
    | non => cases rx; exact SeqAt.EqAt.same _
    | bl b => cases rx; exact SeqAt.EqAt.none_bool b
    | int b => obtain ⟨t, rfl⟩ := rx; exact SeqAt.EqAt.none_int b t
    | str b => obtain ⟨t, rfl⟩ := rx; exact SeqAt.EqAt.none_str b t
    | _ => exact absurd (show false = true from fx) Bool.false_ne_true
  | bl a =>
    cases ry
    cases x with
    | non => cases rx; exact SeqAt.EqAt.bool_none a
    | bl b => cases rx; exact SeqAt.EqAt.bool_bool a b
    | int b => obtain ⟨t, rfl⟩ := rx; exact SeqAt.EqAt.bool_int a b t
    | str b => obtain ⟨t, rfl⟩ := rx; exact SeqAt.EqAt.bool_str a b t
    | _ => exact absurd (show false = true from fx) Bool.false_ne_true
  | int a =>
    obtain ⟨t', rfl⟩ := ry
    cases x with
    | non => cases rx; exact SeqAt.EqAt.int_none a t'
    | bl b => cases rx; exact SeqAt.EqAt.int_bool a t' b
    | int b => obtain ⟨t, rfl⟩ := rx; exact SeqAt.EqAt.int_int a t' b t
    | str b => obtain ⟨t, rfl⟩ := rx; exact SeqAt.EqAt.int_str a t' b t
    | _ => exact absurd (show false = true from fx) Bool.false_ne_true
  | str a =>
    obtain ⟨t', rfl⟩ := ry
    cases x with
    | non => cases rx; exact SeqAt.EqAt.str_none a t'
    | bl b => cases rx; exact SeqAt.EqAt.str_bool a t' b
    | int b => obtain ⟨t, rfl⟩ := rx; exact SeqAt.EqAt.str_int a t' b t
    | str b => obtain ⟨t, rfl⟩ := rx; exact SeqAt.EqAt.str_str a t' b t
    | _ => exact absurd (show false = true from fx) Bool.false_ne_true
  | _ => exact absurd (show false = true from fy) Bool.false_ne_true
/-- the items' answers, read off the values (a value's own answer does not lean on its token) -/
def eqU (x : V) (u : Value) : Bool := match u with
  | .none => eqV .non x
  | .bool b => eqV (.bl b) x
  | .int i _ => eqV (.int i) x
  | .str z _ => eqV (.str z) x
  | _ => false
theorem eqU_of {x y : V} {u : Value} (r : RelV y u) (f : flatV y = true) : eqU x u = eqV y x := by
  cases y with
  | non => cases r; rfl
  | bl b => cases r; rfl
  | int i => obtain ⟨t, rfl⟩ := r; rfl
  | str z => obtain ⟨t, rfl⟩ := r; rfl
  | _ => exact absurd (show false = true from f) Bool.false_ne_true
theorem any_eqU {x : V} : ∀ {xs : List V} {us : List Value}, Vals xs us → xs.all flatV = true → us.any (eqU x) = xs.any fun y => eqV y x
  | _, _, .nil, _ => rfl
  | y :: xs, u :: us, .cons r t, f => by
    rw [List.all_cons, Bool.and_eq_true] at f
    rw [List.any_cons, List.any_cons, eqU_of r f.1, any_eqU t f.2]
theorem mem_eqAt {A : Around} {s : Shared} {x : V} {v : Value} (rx : RelV x v) (fx : flatV x = true) : ∀ {xs : List V} {us : List Value}, Vals xs us → xs.all flatV = true → ∀ u ∈ us, SeqAt.EqAt A s u v (eqU x u)
  | _, _, .nil, _ => fun u hu => by cases hu
  | y :: xs, u :: us, .cons r t, f => fun u' hu => by
    rw [List.all_cons, Bool.and_eq_true] at f
    rcases List.mem_cons.mp hu with rfl | hu
    · rw [eqU_of r f.1]; exact eqAt_V r rx f.1 fx
    · exact mem_eqAt rx fx t f.2 u' hu
def inV (x : V) (xs : List V) : Bool := xs.any fun y => eqV y x
/-- x in a list or tuple of flat items -/
def rIn (K : PySem.W.Frag) (neg : Bool) : R2 := fun x y H Q => ∃ p xs, y = .ref p ∧ (SqL K H p xs ∨ SqT K H p xs) ∧ flatV x = true ∧ xs.all flatV = true ∧ Q (.bl (if neg then !inV x xs else inV x xs)) H
theorem op_notIn_seq : OpR X (compareOp .NotIn) (rIn X.K true) := by
  intro pins s σ H x y v u Q I rx ry h
  obtain ⟨p, xs, rfl, hq, fx, fs, q⟩ := h
  cases ry
  rcases hq with hq | hq
  · obtain ⟨its, r, pl, hz⟩ := I.list hq
    refine SeqAt.notIn_listAt (eqU x) pl.isList (fun w hw => mem_eqAt rx fx r fs w (by simpa using hw)) ⟨.bl _, H, I, rfl, ?_⟩
    rw [show its.toArray.any (eqU x) = its.any (eqU x) by simp, any_eqU r fs]
    exact q
  · obtain ⟨its, r, pl, hz⟩ := I.tuple hq
    refine SeqAt.notIn_tupleAt (eqU x) pl (fun w hw => mem_eqAt rx fx r fs w (by simpa using hw)) ⟨.bl _, H, I, rfl, ?_⟩
    rw [show its.toArray.any (eqU x) = its.any (eqU x) by simp, any_eqU r fs]
    exact q

/-! ### len, list(x), tuple(x) of any list or tuple that is read -/
theorem call_len_seq : CallR X (.builtin "len") (fun xs H Q => ∃ p ys, xs = [.ref p] ∧ (SqL X.K H p ys ∨ SqT X.K H p ys) ∧ Q (.int ys.length) H) := by
  intro pins s σ H xs us Q I r h
  obtain ⟨p, ys, rfl, hq, q⟩ := h
  obtain ⟨u, rfl, rx⟩ := vals1 r
  cases rx
  have hn := line63
  rcases hq with hq | hq
  · obtain ⟨its, r', pl, hz⟩ := I.list hq
    have hlen := r'.length
    exact Calls.call_len_list pl.isList (by simp only [List.size_toArray] <;> omega) ⟨.int ys.length, H, I.tok _, ⟨s.toks + 1, by rw [List.size_toArray, hlen]⟩, q⟩
  · obtain ⟨its, r', pl, hz⟩ := I.tuple hq
    have hlen := r'.length
    exact len_tuple pl (by simp only [List.size_toArray] <;> omega) ⟨.int ys.length, H, I.tok _, ⟨s.toks + 1, by rw [List.size_toArray, hlen]⟩, q⟩
theorem call_len_str : CallR X (.builtin "len") (fun xs H Q => ∃ z, xs = [.str z] ∧ z.length ≤ sizeLine ∧ Q (.int z.length) H) := by
  intro pins s σ H xs us Q I r h
  obtain ⟨z, rfl, hz, q⟩ := h
  obtain ⟨u, rfl, t, rfl⟩ := vals1 r
  have hn := line63
  exact len_str (by omega) ⟨.int z.length, H, I.tok _, ⟨_, rfl⟩, q⟩
theorem CallR.or {f : Value} {r r' : List V → Hp → VK → Prop} (h : CallR X f r) (h' : CallR X f r') : CallR X f (fun xs H Q => r xs H Q ∨ r' xs H Q) := by
  intro pins s σ H xs us Q I rs q
  rcases q with q | q
  · exact h pins s σ H xs us Q I rs q
  · exact h' pins s σ H xs us Q I rs q
theorem call_list_of : CallR X (.type "list") (fun xs H Q => ∃ p ys, xs = [.ref p] ∧ (SqL X.K H p ys ∨ SqT X.K H p ys) ∧ ∀ l, H l = none → Q (.ref l) (upd H l (.lst ys))) := by
  intro pins s σ H xs us Q I r h
  obtain ⟨p, ys, rfl, hq, q⟩ := h
  obtain ⟨u, rfl, rx⟩ := vals1 r
  cases rx
  have fin : ∀ (its : List Value), Vals ys its → ys.length ≤ sizeLine → ∀ (h' : Heap) (c' : Nat), (∀ b o', s.heap.get? b = some o' → h'.get? b = some o') →
      h'.get? s.heap.objs.size = some { cls := .type "list", dict := none, data := .seq its.toArray c', slots := #[] } → EP X pins σ Q (.ref s.heap.objs.size) { s with heap := h' } := fun its r' hz h' c' kp e =>
    ⟨.ref s.heap.objs.size, _, I.laid (t' := s.toks) kp (Nat.le_refl _) (show ObjOk X.prog X.w _ h' _ (.lst ys) from ⟨hz, its, c', r', e⟩), rfl, q _ (I.hok.fresh (Nat.le_refl _))⟩
  rcases hq with hq | hq
  · obtain ⟨its, r', pl, hz⟩ := I.list hq
    have hlen := r'.length
    obtain ⟨o, ho, hc, n, hd⟩ := pl.isList
    exact call_list_seq p (.inl rfl) ho hc hd (fun h' c' kp e => fin its r' hz h' c' kp e) (by simp only [List.size_toArray] <;> omega)
  · obtain ⟨its, r', pl, hz⟩ := I.tuple hq
    have hlen := r'.length
    obtain ⟨o, ho, hc, n, hd⟩ := pl
    exact call_list_seq p (.inr rfl) ho hc hd (fun h' c' kp e => fin its r' hz h' c' kp e) (by simp only [List.size_toArray] <;> omega)
theorem call_tuple_of : CallR X (.type "tuple") (fun xs H Q => ∃ p ys, xs = [.ref p] ∧ ((SqL X.K H p ys ∧ ∀ l, H l = none → Q (.ref l) (upd H l (.tup ys))) ∨ (SqT X.K H p ys ∧ Q (.ref p) H))) := by
  intro pins s σ H xs us Q I r h
  obtain ⟨p, ys, rfl, h⟩ := h
  obtain ⟨u, rfl, rx⟩ := vals1 r
  cases rx
  rcases h with ⟨hq, q⟩ | ⟨hq, q⟩
  · obtain ⟨its, r', pl, hz⟩ := I.list hq
    have hlen := r'.length
    refine call_tuple_list pl.isList (fun h' kp => ?_) (by simp only [List.size_toArray] <;> omega)
    have I1 : Inv X pins σ H { s with heap := h' } := I.kept (t' := s.toks) kp
    have I2 : Inv X pins σ (upd H h'.objs.size (.tup ys)) { s with heap := h'.push { cls := .type "tuple", data := .seq its.toArray } } :=
      I1.laid (t' := s.toks) (fun b o e => Heap.get?_push_of_some _ e) (Nat.le_refl _) (show ObjOk X.prog X.w _ _ _ (.tup ys) from ⟨hz, its, r', IsTup.new _ _, NoDict.new rfl (Heap.get?_push_size _ rfl)⟩)
    exact ⟨.ref h'.objs.size, _, I2, rfl, q _ (I1.hok.fresh (Nat.le_refl _))⟩
  · obtain ⟨its, r', pl, hz⟩ := I.tuple hq
    exact call_tuple_same pl ⟨.ref p, H, I, rfl, q⟩

/-! ### the call of a builtin's method: o.m(..) -/
/-- the value is of that builtin type -/
def tyV (K : PySem.W.Frag) (T : String) (x : V) (H : Hp) : Prop := match x with
  | .str _ => T = "str"
  | .int _ => T = "int"
  | .ref p => (T = "list" ∧ ∃ xs, SqL K H p xs) ∨ (T = "tuple" ∧ ∃ o, K.lookup p = some o ∧ o.cls = .type "tuple" ∧ o.dict = none) ∨
      (T = "dict" ∧ ((∃ kvs, H p = some (.dK kvs)) ∨ ∃ kvs, H p = some (.dT kvs))) ∨ (T = "set" ∧ ∃ S n, H p = some (.set S n)) ∨ (T = "tuple" ∧ ∃ xs, H p = some (.tup xs))
  | _ => False
theorem tyV_is {pins : List (Addr × Obj)} {σ : St} {H : Hp} {s : Shared} {T : String} {x : V} {v : Value} (I : Inv X pins σ H s) (r : RelV x v) (ty : tyV X.K T x H) :
    s.TypeIs v T ∧ ∀ a, v = .ref a → ∃ ob, s.heap.get? a = some ob ∧ ob.dict = none := by
  cases x with
  | str z =>
    obtain ⟨t, rfl⟩ := r
    cases (show T = "str" from ty)
    exact ⟨typeIs_str s z t, fun _ e => nomatch e⟩
  | int i =>
    obtain ⟨t, rfl⟩ := r
    cases (show T = "int" from ty)
    exact ⟨typeIs_int s i t, fun _ e => nomatch e⟩
  | ref p =>
    cases r
    rcases ty with ⟨rfl, xs, hq⟩ | ⟨rfl, o, hk, hc, hd⟩ | ⟨rfl, hk⟩ | ⟨rfl, S, n, hk⟩ | ⟨rfl, xs, hk⟩
    · obtain ⟨its, _, pl, _⟩ := I.list hq
      refine ⟨pl.isList.typeIs, fun a e => ?_⟩
      cases e
      obtain ⟨o, n, e, c, hd, _⟩ := pl
      exact ⟨o, e, hd⟩
    · refine ⟨⟨o, I.kIn p o hk, hc⟩, fun a e => ?_⟩
      cases e
      exact ⟨o, I.kIn _ o hk, hd⟩
    · have z : ∃ o, s.heap.get? p = some o ∧ o.ExactDict := by
        rcases hk with ⟨kvs, hk⟩ | ⟨kvs, hk⟩
        · obtain ⟨_, _, _, _, o, _, _, e, ex, _⟩ := I.hok p _ hk
          exact ⟨o, e, ex⟩
        · obtain ⟨_, _, _, _, o, _, _, e, ex, _⟩ := I.hok p _ hk
          exact ⟨o, e, ex⟩
      obtain ⟨o, e, ex⟩ := z
      refine ⟨⟨o, e, ex.1⟩, fun a e2 => ?_⟩
      cases e2
      exact ⟨o, e, ex.2.1⟩
    · obtain ⟨o, _, _, _, e, ex, _⟩ := I.hok p _ hk
      refine ⟨⟨o, e, ex.1⟩, fun a e2 => ?_⟩
      cases e2
      exact ⟨o, e, ex.2.1⟩
    · obtain ⟨_, _, _, ⟨o, e, c, _⟩, nd⟩ := I.hok p _ hk
      refine ⟨⟨o, e, c⟩, fun a e2 => ?_⟩
      cases e2
      exact ⟨o, e, nd o e⟩
  | _ => exact False.elim ty
def tBM0 (K : PySem.W.Frag) (T : String) (r : V → List V → Hp → VK → Prop) (to : TE) : TE := fun σ H Q => to σ H fun x H1 => tyV K T x H1 ∧ r x [] H1 Q
def tBM (K : PySem.W.Frag) (T : String) (r : V → List V → Hp → VK → Prop) (to : TE) (t : TA) : TE := fun σ H Q => to σ H fun x H1 => tyV K T x H1 ∧ t σ H1 fun xs H2 => r x xs H2 Q
variable {o e : Expr} {es : List Expr} {to : TE} {t : TA} {name : Str} {apos cpos : Pos} {T id : String} {r : V → List V → Hp → VK → Prop}
theorem pe_bm0 (pa : PlainAttrs T) (slot : Slot T name id) (hty : typeOf (.builtin id) = pure (.type "method_descriptor")) (hm : MtR X id r) (ho : PE X o to)
    (hbase : attributeBase o name X.env (eval o X.env) = eval o X.env := by rfl) (hline : (apos.endLine == cpos.line) = true := by rfl) : PE X (.Call (.Attribute o name apos) [] [] cpos) (tBM0 X.K T r to) := by
  intro pins s σ H Q I h
  refine wpAny_Call_method0_late hbase hline (thn (ho pins s σ H _ I h) fun v s1 ⟨x, H1, I1, r1, ty, q1⟩ => ?_)
  obtain ⟨h1, h2⟩ := tyV_is I1 r1 ty
  exact ⟨T, id, pa, slot, hty, h1, h2, Calls.callWith_builtin rfl (PySem.evalArgs_none (hm pins s1 σ H1 x [] v [] Q I1 r1 .nil q1))⟩
theorem pe_bm (pa : PlainAttrs T) (slot : Slot T name id) (hty : typeOf (.builtin id) = pure (.type "method_descriptor")) (hm : MtR X id r) (ho : PE X o to) (ha : PA X (e :: es) t)
    (hbase : attributeBase o name X.env (eval o X.env) = eval o X.env := by rfl)
    (hfew : ((backTo cpos (starEach (e :: es) X.env)).all (fun x => !x.1) && (backToKw cpos (keywordEach [] X.env)).all (fun x => x.1.isSome)
      && decide ((e :: es).length + ([] : List Keyword).length + (if ([] : List Keyword).isEmpty then 0 else 1) < 30)) = true := by rfl)
    (hline : (apos.endLine == cpos.line) = true := by rfl) (hs : starEach (e :: es) X.env = (false, eval e X.env) :: starEach es X.env := by rfl) (hplain : (backTo cpos (starEach es X.env)).any (·.1) = false := by rfl) :
    PE X (.Call (.Attribute o name apos) (e :: es) [] cpos) (tBM X.K T r to t) := by
  intro pins s σ H Q I h
  refine wpAny_Call_method_late hbase hfew hline rfl (thn (ho pins s σ H _ I h) fun v s1 ⟨x, H1, I1, r1, ty, q1⟩ => ?_)
  obtain ⟨h1, h2⟩ := tyV_is I1 r1 ty
  refine ⟨T, id, pa, slot, hty, h1, h2, ?_⟩
  have hA := ha cpos pins s1 σ H1 _ I1 q1
  rw [hs] at hA ⊢
  refine Calls.callWith_builtin (by show (false || (backTo cpos (starEach es X.env)).any (·.1)) = false; rw [hplain] <;> rfl) (Calls.evalArgs_plain ?_)
  exact thn hA fun us s2 ⟨vs, H2, I2, r2, q2⟩ => hm pins s2 σ H2 x vs v us Q I2 r1 r2 q2
/- xs.append(e), list.index on a module's tuple .. are MtR facts of 06m -/
end
end L2

namespace L2
open PySem PySem.Spec PyProof.Rows

def MtM (X : Cx) (id : String) (r : V → List V → Hp → VK → Prop) : Prop :=
  ∀ (pins : List (Addr × Obj)) (s : Shared) (σ : St) (H : Hp) (x : V) (xs : List V) (v : Value) (us : List Value) (Q : VK), Inv X pins σ H s → RelV x v → Vals xs us → r x xs H Q →
    wpAny (model X.prog X.w) X.A (call (.builtin id) (v :: us)) (EP X pins σ Q) X.xe s

/-! ### lists of values -/
theorem Vals.one : ∀ {x : V} {us : List Value}, Vals [x] us → ∃ u, us = [u] ∧ RelV x u
  | _, _, .cons r .nil => ⟨_, rfl, r⟩

section
variable {X : Cx} {pins : List (Addr × Obj)} {σ : St} {H : Hp} {s : Shared} {l b : Addr} {xs ys zs : List V}

/-! ### the two steps: a tracked list is rewritten, a new list is laid -/
theorem Inv.lset {its its' : List Value} {n : Nat} {f : Array Value → Array Value} {t' : Nat} (I : Inv X pins σ H s) (hH : H l = some (.lst xs))
    (e : s.heap.get? l = some { cls := .type "list", data := .seq its.toArray n }) (hf : f its.toArray = its'.toArray) (hv : Vals ys its') (hz : ys.length ≤ sizeLine) :
    Inv X pins σ (upd H l (.lst ys)) { s with heap := s.heap.update l (Obj.mapSeq f), toks := t' } := by
  have q := PySem.IsL.update e f
  rw [hf] at q
  refine I.write (x := l) (e := l) (by rw [hH]; exact trivial) (.inl rfl) (fun b' u hb hu => (Heap.get?_update_other s.heap (Obj.mapSeq f) (Ne.symm hb)).trans hu) ⟨_, q⟩ ?_
  exact ⟨hz, its', _, hv, q⟩
theorem Inv.lnew {its : List Value} {t' : Nat} (I : Inv X pins σ H s) (hv : Vals ys its) (hz : ys.length ≤ sizeLine) :
    Inv X pins σ (upd H s.heap.objs.size (.lst ys)) { s with heap := s.heap.push { cls := .type "list", data := .seq its.toArray }, toks := t' } :=
  I.laid (fun _ _ q => Heap.get?_push_of_some _ q) (Nat.le_refl _) ⟨hz, its, 0, hv, Heap.get?_push_size _ rfl⟩
theorem Inv.fresh (I : Inv X pins σ H s) : H s.heap.objs.size = none := I.hok.fresh (Nat.le_refl _)
theorem Inv.lstM (I : Inv X pins σ H s) (hH : H l = some (.lst xs)) : xs.length ≤ sizeLine ∧ ∃ (its : List Value) (n : Nat), Vals xs its ∧ xs.length = its.length ∧ s.heap.get? l = some { cls := .type "list", data := .seq its.toArray n } := by
  obtain ⟨z, its, n, r, e⟩ := I.hok l _ hH
  exact ⟨z, its, n, r, r.length, e⟩

theorem notLongL {n : Nat} (h : n ≤ sizeLine) : Builtin.List.listTooLong n = false := by
  unfold Builtin.List.listTooLong
  exact decide_eq_false (by omega)
end

section
variable {X : Cx}

/-! ### methods -/
def rAppend : V → List V → Hp → VK → Prop := fun x vs H Q => ∃ l xs y, x = .ref l ∧ vs = [y] ∧ H l = some (.lst xs) ∧ xs.length < sizeLine ∧ Q .non (upd H l (.lst (xs ++ [y])))
theorem mt_append : MtM X "list.append" rAppend := by
  intro pins s σ H x vs v us Q I rx rv h
  obtain ⟨l, xs, y, rfl, rfl, hH, hz, q⟩ := h
  cases rx
  obtain ⟨u, rfl, ru⟩ := rv.one
  obtain ⟨z, its, n, r, hl, e⟩ := I.lstM hH
  refine call_meets F.slot_list_append ⟨_, e, rfl⟩ F.entry_list_append (F.args_list_append_2 _ _) (PySem.list_append l its.toArray n u (by rw [List.size_toArray]; omega)) ⟨e, ?_⟩
  refine ⟨.non, _, I.lset (its' := its ++ [u]) hH e (by simp) (r.append (.cons ru .nil)) ?_, rfl, q⟩
  rw [List.length_append, List.length_singleton]
  omega

def rExtend : V → List V → Hp → VK → Prop := fun x vs H Q => ∃ l b xs zs, x = .ref l ∧ vs = [.ref b] ∧ H l = some (.lst xs) ∧ H b = some (.lst zs) ∧ xs.length + zs.length ≤ sizeLine ∧ Q .non (upd H l (.lst (xs ++ zs)))
theorem mt_extend : MtM X "list.extend" rExtend := by
  intro pins s σ H x vs v us Q I rx rv h
  obtain ⟨l, b, xs, zs, rfl, rfl, hH, hB, hz, q⟩ := h
  cases rx
  obtain ⟨u, rfl, ru⟩ := rv.one
  cases ru
  obtain ⟨z, its, n, r, hl, e⟩ := I.lstM hH
  obtain ⟨z2, its2, n2, r2, hl2, e2⟩ := I.lstM hB
  have hsz : its.toArray.size + its2.toArray.size ≤ sizeLine := by rw [List.size_toArray, List.size_toArray]; omega
  have hlong : ¬ (!its.toArray.isEmpty && Builtin.List.listTooLong (its.toArray.size + its2.toArray.size)) = true := by
    rw [notLongL hsz, Bool.and_false]
    exact Bool.false_ne_true
  refine call_meets F.slot_list_extend ⟨_, e, rfl⟩ F.entry_list_extend (F.args_list_extend_2 _ _)
    (AutoSeq1.list_extend_list_list_0 l its.toArray n b its2.toArray n2 hlong (by rw [List.size_toArray]; omega) (by omega)) ⟨e, e2, ?_⟩
  refine ⟨.non, _, I.lset (its' := its ++ its2) hH e (by simp) (r.append r2) ?_, rfl, q⟩
  rw [List.length_append]
  omega





/-! ### list + list, list += list, list * int -/
def rCat : R2 := fun x y H Q => ∃ l b xs zs, x = .ref l ∧ y = .ref b ∧ H l = some (.lst xs) ∧ H b = some (.lst zs) ∧ xs.length + zs.length ≤ sizeLine ∧ ∀ p, H p = none → Q (.ref p) (upd H p (.lst (xs ++ zs)))
theorem op_cat : OpR X (binaryOp .Add) rCat := by
  intro pins s σ H x y v u Q I rx ry h
  obtain ⟨l, b, xs, zs, rfl, rfl, hH, hB, hz, q⟩ := h
  cases rx
  cases ry
  obtain ⟨z, its, n, r, hl, e⟩ := I.lstM hH
  obtain ⟨z2, its2, n2, r2, hl2, e2⟩ := I.lstM hB
  refine PySem.P.add_list e e2 ?_ (by rw [List.size_toArray, List.size_toArray]; omega)
  have ea : its.toArray ++ its2.toArray = (its ++ its2).toArray := by simp
  rw [ea]
  exact ⟨.ref _, _, I.lnew (t' := s.toks) (r.append r2) (by rw [List.length_append]; omega), rfl, q _ I.fresh⟩

/-! ### del xs[i] -/
end

/-! ### xs[a:b] = ys -/
section
variable {prog : Program} {w : World} {A : Around} {E : Value → Shared → Prop} {s : Shared}
set_option maxRecDepth 100000 in
end

section
variable {X : Cx}
end
end L2

namespace Att
open PySem PySem.W PySem.Calls PyProof.Rows

/-! ### the script -/
theorem ints_of_wellAll {P : Params} {h : Heap} : ∀ (ns : List Int) (vs : List Value), WellAll P h vs (ns.map WData.int) → IntsAre vs ns := by
  intro ns
  induction ns with
  | nil =>
    intro vs w
    rw [List.map_nil] at w
    cases w
    exact .nil
  | cons n ns ih =>
    intro vs w
    rw [List.map_cons] at w
    cases w with
    | cons a b =>
      cases a
      exact .cons _ _ (ih _ b)

theorem script_of {l : OpenLaw} {n : Nat} (hn : l.most = some n) {P : Params} {h : Heap} {args : List WData} {vals : List Value}
    (hpre : l.row.toRowW.claim.pre args = true) (hwl : WellAll P h vals args) :
    ∃ a vs ns, vals = [Value.ref a] ∧ args = [WData.list (ns.map WData.int)] ∧ h.get? a = some { cls := .type "list", data := .seq vs.toArray } ∧ IntsAre vs ns ∧ ns.length ≤ n := by
  have hsh : WShape.hasAll [] args [.list .int] = true := (pre_splitW hpre).1
  have hc : l.pre.holds [] { args := args } = true := (pre_splitW hpre).2
  obtain ⟨d, r, rfl, h1, h2⟩ := hasAllW_cons hsh
  obtain rfl := hasAllW_nil h2
  obtain ⟨xs, rfl, h3⟩ := hasW_list h1
  obtain ⟨ns, rfl⟩ := items_int h3
  have hlen : ns.length ≤ n := by
    unfold OpenLaw.pre at hc
    have h4 : (WTm.not (.lt (.lit (.int (n : Int))) (.len (.arg 0)))).holds [] { args := [.list (ns.map .int)] } = true := by
      have h4 := (holds_andW hc).1
      rw [hn] at h4
      exact h4
    have h5 := condW_of h4 (w_not (w_lt w_lit (w_len_list (w_arg rfl))))
    rw [List.length_map] at h5
    refine Nat.le_of_not_lt fun q => ?_
    have q' : (n : Int) < ((ns.length : Nat) : Int) := by omega
    first
      | (rw [decide_eq_true q'] at h5; exact absurd h5 (by decide))
      | (simp at h5; omega)
  cases hwl with
  | cons w1 w2 =>
    cases w2
    cases w1 with
    | list ho hall => exact ⟨_, _, ns, rfl, rfl, ho, ints_of_wellAll ns _ hall, hlen⟩

theorem post_true (l : OpenLaw) (args : List WData) : l.row.toRowW.claim.post args (.bool true) args = true :=
  postW_of (r := l.row.toRowW) (X := (true == true))
    (show WShape.has [] (.bool true) .bool = true by first | rfl | decide | simp [WShape.has, WShape.arms, WShape.armsAll])
    (show (WTm.eq .res (.lit (.bool true))).value [] { args := args, res := some (.bool true), after := args } = some (.bool (true == true)) from w_eq_bool (w_res rfl) w_lit) rfl

/-! ### the attachment: holds_open's last premise (the goal 'hc' behind k_head) from a wpAny of the law's body -/

/-- the same from a codeAny of the CALL (for a layer whose function contracts speak of calls) -/
theorem attach_call {l : OpenLaw} {n : Nat} {q : Program} {loose : List Str} {XP : (Str → Option Value) → Heap → Prop} {YP : World → Heap → Prop} {d : DefRec}
    (hn : l.most = some n) (hdf : d.params.defaults = [])
    (call : ∀ (w : World) (s₀ s₁ : Shared) (mg mb : Str → Option Value) (fa : Addr) (o : Obj) (pm cd doc : Value) (a : Addr) (vs : List Value) (ns : List Int),
      Ground q loose [] XP w s₀ mg mb s₁.heap → YP w s₁.heap →
      s₁.heap.get? fa = some o → o.data = .func (docDef d.name d.params d.body d.scope pm cd doc) → s₁.heap.CodeRec cd d.name → mg d.name = some (.ref fa) →
      s₁.heap.get? a = some { cls := .type "list", data := .seq vs.toArray } → IntsAre vs ns → ns.length ≤ n → s₁.gens = #[] →
      codeAny (model l.prog w) callerA (.call (.ref fa) ⟨[.ref a], []⟩) (fun r s' => r = .ok (.ret (.bool true)) ∧ OldK s₁.heap s'.heap ∧ s'.os = s₁.os ∧ AllBare s'.gens) s₁) :
    WalkO q loose XP YP l.row.toRowW d [] (fun f vs => PySem.call f vs) := by
  intro w s₀ s₁ mg mb G Y fa o pm cd doc dV kV ho hd hcd hD hmg hg args vals as hpre hlay hrd hwl hlo
  obtain rfl : dV = .none := Dflts.none hD hdf
  obtain rfl : kV = .none := Dflts.noKw hD
  obtain ⟨a, vs, ns, rfl, rfl, hobj, hints, hlen⟩ := script_of hn hpre hwl
  refine enter_call (codeAny_mono (call w s₀ s₁ mg mb fa o pm cd doc a vs ns G Y ho (fd_plain hd) hcd hmg hobj hints hlen hg) fun r s' hq => ?_)
  obtain ⟨rfl, h2, h3, h4⟩ := hq
  exact ⟨.inl ⟨.bool true, .bool true, [], rfl, fun _ => rfl, .bool true, post_true l _, fun _ => ⟨List.Pairwise.nil, fun _ hm => (nomatch hm)⟩⟩, h2, h3, h4⟩


/-! ### rules over ANY heap (no ledger) from facts about the written part K: the library's own take a ledger (News) for what they write -/
section
variable {prog : Program} {w : World} {A : Around} {E : Value → Shared → Prop} {s : Shared} {K : Frag}





/-! the whole heap as the ledger: makes every rule that writes through a ledger a rule over any heap -/

end
end Att

namespace L2
open PySem PySem.Spec PyProof.Rows

theorem vals_ints : ∀ {vs : List Value} {ns : List Int}, IntsAre vs ns → Vals (ns.map V.int) vs
  | _, _, .nil => .nil
  | _, _, .cons n t h => .cons ⟨t, rfl⟩ (vals_ints h)

/-- nothing is tracked but the script, known to the object (or it is an object of the module) -/
def Only (H : Hp) : Prop := ∀ b, H b = none ∨ ∃ o xs, H b = some (.frz o (.lst xs))

/-- THE HEAD: the law's promise, at the heap behind the top. F, the promise of the law's def, may use that base is part of the heap (so K.In base, base.Ns mainGlobals mg stand in Mod) -/
theorem law_call {P : Program} {w : World} {K : PySem.W.Frag} {mg mb : Str → Option Value} {CX : CXT} {k : Nat} {fa a : Addr} {fd : FuncData} {x : Str} {sp : Sp} {s₁ : Shared} {vs : List Value} {ns : List Int}
    (KX : K.In s₁.heap) (hns : s₁.heap.Ns mainGlobals mg) (hb : s₁.heap.Ns builtinsNs mb) (hbb : ∀ x : Str, x ≠ "__name__" → mb x = bootBuiltins x) (hlim : s₁.heap.NoLimit) (hg : s₁.gens = #[])
    (ha : s₁.heap.get? a = some { cls := .type "list", data := .seq vs.toArray }) (hi : IntsAre vs ns) (hl : ns.length ≤ sizeLine) (hr : Room k callerA)
    (F : ∀ base : Heap, K.In base → base.Ns mainGlobals mg → FnOk P w K mg base CX k fa fd [x] sp) (hbind : ∀ (s : Shared) (u : Value), BindsTo s fd ⟨[u], []⟩ [(x, u)])
    (hsp : ∀ H : Hp, Only H → SqL K H a (ns.map V.int) → sp [.ref a] H (fun v _ => v = .bl true) fun _ _ _ => False)
    (hCX : ∀ H e s', CX [] H s₁ (fun _ _ _ => False) e s' → False) :
    codeAny (model P w) callerA (.call (.ref fa) ⟨[.ref a], []⟩) (fun r s' => r = .ok (.ret (.bool true)) ∧ OldK s₁.heap s'.heap ∧ s'.os = s₁.os ∧ AllBare s'.gens) s₁ := by
  have rv := vals_ints hi
  have lenV := hi.length
  -- from an abstract heap in which nothing but the script may be tracked
  have core : ∀ H : Hp, Only H → SqL K H a (ns.map V.int) → HOk P w H s₁.heap → (∀ b, H b ≠ none → b = a) → (H a ≠ none → K.lookup a = none) →
      codeAny (model P w) callerA (.call (.ref fa) ⟨[.ref a], []⟩) (fun r s' => r = .ok (.ret (.bool true)) ∧ OldK s₁.heap s'.heap ∧ s'.os = s₁.os ∧ AllBare s'.gens) s₁ := by
    intro H hO hS hok hA hK
    have base_of : ∀ {b : Addr} {o : Obj}, s₁.heap.get? b = some o → H b = none → (hidT s₁.heap H).get? b = some o := fun e n => hidT_get e n
    have noA : ∀ {b : Addr} {o : Obj} {es : Array DictEntry} {ep : Nat}, s₁.heap.get? b = some o → o.data = .dict es ep → H b = none := fun {b o es ep} e d => by
      cases q : H b with
      | none => rfl
      | some u =>
        have e' : b = a := hA b (by rw [q]; simp)
        subst e'
        rw [ha] at e; cases e
        have d' : Data.seq vs.toArray _ = Data.dict es ep := d
        cases d'
    have nsK : ∀ {b : Addr} {m : Str → Option Value}, s₁.heap.Ns b m → (hidT s₁.heap H).Ns b m := fun {b m} ⟨o, es, ep, e, d, r⟩ => ⟨o, es, ep, base_of e (noA e d), d, r⟩
    have hKb : K.In (hidT s₁.heap H) := fun b o e => base_of (KX b o e) (by
      cases q : H b with
      | none => rfl
      | some u =>
        have e' : b = a := hA b (by rw [q]; simp)
        subst e'
        rw [hK (by rw [q]; simp)] at e; cases e)
    have hM : Mod K mg (hidT s₁.heap H) := ⟨hKb, nsK hns, ⟨mb, nsK hb, hbb⟩, let ⟨mc, h1, h2⟩ := hlim; ⟨mc, nsK h1, h2⟩⟩
    have e0 : Env0 P w K mg (hidT s₁.heap H) callerA [] s₁ H := ⟨rfl, hM, fun b o e => of_hidT e, Nat.le_of_eq (hidT_size _ _), trivial, fun b hb => absurd (show b ∈ ([] : List Addr) from hb) (by simp), hok, .of_eq hg⟩
    refine codeAny_mono ((F _ hKb (nsK hns)).run callerA [] s₁ H ⟨[.ref a], []⟩ [.ref a] [.ref a] _ _ hr e0 (hbind s₁ (.ref a)) (.cons rfl .nil) (hsp H hO hS)) fun r s' h => ?_
    cases r with
    | error e => exact (hCX H e s' h).elim
    | ok fl =>
      cases fl with
      | next => exact False.elim h
      | brk => exact False.elim h
      | cont => exact False.elim h
      | ret u =>
        obtain ⟨v, H', os, bare, un, hok', r', q⟩ := h
        have q' : v = .bl true := q
        subst q'
        obtain rfl : u = Value.bool true := r'
        refine ⟨rfl, OldK.of_keep fun b o e => ?_, os, bare⟩
        cases q : H b with
        | none => exact un.keep b o e q (by intro z; exact absurd (show b ∈ ([] : List Addr) from z) (by simp)) (by simp)
        | some u =>
          rcases hO b with z | ⟨ob, xs, z⟩
          · rw [q] at z; cases z
          · have z2 := un.frzs b ob _ z
            obtain ⟨e1, _⟩ := hok b _ z
            obtain ⟨e2, _⟩ := hok' b _ z2
            rw [e] at e1; cases e1
            exact e2
  cases hk : K.lookup a with
  | some o =>
    -- the script is one of the module's own objects
    have e := KX a o hk
    rw [ha] at e
    cases e
    refine core (fun _ => none) (fun _ => .inl rfl) (.inr ⟨_, vs.toArray, _, hk, rfl, rfl, rfl, by rw [List.size_toArray, lenV]; exact hl, by simpa using rv⟩) (fun b u z => by have z' : (none : Option HO) = some u := z; cases z') (fun b z => absurd rfl z) fun z => absurd rfl z
  | none =>
    refine core (fun b => if b = a then some (.frz { cls := .type "list", data := .seq vs.toArray } (.lst (ns.map V.int))) else none) (fun b => ?_) (.inl (.inr ⟨{ cls := .type "list", data := .seq vs.toArray }, if_pos rfl⟩)) (fun b u z => ?_) (fun b z => ?_) fun _ => hk
    · by_cases hb : b = a
      · exact .inr ⟨_, _, if_pos hb⟩
      · exact .inl (if_neg hb)
    · by_cases hb : b = a
      · have z' := (if_pos hb).symm.trans z
        cases z'
        subst hb
        exact ⟨ha, by rw [List.length_map]; exact hl, vs, _, rv, ha⟩
      · have z' := (if_neg hb).symm.trans z
        cases z'
    · by_cases hb : b = a
      · exact hb
      · exact absurd (if_neg hb) z
end L2

namespace L2
open PySem PySem.Spec PyProof.Rows


/-- the goal that k_head leaves (case hc), from the law's promise. F gives the function object fd (K's own) once, then the promise over every base -/
theorem walk_of {l : PySem.W.OpenLaw} {n k : Nat} {q : Program} {loose : List Str} {XP : (Str → Option Value) → Heap → Prop} {YP : World → Heap → Prop} {d : DefRec} {K : Params → PySem.W.Frag} {CX : World → CXT} {sp : World → Sp} {x : Str}
    (hn : l.most = some n) (hn2 : n ≤ sizeLine) (hdf : d.params.defaults = []) (hr : Room k callerA)
    (hY : ∀ (w : World) (h : Heap), YP w h → (K w.params).In h)
    (F : ∀ (w : World) (mg : Str → Option Value) (fa : Addr) (h : Heap), (K w.params).In h → h.Ns mainGlobals mg → mg d.name = some (.ref fa) →
      ∃ fd : FuncData, (∀ (s : Shared) (u : Value), BindsTo s fd ⟨[u], []⟩ [(x, u)]) ∧
        ∀ base : Heap, (K w.params).In base → base.Ns mainGlobals mg → FnOk l.prog w (K w.params) mg base (CX w) k fa fd [x] (sp w))
    (hsp : ∀ (w : World) (H : Hp) (a : Addr) (ns : List Int), ns.length ≤ n → Only H → SqL (K w.params) H a (ns.map V.int) → sp w [.ref a] H (fun v _ => v = .bl true) fun _ _ _ => False)
    (hCX : ∀ (w : World) (H : Hp) (s : Shared) (e : Value) (s' : Shared), CX w [] H s (fun _ _ _ => False) e s' → False) :
    PySem.W.WalkO q loose XP YP l.row.toRowW d [] (fun f vs => PySem.call f vs) := by
  refine Att.attach_call hn hdf fun w s₀ s₁ mg mb fa o pm cd doc a vs ns G Y ho hd hcd hmg hobj hints hlen hg => ?_
  have KX := hY w _ Y
  obtain ⟨fd, hb, hF⟩ := F w mg fa _ KX G.T.g hmg
  exact law_call KX G.T.g G.T.b G.T.builtins G.T.nolimit hg hobj hints (Nat.le_trans hlen hn2) hr hF hb (fun H hO hS => hsp w H a ns hlen hO hS) fun H e s' => hCX w H s₁ e s'
end L2

/- THE LAST THEOREM (shape; LID, My.* are yours):
   My.Adr: a structure of the addresses that your layer names (classes, functions); My.Txt K t: a structure (Prop) of the equations over K;
   My.txt_mk : {K} {implicit addresses ..} (e1 : nsIn K mainGlobals "law" = some (some (.ref f))) (e2 : K.lookup f = some ⟨oc, od, .func (fnOf "law" "law" params body scope dV kV doc pm an cdv ct), sl⟩) (e3 : codeIn K cdv "law" = true) .. : ∃ t, My.Txt K t

set_option maxRecDepth 100000 in
set_option maxHeartbeats 0 in
theorem PySem.Challenge.cw_LID_holds : PySem.Challenge.rw_LID.Holds := by
  w_on; o_law; k_head; (case hw => w_witness2)
  k_fill
  refine L2.walk_of (l := PySem.Challenge.rw_LID) (n := 63) (k := 40) (x := "script") (CX := fun w => ..) (sp := fun _ => My.sp_law) rfl (by decide) rfl ⟨rfl, by decide, by decide⟩ (fun w h Y => PySem.W.kIn_of Y) ?F ?S ?C
  case F =>
    intro w mg fa h KX G hmg
    have T : ∃ t, My.Txt (L2.KOf KX) t := by
      dsimp only [L2.KOf]                          -- K must stand as «<heap const> w.params» for k_is
      refine' My.txt_mk ?e1 ?e2 ?e3 ..
      (case e1 => PySem.W.k_is)                    -- in the order: a name -> its address -> its object -> its parts
      (case e2 => PySem.W.k_is)
      ..
    obtain ⟨t, T⟩ := T
    have e0 := hmg.symm.trans (PySem.W.mg_of KX G T.law)
    cases e0                                       -- fa is the law's own address
    exact ⟨_, fun s u => .of_eq rfl, fun base kb nb => My.law_fn T kb nb⟩     -- if «.of_eq rfl» comes too early: refine' ⟨_, ?b, fun base kb nb => My.law_fn T kb nb⟩; exact fun s u => .of_eq rfl
  case S => exact fun w H a ns hl hO hS => ..
  case C => exact ..
(the tactic k_is has no namespace: write k_is) -/

/-! SHORT WORDS over the layer: a def of the text, its body, what a loop and a test want. -/
namespace L2
open PySem PySem.Spec PyProof.Rows

/-! ### the text by places -/
def defArgs (s : Stmt) : Arguments := match s with
  | .FunctionDef _ a _ _ _ _ _ _ _ _ => a
  | _ => { posonlyargs := [], args := [], vararg := none, kwonlyargs := [], kw_defaults := [], kwarg := none, defaults := [] }
def defBody (s : Stmt) : List Stmt := match s with
  | .FunctionDef _ _ b _ _ _ _ _ _ _ => b
  | _ => []
def defScope (s : Stmt) : Scope := match s with
  | .FunctionDef _ _ _ _ _ _ sc _ _ _ => sc
  | _ => { kind := .function, names := [], isGenerator := false, isCoroutine := false }

/-! ### no exception leaves a def -/
abbrev CX0 : CXT := fun _ _ _ _ _ _ => False
abbrev E0 : XK := fun _ _ _ => False
theorem pass0 {X : Cx} : Passes CX0 X E0 := fun _ _ _ _ _ _ _ h => h.elim

/-! ### a def (or method) of the text as it stands behind the top -/
structure Fun (K : PySem.W.Frag) (x qual : Str) (st : Stmt) (f : Addr) (fd : FuncData) : Prop where
  ex : ∃ (oc : Value) (od : Option Addr) (kV doc pm : Value) (an : Option Addr) (cdv ct : Value) (osl : Array (Option Value)),
    fd = PySem.W.fnOf x qual (defArgs st) (defBody st) (defScope st) .none kV doc pm an cdv ct ∧ K.lookup f = some ⟨oc, od, .func fd, osl⟩ ∧ PySem.W.codeIn K cdv qual = true
  kp : PySem.W.keepIn K (.ref f) = true
section
variable {P : Program} {w : World} {K : PySem.W.Frag} {mg : Str → Option Value} {base : Heap}
/-- THE RULE for a def: its body as a term of rules, and the reading of that term -/
theorem Fun.ok {x qual : Str} {st : Stmt} {f : Addr} {fd : FuncData} {N ps : List Str} {k : Nat} {sp : Sp} (F : Fun K x qual st f fd) (S : FnScope N ps (defScope st)) (len : ∀ vs H Q E, sp vs H Q E → vs.length = ps.length)
    (hbody : ∀ (cdv : Value) (A : Around) (outer : List Env) (s : Shared) (H : Hp) (vs : List V) (Q : VK) (E : XK), Room k (A.deeper (envOfC qual (defScope st) s.heap.objs.size f cdv)) → sp vs H Q E →
      ∃ t, PSs (cxOf CX0 P w K mg base N qual (defScope st) f cdv A outer s H E).nox (defBody st) t ∧ t { nx := fun _ H' => Q .non H', rt := Q } (start N vs) H) : FnOk P w K mg base CX0 (k + 1) f fd ps sp := by
  obtain ⟨oc, od, kV, doc, pm, an, cdv, ct, osl, rfl, lk, hcd⟩ := F.ex
  refine fn_of lk hcd S len fun A outer s H vs Q E hr hsp => ?_
  obtain ⟨t, h, q⟩ := hbody cdv A outer s H vs Q E hr hsp
  exact ⟨t, h.nox, q⟩
/-- how its arguments bind (no defaults): h is «fun _ _ _ _ _ _ us hl => match us, hl with | [_, _], _ => rfl», one _ a parameter -/
theorem Fun.binds {x qual : Str} {st : Stmt} {f : Addr} {fd : FuncData} {ps : List Str} (F : Fun K x qual st f fd)
    (h : ∀ (kV doc pm : Value) (an : Option Addr) (cdv ct : Value) (us : List Value), us.length = ps.length → bindArgs (PySem.W.fnOf x qual (defArgs st) (defBody st) (defScope st) .none kV doc pm an cdv ct) ⟨us, []⟩ = pure (ps.zip us)) : Binds K fd ps [] := by
  obtain ⟨oc, od, kV, doc, pm, an, cdv, ct, osl, rfl, lk, hcd⟩ := F.ex
  exact .all (h kV doc pm an cdv ct)
theorem fun_mk {x qual : Str} {st : Stmt} {f : Addr} {oc : Value} {od an : Option Addr} {osl : Array (Option Value)} {kV doc pm cdv ct : Value} (l : K.lookup f = some ⟨oc, od, .func (PySem.W.fnOf x qual (defArgs st) (defBody st) (defScope st) .none kV doc pm an cdv ct), osl⟩)
    (c : PySem.W.codeIn K cdv qual = true) (k : PySem.W.keepIn K (.ref f) = true) : Fun K x qual st f (PySem.W.fnOf x qual (defArgs st) (defBody st) (defScope st) .none kV doc pm an cdv ct) := ⟨⟨oc, od, kV, doc, pm, an, cdv, ct, osl, rfl, l, c⟩, k⟩
end
theorem small1000 {n : Nat} (h : n ≤ 1000) : n < sizeLine := Nat.lt_of_le_of_lt h (by decide)

/-! ### expressions in short: the name that stands in the i-th slot -/
section
variable {X : Cx}
end

/-! ### tests -/
theorem ite2 {c A B : Prop} [Decidable c] (h1 : c → A) (h2 : ¬ c → B) : if c then A else B := by
  by_cases h : c
  · rw [if_pos h]
    exact h1 h
  · rw [if_neg h]
    exact h2 h

/-! ### heaps -/
/-- all that was tracked is as it was -/
def Same (H H' : Hp) : Prop := ∀ b o, H b = some o → H' b = some o
theorem Same.refl (H : Hp) : Same H H := fun _ _ h => h
theorem Same.trans {H H1 H2 : Hp} (a : Same H H1) (b : Same H1 H2) : Same H H2 := fun c o h => b c o (a c o h)
theorem Same.seq {K : PySem.W.Frag} {H H' : Hp} {a : Addr} {xs : List V} (e : Same H H') (h : SqL K H a xs) : SqL K H' a xs := by
  rcases h with (h | ⟨o, h⟩) | h
  · exact .inl (.inl (e _ _ h))
  · exact .inl (.inr ⟨o, e _ _ h⟩)
  · exact .inr h

end L2


set_option Elab.async false
set_option linter.all false
set_option maxRecDepth 100000
set_option maxHeartbeats 4000000

namespace L2
open PySem PySem.Spec PyProof.Rows

/-! ### lists of pairs as tables -/
section
variable {κ : Type} [DecidableEq κ]
def valV (kvs : List (κ × V)) (k : κ) : Option V := (kvs.find? fun kv => decide (kv.1 = k)).map (·.2)
/-- in its place, or at the end -/
def putK (kvs : List (κ × V)) (k : κ) (v : V) : List (κ × V) :=
  if (kvs.any fun kv => decide (kv.1 = k)) = true then kvs.map (fun kv => if kv.1 = k then (kv.1, v) else kv) else kvs ++ [(k, v)]

theorem valV_pos {p : κ × V} {r : List (κ × V)} {k : κ} (e : p.1 = k) : valV (p :: r) k = some p.2 := by simp [valV, List.find?_cons, e]
theorem valV_neg {p : κ × V} {r : List (κ × V)} {k : κ} (e : ¬ p.1 = k) : valV (p :: r) k = valV r k := by simp [valV, List.find?_cons, e]
theorem length_putK (kvs : List (κ × V)) (k : κ) (v : V) : (putK kvs k v).length ≤ kvs.length + 1 := by
  unfold putK
  split
  · rw [List.length_map]; omega
  · rw [List.length_append, List.length_cons, List.length_nil]; omega


/-- raw tables of the same keys -/
theorem KV.val {kvs : List (κ × V)} {vs : List (κ × Value)} (r : KV kvs vs) (k : κ) : RelO (valV kvs k) (valueAt vs k) := by
  unfold KV at r
  induction r with
  | nil => exact True.intro
  | @cons p q ps qs h t ih =>
    obtain ⟨h1, h2⟩ := h
    by_cases e : p.1 = k
    · have e' : q.1 = k := h1.symm.trans e
      have b : valueAt (q :: qs) k = some q.2 := by simp [valueAt, List.find?_cons, e']
      rw [valV_pos e, b]; exact h2
    · have e' : ¬ q.1 = k := fun z => e (h1.trans z)
      have b : valueAt (q :: qs) k = valueAt qs k := by simp [valueAt, List.find?_cons, e']
      rw [valV_neg e, b]; exact ih
theorem KV.any {kvs : List (κ × V)} {vs : List (κ × Value)} (r : KV kvs vs) (k : κ) : (kvs.any fun kv => decide (kv.1 = k)) = vs.any fun kv => decide (kv.1 = k) := by
  unfold KV at r
  induction r with
  | nil => rfl
  | cons h t ih => rw [List.any_cons, List.any_cons, ih, h.1]
theorem KV.repl {kvs : List (κ × V)} {vs : List (κ × Value)} (r : KV kvs vs) (k : κ) {y : V} {u : Value} (ry : RelV y u) :
    KV (kvs.map fun kv => if kv.1 = k then (kv.1, y) else kv) (vs.map fun kv => if kv.1 = k then (kv.1, u) else kv) := by
  unfold KV at r ⊢
  induction r with
  | nil => exact .nil
  | @cons p q ps qs h t ih =>
    rw [List.map_cons, List.map_cons]
    refine .cons ?_ ih
    obtain ⟨h1, h2⟩ := h
    by_cases e : p.1 = k
    · rw [if_pos e, if_pos (h1.symm.trans e)]; exact ⟨h1, ry⟩
    · rw [if_neg e, if_neg (fun z => e (h1.trans z))]; exact ⟨h1, h2⟩
theorem KV.put {kvs : List (κ × V)} {vs : List (κ × Value)} (r : KV kvs vs) (k : κ) {y : V} {u : Value} (ry : RelV y u) : KV (putK kvs k y) (stored vs k u) := by
  unfold putK stored
  rw [r.any k]
  by_cases e : (vs.any fun kv => decide (kv.1 = k)) = true
  · rw [if_pos e, if_pos e]; exact r.repl k ry
  · rw [if_neg e, if_neg e]; exact Paired.snoc r ⟨rfl, ry⟩
end


/-! ### a tracked dict, its keys ints and texts or tuples of these -/
theorem kV_is {P : Program} {w : World} {k : Key} {u : Value} (r : RelV (kV k) u) : (mixKind P w).is k u = true := by
  cases k with
  | inl i => obtain ⟨t, e⟩ := (show ∃ t, u = Value.int i t from r); subst e; exact mixKind_int P w i t
  | inr x => obtain ⟨t, e⟩ := (show ∃ t, u = Value.str x t from r); subst e; exact mixKind_str P w x t
theorem items_are {P : Program} {w : World} : ∀ {ks : List Key} {us : List Value}, Vals (ks.map kV) us → ItemsAre (mixKind P w) ks us
  | [], _, r => by rw [List.map_nil] at r; cases r; exact .nil
  | k :: ks, _, r => by
    rw [List.map_cons] at r
    cases r with
    | cons h t => exact .cons (kV_is h) (items_are t)

/-- raw entries of a dict with tuple keys -/
abbrev KT (H : Hp) : List (List Key × V) → List (List Key × Addr × Value) → Prop := Paired fun p q => p.1 = q.1 ∧ H q.2.1 = some (.tup (p.1.map kV)) ∧ RelV p.2 q.2.2
theorem KT.val {H : Hp} {kvs : List (List Key × V)} {xs : List (List Key × Addr × Value)} (r : KT H kvs xs) (k : List Key) : RelO (valV kvs k) ((atKey xs k).map (·.2)) := by
  induction r with
  | nil => exact True.intro
  | @cons p q ps qs h t ih =>
    obtain ⟨h1, _, h2⟩ := h
    by_cases e : p.1 = k
    · have e' : q.1 = k := h1.symm.trans e
      have b : atKey (q :: qs) k = some q.2 := by simp [atKey, List.find?_cons, e']
      rw [valV_pos e, b]; exact h2
    · have e' : ¬ q.1 = k := fun z => e (h1.trans z)
      have b : atKey (q :: qs) k = atKey qs k := by simp [atKey, List.find?_cons, e']
      rw [valV_neg e, b]; exact ih

section
variable {P : Program} {w : World} {H : Hp} {h : Heap} {a : Addr}
theorem rd_of {u : HO} (ok : HOk P w H h) (e : Rd H a u) : ObjOk P w H h a u := e.ok ok
theorem dk_rd {kvs : List (Key × V)} (ok : HOk P w H h) (e : Rd H a (.dK kvs)) : kvs.length ≤ sizeLine ∧ (a == sysModules) = false ∧ ∃ vs, KV kvs vs ∧ h.DictOf (mixKind P w) a vs :=
  show ObjOk P w H h a (.dK kvs) from rd_of ok e
theorem dk_of {kvs : List (Key × V)} (ok : HOk P w H h) (e : H a = some (.dK kvs)) : kvs.length ≤ sizeLine ∧ (a == sysModules) = false ∧ ∃ vs, KV kvs vs ∧ h.DictOf (mixKind P w) a vs := dk_rd ok (.inl e)
/-- a tracked tuple of ints and texts is a key -/
theorem key_of {ks : List Key} (ok : HOk P w H h) (e : H a = some (.tup (ks.map kV))) : (tupleKind (mixKind P w)).is h ks a := by
  obtain ⟨_, its, r, ⟨o, h1, h2, n, h3⟩, _⟩ := (show ObjOk P w H h a (.tup (ks.map kV)) from ok a _ e)
  exact ⟨o, its.toArray, n, h1, h2, h3, by simpa using items_are r⟩
theorem dt_rd {kvs : List (List Key × V)} (ok : HOk P w H h) (e : Rd H a (.dT kvs)) : kvs.length ≤ sizeLine ∧ (a == sysModules) = false ∧
    ∃ xs, KT H kvs xs ∧ h.DictOfH (tupleKind (mixKind P w)) a xs := by
  obtain ⟨z, y, xs, r, o, es, ep, h1, h2, h3, h4, h5⟩ := (show ObjOk P w H h a (.dT kvs) from rd_of ok e)
  refine ⟨z, y, xs, r, o, es, ep, h1, h2, h3, h4, fun x hx => ?_, h5⟩
  have all : ∀ {l : List (List Key × V)} {m : List (List Key × Addr × Value)}, KT H l m → ∀ x ∈ m, (tupleKind (mixKind P w)).is h x.1 x.2.1 := by
    intro l m q
    induction q with
    | nil => intro x hx; exact nomatch hx
    | @cons p q ps qs hq t ih =>
      intro x hx
      rcases List.mem_cons.mp hx with e | hx
      · subst e
        exact key_of ok (by rw [← hq.1]; exact hq.2.1)
      · exact ih x hx
  exact all r x hx
end

/-- what the dict at a holds at the key y -/
def DGet (H : Hp) (a : Addr) (y : V) (r : Option V) : Prop :=
  (∃ kvs k, Rd H a (.dK kvs) ∧ y = kV k ∧ r = valV kvs k) ∨ ∃ kvs k b, Rd H a (.dT kvs) ∧ y = .ref b ∧ H b = some (.tup (k.map kV)) ∧ r = valV kvs k
theorem DGet.k {H : Hp} {a : Addr} {kvs : List (Key × V)} {k : Key} (e : H a = some (.dK kvs)) : DGet H a (kV k) (valV kvs k) := .inl ⟨kvs, k, .inl e, rfl, rfl⟩


section
variable {X : Cx} {pins : List (Addr × Obj)} {σ : St} {H : Hp} {s : Shared} {a : Addr} {y v : V} {u r : Value} {o : Option V} {A : Around} {E : Value → Shared → Prop}

theorem Inv.big (I : Inv X pins σ H s) : sysModules < s.heap.objs.size := by
  have h : mainGlobals < s.heap.objs.size := (I.mod.glob.keeps I.bk).lt
  exact Nat.lt_trans (by decide) h

/-- d[y], there -/
theorem d_getItem {Q : Value → Shared → Prop} (hu : A.units + 1 < cLine) (I : Inv X pins σ H s) (g : DGet H a y (some v)) (ry : RelV y u) (h : ∀ w' s', Inv X pins σ H s' → RelV v w' → Q w' s') :
    wpAny (model X.prog X.w) A (getItem (.ref a) u) Q E s := by
  rcases g with ⟨kvs, k, e, ey, l⟩ | ⟨kvs, k, b, e, ey, eb, l⟩
  · subst ey
    obtain ⟨z, hd, vs, rel, dd⟩ := dk_rd I.hok e
    obtain ⟨w', hw, rw'⟩ := RelO.some_of (v := v) (o := valueAt vs k) (by rw [l]; exact rel.val k)
    exact wpAny_getItem_of (kV_is ry) dd.mapOf hw (h w' _ (I.tok _) rw')
  · subst ey
    cases (show u = Value.ref b from ry)
    obtain ⟨z, hd, xs, rel, dd⟩ := dt_rd I.hok e
    obtain ⟨w', hw, rw'⟩ := RelO.some_of (v := v) (o := (atKey xs k).map (·.2)) (by rw [l]; exact rel.val k)
    obtain ⟨p, hp, hp2⟩ := Option.map_eq_some_iff.mp hw
    refine wpAny_getItem_heap (tupleKind_room_in1 hu) (key_of I.hok eb) dd hp ?_
    rw [hp2]
    exact h w' _ (I.tok _) rw'
/-- a dict's object is replaced -/
theorem d_write {h' : Heap} {t' : Nat} {ob : HO} (I : Inv X pins σ H s) (mu : Mut (H a)) (hs : Heap.SameBut a s.heap h') (he : ∃ q, h'.get? a = some q) (new : ObjOk X.prog X.w (upd H a ob) h' a ob) :
    Inv X pins σ (upd H a ob) { s with heap := h', toks := t' } :=
  I.write (x := a) (e := a) mu (.inl rfl) (fun b q hb z => (hs.2 b hb).trans z) he new
theorem dk_new {P : Program} {w : World} {H' : Hp} {h' : Heap} {kvs : List (Key × V)} {vs : List (Key × Value)} (z : kvs.length ≤ sizeLine) (hd : (a == sysModules) = false) (rel : KV kvs vs) (dd : h'.DictOf (mixKind P w) a vs) :
    ObjOk P w H' h' a (.dK kvs) := ⟨z, hd, vs, rel, dd⟩
end

section
variable {X : Cx} {pins : List (Addr × Obj)} {σ : St} {H : Hp} {s : Shared} {a : Addr} {kvs : List (Key × V)} {k : Key} {u : Value} {A : Around} {E : Value → Shared → Prop}
end


/-! ### readings and rules -/
/-- the element of a subscription, not a slice -/
def NoSl (i : Expr) : Prop := ∀ ov iv, subscripted i false ov iv = operate [ov, iv] (getItem ov iv)
theorem subD_of {prog : Program} {w : World} {A : Around} {E : Value → Shared → Prop} {s : Shared} {env : Env} {value slice : Expr} {pos : Pos} {T id : String} {Q : Value → Shared → Prop}
    (hl : typeLookup (.type T) "__getitem__" = pure (some (.builtin id))) (hs : NoSl slice)
    (h : wpAny (model prog w) A (eval value env) (fun o s₁ => wpAny (model prog w) A (eval slice env) (fun i s₂ => s₂.TypeIs o T ∧ wpAny (model prog w) A (getItem o i) Q E s₂) E s₁) E s) :
    wpAny (model prog w) A (eval (.Subscript value slice pos) env) Q E s := by
  refine Subscript_ (wpAny_mono h (fun o s₁ h₁ => wpAny_mono h₁ (fun i s₂ h₂ => ?_) fun _ _ x => x) fun _ _ x => x)
  obtain ⟨hT, h₂⟩ := h₂
  unfold subscriptTail
  refine wpAny_bind ?_
  rw [getitemInPython_of_ne hT.not_modules]
  refine wpAny_bind (wpAny_specialOf hT hl ?_)
  have fin : wpAny (model prog w) A (subscripted slice false o i) (fun r s₃ => wpAny (model prog w) A (letTemporaryGo value o r >>= fun _ => pure r) Q E s₃) E s₂ := by
    rw [hs o i]
    exact wpAny_operating (wpAny_mono h₂ (fun r s₃ h₃ => wpAny_bind (wpAny_letTemporaryGo (wpAny_pure h₃))) fun _ _ x => x)
  first
    | exact wpAny_pure (wpAny_bind fin)
    | exact wpAny_bind (wpAny_pure (wpAny_bind fin))
    | exact wpAny_bind fin

theorem dict_typeIs {X : Cx} {pins : List (Addr × Obj)} {σ : St} {H : Hp} {s : Shared} {a : Addr} {y : V} {o : Option V} (I : Inv X pins σ H s) (g : DGet H a y o) : s.TypeIs (.ref a) "dict" := by
  rcases g with ⟨kvs, k, e, _, _⟩ | ⟨kvs, k, b, e, _, _, _⟩
  · obtain ⟨_, _, vs, _, dd⟩ := dk_rd I.hok e
    exact dd.typeIs
  · obtain ⟨_, _, xs, _, dd⟩ := dt_rd I.hok e
    exact dd.typeIs

/-- d[y] -/
def tDGet (td ty : TE) : TE := fun σ H Q => td σ H fun x H1 => ty σ H1 fun y H2 => ∃ a v, x = .ref a ∧ DGet H2 a y (some v) ∧ Q v H2

section
variable {X : Cx} {o i e value : Expr} {pos pos' tpos : Pos} {td ty tv : TE}
theorem pe_dget (hu : X.A.units + 1 < cLine) (ho : PE X o td) (hi : PE X i ty) (hs : NoSl i) : PE X (.Subscript o i pos) (tDGet td ty) := by
  intro pins s σ H Q I h
  refine subD_of PySem.F.slot_dict_getitem.lookup hs (thn (ho pins s σ H _ I h) fun u s1 ⟨x, H1, I1, rx, q1⟩ => thn (hi pins s1 σ H1 _ I1 q1) fun iv s2 ⟨y, H2, I2, ry, a, v, ex, g, q2⟩ => ?_)
  subst ex
  obtain rfl : u = Value.ref a := rx
  exact ⟨dict_typeIs I2 g, d_getItem hu I2 g ry fun w' s3 I3 rw' => ⟨v, H2, I3, rw', q2⟩⟩
end


/-! ### displays -/
theorem dk_empty {P : Program} {w : World} {H : Hp} (h : Heap) (hb : sysModules < h.objs.size) : ObjOk P w H (h.push { cls := .type "dict", data := .dict #[] }) h.objs.size (.dK []) :=
  ⟨Nat.zero_le _, beq_eq_false_iff_ne.mpr (Ne.symm (Nat.ne_of_lt hb)), [], .nil, Heap.DictOf.new h⟩
/-- {}, to be a dict of the kind that is wanted -/
def tDNewK : TE := fun _ H Q => ∀ p, H p = none → Q (.ref p) (upd H p (.dK []))
section
variable {X : Cx} {pos : Pos}
theorem pe_dnewK : PE X (.Dict [] [] pos) tDNewK := fun pins s σ H Q I h =>
  wpAny_Dict_empty ⟨.ref s.heap.objs.size, _, I.laid (a := s.heap.objs.size) (o := .dK []) (t' := s.toks) (fun _ _ q => Heap.get?_push_of_some _ q) (Nat.le_refl _) (dk_empty s.heap I.big), rfl, h _ (I.hok.fresh (Nat.le_refl _))⟩
end

/-- the pairs of a display, from the left -/
def tPairs : List (TE × TE) → St → Hp → (List (V × V) → Hp → Prop) → Prop
  | [], _, H, Q => Q [] H
  | (tk, tv) :: r, σ, H, Q => tk σ H fun x H1 => tv σ H1 fun y H2 => tPairs r σ H2 fun ps H3 => Q ((x, y) :: ps) H3
abbrev VV : List (V × V) → List (Value × Value) → Prop := Paired fun p q => RelV p.1 q.1 ∧ RelV p.2 q.2
def PPs (X : Cx) (pos : Pos) (keys : List (Option Expr)) (values : List Expr) (trs : List (TE × TE)) : Prop :=
  ∀ (pins : List (Addr × Obj)) (s : Shared) (σ : St) (H : Hp) (Q : List (V × V) → Hp → Prop), Inv X pins σ H s → tPairs trs σ H Q →
    wpAny (model X.prog X.w) X.A (evalPairs (pairTrees keys values X.env pos)) (fun vs s' => ∃ ps H', Inv X pins σ H' s' ∧ VV ps vs ∧ Q ps H') X.xe s
theorem pps_nil {X : Cx} {pos : Pos} : PPs X pos [] [] [] := fun pins s σ H Q I h => pairTrees_nil_walk ⟨[], H, I, .nil, h⟩
theorem pps_cons {X : Cx} {pos : Pos} {k v : Expr} {ks : List (Option Expr)} {vs : List Expr} {tk tv : TE} {trs : List (TE × TE)} (hk : PE X k tk) (hv : PE X v tv) (hr : PPs X pos ks vs trs) :
    PPs X pos (some k :: ks) (v :: vs) ((tk, tv) :: trs) := fun pins s σ H Q I h =>
  pairTrees_cons_walk (thn (hk pins s σ H _ I h) fun u s1 ⟨x, H1, I1, rx, q1⟩ => thn (hv pins s1 σ H1 _ I1 q1) fun w2 s2 ⟨y, H2, I2, ry, q2⟩ =>
    thn (hr pins s2 σ H2 _ I2 q2) fun ws s3 ⟨ps, H3, I3, rel, q3⟩ => ⟨(x, y) :: ps, H3, I3, .cons ⟨rx, ry⟩ rel, q3⟩)

def mergeK (kvs more : List (Key × V)) : List (Key × V) := more.foldl (fun acc kv => putK acc kv.1 kv.2) kvs
theorem KV.merge : ∀ {more : List (Key × V)} {rs : List (Key × Value)} {kvs : List (Key × V)} {vs : List (Key × Value)}, KV more rs → KV kvs vs → KV (mergeK kvs more) (merged vs rs) := by
  intro more rs kvs vs r
  unfold KV at r
  induction r generalizing kvs vs with
  | nil => intro q; exact q
  | @cons p q ps qs h t ih =>
    intro r0
    have e : KV (putK kvs p.1 p.2) (stored vs q.1 q.2) := by
      have := r0.put p.1 h.2
      rw [← h.1]; exact this
    exact ih e
theorem length_mergeK : ∀ (more kvs : List (Key × V)), (mergeK kvs more).length ≤ kvs.length + more.length
  | [], kvs => by show kvs.length ≤ kvs.length + 0; omega
  | p :: r, kvs => by
    have h1 := length_mergeK r (putK kvs p.1 p.2)
    have h2 := length_putK kvs p.1 p.2
    show (mergeK (putK kvs p.1 p.2) r).length ≤ _
    rw [List.length_cons]; omega
theorem carries_of {P : Program} {w : World} : ∀ {kvs : List (Key × V)} {ws : List (Value × Value)}, VV (kvs.map fun kv => (kV kv.1, kv.2)) ws → ∃ rs, Carries (mixKind P w) ws rs ∧ KV kvs rs
  | [], _, r => by rw [List.map_nil] at r; cases r; exact ⟨[], True.intro, .nil⟩
  | p :: kvs, _, r => by
    rw [List.map_cons] at r
    cases r with
    | @cons a b as bs h t =>
      obtain ⟨rs, c, q⟩ := carries_of (P := P) (w := w) t
      obtain ⟨b1, b2⟩ := b
      exact ⟨(p.1, b2) :: rs, ⟨kV_is h.1, rfl, c⟩, .cons ⟨rfl, h.2⟩ q⟩
/-- {k: v, ..} with keys ints and texts; the new dict stands empty while the pairs are made -/
def tDisp (trs : List (TE × TE)) : TE := fun σ H Q => ∀ p, H p = none → tPairs trs σ (upd H p (.dK [])) fun ps H2 => H2 p = some (.dK []) ∧ ∃ kvs : List (Key × V), ps = kvs.map (fun kv => (kV kv.1, kv.2)) ∧ kvs.length ≤ 15 ∧ Q (.ref p) (upd H2 p (.dK (mergeK [] kvs)))
theorem pe_disp {X : Cx} {pos : Pos} {keys : List (Option Expr)} {values : List Expr} {trs : List (TE × TE)} (h : PPs X pos keys values trs) (hall : keys.all (·.isSome) = true) (hl : keys.length = values.length) (h0 : keys ≠ [])
    (h15 : keys.length ≤ 15) : PE X (.Dict keys values pos) (tDisp trs) := by
  intro pins s σ H Q I q
  have hn := I.hok.fresh (Nat.le_refl s.heap.objs.size)
  have I1 := I.laid (a := s.heap.objs.size) (o := .dK []) (h' := s.heap.push { cls := .type "dict", data := .dict #[] }) (t' := s.toks) (fun _ _ q => Heap.get?_push_of_some _ q) (Nat.le_refl _) (dk_empty s.heap I.big)
  refine wpAny_Dict_walk (knd := mixKind X.prog X.w) hall hl h0 h15 (thn (h pins _ σ _ _ I1 (q _ hn)) fun ws s2 ⟨ps, H2, I2, rel, e, kvs, ep, lk, q2⟩ => ?_)
  subst ep
  obtain ⟨rs, c, rk⟩ := carries_of (P := X.prog) (w := X.w) rel
  obtain ⟨z, hd, vs0, r0, dd⟩ := dk_of I2.hok e
  cases r0
  refine ⟨rs, c, dd, fun h' dd' hs => ⟨.ref s.heap.objs.size, _, ?_, rfl, q2⟩⟩
  have hz : (mergeK [] kvs).length ≤ sizeLine := by
    have h1 := length_mergeK kvs []
    rw [List.length_nil] at h1
    rw [sizeLine_eq]; omega
  have he : ∃ q, h'.get? s.heap.objs.size = some q := let ⟨q, _, _, hq, _⟩ := dd'; ⟨q, hq⟩
  exact d_write I2 (by rw [e]; exact True.intro) hs he (dk_new hz hd (rk.merge .nil) dd')


/-! ### methods -/
/-- a method call o.m(e) of a built-in, with one argument: what must be seen of the text -/
structure M1 (X : Cx) (o : Expr) (m : Str) (apos : Pos) (e : Expr) (cpos : Pos) : Prop where
  base : attributeBase o m X.env (eval o X.env) = eval o X.env
  few : ((backTo cpos (starEach [e] X.env)).all (fun x => !x.1) && (backToKw cpos (keywordEach [] X.env)).all (fun x => x.1.isSome)
    && decide (([e] : List Expr).length + ([] : List Keyword).length + (if ([] : List Keyword).isEmpty then 0 else 1) < 30)) = true
  line : (apos.endLine == cpos.line) = true
  trees : backTo cpos (starEach [e] X.env) = [(false, eval e X.env)]
structure M2 (X : Cx) (o : Expr) (m : Str) (apos : Pos) (e f : Expr) (cpos : Pos) : Prop where
  base : attributeBase o m X.env (eval o X.env) = eval o X.env
  few : ((backTo cpos (starEach [e, f] X.env)).all (fun x => !x.1) && (backToKw cpos (keywordEach [] X.env)).all (fun x => x.1.isSome)
    && decide (([e, f] : List Expr).length + ([] : List Keyword).length + (if ([] : List Keyword).isEmpty then 0 else 1) < 30)) = true
  line : (apos.endLine == cpos.line) = true
  trees : backTo cpos (starEach [e, f] X.env) = [(false, eval e X.env), (false, eval f X.env)]


section
variable {X : Cx} {pins : List (Addr × Obj)} {σ : St} {H : Hp} {s : Shared} {a : Addr} {y d : V} {u r : Value} {o : Option V} {A : Around} {E : Value → Shared → Prop}
end

section
variable {X : Cx} {o e f : Expr} {apos cpos : Pos} {td ty tx : TE}
end

/-! ### dict(d): a copy -/
section
variable {X : Cx} {pins : List (Addr × Obj)} {σ : St} {H : Hp} {s : Shared} {a : Addr} {kvs : List (Key × V)} {A : Around} {E : Value → Shared → Prop}
end


section
variable {X : Cx} {pins : List (Addr × Obj)} {σ : St} {H : Hp} {s : Shared} {a : Addr} {y : V} {u : Value} {A : Around} {E : Value → Shared → Prop}
end
end L2


set_option Elab.async false
set_option linter.all false
set_option maxRecDepth 100000
set_option maxHeartbeats 4000000
/-! A comprehension as a rule of the layer: its block is a context of its own, whose captured names read the outer slots. -/
namespace L2
open PySem PySem.Spec PyProof.Rows

/-- the block's context -/
def cxComp (X : Cx) (N' : List Str) (scope : Scope) (cl : List (Str × Addr)) (C : Addr) (s₀ : Shared) (H₀ : Hp) (fp : List Addr) : Cx :=
  { prog := X.prog, w := X.w, K := X.K, mg := X.mg, base := X.base, A := X.A, N := N', s₀ := s₀, H₀ := H₀, env := compEnvC scope cl C X.env, outer := X.stack, stack := X.stack, ex := fp, fn := fun _ => false,
    calm := X.calm, pn := [], xe := fun _ _ => False }

/-- what is seen of the two scopes: N, osc the outer one's names and scope; src: the outer slot of a captured name -/
structure CompOk (N : List Str) (osc : Scope) (N' : List Str) (src : List (Option Nat)) (scope : Scope) : Prop where
  kind : scope.kind = .function
  nocell : ∀ y ∈ scope.names, y.2 ≠ .cell
  loc : ∀ y ∈ scope.names, y.2 = .local → scope.names.lookup y.1 = some .local
  frees : ∀ y ∈ scope.names, y.2 = .free → osc.names.lookup y.1 = some .cell ∨ osc.names.lookup y.1 = some .free
  nd : N'.Nodup
  len : src.length = N'.length
  src : ∀ q ∈ src.zip N', ∀ j ∈ q.1.toList, N[j]? = some q.2 ∧ scope.names.lookup q.2 = some .free

theorem closure_go {env : Env} : ∀ (l : List (Str × NameKind)) (acc : List (Str × Addr)), (∀ x c, acc.lookup x = some c → env.cells.lookup x = some c) → (∀ y ∈ l, y.2 = .free → ∃ c, env.cells.lookup y.1 = some c) →
    ∃ cl, (forIn l acc fun (x : Str × NameKind) (r : List (Str × Addr)) => (if (x.2 == NameKind.free) = true then (cellOf env x.1 >>= fun a => pure (ForInStep.yield ((x.1, a) :: r))) else pure (ForInStep.yield r) : Sem (ForInStep (List (Str × Addr))))) = pure cl ∧
      (∀ x c, cl.lookup x = some c → env.cells.lookup x = some c) ∧ (∀ y ∈ l, y.2 = .free → ∃ c, cl.lookup y.1 = some c) ∧ (∀ x c, acc.lookup x = some c → ∃ d, cl.lookup x = some d)
  | [], acc, h, _ => ⟨acc, rfl, h, fun _ z => (nomatch z), fun x c e => ⟨c, e⟩⟩
  | (n, k) :: l, acc, h, hf => by
    by_cases hk : k = .free
    · subst hk
      obtain ⟨c, hc⟩ := hf (n, .free) List.mem_cons_self rfl
      have hacc : ∀ x d, ((n, c) :: acc).lookup x = some d → env.cells.lookup x = some d := fun x d e => by
        rw [List.lookup_cons] at e
        cases hx : x == n with
        | true =>
          rw [hx] at e
          have e1 : x = n := by simpa using hx
          have e2 : c = d := by simpa using e
          rw [e1, ← e2]; exact hc
        | false =>
          rw [hx] at e
          exact h x d e
      obtain ⟨cl, e1, e2, e3, e4⟩ := closure_go l ((n, c) :: acc) hacc fun y hy => hf y (List.mem_cons_of_mem _ hy)
      refine ⟨cl, ?_, e2, fun y hy hyf => ?_, fun x d e => ?_⟩
      · rw [List.forIn_cons]
        have : cellOf env n = pure c := by unfold cellOf; rw [hc]
        simp only [beq_self_eq_true, if_true, this, pure_bind]
        exact e1
      · rcases List.mem_cons.mp hy with rfl | hy
        · exact e4 n c (by simp)
        · exact e3 y hy hyf
      · by_cases hx : x = n
        · subst hx; exact e4 x c (by simp)
        · have hb : (x == n) = false := by simpa using hx
          exact e4 x d (by rw [List.lookup_cons, hb]; exact e)
    · obtain ⟨cl, e1, e2, e3, e4⟩ := closure_go l acc h fun y hy => hf y (List.mem_cons_of_mem _ hy)
      refine ⟨cl, ?_, e2, fun y hy hyf => ?_, e4⟩
      · rw [List.forIn_cons]
        have hb : (k == NameKind.free) = false := by simpa using hk
        simp only [hb, Bool.false_eq_true, if_false, pure_bind]
        exact e1
      · rcases List.mem_cons.mp hy with rfl | hy
        · exact absurd hyf hk
        · exact e3 y hy hyf

theorem closure_of {scope : Scope} {env : Env} (hf : ∀ y ∈ scope.names, y.2 = .free → ∃ c, env.cells.lookup y.1 = some c) :
    ∃ cl, closureFor scope env = pure cl ∧ (∀ x c, cl.lookup x = some c → env.cells.lookup x = some c) ∧ ∀ y ∈ scope.names, y.2 = .free → ∃ c, cl.lookup y.1 = some c := by
  obtain ⟨cl, e1, e2, e3, _⟩ := closure_go (env := env) scope.names [] (fun _ _ z => by simp at z) hf
  refine ⟨cl, ?_, e2, e3⟩
  unfold closureFor
  refine Eq.trans ?_ (congrArg (fun t => t >>= fun c => (pure c : Sem (List (Str × Addr)))) e1)
  first
    | rfl
    | (congr 1)

/-- the kind of a name in the block -/
theorem relabel_free {scope : Scope} {env : Env} : ∀ {x : Str}, (relabel scope env).names.lookup x = some .cell ∨ (relabel scope env).names.lookup x = some .free → (∀ y ∈ scope.names, y.2 ≠ .cell) → (x, NameKind.free) ∈ scope.names := by
  intro x h hc
  have key : ∀ (l : List (Str × NameKind)), (∀ y ∈ l, y.2 ≠ .cell) → ((l.map fun (n, k) => if (k == NameKind.free && env.scope.kind == .function && env.kindOf n == some .cell) then (n, NameKind.cell) else (n, k)).lookup x = some .cell ∨
      (l.map fun (n, k) => if (k == NameKind.free && env.scope.kind == .function && env.kindOf n == some .cell) then (n, NameKind.cell) else (n, k)).lookup x = some .free) → (x, NameKind.free) ∈ l := by
    intro l
    induction l with
    | nil => intro _ h; simp at h
    | cons y l ih =>
      obtain ⟨n, k⟩ := y
      intro hc h
      have hc' : ∀ y ∈ l, y.2 ≠ .cell := fun y hy => hc y (List.mem_cons_of_mem _ hy)
      have hk : k ≠ .cell := hc (n, k) List.mem_cons_self
      rw [List.map_cons] at h
      by_cases hx : x = n
      · subst hx
        by_cases hf : k = .free
        · subst hf; exact List.mem_cons_self
        · exfalso
          have hb : (k == NameKind.free) = false := by simpa using hf
          simp only [hb, Bool.false_and, Bool.false_eq_true, if_false, List.lookup_cons, beq_self_eq_true] at h
          rcases h with h | h
          · exact hk (Option.some.inj h)
          · exact hf (Option.some.inj h)
      · refine List.mem_cons_of_mem _ (ih hc' ?_)
        have hb : (x == n) = false := by simpa using hx
        by_cases hq : (k == NameKind.free && env.scope.kind == .function && env.kindOf n == some .cell) = true
        · simp only [hq, if_true, List.lookup_cons, hb] at h
          exact h
        · simp only [hq, Bool.false_eq_true, if_false, List.lookup_cons, hb] at h
          exact h
  exact key _ hc h
theorem relabel_look {scope : Scope} {env : Env} {x : Str} (h : scope.names.lookup x = some .free) : (relabel scope env).names.lookup x = some .cell ∨ (relabel scope env).names.lookup x = some .free := by
  have key : ∀ (l : List (Str × NameKind)), l.lookup x = some .free → ((l.map fun (n, k) => if (k == NameKind.free && env.scope.kind == .function && env.kindOf n == some .cell) then (n, NameKind.cell) else (n, k)).lookup x = some .cell ∨
      (l.map fun (n, k) => if (k == NameKind.free && env.scope.kind == .function && env.kindOf n == some .cell) then (n, NameKind.cell) else (n, k)).lookup x = some .free) := by
    intro l
    induction l with
    | nil => intro h; simp at h
    | cons y l ih =>
      obtain ⟨n, k⟩ := y
      intro h
      rw [List.map_cons]
      rw [List.lookup_cons] at h
      cases hx : x == n with
      | true =>
        rw [hx] at h
        have hk : k = .free := Option.some.inj h
        subst hk
        by_cases hq : (NameKind.free == NameKind.free && env.scope.kind == .function && env.kindOf n == some .cell) = true
        · simp only [hq, if_true, List.lookup_cons, hx]; exact .inl trivial
        · simp only [hq, Bool.false_eq_true, if_false, List.lookup_cons, hx]; exact .inr trivial
      | false =>
        rw [hx] at h
        by_cases hq : (k == NameKind.free && env.scope.kind == .function && env.kindOf n == some .cell) = true
        · simp only [hq, if_true, List.lookup_cons, hx]; exact ih h
        · simp only [hq, Bool.false_eq_true, if_false, List.lookup_cons, hx]; exact ih h
  exact key _ h

/-- the slots at the block's entry -/
def capt (src : List (Option Nat)) (σ : St) : St := src.map fun o => o.bind fun j => (σ[j]?).join

section
variable {X : Cx} {pins : List (Addr × Obj)} {σ : St} {H : Hp} {s : Shared} {N' : List Str} {src : List (Option Nat)} {scope osc : Scope} {cl : List (Str × Addr)} {fp : List Addr}

/-- into the block: the state behind newFunctionEnv -/
theorem comp_enter {h₁ : Heap} {tk : Nat} (I : Inv X pins σ H s) (hf : ∀ b ∈ fp, FpOk X pins H b) (hlt : ∀ b ∈ fp, b < s.heap.objs.size) (ok : CompOk X.N osc N' src scope) (hsc : X.env.scope = osc)
    (c1 : ∀ x c, cl.lookup x = some c → X.env.cells.lookup x = some c) (c2 : ∀ y ∈ scope.names, y.2 = .free → ∃ c, cl.lookup y.1 = some c)
    (hn : h₁.Ns s.heap.objs.size fun _ => none) (hk : ∀ b o, s.heap.get? b = some o → h₁.get? b = some o) :
    Inv (cxComp X N' scope cl s.heap.objs.size s H fp) [] (capt src σ) H { s with heap := h₁, toks := tk } := by
  have hkind : (relabel scope X.env).kind = .function := ok.kind
  refine ⟨⟨I.ok.mod, hkind, I.ok.glob, I.ok.blt, Nat.le_refl _, fun x y c h1 h2 => I.ok.inj x y c (c1 x c h1) (c1 y c h2), fun x hx => ?_, fun x c z _ => (by cases z), I.ok.hd, I.ok.frames, .inl rfl, fun b hb => ?_, I.bs, Nat.le_trans I.ok.bsz I.sz, fun b o e hb => ?_, fun b hb z => ?_, I.stack, I.stkFree⟩,
    rfl, I.bare, Un.kept hk, ⟨_, hn, fun i x v h1 h2 h3 => ?_⟩, fun x c e => ?_, I.hok.fresh (Nat.le_refl _), fun x c e => I.freeC x c (c1 x c e), fun p hp => absurd (show p ∈ ([] : List (Addr × Obj)) from hp) (by simp), I.hok.kept hk, ?_⟩
  · exact c2 _ (relabel_free (env := X.env) (scope := scope) (x := x) hx ok.nocell) rfl
  · obtain ⟨f0, f1, f2, f3, f4, f5⟩ := hf b hb
    exact ⟨fun z => absurd (hlt b hb) (by rw [z]; exact Nat.lt_irrefl _), fun x c e => f4 x c (c1 x c e)⟩
  · obtain ⟨f0, f1, f2, f3, f4, f5⟩ := hf b hb
    rcases f3 with z | z
    · exact I.ok.noex b o e z
    · exact absurd (Nat.lt_of_lt_of_le (Heap.lt_size e) (Nat.le_trans I.ok.bsz z)) (Nat.lt_irrefl _)
  · obtain ⟨f0, f1, f2, f3, f4, f5⟩ := hf b hb
    rcases List.mem_cons.mp (I.stkSub b z) with q | q
    · exact f1 q
    · exact f2 q
  · -- a captured name
    have hi : ∃ j, src[i]? = some (some j) ∧ σ[j]? = some (some v) := by
      unfold capt at h2
      rw [List.getElem?_map] at h2
      cases e : src[i]? with
      | none => rw [e] at h2; cases h2
      | some o =>
        rw [e] at h2
        cases o with
        | none => cases h2
        | some j =>
          refine ⟨j, rfl, ?_⟩
          have h2' : (σ[j]?).join = some v := Option.some.inj h2
          cases e2 : σ[j]? with
          | none => rw [e2] at h2'; cases h2'
          | some w => rw [e2] at h2'; exact congrArg some h2'
    obtain ⟨j, e1, e2⟩ := hi
    have hz : (some j, x) ∈ src.zip N' := by
      refine List.mem_iff_getElem?.mpr ⟨i, ?_⟩
      rw [List.getElem?_zip_eq_some]
      exact ⟨e1, h1⟩
    obtain ⟨q1, q2⟩ := ok.src _ hz j (by simp)
    have hfr := PySem.mem_of_lookup q2
    have hk0 := ok.frees _ hfr rfl
    rw [← hsc] at hk0
    obtain ⟨m, hns, hl⟩ := I.loc
    obtain ⟨u, r, l⟩ := hl j x v q1 e2 (hk0.elim (fun z => .inr (.inl z)) fun z => .inr (.inr z))
    refine ⟨u, r, ?_⟩
    rcases l with ⟨l1, _⟩ | ⟨_, c, l2, l3⟩
    · exfalso
      have l1' : X.env.scope.names.lookup x = some .local := l1
      rcases hk0 with z | z
      · rw [l1'] at z; cases z
      · rw [l1'] at z; cases z
    · obtain ⟨d, hd⟩ := c2 _ hfr rfl
      have : d = c := by
        have := (c1 _ _ hd).symm.trans l2
        exact Option.some.inj this
      subst this
      obtain ⟨o, ho, hod⟩ := l3
      exact .inr ⟨relabel_look q2, d, hd, o, hk _ _ ho, hod⟩
  · obtain ⟨v, o, ho, hod⟩ := I.cell x c (c1 x c e)
    exact ⟨v, o, hk _ _ ho, hod⟩
  · show (capt src σ).length = N'.length
    unfold capt
    rw [List.length_map]
    exact ok.len

/-- out of the block: its namespace is let go -/
theorem comp_leave {C : Addr} {σ' : St} {H' : Hp} {s' : Shared} {h' : Heap} (I : Inv X pins σ H s) (hf : ∀ b ∈ fp, FpOk X pins H b) (hC : s.heap.objs.size ≤ C) (J : Inv (cxComp X N' scope cl C s H fp) [] σ' H' s') (hs : Heap.SameBut C s'.heap h') :
    Inv X pins σ H' { s' with heap := h' } := by
  have nC : ∀ b o, s.heap.get? b = some o → b ≠ C := fun b o e z => absurd (Nat.lt_of_lt_of_le (Heap.lt_size e) (by rw [z]; exact hC)) (Nat.lt_irrefl _)
  have B : Un (frs X.stack) fp H H' s.heap s'.heap := J.base
  refine I.call' (ch := fp) J.os ⟨fun b o e n hb hx => (hs.2 b (nC b o e)).trans (B.keep b o e n hb hx), fun b o e n hb hx => ?_, B.free, fun b o e hx => ?_, B.tups, B.frzs, B.tbls⟩ (fun b ob e => ?_) J.bare fun b hb => ?_
  · obtain ⟨sl, e1⟩ := B.slot b o e n hb hx
    exact ⟨sl, (hs.2 b (nC b o e)).trans e1⟩
  · obtain ⟨o', e1⟩ := B.there b o e hx
    exact ⟨o', (hs.2 b (nC b o e)).trans e1⟩
  · refine (J.hok b ob e).stay (fun c w' hc q => (hs.2 c ?_).trans q) (fun _ q => q) fun _ _ q => q
    have hfree : H' C = none := J.free
    rintro rfl
    rcases hc with rfl | hc
    · rw [hfree] at e; cases e
    · rw [hfree] at hc; cases hc
  · obtain ⟨f0, f1, f2, f3, f4, f5⟩ := hf b hb
    exact ⟨f3, f1, f4, f5⟩
end

/-! ### the loop of a comprehension with one clause -/
def testsOf (ifs : List Expr) (env : Env) : Sem Bool := forIn ifs true fun c r => if r = true then do let ok ← isTrue c env (eval c env); pure (ForInStep.yield ok) else pure (ForInStep.yield r)
def PIf (X : Cx) (ifs : List Expr) (t : TT) : Prop :=
  ∀ (pins : List (Addr × Obj)) (s : Shared) (σ : St) (H : Hp) (Q : Bool → Hp → Prop), Inv X pins σ H s → t σ H Q → wpAny (model X.prog X.w) X.A (testsOf ifs X.env) (TP X pins σ Q) X.xe s
def tYes : TT := fun _ H Q => Q true H
theorem pif_nil {X : Cx} : PIf X [] tYes := fun pins s σ H Q I h => wpAny_tests_nil ⟨H, I, h⟩
theorem pif_one {X : Cx} {c : Expr} {t : TT} (h : PT X c t) : PIf X [c] t := fun pins s σ H Q I hq => wpAny_tests_one (h pins s σ H Q I hq)

theorem compLoop_own {prog : Program} {w : World} {A : Around} {R : Result → Shared → Prop} {s : Shared} {elt target iter : Expr} {ifs : List Expr} {scope : Scope} {pos : Pos} {it acc : Value} {env : Env} (I : Nat → Shared → Prop)
    (turn : ∀ n s, I n s → wpAny (model prog w) A (pyNext it) (fun r s1 => match r with
      | none => R (.ok .next) s1
      | some v => wpAny (model prog w) A (letOwnedTupleGo target it v) (fun _ s1' => wpAny (model prog w) A (assign target env v) (fun _ s2 => wpAny (model prog w) A (testsOf ifs env) (fun ok s3 =>
            if ok = true then wpAny (model prog w) A (eval elt env) (fun x s4 => wpAny (model prog w) A (call (.builtin "list.append") [acc, x]) (fun _ s5 => ∃ m, m < n ∧ I m s5) (fun _ _ => False) s4) (fun _ _ => False) s3
            else ∃ m, m < n ∧ I m s3) (fun _ _ => False) s2) (fun _ _ => False) s1') (fun _ _ => False) s1) (fun _ _ => False) s)
    (n : Nat) (h : I n s) : codeAny (model prog w) A (.compLoop (.ListComp elt [⟨target, iter, ifs, 0⟩] scope pos) 0 it acc env) R s := by
  have no : ∀ {E : Value → Shared → Prop} (e : Value) (s : Shared), (fun (_ : Value) (_ : Shared) => False) e s → E e s := fun _ _ z => False.elim z
  refine codeAny_loop rfl I (fun n s hI => ?_) n h
  show wpAny _ A ((compTurn (.ListComp elt [⟨target, iter, ifs, 0⟩] scope pos) 0 it acc env).onRaise (fun x => do noteFrame x env; theTreesLotGoes x)) _ _ s
  refine wpAny_noted ?_
  rw [compTurn_list]
  refine wpAny_bind (wpAny_standAt (wpAny_bind (wpAny_mono (turn n s hI) (fun r s₁ h₁ => ?_) no)))
  cases r with
  | none => exact wpAny_pure h₁
  | some v =>
    refine wpAny_bind (wpAny_mono h₁ (fun _ s1' h1' => ?_) no)
    refine wpAny_bind (wpAny_mono h1' (fun _ s₂ h₂ => wpAny_bind (wpAny_mono h₂ (fun ok s₃ h₃ => ?_) no)) no)
    cases ok with
    | false => exact wpAny_pure ⟨rfl, h₃⟩
    | true =>
      exact wpAny_bind (wpAny_bind (wpAny_mono h₃ (fun x s₄ h₄ => wpAny_bind (wpAny_mono h₄ (fun _ s₅ h₅ => wpAny_pure (wpAny_pure ⟨rfl, h₅⟩)) no)) no))

def CompGo (g : TG) (tc : TT) (te : TE) (src : List (Option Nat)) (σ : St) (Q : VK) (J : It) (H1 : Hp) : Prop := ∀ l, H1 l = none →
  ∃ W : Nat → Nat → List V → St → Hp → Prop, (∃ m, W 0 m [] (capt src σ) (upd H1 l (.lst []))) ∧ ∀ i m ys σ' H', W i m ys σ' H' → H' l = some (.lst ys) →
    (J.stop i H' ∧ Q (.ref l) H') ∨ (J.go i H' ∧ ∃ N : List V → St → Hp → Prop, (∀ zs σ2 H2, N zs σ2 H2 → ∃ m', m' < m ∧ W (i + 1) m' zs σ2 H2) ∧ ∀ x H2, J.yld i H' x H2 → g x σ' H2 fun σ2 H3 => tc σ2 H3 fun b H4 =>
      if b = true then te σ2 H4 fun y H5 => H5 l = some (.lst ys) ∧ ys.length < sizeLine ∧ N (ys ++ [y]) σ2 (upd H5 l (.lst (ys ++ [y])))
      else H4 l = some (.lst ys) ∧ N ys σ2 H4)
def tComp (wi : TI) (g : TG) (tc : TT) (te : TE) (src : List (Option Nat)) : TE := fun σ H Q => wi σ H (CompGo g tc te src σ Q)
def ForGo (g : TG) (tb : TS) (D : Ends) (σ : St) (J : It) (H1 : Hp) : Prop := ∃ W : Nat → Nat → St → Hp → Prop, (∃ m, W 0 m σ H1) ∧ ∀ i m σ H, W i m σ H →
  (J.stop i H ∧ D.nx σ H) ∨ (J.go i H ∧ ∃ N : St → Hp → Prop, (∀ σ' H', N σ' H' → ∃ m', m' < m ∧ W (i + 1) m' σ' H') ∧ ∀ x H', J.yld i H x H' → g x σ H' fun σ2 H2 => tb { D with nx := N, ct := N, bk := D.nx } σ2 H2)
def tForG (wi : TI) (g : TG) (tb : TS) : TS := fun D σ H => wi σ H (ForGo g tb D σ)
theorem ps_forG {X : Cx} {tg iter : Expr} {body : List Stmt} {wi : TI} {g : TG} {tb : TS} {pos : Pos} (hp : PassesOwn (model X.prog X.w) X.A X.env X.xe) (hc : X.calm = true) (hi : PI X tg iter wi) (hg : PG X tg g) (hb : PSs X body tb)
    (hs : ∀ x, foldedSetIterable iter X.env x = pure x := by intro _; rfl) : PS X (.For tg iter body [] pos) (tForG wi g tb) := ps_for hp hc hi hg hb hs

section
variable {X : Cx} {elt tg iter : Expr} {ifs : List Expr} {scope osc : Scope} {pos : Pos} {N' : List Str} {src : List (Option Nat)} {wi : TI} {g : TG} {tc : TT} {te : TE}
theorem pe_comp (ok : CompOk X.N osc N' src scope) (hsc : X.env.scope = osc) (hc : X.calm = true) (hi : PI X tg iter wi)
    (hg : ∀ cl C s₀ H₀ fp, PG (cxComp X N' scope cl C s₀ H₀ fp) tg g) (ht : ∀ cl C s₀ H₀ fp, PIf (cxComp X N' scope cl C s₀ H₀ fp) ifs tc) (he : ∀ cl C s₀ H₀ fp, PE (cxComp X N' scope cl C s₀ H₀ fp) elt te)
    (hs : ∀ x, foldedSetIterable iter X.env x = pure x := by intro _; rfl) : PE X (.ListComp elt [⟨tg, iter, ifs, 0⟩] scope pos) (tComp wi g tc te src) := by
  intro pins s σ H Q I h
  obtain ⟨cl, hcl, c1, c2⟩ := closure_of (scope := scope) (env := X.env) fun y hy hyf => I.ok.has y.1 (by
    have z := ok.frees y hy hyf
    rw [← hsc] at z
    exact z)
  rw [eval_ListComp]
  refine wpAny_comprehension_free (use := none) rfl hs hcl ok.kind ok.loc (thn (hi pins s σ H _ I h) fun v s1 h1 => thn h1 fun itv s2 h2 => ?_)
  obtain ⟨it, fp, tn, J, H2, e, I2, T, st2, f2, q2⟩ := h2
  subst e
  have hlt2 : ∀ b ∈ fp, b < s2.heap.objs.size := fun b hb => by
    obtain ⟨o, e, _⟩ := T.obj _ _ st2 b hb
    exact Heap.lt_size e
  refine wpAny_newObj_type ?_
  have hl : H2 s2.heap.objs.size = none := I2.hok.fresh (Nat.le_refl _)
  have I3 : Inv X pins σ (upd H2 s2.heap.objs.size (.lst [])) { s2 with heap := s2.heap.push { cls := .type "list", dict := none, data := .seq ([] : List Value).toArray } } :=
    I2.laid (t' := s2.toks) (fun b u e => Heap.get?_push_of_some _ e) (Nat.le_refl _) ⟨Nat.zero_le _, [], 0, .nil, Heap.get?_push_size _ rfl⟩
  obtain ⟨W, ⟨m0, w0⟩, turn⟩ := q2 _ hl
  generalize hl2 : s2.heap.objs.size = l at *
  generalize hs3 : ({ s2 with heap := s2.heap.push { cls := .type "list", dict := none, data := .seq ([] : List Value).toArray } } : Shared) = s3 at *
  have f3 : ∀ b ∈ fp, FpOk X pins (upd H2 l (.lst [])) b := fun b hb => ⟨by rw [upd_ne (Nat.ne_of_lt (hlt2 b hb))]; exact (f2 b hb).1, (f2 b hb).2⟩
  have k3 : ∀ b o, s2.heap.get? b = some o → s3.heap.get? b = some o := fun b o e => by rw [← hs3]; exact Heap.get?_push_of_some _ e
  have hlt3 : ∀ b ∈ fp, b < s3.heap.objs.size := fun b hb => by
    obtain ⟨o, e, _⟩ := T.obj _ _ st2 b hb
    exact Heap.lt_size (k3 b o e)
  refine wpAny_newFunctionEnv ok.nocell (by intro y hy; simp at hy) (fun h₁ hns₁ hsb₁ => ?_) ok.kind
  have k4 : ∀ b o, s3.heap.get? b = some o → h₁.get? b = some o := fun b o e => (hsb₁.2 b (Nat.ne_of_lt (Heap.lt_size e))).trans (Heap.get?_push_of_some _ e)
  have J0 := comp_enter (tk := s3.toks + ([] : List (Str × Value)).length) I3 f3 hlt3 ok hsc c1 c2 hns₁ k4
  have st4 : tn 0 h₁ := T.keep _ _ _ st2 fun b hb o e => k4 b o (k3 b o e)
  generalize hC : s3.heap.objs.size = C at *
  have stat : ∀ {H' : Hp}, (∀ b ∈ fp, H' b = none) → ∀ b ∈ fp, FpOk (cxComp X N' scope cl C s3 (upd H2 l (.lst [])) fp) [] H' b := fun {H'} hn b hb =>
    ⟨hn b hb, (J0.ok.exf b hb).1, J0.ok.exfs b hb, .inl hb, (J0.ok.exf b hb).2, fun p hp => absurd (show p ∈ ([] : List (Addr × Obj)) from hp) (by simp)⟩
  have loop : codeAny (model X.prog X.w) X.A (.compLoop (.ListComp elt [⟨tg, iter, ifs, 0⟩] scope pos) 0 (.ref it) (.ref l) (compEnvC scope cl C X.env))
      (compPost (model X.prog X.w) X.A X.xe none (EP X pins σ Q) (.ref l) C) { s3 with heap := h₁, toks := s3.toks + ([] : List (Str × Value)).length } := by
    refine compLoop_own (fun n s' => ∃ i ys σ' H', Inv (cxComp X N' scope cl C s3 (upd H2 l (.lst [])) fp) [] σ' H' s' ∧ tn i s'.heap ∧ (∀ b ∈ fp, H' b = none) ∧ H' l = some (.lst ys) ∧ W i n ys σ' H') ?_ m0
      ⟨0, [], _, _, J0, st4, fun b hb => (f3 b hb).1, upd_same, w0⟩
    rintro n s5 ⟨i, ys, σ5, H5, I5, st5, fr5, hl5, w5⟩
    rcases turn i n ys σ5 H5 w5 hl5 with ⟨stop, qn⟩ | ⟨go, N, hN, step⟩
    · refine thn (T.done (cxComp X N' scope cl C s3 (upd H2 l (.lst [])) fp) rfl rfl rfl hc i [] s5 σ5 H5 (fun _ _ => False) I5 (stat fr5) st5 stop) fun r s6 ⟨hr, I6⟩ => ?_
      subst hr
      obtain ⟨m, hn, _⟩ := I6.loc
      exact ⟨m, hn, fun h' hsb => ⟨.ref l, H5, comp_leave I3 f3 (by rw [← hC]; exact Nat.le_refl _) I6 hsb, rfl, qn⟩⟩
    · refine thn (T.item (cxComp X N' scope cl C s3 (upd H2 l (.lst [])) fp) rfl rfl rfl hc i [] s5 σ5 H5 (fun _ _ => False) I5 (stat fr5) st5 go) fun r s6 ⟨u, hr, h6⟩ => ?_
      subst hr
      refine thn h6 fun _ s7 ⟨x, H7, I7, r7, y7, st7, fr7⟩ => ?_
      have I7' := I7.pinned (stat fr7) (T.obj _ _ st7)
      refine thn (hg cl C s3 _ fp _ s7 σ5 H7 x u _ I7' r7 (step x H7 y7)) fun _ s8 ⟨σ8, H8, I8, q8⟩ => ?_
      refine thn (ht cl C s3 _ fp _ s8 σ8 H8 _ I8 q8) fun b s9 ⟨H9, I9, q9⟩ => ?_
      have back : ∀ {s' : Shared} {H' : Hp}, Inv (cxComp X N' scope cl C s3 (upd H2 l (.lst [])) fp) ([] ++ pinsAt fp s7.heap) σ8 H' s' → tn (i + 1) s'.heap ∧ ∀ b ∈ fp, H' b = none := fun {s' H'} I' => by
        refine ⟨T.keep _ _ _ st7 fun b hb o e => (I'.pin (b, o) (List.mem_append_right _ (List.mem_append_right _ (mem_pinsAt hb e)))).1, fun b hb => ?_⟩
        obtain ⟨o, e, d⟩ := T.obj _ _ st7 b hb
        exact (I'.pin (b, o) (List.mem_append_right _ (List.mem_append_right _ (mem_pinsAt hb e)))).2.1
      cases b with
      | false =>
        obtain ⟨hl9, n9⟩ := q9
        obtain ⟨m', hm, w9⟩ := hN _ _ _ n9
        obtain ⟨t9, fr9⟩ := back I9
        exact ⟨m', hm, i + 1, ys, σ8, H9, I9.unpinned, t9, fr9, hl9, w9⟩
      | true =>
        refine thn (he cl C s3 _ fp _ s9 σ8 H9 _ I9 q9) fun xv s10 ⟨y, H10, I10, r10, hl10, hz, n10⟩ => ?_
        obtain ⟨m', hm, w10⟩ := hN _ _ _ n10
        refine thn (mt_append (X := cxComp X N' scope cl C s3 (upd H2 l (.lst [])) fp) _ s10 σ8 H10 (.ref l) [y] (.ref l) [xv] (fun v H' => H' = upd H10 l (.lst (ys ++ [y]))) I10 rfl (.cons r10 .nil) ⟨l, ys, y, rfl, rfl, hl10, hz, rfl⟩) fun _ s11 ⟨_, H11, I11, _, e11⟩ => ?_
        subst e11
        obtain ⟨t11, fr11⟩ := back I11
        exact ⟨m', hm, i + 1, ys ++ [y], σ8, _, I11.unpinned, t11, fr11, upd_same, w10⟩
  exact codeAny_compStart_list loop (T.self _ 0 _ _ _ st4 loop)
end
end L2

set_option Elab.async false
set_option linter.all false
set_option maxRecDepth 100000
set_option maxHeartbeats 4000000
namespace L2
open PySem PySem.Spec PyProof.Rows
section
variable {X : Cx}
/-! ### comparisons of texts and truths -/
theorem op_le_str : OpR X (compareOp .LtE) (fun x y H Q => ∃ i j, x = .str i ∧ y = .str j ∧ Q (.bl (!decide (j.cps.toList < i.cps.toList))) H) := by
  intro pins s σ H x y v u Q I rx ry h
  obtain ⟨i, j, rfl, rfl, q⟩ := h
  obtain ⟨t, rfl⟩ := rx
  obtain ⟨t', rfl⟩ := ry
  exact PySem.P.le_str (fin_bl I q rfl)
theorem op_isnotB : OpR X (compareOp .IsNot) (fun x y H Q => ∃ i j, x = .bl i ∧ y = .bl j ∧ Q (.bl (i != j)) H) := by
  intro pins s σ H x y v u Q I rx ry h
  obtain ⟨i, j, rfl, rfl, q⟩ := h
  cases rx
  cases ry
  exact isnot_bool (fin_bl I q rfl)
/-! ### all, any of a list of truths -/
theorem vals_bl : ∀ {bs : List Bool} {us : List Value} {i : Nat} {v : Value}, Vals (bs.map V.bl) us → us[i]? = some v → ∃ b, bs[i]? = some b ∧ v = .bool b
  | [], _, _, _, .nil, e => by simp at e
  | b :: bs, _, 0, v, .cons r _, e => by
    simp at e
    subst e
    exact ⟨b, rfl, r⟩
  | b :: bs, _, i + 1, v, .cons _ t, e => by
    obtain ⟨c, h1, h2⟩ := vals_bl (i := i) t (by simpa using e)
    exact ⟨c, by simpa using h1, h2⟩
def atB (bs : List Bool) (j : Nat) : Bool := match bs[j]? with | some b => b | none => true
theorem all_range_bl (bs : List Bool) : (List.range bs.length).all (atB bs) = bs.all id := by
  refine Eq.trans ?_ (PyProof.Rows.all_rangeD bs (id : Bool → Bool))
  congr 1
  funext j
  unfold atB
  cases bs[j]? <;> rfl
theorem call_allB {X : Cx} (hc : X.calm = true) : CallR X (.builtin "all") (fun xs H Q => ∃ (p : Addr) (bs : List Bool), xs = [.ref p] ∧ SqL X.K H p (bs.map V.bl) ∧ Q (.bl (bs.all id)) H) := by
  intro pins s σ H xs us Q I r h
  obtain ⟨p, bs, rfl, hq, q⟩ := h
  obtain ⟨u, rfl, ru⟩ := vals1 r
  cases ru
  obtain ⟨its, rv, pl, hz⟩ := I.list hq
  have hp : p ≠ s.heap.objs.size := Nat.ne_of_lt pl.lt
  refine call_all_walk (wpAny_pyIter_list pl.isList ?_)
  refine ⟨s.heap.objs.size, _, _, _, _, _, atB bs, rfl, Walks.list (A := X.A.in1) (show X.A.in1.handled = none from I.ok.hd hc) _ p hp its.toArray, ⟨⟨_, Heap.get?_push_size _ rfl, rfl, rfl⟩, ?_⟩, ?_, fun h' tk hk => ?_⟩
  · obtain ⟨o, n, e, c, _, d⟩ := pl
    exact ⟨o, Heap.get?_push_of_some _ e, c, n, d⟩
  · intro i v s' Q' E' hP hQ
    obtain ⟨b, h1, rfl⟩ := vals_bl (i := i) (v := v) rv (by simpa using hP)
    refine wpAny_truthy_bool ?_
    have e : atB bs i = b := by unfold atB; rw [h1]
    rw [e] at hQ
    exact hQ
  · have hl : its.toArray.size = bs.length := by
      have := rv.length
      simp at this
      simp [this]
    rw [hl, all_range_bl]
    refine ⟨.bl (bs.all id), H, I.kept fun b o e => hk b o ?_ (Heap.get?_push_of_some _ e), rfl, q⟩
    intro z
    have : b = s.heap.objs.size := by simpa using z
    exact absurd (Heap.lt_size e) (by rw [this]; exact Nat.lt_irrefl _)
/-! ### sep.join(list of texts) -/
theorem strsAre_of : ∀ {ys : List Str} {us : List Value}, Vals (ys.map V.str) us → StrsAre us ys
  | [], _, .nil => by first | exact .nil | trivial
  | y :: ys, _, .cons r t => by
    obtain ⟨k, rfl⟩ := r
    first
      | exact .cons _ _ (strsAre_of t)
      | exact .cons (strsAre_of t)
      | exact ⟨⟨k, rfl⟩, strsAre_of t⟩
/-! ### a slice of a text -/
/-! ### a text times a number -/
def repS (z : Str) (n : Nat) : Str := ⟨(List.replicate n z.cps).foldl (· ++ ·) #[]⟩
theorem op_mul_str : OpR X (binaryOp .Mult) (fun x y H Q => ∃ z n, x = .str z ∧ y = .int n ∧ 1 < n ∧ n ≤ 1000 ∧ 0 < z.length ∧ z.length ≤ 1000 ∧ Q (.str (repS z n.toNat)) H) := by
  intro pins s σ H x y v u Q I rx ry h
  obtain ⟨z, n, rfl, rfl, h1, h2, h3, h4, q⟩ := h
  obtain ⟨t, rfl⟩ := rx
  obtain ⟨t', rfl⟩ := ry
  have e1 : ¬ n < 1 := by omega
  have e2 : (n == 1 || z.length == 0) = false := by
    have a : (n == 1) = false := beq_eq_false_iff_ne.mpr (by omega)
    have b : (z.length == 0) = false := beq_eq_false_iff_ne.mpr (by omega)
    rw [a, b]; rfl
  have hz : z.length * n.toNat ≤ 1000 * 1000 := Nat.mul_le_mul h4 (by omega)
  refine PySem.P.mul_str ?_ (fun _ _ => ?_) (fun _ _ => ?_) ?_
  · have a : decide (n < -(2 ^ 63 : Int)) = false := decide_eq_false (by omega)
    have b : decide (n ≥ 2 ^ 63) = false := decide_eq_false (by omega)
    rw [a, b]; rfl
  · have hd : (1000 : Int) ≤ (2 ^ 63 - 1) / n := by
      apply Int.le_ediv_of_mul_le (by omega)
      omega
    omega
  · have hb : z.length * n.toNat ≤ sizeLine := Nat.le_trans hz (by decide)
    unfold Builtin.Str.tooLong
    exact decide_eq_false (by omega)
  · rw [if_neg e1, e2]
    simp only [Bool.false_eq_true, if_false]
    refine ⟨?_, ⟨.str _, H, I.tok _, ⟨_, rfl⟩, q⟩⟩
    have key : ∀ (k : Nat) (acc : Array Nat), ((List.replicate k z.cps).foldl (· ++ ·) acc).size = acc.size + k * z.cps.size := by
      intro k
      induction k with
      | zero => intro acc; simp
      | succ k ih => intro acc; rw [List.replicate_succ, List.foldl_cons, ih, Array.size_append, Nat.succ_mul]; omega
    have hk := key n.toNat #[]
    have hz' : n.toNat * z.cps.size ≤ 1000 * 1000 := Nat.mul_le_mul (by omega) h4
    have hsl : 1000 * 1000 ≤ sizeLine := by decide
    show ((List.replicate n.toNat z.cps).foldl (· ++ ·) #[]).size ≤ sizeLine
    rw [hk]
    simp only [Array.size_empty]
    omega
/-! ### isinstance -/
theorem call_isi : CallR X (.builtin "isinstance") (fun xs H Q => ∃ x T t b, xs = [x, .ty T] ∧ TyOf X.K H x t ∧ PySem.W.kitOne X.K t (.type T) = some b ∧ Q (.bl b) H) := by
  intro pins s σ H xs us Q I r h
  obtain ⟨x, T, t, b, rfl, ht, hk, q⟩ := h
  obtain ⟨u, w', rfl, ru, rw'⟩ := vals2 r
  cases rw'
  exact isinst_ok I ru ht hk fun tk => ⟨.bl b, H, I.tok _, rfl, q⟩
/-! ### a text that is walked -/
def Its (x : Str) : It := ⟨fun i _ => i < x.length, fun i H y H' => H' = H ∧ ∃ c, x.cps[i]? = some c ∧ y = .str ⟨#[c]⟩, fun i _ => x.length ≤ i⟩
theorem turn_strA {P : Program} {w : World} {K : PySem.W.Frag} {tg : Expr} (x : Str) (t : Tok) (it : Addr) : Turn P w K tg (Its x) [it] it (fun i h => h.IsStrIter it "str_ascii_iterator" x t i) where
  mem := by simp
  obj := fun i h st b hb => by
    have e : b = it := by simpa using hb
    subst e
    obtain ⟨o, e, c, d⟩ := st
    exact ⟨o, e, fun v z => by rw [d] at z; cases z⟩
  keep := fun i h h' st k => by
    obtain ⟨o, e, r⟩ := st
    exact ⟨o, k it (by simp) o e, r⟩
  item := by
    intro X hP hw hK hc i pins s σ H E I hf st hg
    subst hP hw hK
    have hi : i < x.cps.size := hg
    obtain ⟨f0, f1, f2, f3, f4, f5⟩ := hf it (by simp)
    refine wpAny_pyNext_ascii_item st (c := x.cps[i]) (by simp [hi]) fun h' st' sb => ?_
    have I1 : Inv X pins σ H { s with heap := h', toks := s.toks + 1 } := I.turned (t' := s.toks + 1) (fun b o hb e => (sb.2 b hb).trans e) f0 f1 f3 f4 f5
    obtain ⟨o, e, c, d⟩ := id st'
    exact ⟨_, rfl, go_of (s := { s with heap := h', toks := s.toks + 1 }) e c d (by decide) ⟨.str ⟨#[x.cps[i]]⟩, H, I1, ⟨_, rfl⟩, ⟨rfl, x.cps[i], by simp [hi], rfl⟩, st', fun b hb => (hf b hb).1⟩⟩
  done := by
    intro X hP hw hK hc i pins s σ H E I hf st hg
    subst hP hw hK
    have hi : x.cps.size ≤ i := hg
    obtain ⟨f0, f1, f2, f3, f4, f5⟩ := hf it (by simp)
    exact wpAny_pyNext_ascii_end (I.ok.hd hc) st (by simp [hi]) fun h' eb => ⟨rfl, I.turned (t' := s.toks) (fun b o hb e => eb b o hb e) f0 f1 f3 f4 f5⟩
  self := fun _ _ _ _ _ st h => wpAny_pyIter_striter_ascii st h
theorem turn_strW {P : Program} {w : World} {K : PySem.W.Frag} {tg : Expr} (x : Str) (t : Tok) (it : Addr) : Turn P w K tg (Its x) [it] it (fun i h => h.IsStrIter it "str_iterator" x t i) where
  mem := by simp
  obj := fun i h st b hb => by
    have e : b = it := by simpa using hb
    subst e
    obtain ⟨o, e, c, d⟩ := st
    exact ⟨o, e, fun v z => by rw [d] at z; cases z⟩
  keep := fun i h h' st k => by
    obtain ⟨o, e, r⟩ := st
    exact ⟨o, k it (by simp) o e, r⟩
  item := by
    intro X hP hw hK hc i pins s σ H E I hf st hg
    subst hP hw hK
    have hi : i < x.cps.size := hg
    obtain ⟨f0, f1, f2, f3, f4, f5⟩ := hf it (by simp)
    refine wpAny_pyNext_wide_item st (c := x.cps[i]) (by simp [hi]) fun h' st' sb => ?_
    have I1 : Inv X pins σ H { s with heap := h', toks := s.toks + 1 } := I.turned (t' := s.toks + 1) (fun b o hb e => (sb.2 b hb).trans e) f0 f1 f3 f4 f5
    obtain ⟨o, e, c, d⟩ := id st'
    exact ⟨_, rfl, go_of (s := { s with heap := h', toks := s.toks + 1 }) e c d (by decide) ⟨.str ⟨#[x.cps[i]]⟩, H, I1, ⟨_, rfl⟩, ⟨rfl, x.cps[i], by simp [hi], rfl⟩, st', fun b hb => (hf b hb).1⟩⟩
  done := by
    intro X hP hw hK hc i pins s σ H E I hf st hg
    subst hP hw hK
    have hi : x.cps.size ≤ i := hg
    obtain ⟨f0, f1, f2, f3, f4, f5⟩ := hf it (by simp)
    exact wpAny_pyNext_wide_end (I.ok.hd hc) st (by simp [hi]) fun h' eb => ⟨rfl, I.turned (t' := s.toks) (fun b o hb e => eb b o hb e) f0 f1 f3 f4 f5⟩
  self := fun _ _ _ _ _ st h => wpAny_pyIter_striter_wide st h
def iStr (tl : TE) : TI := fun σ H R => tl σ H fun y H1 => ∃ x, y = .str x ∧ R (Its x) H1
theorem pi_str {tg l : Expr} {tl : TE} (hl : PE X l tl) : PI X tg l (iStr tl) := by
  intro pins s σ H R I h
  refine thn (hl pins s σ H _ I h) fun v s1 ⟨y, H1, I1, r1, q1⟩ => ?_
  obtain ⟨x, rfl, q⟩ := q1
  obtain ⟨t, rfl⟩ := r1
  cases ha : x.cps.all (· < 128)
  · refine wpAny_pyIter_wide ha ⟨s1.heap.objs.size, [s1.heap.objs.size], _, _, H1, rfl, I1.kept (t' := s1.toks) fun b o e => Heap.get?_push_of_some _ e, turn_strW x t _, ⟨_, Heap.get?_push_size _ rfl, rfl, rfl⟩, fun b hb => ?_, q⟩
    have e : b = s1.heap.objs.size := by simpa using hb
    subst e
    exact I1.fpOk (Nat.le_refl _) (I1.hok.fresh (Nat.le_refl _))
  · refine wpAny_pyIter_ascii ha ⟨s1.heap.objs.size, [s1.heap.objs.size], _, _, H1, rfl, I1.kept (t' := s1.toks) fun b o e => Heap.get?_push_of_some _ e, turn_strA x t _, ⟨_, Heap.get?_push_size _ rfl, rfl, rfl⟩, fun b hb => ?_, q⟩
    have e : b = s1.heap.objs.size := by simpa using hb
    subst e
    exact I1.fpOk (Nat.le_refl _) (I1.hok.fresh (Nat.le_refl _))
theorem bt_len : bootBuiltins "len" = some (.builtin "len") := by decide +kernel
theorem bt_all : bootBuiltins "all" = some (.builtin "all") := by decide +kernel
theorem bt_isinstance : bootBuiltins "isinstance" = some (.builtin "isinstance") := by decide +kernel
theorem bt_max : bootBuiltins "max" = some (.builtin "max") := by decide +kernel
theorem bt_min : bootBuiltins "min" = some (.builtin "min") := by decide +kernel
theorem bt_sorted : bootBuiltins "sorted" = some (.builtin "sorted") := by decide +kernel
theorem bt_int : bootBuiltins "int" = some (.type "int") := by decide +kernel
theorem bt_str : bootBuiltins "str" = some (.type "str") := by decide +kernel
theorem bt_tuple : bootBuiltins "tuple" = some (.type "tuple") := by decide +kernel
theorem bt_list : bootBuiltins "list" = some (.type "list") := by decide +kernel
theorem few {α : Type} {xs : List α} (h : Nat.ble xs.length 1000 = true) : xs.length ≤ sizeLine := Nat.le_of_lt (small1000 (Nat.le_of_ble_eq_true h))
/-! ### a row of written values -/
def constV : Expr → Option V
  | .Constant (.str x) _ _ => some (.str x)
  | .Constant (.int i) _ _ => some (.int i)
  | .Constant (.bool b) _ _ => some (.bl b)
  | .Constant .none _ _ => some .non
  | _ => none
theorem pe_const {e : Expr} {v : V} (h : constV e = some v) : PE X e (tC v) ∧ ∀ es, starEach (e :: es) X.env = (false, eval e X.env) :: starEach es X.env := by
  cases e with
  | Constant c j pos =>
    cases c with
    | str x => cases h; exact ⟨pe_str, fun _ => rfl⟩
    | int x => cases h; exact ⟨pe_int, fun _ => rfl⟩
    | bool x => cases h; exact ⟨pe_bl, fun _ => rfl⟩
    | none => cases h; exact ⟨pe_non, fun _ => rfl⟩
    | _ => cases h
  | _ => cases h
def tAll (vs : List V) : TA := fun _ H Q => Q vs H
theorem pa_consts_of : ∀ {es : List Expr} {vs : List V}, es.mapM constV = some vs → PA X es (tAll vs)
  | [], vs, h => by
    have e : vs = [] := by simpa using h.symm
    subst e
    exact pa_nil
  | e :: es, vs, h => by
    rw [List.mapM_cons] at h
    cases h1 : constV e with
    | none => rw [h1] at h; cases h
    | some v =>
      rw [h1] at h
      cases h2 : es.mapM constV with
      | none => rw [h2] at h; cases h
      | some us =>
        rw [h2] at h
        have e1 : v :: us = vs := Option.some.inj h
        subst e1
        obtain ⟨p, st⟩ := pe_const (X := X) h1
        have q := pa_cons p (pa_consts_of (es := es) h2) (st es)
        exact q
/-- [..], (..) of written values -/
def tLstC (vs : List V) : TE := fun _ H Q => vs.length ≤ sizeLine ∧ ∀ p, H p = none → Q (.ref p) (upd H p (.lst vs))
theorem pe_lstC (vs : List V) {es : List Expr} {pos : Pos} (h : es.mapM constV = some vs) : PE X (.List es pos) (tLstC vs) := pe_lst (pa_consts_of h)
end
end L2

set_option Elab.async false
set_option linter.all false
set_option maxRecDepth 100000
set_option maxHeartbeats 4000000
/-! Loops and comprehensions by an invariant, whatever they walk. -/
namespace L2
open PySem PySem.Spec PyProof.Rows
/-- J walks n items, the i-th of them P i, wherever ok holds -/
structure Wk (J : It) (n : Nat) (P : Nat → V → Prop) (ok : Hp → Prop) : Prop where
  stop : ∀ i H, ok H → n ≤ i → J.stop i H
  go : ∀ i H, ok H → i < n → J.go i H
  yld : ∀ i H x H', ok H → i < n → J.yld i H x H' → H' = H ∧ P i x
theorem wk_list {K : PySem.W.Frag} {a : Addr} {xs : List V} : Wk (Itl K a) xs.length (fun i x => xs[i]? = some x) (fun H => SqL K H a xs) where
  stop := fun i H h l => ⟨xs, h, l⟩
  go := fun i H h l => ⟨xs, xs[i], h, by simp [l]⟩
  yld := fun i H x H' h l y => ⟨y.1, y.2 xs h⟩
theorem wk_tup {K : PySem.W.Frag} {a : Addr} {xs : List V} : Wk (Itt K a) xs.length (fun i x => xs[i]? = some x) (fun H => SqT K H a xs) where
  stop := fun i H h l => ⟨xs, h, l⟩
  go := fun i H h l => ⟨xs, xs[i], h, by simp [l]⟩
  yld := fun i H x H' h l y => ⟨y.1, y.2 xs h⟩
theorem wk_rng {lo : Int} {n : Nat} : Wk (Itr lo n) n (fun i x => x = .int (lo + i)) (fun _ => True) where
  stop := fun i H h l => l
  go := fun i H h l => l
  yld := fun i H x H' h l y => y
theorem wk_str {x : Str} : Wk (Its x) x.length (fun i y => ∃ c, x.cps[i]? = some c ∧ y = .str ⟨#[c]⟩) (fun _ => True) where
  stop := fun i H h l => l
  go := fun i H h l => l
  yld := fun i H x H' h l y => y
theorem comp_by {J : It} {n : Nat} {P : Nat → V → Prop} {ok : Hp → Prop} {g : TG} {tc : TT} {te : TE} {src : List (Option Nat)} {σ : St} {H1 : Hp} {Q : VK} (wk : Wk J n P ok) (Pv : Addr → Nat → List V → St → Hp → Prop)
    (h0 : ∀ l, H1 l = none → Pv l 0 [] (capt src σ) (upd H1 l (.lst []))) (hok : ∀ l i ys σ H, H1 l = none → Pv l i ys σ H → ok H)
    (hs : ∀ l i x ys σ H, H1 l = none → i < n → P i x → Pv l i ys σ H → H l = some (.lst ys) → g x σ H fun σ2 H3 => tc σ2 H3 fun b H4 =>
      if b = true then te σ2 H4 fun y H5 => H5 l = some (.lst ys) ∧ ys.length < sizeLine ∧ Pv l (i + 1) (ys ++ [y]) σ2 (upd H5 l (.lst (ys ++ [y]))) else H4 l = some (.lst ys) ∧ Pv l (i + 1) ys σ2 H4)
    (hd : ∀ l ys σ H, H1 l = none → Pv l n ys σ H → H l = some (.lst ys) → Q (.ref l) H) :
    CompGo g tc te src σ Q J H1 := by
  intro l hl
  refine ⟨fun i m ys σ H => m = n - i ∧ i ≤ n ∧ Pv l i ys σ H, ⟨n, by simp, Nat.zero_le _, h0 l hl⟩, ?_⟩
  rintro i m ys σ' H' ⟨rfl, hi, p⟩ hl'
  by_cases hlt : i < n
  · refine .inr ⟨wk.go i H' (hok l i ys σ' H' hl p) hlt, Pv l (i + 1), fun zs σ2 H2 q => ⟨n - (i + 1), by omega, rfl, hlt, q⟩, fun x H2 y => ?_⟩
    obtain ⟨rfl, px⟩ := wk.yld i H' x H2 (hok l i ys σ' H' hl p) hlt y
    exact hs l i x ys σ' _ hl hlt px p hl'
  · have e : i = n := by omega
    subst e
    exact .inl ⟨wk.stop _ _ (hok l _ ys σ' H' hl p) (Nat.le_refl _), hd l ys σ' H' hl p hl'⟩
/-- a for loop likewise -/
theorem for_by {J : It} {n : Nat} {P : Nat → V → Prop} {ok : Hp → Prop} {g : TG} {tb : TS} {D : Ends} {σ : St} {H : Hp} (wk : Wk J n P ok) (Pv : Nat → St → Hp → Prop) (h0 : Pv 0 σ H) (hok : ∀ i σ H, Pv i σ H → ok H)
    (hs : ∀ i x σ H, i < n → P i x → Pv i σ H → g x σ H fun σ2 H2 => tb { D with nx := Pv (i + 1), ct := Pv (i + 1), bk := D.nx } σ2 H2) (hd : ∀ σ H, Pv n σ H → D.nx σ H) :
    ForGo g tb D σ J H := by
  refine ⟨fun i m σ H => m = n - i ∧ i ≤ n ∧ Pv i σ H, ⟨n, by simp, Nat.zero_le _, h0⟩, ?_⟩
  rintro i m σ H ⟨rfl, hi, p⟩
  by_cases hlt : i < n
  · refine .inr ⟨wk.go i H (hok i σ H p) hlt, Pv (i + 1), fun σ' H' q => ⟨n - (i + 1), by omega, rfl, hlt, q⟩, fun x H' y => ?_⟩
    obtain ⟨rfl, px⟩ := wk.yld i H x H' (hok i σ H p) hlt y
    exact hs i x σ _ hlt px p
  · have e : i = n := by omega
    subst e
    exact .inl ⟨wk.stop _ _ (hok _ σ H p) (Nat.le_refl _), hd σ H p⟩
end L2

set_option Elab.async false
set_option linter.all false
set_option maxRecDepth 100000
set_option maxHeartbeats 4000000
/-! The rules once more, each judgement kept in a box: a term of rules is then elaborated without running the program. -/
namespace L2
open PySem PySem.Spec PyProof.Rows
structure QE (X : Cx) (e : Expr) (t : TE) : Prop where o : PE X e t
structure QT (X : Cx) (e : Expr) (t : TT) : Prop where o : PT X e t
structure QW (X : Cx) (e : Expr) (t : TT) : Prop where o : PW X e t
structure QA (X : Cx) (es : List Expr) (t : TA) : Prop where o : PA X es t
structure QS (X : Cx) (s : Stmt) (t : TS) : Prop where o : PS X s t
structure QB (X : Cx) (s : List Stmt) (t : TS) : Prop where o : PSs X s t
structure QI (X : Cx) (tg iter : Expr) (t : TI) : Prop where o : PI X tg iter t
structure QG (X : Cx) (tg : Expr) (t : TG) : Prop where o : PG X tg t
structure QGs (X : Cx) (tg : List Expr) (t : TGs) : Prop where o : PGs X tg t
structure QF (X : Cx) (ifs : List Expr) (t : TT) : Prop where o : PIf X ifs t
structure QO (X : Cx) (e : Option Expr) (t : TO) : Prop where o : PO X e t
structure QPs (X : Cx) (pos : Pos) (keys : List (Option Expr)) (values : List Expr) (trs : List (TE × TE)) : Prop where o : PPs X pos keys values trs
section
variable {X : Cx} {a b c e o i : Expr} {es : List Expr} {ta tb tc te to ti : TE} {t u : TA} {pos p apos cpos : Pos} {j : Nat} {x : Str} {sa sb : TS} {q q' : TT} {rest : List Expr}
theorem qv (i : Nat) {x : Str} {pos : Pos} (hN : X.N[i]? = some x := by rfl) (hv : Vis X.env.scope x := by exact Or.inl rfl) (hd : (x == ("__debug__" : Str)) = false := by decide)
    (hcd : (x == ("__classdict__" : Str)) = false := by decide) : QE X (.Name x pos) (tVar i) := ⟨pe_var hN hv hd hcd⟩
/-- a name that a comprehension captures -/
theorem qc (i : Nat) {x : Str} {pos : Pos} (hN : X.N[i]? = some x := by rfl) (hv : X.env.scope.names.lookup x = some .cell := by rfl) (hd : (x == ("__debug__" : Str)) = false := by decide)
    (hcd : (x == ("__classdict__" : Str)) = false := by decide) : QE X (.Name x pos) (tVar i) := ⟨pe_var hN (.inr (.inl hv)) hd hcd⟩
theorem q_int {k : Int} : QE X (.Constant (.int k) j pos) (tC (.int k)) := ⟨pe_int⟩
theorem q_str {k : Str} : QE X (.Constant (.str k) j pos) (tC (.str k)) := ⟨pe_str⟩
theorem q_bl {k : Bool} : QE X (.Constant (.bool k) j pos) (tC (.bl k)) := ⟨pe_bl⟩
theorem q_non : QE X (.Constant .none j pos) (tC .non) := ⟨pe_non⟩
theorem q_glob {v : V} {u : Value} (hm : X.mg x = some u) (r : RelV v u) (hg : Gl X x := by rfl) (hd : (x == ("__debug__" : Str)) = false := by decide) : QE X (.Name x pos) (tC v) := ⟨pe_glob hg hm r hd⟩
theorem q_ty {T : String} (hm : X.mg x = none) (hv : bootBuiltins x = some (.type T)) (hg : Gl X x := by rfl) (hn : x ≠ "__name__" := by decide) (hd : (x == ("__debug__" : Str)) = false := by decide) : QE X (.Name x pos) (tC (.ty T)) := ⟨pe_bltn hg hm hv rfl hn hd⟩
theorem q_op {op : Operator} {r : R2} (ho : OpR X (binaryOp op) r) (ha : QE X a ta) (hb : QE X b tb) : QE X (.BinOp a op b pos) (tOp r ta tb) := ⟨pe_op ho ha.o hb.o⟩
theorem q_un {op : UnaryOp} {r : V → Hp → VK → Prop} (ho : UnR X (unaryOp op) r) (ha : QE X a ta) : QE X (.UnaryOp op a pos) (tUn r ta) := ⟨pe_un ho ha.o⟩
theorem q_cmp {op : CmpOp} {r : R2} (ho : OpR X (compareOp op) r) (ha : QE X a ta) (hb : QE X b tb) (hm : behindInMarks op b = false := by rfl) : QE X (.Compare a [op] [b] pos) (tOp r ta tb) := ⟨pe_cmpR ho ha.o hb.o hm⟩
theorem t_cmp {op : CmpOp} {r : R2} (ho : OpR X (compareOp op) r) (ha : QE X a ta) (hb : QE X b tb) (hm : behindInMarks op b = false := by rfl) : QT X (.Compare a [op] [b] pos) (tTest (tOp r ta tb)) := ⟨pt_cmpR ho ha.o hb.o hm⟩
theorem q_chain {op op' : CmpOp} {r r' : R2} (ho : OpR X (compareOp op) r) (ho' : OpR X (compareOp op') r') (ha : QE X a ta) (hb : QE X b tb) (hc : QE X c tc)
    (hm : lastMarks [op, op'] [b, c] = false := by with_unfolding_all rfl) : QE X (.Compare a [op, op'] [b, c] pos) (tChain r r' ta tb tc) := ⟨pe_chain ho ho' ha.o hb.o hc.o hm⟩
theorem t_chain {op op' : CmpOp} {r r' : R2} (ho : OpR X (compareOp op) r) (ho' : OpR X (compareOp op') r') (ha : QE X a ta) (hb : QE X b tb) (hc : QE X c tc)
    (hm : lastMarks [op, op'] [b, c] = false := by with_unfolding_all rfl) : QT X (.Compare a [op, op'] [b, c] pos) (tTest (tChain r r' ta tb tc)) := ⟨pt_chain ho ho' ha.o hb.o hc.o hm⟩
theorem q_one {op : BoolOp} (h : QE X a ta) : QE X (.BoolOp op [a] pos) ta := ⟨pe_one h.o⟩
theorem q_and (ha : QE X a ta) (hb : QE X (.BoolOp .And (b :: rest) pos) tb) : QE X (.BoolOp .And (a :: b :: rest) pos) (tAndV ta tb) := ⟨pe_and ha.o hb.o⟩
theorem q_if (hc : QT X c q) (ha : QE X a ta) (hb : QE X b tb) : QE X (.IfExp c a b pos) (tIf q ta tb) := ⟨pe_ifExp hc.o ha.o hb.o⟩
theorem w_and1 (ha : QT X a q) : QW X (.BoolOp .And [a] pos) q := ⟨pw_and1 ha.o⟩
theorem w_or1 (ha : QT X a q) : QW X (.BoolOp .Or [a] pos) q := ⟨pw_or1 ha.o⟩
theorem w_and (ha : QT X a q) (hb : QW X (.BoolOp .And (b :: rest) pos) q') : QW X (.BoolOp .And (a :: b :: rest) pos) (tAnd q q') := ⟨pw_and ha.o hb.o⟩
theorem w_or (ha : QT X a q) (hb : QW X (.BoolOp .Or (b :: rest) pos) q') : QW X (.BoolOp .Or (a :: b :: rest) pos) (tOr q q') := ⟨pw_or ha.o hb.o⟩
theorem t_w (h : QW X a q) : QT X a q := ⟨h.o.pt⟩
theorem t_not (ha : QT X a q) : QT X (.UnaryOp .Not a pos) (tNot q) := ⟨pt_not ha.o⟩
theorem t_val (h : QE X e te) (he : ∀ whole, isTrue e X.env whole = (do let v ← whole; standAt e.pos; holding [v] (truthy v)) := by intro _; rfl) : QT X e (tB te) := ⟨pt_val h.o he⟩
theorem a_nil : QA X [] tNil := ⟨pa_nil⟩
theorem a_cons (ha : QE X e te) (hr : QA X es t) (hs : starEach (e :: es) X.env = (false, eval e X.env) :: starEach es X.env := by rfl) : QA X (e :: es) (tCons te t) := ⟨pa_cons ha.o hr.o hs⟩
theorem q_tup {k : Nat} (h : QA X es t) : QE X (.Tuple es k pos) (tTup t) := ⟨pe_tup h.o⟩
theorem q_lst (h : QA X es t) : QE X (.List es pos) (tLst t) := ⟨pe_lst h.o⟩
theorem q_lstC (vs : List V) (h : es.mapM constV = some vs) : QE X (.List es pos) (tLstC vs) := ⟨pe_lstC vs h⟩
theorem q_call {CX : CXT} {k : Nat} {f : Addr} {fd : FuncData} {ps : List Str} {sp : Sp} {dvs : List V} {ds : List Value} {E : XK} (F : FnOk X.prog X.w X.K X.mg X.base CX k f fd ps sp) (hr : Room k X.A) (hm : X.mg x = some (.ref f)) (hk : PySem.W.keepIn X.K (.ref f) = true) (hb : Binds X.K fd ps ds) (hd : Vals dvs ds) (hx : Passes CX X E)
    (ha : QA X (e :: es) t) (hg : Gl X x := by rfl) (hdb : (x == ("__debug__" : Str)) = false := by decide) (he : starEach (e :: es) X.env = (false, eval e X.env) :: starEach es X.env := by rfl) (hpl : (backTo pos (starEach es X.env)).any (·.1) = false := by rfl) :
    QE X (.Call (.Name x p) (e :: es) [] pos) (tCall sp dvs E t) := ⟨pe_call F hr hg hm hk hb hd hx ha.o hdb he hpl⟩
theorem q_callB {id : String} {r : List V → Hp → VK → Prop} (hc : CallR X (.builtin id) r) (hm : X.mg x = none) (hv : bootBuiltins x = some (.builtin id)) (ha : QA X (e :: es) t) (hg : Gl X x := by rfl) (hn : x ≠ "__name__" := by decide) (hdb : (x == ("__debug__" : Str)) = false := by decide)
    (he : starEach (e :: es) X.env = (false, eval e X.env) :: starEach es X.env := by rfl) (hpl : (backTo pos (starEach es X.env)).any (·.1) = false := by rfl) : QE X (.Call (.Name x p) (e :: es) [] pos) (tCB r t) := ⟨pe_callB hc hg hm hv ha.o hn hdb he hpl⟩
theorem q_callTy {T : String} {r : List V → Hp → VK → Prop} (hc : CallR X (.type T) r) (hm : X.mg x = none) (hv : bootBuiltins x = some (.type T)) (ha : QA X (e :: es) t) (hg : Gl X x := by rfl) (hn : x ≠ "__name__" := by decide) (hdb : (x == ("__debug__" : Str)) = false := by decide)
    (he : starEach (e :: es) X.env = (false, eval e X.env) :: starEach es X.env := by rfl) (hpl : (backTo pos (starEach es X.env)).any (·.1) = false := by rfl) : QE X (.Call (.Name x p) (e :: es) [] pos) (tCB r t) := ⟨pe_callTy hc hg hm hv ha.o hn hdb he hpl⟩
theorem q_ix {r : R2} (hr : IxR X r) (ha : QE X a ta) (hb : QE X b tb) (hs : PlainIx b := by exact fun _ _ => rfl) : QE X (.Subscript a b pos) (tOp r ta tb) := ⟨pe_ix hr ha.o hb.o hs⟩
theorem o_none : QO X none tNoPart := ⟨po_none⟩
theorem o_some (h : QE X e te) : QO X (some e) (tPart te) := ⟨po_some h.o⟩
theorem q_sl {r : V → Option Int → Option Int → Hp → VK → Prop} {lo hi : Option Expr} {tl th : TO} (hr : SlR X r) (he : QE X e te) (hl : QO X lo tl) (hu : QO X hi th) : QE X (.Subscript e (.Slice lo hi none p) pos) (tSl r te tl th) := ⟨pe_slice hr he.o hl.o hu.o⟩
theorem q_bm {T id : String} {name : Str} {r : V → List V → Hp → VK → Prop} (pa : PlainAttrs T) (slot : Slot T name id) (hty : typeOf (.builtin id) = pure (.type "method_descriptor")) (hm : MtR X id r) (ho : QE X o to) (ha : QA X (e :: es) t)
    (hbase : attributeBase o name X.env (eval o X.env) = eval o X.env := by rfl)
    (hfew : ((backTo cpos (starEach (e :: es) X.env)).all (fun x => !x.1) && (backToKw cpos (keywordEach [] X.env)).all (fun x => x.1.isSome)
      && decide ((e :: es).length + ([] : List Keyword).length + (if ([] : List Keyword).isEmpty then 0 else 1) < 30)) = true := by rfl)
    (hline : (apos.endLine == cpos.line) = true := by rfl) (hs : starEach (e :: es) X.env = (false, eval e X.env) :: starEach es X.env := by rfl) (hplain : (backTo cpos (starEach es X.env)).any (·.1) = false := by rfl) :
    QE X (.Call (.Attribute o name apos) (e :: es) [] cpos) (tBM X.K T r to t) := ⟨pe_bm pa slot hty hm ho.o ha.o hbase hfew hline hs hplain⟩
theorem ps_nil : QPs X pos [] [] [] := ⟨pps_nil⟩
theorem ps_kv {ks : List (Option Expr)} {vs : List Expr} {trs : List (TE × TE)} (hk : QE X a ta) (hv : QE X b tb) (hr : QPs X pos ks vs trs) : QPs X pos (some a :: ks) (b :: vs) ((ta, tb) :: trs) := ⟨pps_cons hk.o hv.o hr.o⟩
theorem q_disp {keys : List (Option Expr)} {values : List Expr} {trs : List (TE × TE)} (h : QPs X pos keys values trs) (hall : keys.all (·.isSome) = true := by rfl) (hl : keys.length = values.length := by rfl) (h0 : keys ≠ [] := by exact (fun z => nomatch z))
    (h15 : keys.length ≤ 15 := by decide) : QE X (.Dict keys values pos) (tDisp trs) := ⟨pe_disp h.o hall hl h0 h15⟩
/-! iterators, targets, tests of a comprehension -/
theorem i_list {tg : Expr} (h : QE X e te) : QI X tg e (iList X.K te) := ⟨pi_list h.o⟩
theorem i_tup {tg : Expr} (h : QE X e te) : QI X tg e (iTup X.K te) := ⟨pi_tup h.o⟩
theorem i_str {tg : Expr} (h : QE X e te) : QI X tg e (iStr te) := ⟨pi_str h.o⟩
theorem i_rng1 {tg : Expr} (hm : X.mg "range" = none) (ha : QA X [a] t) (hg : Gl X "range" := by rfl) (hs : starEach [a] X.env = [(false, eval a X.env)] := by rfl) : QI X tg (.Call (.Name "range" p) [a] [] pos) (iRng1 t) := ⟨pi_range1 hg hm ha.o hs⟩
theorem i_rng2 {tg : Expr} (hm : X.mg "range" = none) (ha : QA X [a, b] t) (hg : Gl X "range" := by rfl) (hs : starEach [a, b] X.env = [(false, eval a X.env), (false, eval b X.env)] := by rfl) (hs2 : starEach [b] X.env = [(false, eval b X.env)] := by rfl) : QI X tg (.Call (.Name "range" p) [a, b] [] pos) (iRng2 t) := ⟨pi_range2 hg hm ha.o hs hs2⟩
theorem g_name (k : Nat) (hN : X.N.Nodup) (hi : X.N[k]? = some x := by rfl) (hx : X.env.scope.names.lookup x = some .local := by rfl) : QG X (.Name x pos) (gName k) := ⟨pg_name hN hi (.inl hx) (.inr hx)⟩
theorem gs_nil : QGs X [] gNil := ⟨pgs_nil⟩
theorem gs_cons {tg : TG} {tgs : TGs} (h1 : QG X e tg) (h2 : QGs X es tgs) (hs : (assignEach (e :: es) X.env).map (·.2) = assign e X.env :: (assignEach es X.env).map (·.2) := by rfl) : QGs X (e :: es) (gCons tg tgs) := ⟨pgs_cons h1.o h2.o hs⟩
theorem g_tup (n : Nat) {k : Nat} {tgs : TGs} (hc : X.calm = true) (h : QGs X es tgs) (hn : (assignEach es X.env).length = n := by rfl) (hst : (assignEach es X.env).findIdx? (·.1) = none := by rfl) : QG X (.Tuple es k pos) (gTup X.K n tgs) := ⟨pg_tup hc h.o hn hst⟩
theorem f_nil : QF X [] tYes := ⟨pif_nil⟩
theorem f_one (h : QT X c q) : QF X [c] q := ⟨pif_one h.o⟩
/-! statements -/
theorem b_nil : QB X [] tNext := ⟨pss_nil⟩
theorem b_cons {st : Stmt} {sts : List Stmt} (h1 : QS X st sa) (h2 : QB X sts sb) : QB X (st :: sts) (tSeq sa sb) := ⟨pss_cons h1.o h2.o⟩
theorem b_one {st : Stmt} (h1 : QS X st sa) : QB X [st] sa := ⟨pss_one h1.o⟩
theorem s_if {A B : List Stmt} (hc : QT X c q) (ha : QB X A sa) (hb : QB X B sb) : QS X (.If c A B pos) (tIfS q sa sb) := ⟨ps_if hc.o ha.o hb.o⟩
theorem s_ret (h : QE X e te) : QS X (.Return (some e) pos) (tRet te) := ⟨ps_ret h.o⟩
theorem s_expr (he : QE X e te) (hs : swapsWith e none pos.line X.env = pure false := by rfl) : QS X (.Expr e pos) (tDrop te) := ⟨ps_expr he.o hs⟩
theorem s_set (k : Nat) {pos' : Pos} (hN : X.N.Nodup) (he : QE X e te) (hi : X.N[k]? = some x := by rfl) (hx : X.env.scope.names.lookup x = some .local := by rfl) (hs : swapsWith e (some (.Name x pos')) pos.line X.env = pure false := by rfl) :
    QS X (.Assign [.Name x pos'] e pos) (tAsg te (gName k)) := ⟨ps_set hN hi (.inl hx) he.o hs (.inr hx)⟩
/-- a name that a comprehension captures -/
theorem s_setC (k : Nat) {pos' : Pos} (hN : X.N.Nodup) (he : QE X e te) (hi : X.N[k]? = some x := by rfl) (hx : X.env.scope.names.lookup x = some .cell := by rfl) (hf : X.fn x = true := by rfl) (hs : swapsWith e (some (.Name x pos')) pos.line X.env = pure false := by rfl) :
    QS X (.Assign [.Name x pos'] e pos) (tAsg te (gName k)) := ⟨ps_set hN hi (.inr hx) he.o hs (.inl hf)⟩
theorem s_for {tg iter : Expr} {body : List Stmt} {wi : TI} {g : TG} (hp : PassesOwn (model X.prog X.w) X.A X.env X.xe) (hc : X.calm = true) (hi : QI X tg iter wi) (hg : QG X tg g) (hb : QB X body sa)
    (hs : ∀ x, foldedSetIterable iter X.env x = pure x := by intro _; rfl) : QS X (.For tg iter body [] pos) (tForG wi g sa) := ⟨ps_forG hp hc hi.o hg.o hb.o hs⟩
end
section
variable {X : Cx} {elt tg iter : Expr} {ifs : List Expr} {scope osc : Scope} {pos : Pos} {N' : List Str} {src : List (Option Nat)} {wi : TI} {g : TG} {tc : TT} {te : TE}
theorem q_comp (ok : CompOk X.N osc N' src scope) (hsc : X.env.scope = osc) (hc : X.calm = true) (hi : QI X tg iter wi)
    (hg : ∀ cl C s₀ H₀ fp, QG (cxComp X N' scope cl C s₀ H₀ fp) tg g) (ht : ∀ cl C s₀ H₀ fp, QF (cxComp X N' scope cl C s₀ H₀ fp) ifs tc) (he : ∀ cl C s₀ H₀ fp, QE (cxComp X N' scope cl C s₀ H₀ fp) elt te)
    (hs : ∀ x, foldedSetIterable iter X.env x = pure x := by intro _; rfl) : QE X (.ListComp elt [⟨tg, iter, ifs, 0⟩] scope pos) (tComp wi g tc te src) :=
  ⟨pe_comp ok hsc hc hi.o (fun cl C s₀ H₀ fp => (hg cl C s₀ H₀ fp).o) (fun cl C s₀ H₀ fp => (ht cl C s₀ H₀ fp).o) (fun cl C s₀ H₀ fp => (he cl C s₀ H₀ fp).o) hs⟩
end
theorem Fun.okQ {P : Program} {w : World} {K : PySem.W.Frag} {mg : Str → Option Value} {base : Heap} {x qual : Str} {st : Stmt} {f : Addr} {fd : FuncData} {N ps : List Str} {k : Nat} {sp : Sp} (F : Fun K x qual st f fd) (S : FnScope N ps (defScope st)) (len : ∀ vs H Q E, sp vs H Q E → vs.length = ps.length)
    (hbody : ∀ (cdv : Value) (A : Around) (outer : List Env) (s : Shared) (H : Hp) (vs : List V) (Q : VK) (E : XK), Room k (A.deeper (envOfC qual (defScope st) s.heap.objs.size f cdv)) → sp vs H Q E →
      ∃ t, QB (cxOf CX0 P w K mg base N qual (defScope st) f cdv A outer s H E).nox (defBody st) t ∧ t { nx := fun _ H' => Q .non H', rt := Q } (start N vs) H) : FnOk P w K mg base CX0 (k + 1) f fd ps sp :=
  F.ok S len fun cdv A outer s H vs Q E hr h => let ⟨t, a, b⟩ := hbody cdv A outer s H vs Q E hr h; ⟨t, a.o, b⟩
end L2

set_option Elab.async false
set_option linter.all false
set_option maxRecDepth 100000
set_option maxHeartbeats 4000000
/-! A comprehension whose value a name of the def takes on the same row: the store comes ahead of the letting go. -/
namespace L2
open PySem PySem.Spec PyProof.Rows
theorem ns_obj {h : Heap} {a : Addr} {m : Str → Option Value} (hn : h.Ns a m) : ∃ o, h.get? a = some o ∧ ∀ v, o.data ≠ .cell v :=
  let ⟨o, es, ep, e, d, _⟩ := hn; ⟨o, e, fun v z => by rw [d] at z; cases z⟩
theorem ns_move {h h' : Heap} {a : Addr} {m : Str → Option Value} {o : Obj} (hn : h.Ns a m) (e : h.get? a = some o) (e' : h'.get? a = some o) : h'.Ns a m := by
  obtain ⟨o', es, ep, e1, r⟩ := hn
  rw [e] at e1
  cases e1
  exact ⟨o, es, ep, e', r⟩
section
variable {X : Cx} {elt tg iter : Expr} {ifs : List Expr} {scope osc : Scope} {pos : Pos} {N' : List Str} {src : List (Option Nat)} {wi : TI} {g : TG} {tc : TT} {te : TE} {y : Str} {py spos : Pos} {k : Nat}
theorem ps_setcomp (ok : CompOk X.N osc N' src scope) (hsc : X.env.scope = osc) (hc : X.calm = true) (hi : PI X tg iter wi)
    (hg : ∀ cl C s₀ H₀ fp, PG (cxComp X N' scope cl C s₀ H₀ fp) tg g) (ht : ∀ cl C s₀ H₀ fp, PIf (cxComp X N' scope cl C s₀ H₀ fp) ifs tc) (he : ∀ cl C s₀ H₀ fp, PE (cxComp X N' scope cl C s₀ H₀ fp) elt te)
    (hN : X.N.Nodup) (hk : X.N[k]? = some y) (hx : X.env.scope.names.lookup y = some .local) (hsw : swapsWith (.ListComp elt [⟨tg, iter, ifs, 0⟩] scope pos) (some (.Name y py)) spos.line X.env = pure true)
    (hs : ∀ x, foldedSetIterable iter X.env x = pure x := by intro _; rfl) : PS X (.Assign [.Name y py] (.ListComp elt [⟨tg, iter, ifs, 0⟩] scope pos) spos) (tAsg (tComp wi g tc te src) (gName k)) := by
  intro pins s σ H D I h
  obtain ⟨cl, hcl, c1, c2⟩ := closure_of (scope := scope) (env := X.env) fun y hy hyf => I.ok.has y.1 (by
    have z := ok.frees y hy hyf
    rw [← hsc] at z
    exact z)
  rw [exec_Assign_Name_used _ _ _ _ hsw]
  refine wpAny_bind (wpAny_standAt (wpAny_bind ?_))
  show wpAny _ X.A (do let _ ← comprehension (.ListComp elt [⟨tg, iter, ifs, 0⟩] scope pos) scope X.env _ (newList []) false (eval iter X.env) (some (assign (.Name y py) X.env))) _ _ s
  refine wpAny_bind (wpAny_mono (wpAny_comprehension_free (use := some (assign (.Name y py) X.env)) (Q := fun _ s' => ∃ σ' H', Inv X pins σ' H' s' ∧ D.nx σ' H') rfl hs hcl ok.kind ok.loc
    (thn (hi pins s σ H _ I h) fun v s1 h1 => thn h1 fun itv s2 h2 => ?_)) (fun _ s' hq => wpAny_pure (wpAny_pure hq)) fun _ _ e => e)
  obtain ⟨it, fp, tn, J, H2, e, I2, T, st2, f2, q2⟩ := h2
  subst e
  have hlt2 : ∀ b ∈ fp, b < s2.heap.objs.size := fun b hb => by
    obtain ⟨o, e, _⟩ := T.obj _ _ st2 b hb
    exact Heap.lt_size e
  refine wpAny_newObj_type ?_
  have hl : H2 s2.heap.objs.size = none := I2.hok.fresh (Nat.le_refl _)
  have I3 : Inv X pins σ (upd H2 s2.heap.objs.size (.lst [])) { s2 with heap := s2.heap.push { cls := .type "list", dict := none, data := .seq ([] : List Value).toArray } } :=
    I2.laid (t' := s2.toks) (fun b u e => Heap.get?_push_of_some _ e) (Nat.le_refl _) ⟨Nat.zero_le _, [], 0, .nil, Heap.get?_push_size _ rfl⟩
  obtain ⟨W, ⟨m0, w0⟩, turn⟩ := q2 _ hl
  generalize hl2 : s2.heap.objs.size = l at *
  generalize hs3 : ({ s2 with heap := s2.heap.push { cls := .type "list", dict := none, data := .seq ([] : List Value).toArray } } : Shared) = s3 at *
  have f3 : ∀ b ∈ fp, FpOk X pins (upd H2 l (.lst [])) b := fun b hb => ⟨by rw [upd_ne (Nat.ne_of_lt (hlt2 b hb))]; exact (f2 b hb).1, (f2 b hb).2⟩
  have k3 : ∀ b o, s2.heap.get? b = some o → s3.heap.get? b = some o := fun b o e => by rw [← hs3]; exact Heap.get?_push_of_some _ e
  have hlt3 : ∀ b ∈ fp, b < s3.heap.objs.size := fun b hb => by
    obtain ⟨o, e, _⟩ := T.obj _ _ st2 b hb
    exact Heap.lt_size (k3 b o e)
  refine wpAny_newFunctionEnv ok.nocell (by intro y hy; simp at hy) (fun h₁ hns₁ hsb₁ => ?_) ok.kind
  have k4 : ∀ b o, s3.heap.get? b = some o → h₁.get? b = some o := fun b o e => (hsb₁.2 b (Nat.ne_of_lt (Heap.lt_size e))).trans (Heap.get?_push_of_some _ e)
  have J0 := comp_enter (tk := s3.toks + ([] : List (Str × Value)).length) I3 f3 hlt3 ok hsc c1 c2 hns₁ k4
  have st4 : tn 0 h₁ := T.keep _ _ _ st2 fun b hb o e => k4 b o (k3 b o e)
  generalize hC : s3.heap.objs.size = C at *
  have stat : ∀ {H' : Hp}, (∀ b ∈ fp, H' b = none) → ∀ b ∈ fp, FpOk (cxComp X N' scope cl C s3 (upd H2 l (.lst [])) fp) [] H' b := fun {H'} hn b hb =>
    ⟨hn b hb, (J0.ok.exf b hb).1, J0.ok.exfs b hb, .inl hb, (J0.ok.exf b hb).2, fun p hp => absurd (show p ∈ ([] : List (Addr × Obj)) from hp) (by simp)⟩
  have loop : codeAny (model X.prog X.w) X.A (.compLoop (.ListComp elt [⟨tg, iter, ifs, 0⟩] scope pos) 0 (.ref it) (.ref l) (compEnvC scope cl C X.env))
      (compPost (model X.prog X.w) X.A X.xe (some (assign (.Name y py) X.env)) (fun _ s' => ∃ σ' H', Inv X pins σ' H' s' ∧ D.nx σ' H') (.ref l) C) { s3 with heap := h₁, toks := s3.toks + ([] : List (Str × Value)).length } := by
    refine compLoop_own (fun n s' => ∃ i ys σ' H', Inv (cxComp X N' scope cl C s3 (upd H2 l (.lst [])) fp) [] σ' H' s' ∧ tn i s'.heap ∧ (∀ b ∈ fp, H' b = none) ∧ H' l = some (.lst ys) ∧ W i n ys σ' H') ?_ m0
      ⟨0, [], _, _, J0, st4, fun b hb => (f3 b hb).1, upd_same, w0⟩
    rintro n s5 ⟨i, ys, σ5, H5, I5, st5, fr5, hl5, w5⟩
    rcases turn i n ys σ5 H5 w5 hl5 with ⟨stop, qn⟩ | ⟨go, N, hN, step⟩
    · refine thn (T.done (cxComp X N' scope cl C s3 (upd H2 l (.lst [])) fp) rfl rfl rfl hc i [] s5 σ5 H5 (fun _ _ => False) I5 (stat fr5) st5 stop) fun r s6 ⟨hr, I6⟩ => ?_
      subst hr
      obtain ⟨m, hn, _⟩ := I6.loc
      have hCs : s3.heap.objs.size ≤ C := by rw [← hC]; exact Nat.le_refl _
      have I7 : Inv X pins σ H5 s6 := comp_leave (h' := s6.heap) I3 f3 hCs I6 ⟨rfl, fun _ _ => rfl⟩
      have fC : FpOk X pins H5 C := I3.fpOk hCs I6.free
      obtain ⟨oC, eC, dC⟩ : ∃ o, s6.heap.get? C = some o ∧ ∀ v, o.data ≠ .cell v := by
        obtain ⟨o, e, d⟩ := ns_obj hn
        exact ⟨o, e, d⟩
      have I8 := I7.pinned (fp := [C]) (fun b hb => by rw [List.mem_singleton.mp hb]; exact fC) (fun b hb => by rw [List.mem_singleton.mp hb]; exact ⟨oC, eC, dC⟩)
      refine wpAny_assign_Name (store_ok (v := .ref l) I8 hN hk (.inl hx) rfl (fun s9 I9 => ?_) (.inr hx))
      have p9 := (I9.pin (C, oC) (List.mem_append_right _ (List.mem_append_right _ (mem_pinsAt (List.mem_singleton.mpr rfl) eC)))).1
      refine ⟨m, ns_move hn eC p9, fun h' hsb => ⟨_, H5, ?_, qn⟩⟩
      obtain ⟨f0, f1, f2, f3', f4, f5⟩ := fC
      exact I9.unpinned.turned (t' := s9.toks) (fun b o hb e => (hsb.2 b hb).trans e) f0 f1 f3' f4 f5
    · refine thn (T.item (cxComp X N' scope cl C s3 (upd H2 l (.lst [])) fp) rfl rfl rfl hc i [] s5 σ5 H5 (fun _ _ => False) I5 (stat fr5) st5 go) fun r s6 ⟨u, hr, h6⟩ => ?_
      subst hr
      refine thn h6 fun _ s7 ⟨x, H7, I7, r7, y7, st7, fr7⟩ => ?_
      have I7' := I7.pinned (stat fr7) (T.obj _ _ st7)
      refine thn (hg cl C s3 _ fp _ s7 σ5 H7 x u _ I7' r7 (step x H7 y7)) fun _ s8 ⟨σ8, H8, I8, q8⟩ => ?_
      refine thn (ht cl C s3 _ fp _ s8 σ8 H8 _ I8 q8) fun b s9 ⟨H9, I9, q9⟩ => ?_
      have back : ∀ {s' : Shared} {H' : Hp}, Inv (cxComp X N' scope cl C s3 (upd H2 l (.lst [])) fp) ([] ++ pinsAt fp s7.heap) σ8 H' s' → tn (i + 1) s'.heap ∧ ∀ b ∈ fp, H' b = none := fun {s' H'} I' => by
        refine ⟨T.keep _ _ _ st7 fun b hb o e => (I'.pin (b, o) (List.mem_append_right _ (List.mem_append_right _ (mem_pinsAt hb e)))).1, fun b hb => ?_⟩
        obtain ⟨o, e, d⟩ := T.obj _ _ st7 b hb
        exact (I'.pin (b, o) (List.mem_append_right _ (List.mem_append_right _ (mem_pinsAt hb e)))).2.1
      cases b with
      | false =>
        obtain ⟨hl9, n9⟩ := q9
        obtain ⟨m', hm, w9⟩ := hN _ _ _ n9
        obtain ⟨t9, fr9⟩ := back I9
        exact ⟨m', hm, i + 1, ys, σ8, H9, I9.unpinned, t9, fr9, hl9, w9⟩
      | true =>
        refine thn (he cl C s3 _ fp _ s9 σ8 H9 _ I9 q9) fun xv s10 ⟨y, H10, I10, r10, hl10, hz, n10⟩ => ?_
        obtain ⟨m', hm, w10⟩ := hN _ _ _ n10
        refine thn (mt_append (X := cxComp X N' scope cl C s3 (upd H2 l (.lst [])) fp) _ s10 σ8 H10 (.ref l) [y] (.ref l) [xv] (fun v H' => H' = upd H10 l (.lst (ys ++ [y]))) I10 rfl (.cons r10 .nil) ⟨l, ys, y, rfl, rfl, hl10, hz, rfl⟩) fun _ s11 ⟨_, H11, I11, _, e11⟩ => ?_
        subst e11
        obtain ⟨t11, fr11⟩ := back I11
        exact ⟨m', hm, i + 1, ys ++ [y], σ8, _, I11.unpinned, t11, fr11, upd_same, w10⟩
  exact codeAny_compStart_list loop (T.self _ 0 _ _ _ st4 loop)

/-- x = [..] of a comprehension -/
theorem s_setcomp (k : Nat) (ok : CompOk X.N osc N' src scope) (hsc : X.env.scope = osc) (hc : X.calm = true) (hN : X.N.Nodup) (hi : QI X tg iter wi)
    (hg : ∀ cl C s₀ H₀ fp, QG (cxComp X N' scope cl C s₀ H₀ fp) tg g) (ht : ∀ cl C s₀ H₀ fp, QF (cxComp X N' scope cl C s₀ H₀ fp) ifs tc) (he : ∀ cl C s₀ H₀ fp, QE (cxComp X N' scope cl C s₀ H₀ fp) elt te)
    (hk : X.N[k]? = some y := by rfl) (hx : X.env.scope.names.lookup y = some .local := by rfl) (hsw : swapsWith (.ListComp elt [⟨tg, iter, ifs, 0⟩] scope pos) (some (.Name y py)) spos.line X.env = pure true := by rfl)
    (hs : ∀ x, foldedSetIterable iter X.env x = pure x := by intro _; rfl) : QS X (.Assign [.Name y py] (.ListComp elt [⟨tg, iter, ifs, 0⟩] scope pos) spos) (tAsg (tComp wi g tc te src) (gName k)) :=
  ⟨ps_setcomp ok hsc hc hi.o (fun cl C s₀ H₀ fp => (hg cl C s₀ H₀ fp).o) (fun cl C s₀ H₀ fp => (ht cl C s₀ H₀ fp).o) (fun cl C s₀ H₀ fp => (he cl C s₀ H₀ fp).o) hN hk hx hsw hs⟩
end

section
variable {X : Cx} {e o i tg : Expr} {te to ti : TE} {g : TG} {pos : Pos} {x : Str} {t : TSet}
theorem s_asg (he : QE X e te) (hg : QG X tg g) (hs : swapsWithSole [tg] e pos.line X.env = pure false := by rfl) (hw : swappedStores [tg] e X.env = pure none := by rfl)
    (h1 : (assignEach [tg] X.env).map (·.2) = [assign tg X.env] := by rfl) : QS X (.Assign [tg] e pos) (tAsg te g) := ⟨ps_asg he.o hg.o hs hw h1⟩
theorem g_sub (ho : QE X o to) (hi : QE X i ti) (hs : PSet X t) (ha : ∀ v, assign (.Subscript o i pos) X.env v = (do
      let ov ← holding [v] (eval o X.env)
      let iv ← holding [v, ov] (eval i X.env)
      standAt pos
      holding [v, ov, iv] (setItem ov iv v)
      release [v, ov, iv] []) := by intro _; rfl) : QG X (.Subscript o i pos) (gSub to ti t) := ⟨pg_sub ho.o hi.o hs ha⟩
end

/-! a cut between two rows of a block -/
def tCut (t u : TS) : TS := fun D σ H => ∃ R : St → Hp → Prop, t { D with nx := R } σ H ∧ ∀ σ' H', R σ' H' → u D σ' H'
theorem b_cut {X : Cx} {st : Stmt} {sts : List Stmt} {sa sb : TS} (h1 : QS X st sa) (h2 : QB X sts sb) : QB X (st :: sts) (tCut sa sb) := by
  refine ⟨fun pins s σ H D I h => ?_⟩
  obtain ⟨R, ha, hb⟩ := h
  have h3 : PSs X sts (fun D' σ' H' => D' = D ∧ R σ' H') := fun pins s σ' H' D' I h => by
    obtain ⟨rfl, hR⟩ := h
    exact h2.o pins s σ' H' D' I (hb σ' H' hR)
  have e : (fun σ' H' => D = D ∧ R σ' H') = R := by
    funext σ' H'
    simp
  refine pss_cons h1.o h3 pins s σ H D I ?_
  show sa { D with nx := fun σ' H' => D = D ∧ R σ' H' } σ H
  rw [e]
  exact ha
section
variable {X : Cx}
/-- a text times a number from 1 on -/
theorem repS_one (z : Str) : repS z 1 = z := by
  unfold repS
  simp
theorem op_mul_strN : OpR X (binaryOp .Mult) (fun x y H Q => ∃ z n, x = .str z ∧ y = .int n ∧ 1 ≤ n ∧ n ≤ 1000 ∧ 0 < z.length ∧ z.length ≤ 1000 ∧ Q (.str (repS z n.toNat)) H) := by
  intro pins s σ H x y v u Q I rx ry h
  obtain ⟨z, n, rfl, rfl, h1, h2, h3, h4, q⟩ := h
  by_cases h : 1 < n
  · exact op_mul_str pins s σ H _ _ v u Q I rx ry ⟨z, n, rfl, rfl, h, h2, h3, h4, q⟩
  · have e : n = 1 := by omega
    subst e
    obtain ⟨t, rfl⟩ := rx
    obtain ⟨t', rfl⟩ := ry
    refine PySem.P.mul_str (by decide) (fun _ z => by simp at z) (fun _ z => by simp at z) ?_
    simp only [show ¬ (1 : Int) < 1 by decide, if_false, beq_self_eq_true, Bool.true_or, if_true]
    refine ⟨.str _, H, I, ⟨_, rfl⟩, ?_⟩
    have e : repS z (1 : Int).toNat = z := repS_one z
    rw [e] at q
    exact q
end

/-! the rules that speak of what the program was at first, with that named (for blocks) -/
section
variable {X : Cx} {K : PySem.W.Frag}
theorem ix_tupK (h : X.K = K) : IxR X (rIxT K) := by subst h; exact ix_tup
theorem call_tuple_ofK (h : X.K = K) : CallR X (.type "tuple") (fun xs H Q => ∃ p ys, xs = [.ref p] ∧ ((SqL K H p ys ∧ ∀ l, H l = none → Q (.ref l) (upd H l (.tup ys))) ∨ (SqT K H p ys ∧ Q (.ref p) H))) := by subst h; exact call_tuple_of
theorem call_len2 : CallR X (.builtin "len") (fun xs H Q => (∃ p ys, xs = [.ref p] ∧ (SqL X.K H p ys ∨ SqT X.K H p ys) ∧ Q (.int ys.length) H) ∨ ∃ z, xs = [.str z] ∧ z.length ≤ sizeLine ∧ Q (.int z.length) H) := call_len_seq.or call_len_str
theorem g_tupK (n : Nat) {k : Nat} {es : List Expr} {pos : Pos} {tgs : TGs} (hK : X.K = K) (hc : X.calm = true) (h : QGs X es tgs) (hn : (assignEach es X.env).length = n := by rfl) (hst : (assignEach es X.env).findIdx? (·.1) = none := by rfl) : QG X (.Tuple es k pos) (gTup K n tgs) := by subst hK; exact g_tup n hc h hn hst
end
end L2

set_option Elab.async false
set_option linter.all false
set_option maxRecDepth 100000
set_option maxHeartbeats 4000000
/-! a tuple times a number from 2 on -/
namespace L2
open PySem PySem.Spec PyProof.Rows
open Sem (wp)
open MeetsSeq MeetsSeq2 MeetsSeq3 Builtin
end L2

set_option Elab.async false
set_option linter.all false
set_option maxRecDepth 100000
set_option maxHeartbeats 4000000
/-! names: the mathematics -/
namespace RW
open PySem PySem.Spec PyProof.Rows L2
def letterC (c : Nat) : Bool := decide (97 ≤ c) && decide (c ≤ 122)
def takenL : List Str := ["if", "and", "not", "never"]
def isNameB (x : Str) : Bool := decide (1 ≤ x.length) && decide (x.length ≤ 8) && x.cps.toList.all letterC && !(takenL.any fun y => decide (y = x))
/-- a hand stands at a, with at most n turns -/
def Hand (H : Hp) (a : Addr) (n : Int) : Prop := ∃ x m t : Int, H a = some (.lst [.int x, .int m, .int t]) ∧ 0 ≤ m ∧ m < 2 ^ 63 ∧ 0 ≤ t ∧ t ≤ n
/-- all but what stands at a is kept -/
def Keep (a : Addr) (H H' : Hp) : Prop := ∀ b o, b ≠ a → H b = some o → H' b = some o
theorem Keep.trans {a : Addr} {H H1 H2 : Hp} (x : Keep a H H1) (y : Keep a H1 H2) : Keep a H H2 := fun b o n h => y b o n (x b o n h)
theorem Keep.upd (a : Addr) (H : Hp) (o : HO) : Keep a H (upd H a o) := fun b u n h => by rw [upd_ne n]; exact h
theorem Keep.new {a p : Addr} {H : Hp} {o : HO} (h : H p = none) : Keep a H (L2.upd H p o) := fun b u n e => by rw [upd_ne (ne_of_none e h)]; exact e
theorem Keep.of {a : Addr} {H H' : Hp} (h : Same H H') : Keep a H H' := fun b o _ e => h b o e
theorem Hand.ne {H : Hp} {a p : Addr} {n : Int} (h : Hand H a n) (e : H p = none) : p ≠ a := by
  obtain ⟨x, m, t, h, _⟩ := h
  exact fun z => by rw [z, h] at e; cases e
theorem Hand.new {H : Hp} {a p : Addr} {n : Int} {o : HO} (h : Hand H a n) (e : H p = none) : Hand (upd H p o) a n := by
  have ne := h.ne e
  obtain ⟨x, m, t, h, r⟩ := h
  exact ⟨x, m, t, by rw [upd_ne (Ne.symm ne)]; exact h, r⟩
theorem Hand.same {H H' : Hp} {a : Addr} {n : Int} (h : Hand H a n) (s : Same H H') : Hand H' a n := by
  obtain ⟨x, m, t, h, r⟩ := h
  exact ⟨x, m, t, s _ _ h, r⟩
theorem Hand.mono {H : Hp} {a : Addr} {n n' : Int} (h : Hand H a n) (l : n ≤ n') : Hand H a n' := by
  obtain ⟨x, m, t, h, h1, h2, h3, h4⟩ := h
  exact ⟨x, m, t, h, h1, h2, h3, by omega⟩
theorem Keep.sqL {K : PySem.W.Frag} {a b : Addr} {H H' : Hp} {xs : List V} (k : Keep a H H') (n : b ≠ a) (h : SqL K H b xs) : SqL K H' b xs := by
  rcases h with (h | ⟨o, h⟩) | h
  · exact .inl (.inl (k _ _ n h))
  · exact .inl (.inr ⟨o, k _ _ n h⟩)
  · exact .inr h
theorem Hand.updNe {H : Hp} {a p : Addr} {n : Int} {o : HO} (h : Hand H a n) (e : p ≠ a) : Hand (upd H p o) a n := by
  obtain ⟨x, m, t, h, r⟩ := h
  exact ⟨x, m, t, by rw [upd_ne (Ne.symm e)]; exact h, r⟩
theorem Keep.updNew {a p : Addr} {H H' : Hp} {o : HO} (k : Keep a H H') (e : H p = none) : Keep a H (L2.upd H' p o) := fun b u n h => by
  rw [upd_ne (ne_of_none h e)]
  exact k b u n h
def lettersS : Str := "abcdefghijklmnopqrstuvwxyz"
def one (c : Nat) : Str := ⟨#[c]⟩

theorem Same.new {H : Hp} {p : Addr} {o : HO} (h : H p = none) : Same H (L2.upd H p o) := fun b u e => by rw [upd_ne (ne_of_none e h)]; exact e
/-- a def of the text: its address, its object, its name -/
structure At (K : PySem.W.Frag) (mg : Str → Option Value) (x : Str) (st : Stmt) (ps : List Str) (f : Addr) (fd : FuncData) : Prop where
  fn : Fun K x x st f fd
  b : Binds K fd ps []
  mg : mg x = some (.ref f)
  kp : PySem.W.keepIn K (.ref f) = true
theorem atI_mem {α : Type} {xs : List α} {d : Int} (h0 : 0 ≤ d) (h1 : d < xs.length) : ∃ v, atI xs d = some v ∧ v ∈ xs := by
  obtain ⟨k, rfl⟩ : ∃ k : Nat, d = (k : Int) := ⟨d.toNat, by omega⟩
  have hk : k < xs.length := by omega
  exact ⟨xs[k], atI_nat (by simp [hk]), List.getElem_mem hk⟩
theorem at0 {α : Type} {x : α} {xs : List α} : atI (x :: xs) 0 = some x := atI_nat (j := 0) rfl
theorem at1 {α : Type} {x y : α} {xs : List α} : atI (x :: y :: xs) 1 = some y := atI_nat (j := 1) rfl
theorem tru {b : Bool} (h : ¬ b = true) : b = false := by simpa using h
/-! things of any kind -/
inductive D where
  | non | bl (b : Bool) | int (i : Int) | str (x : Str) | tup (ds : List D) | oth
inductive Rep (H : Hp) : V → D → Prop where
  | non : Rep H .non .non
  | bl (b : Bool) : Rep H (.bl b) (.bl b)
  | int (i : Int) : Rep H (.int i) (.int i)
  | str (x : Str) (h : x.length ≤ 1000) : Rep H (.str x) (.str x)
  | tup {p : Addr} {vs : List V} {ds : List D} (h : H p = some (.tup vs)) (l : vs.length = ds.length) (b : ds.length ≤ 1000) (r : ∀ (i : Nat) (v : V) (d : D), vs[i]? = some v → ds[i]? = some d → Rep H v d) : Rep H (.ref p) (.tup ds)
  | lst {p : Addr} {vs : List V} (h : H p = some (.lst vs)) : Rep H (.ref p) .oth
  | dK {p : Addr} {kvs : List (Key × V)} (h : H p = some (.dK kvs)) : Rep H (.ref p) .oth
structure Mono (H H' : Hp) : Prop where
  tup : ∀ p xs, H p = some (.tup xs) → H' p = some (.tup xs)
  lst : ∀ p xs, H p = some (.lst xs) → ∃ ys, H' p = some (.lst ys)
  dK : ∀ p xs, H p = some (.dK xs) → ∃ ys, H' p = some (.dK ys)
theorem Mono.trans {H H1 H2 : Hp} (a : Mono H H1) (b : Mono H1 H2) : Mono H H2 := ⟨fun p xs h => b.tup p xs (a.tup p xs h), fun p xs h => let ⟨ys, e⟩ := a.lst p xs h; b.lst p ys e, fun p xs h => let ⟨ys, e⟩ := a.dK p xs h; b.dK p ys e⟩
theorem Mono.of {H H' : Hp} (s : Same H H') : Mono H H' := ⟨fun p xs h => s _ _ h, fun p xs h => ⟨xs, s _ _ h⟩, fun p xs h => ⟨xs, s _ _ h⟩⟩
theorem Mono.new {H : Hp} {p : Addr} {o : HO} (h : H p = none) : Mono H (upd H p o) := .of (Same.new h)
theorem Mono.lset {H : Hp} {p : Addr} {xs ys : List V} (h : H p = some (.lst xs)) : Mono H (upd H p (.lst ys)) := by
  refine ⟨fun q zs e => ?_, fun q zs e => ?_, fun q zs e => ?_⟩
  · by_cases hq : q = p
    · subst hq; rw [h] at e; cases e
    · rw [upd_ne hq]; exact e
  · by_cases hq : q = p
    · subst hq; exact ⟨ys, upd_same⟩
    · rw [upd_ne hq]; exact ⟨zs, e⟩
  · by_cases hq : q = p
    · subst hq; rw [h] at e; cases e
    · rw [upd_ne hq]; exact ⟨zs, e⟩
theorem Mono.keep {H H' : Hp} {a : Addr} {n m : Int} (k : Keep a H H') (h : Hand H a n) (h' : Hand H' a m) : Mono H H' := by
  obtain ⟨x, y, z, h, _⟩ := h
  obtain ⟨x', y', z', h', _⟩ := h'
  refine ⟨fun q zs e => ?_, fun q zs e => ?_, fun q zs e => ?_⟩
  · exact k q _ (fun hq => by subst hq; rw [h] at e; cases e) e
  · by_cases hq : q = a
    · subst hq; exact ⟨_, h'⟩
    · exact ⟨zs, k q _ hq e⟩
  · exact ⟨zs, k q _ (fun hq => by subst hq; rw [h] at e; cases e) e⟩
theorem Rep.mono {H H' : Hp} {v : V} {d : D} (h : Rep H v d) (m : Mono H H') : Rep H' v d := by
  induction h with
  | non => exact .non
  | bl b => exact .bl b
  | int i => exact .int i
  | str x h => exact .str x h
  | tup h l b _ ih => exact .tup (m.tup _ _ h) l b ih
  | lst h => obtain ⟨ys, e⟩ := m.lst _ _ h; exact .lst e
  | dK h => obtain ⟨ys, e⟩ := m.dK _ _ h; exact .dK e
theorem Rep.same {H H' : Hp} {v : V} {d : D} (h : Rep H v d) (s : Same H H') : Rep H' v d := h.mono (.of s)
def RepL (H : Hp) (vs : List V) (ds : List D) : Prop := vs.length = ds.length ∧ ∀ (i : Nat) (v : V) (d : D), vs[i]? = some v → ds[i]? = some d → Rep H v d
theorem RepL.nil {H : Hp} : RepL H [] [] := ⟨rfl, fun i v d e => by simp at e⟩
theorem RepL.cons {H : Hp} {v : V} {d : D} {vs : List V} {ds : List D} (h : Rep H v d) (r : RepL H vs ds) : RepL H (v :: vs) (d :: ds) := by
  refine ⟨by simp [r.1], fun i w e h1 h2 => ?_⟩
  cases i with
  | zero => simp at h1 h2; subst h1; subst h2; exact h
  | succ i => exact r.2 i w e (by simpa using h1) (by simpa using h2)
theorem RepL.head {H : Hp} {v : V} {d : D} {vs : List V} {ds : List D} (r : RepL H (v :: vs) (d :: ds)) : Rep H v d ∧ RepL H vs ds :=
  ⟨r.2 0 v d rfl rfl, by have := r.1; simp at this; exact this, fun i w e h1 h2 => r.2 (i + 1) w e (by simpa using h1) (by simpa using h2)⟩
theorem RepL.mono {H H' : Hp} {vs : List V} {ds : List D} (r : RepL H vs ds) (m : Mono H H') : RepL H' vs ds := ⟨r.1, fun i v d h1 h2 => (r.2 i v d h1 h2).mono m⟩
theorem RepL.append {H : Hp} {vs us : List V} {ds es : List D} (r : RepL H vs ds) (q : RepL H us es) : RepL H (vs ++ us) (ds ++ es) := by
  refine ⟨by rw [List.length_append, List.length_append, r.1, q.1], fun i v d h1 h2 => ?_⟩
  by_cases hi : i < vs.length
  · rw [List.getElem?_append_left hi] at h1
    rw [List.getElem?_append_left (by rw [← r.1]; exact hi)] at h2
    exact r.2 i v d h1 h2
  · rw [List.getElem?_append_right (by omega)] at h1
    rw [List.getElem?_append_right (by rw [← r.1]; omega), ← r.1] at h2
    exact q.2 _ v d h1 h2
theorem RepL.take {H : Hp} {vs : List V} {ds : List D} (r : RepL H vs ds) (n : Nat) : RepL H (vs.take n) (ds.take n) := by
  refine ⟨by rw [List.length_take, List.length_take, r.1], fun i v d h1 h2 => ?_⟩
  rw [List.getElem?_take] at h1 h2
  split at h1
  · rename_i h; rw [if_pos h] at h2; exact r.2 i v d h1 h2
  · cases h1
theorem RepL.drop {H : Hp} {vs : List V} {ds : List D} (r : RepL H vs ds) (n : Nat) : RepL H (vs.drop n) (ds.drop n) := by
  refine ⟨by rw [List.length_drop, List.length_drop, r.1], fun i v d h1 h2 => ?_⟩
  rw [List.getElem?_drop] at h1 h2
  exact r.2 _ v d h1 h2
theorem RepL.get {H : Hp} {vs : List V} {ds : List D} {i : Nat} {v : V} (r : RepL H vs ds) (h : vs[i]? = some v) : ∃ d, ds[i]? = some d ∧ Rep H v d := by
  have hi : i < vs.length := by
    rcases Nat.lt_or_ge i vs.length with q | q
    · exact q
    · rw [List.getElem?_eq_none q] at h; cases h
  have hd : i < ds.length := by rw [← r.1]; exact hi
  exact ⟨ds[i], by simp [hd], r.2 i v _ h (by simp [hd])⟩
theorem Rep.mkL {H : Hp} {p : Addr} {vs : List V} {ds : List D} (h : H p = some (.tup vs)) (b : ds.length ≤ 1000) (r : RepL H vs ds) : Rep H (.ref p) (.tup ds) := .tup h r.1 b r.2
theorem Rep.ofT {H : Hp} {v : V} {ds : List D} (h : Rep H v (.tup ds)) : ∃ p vs, v = .ref p ∧ H p = some (.tup vs) ∧ RepL H vs ds ∧ ds.length ≤ 1000 := by
  cases h with
  | tup h l b r => exact ⟨_, _, rfl, h, ⟨l, r⟩, b⟩
theorem Rep.of2 {H : Hp} {v : V} {d e : D} (h : Rep H v (.tup [d, e])) : ∃ p x y, v = .ref p ∧ H p = some (.tup [x, y]) ∧ Rep H x d ∧ Rep H y e := by
  obtain ⟨p, vs, rfl, hp, r, _⟩ := h.ofT
  match vs, r with
  | [x, y], r => exact ⟨p, x, y, rfl, hp, r.head.1, r.head.2.head.1⟩
  | [], r => exact absurd r.1 (by simp)
  | [_], r => exact absurd r.1 (by simp)
  | _ :: _ :: _ :: _, r => exact absurd r.1 (by simp)
theorem Rep.mk1 {H : Hp} {p : Addr} {x : V} {d : D} (h : H p = some (.tup [x])) (a : Rep H x d) : Rep H (.ref p) (.tup [d]) := .mkL h (by simp) (.cons a .nil)
theorem Rep.mk2 {H : Hp} {p : Addr} {x y : V} {d e : D} (h : H p = some (.tup [x, y])) (a : Rep H x d) (b : Rep H y e) : Rep H (.ref p) (.tup [d, e]) := .mkL h (by simp) (.cons a (.cons b .nil))
def isTupB : D → Bool | .tup _ => true | _ => false
def isIntB : D → Bool | .int _ => true | .bl _ => true | _ => false
def isBlB : D → Bool | .bl _ => true | _ => false
def isStrB : D → Bool | .str _ => true | _ => false
theorem Rep.isi {K : PySem.W.Frag} {H : Hp} {v : V} {d : D} (h : Rep H v d) : ∃ t, TyOf K H v t ∧ PySem.W.kitOne K t (.type "tuple") = some (isTupB d) ∧ PySem.W.kitOne K t (.type "int") = some (isIntB d) ∧ PySem.W.kitOne K t (.type "bool") = some (isBlB d) ∧ PySem.W.kitOne K t (.type "str") = some (isStrB d) := by
  cases h with
  | non => exact ⟨_, .non, rfl, rfl, rfl, rfl⟩
  | bl b => exact ⟨_, .bl b, rfl, rfl, rfl, rfl⟩
  | int i => exact ⟨_, .int i, rfl, rfl, rfl, rfl⟩
  | str x _ => exact ⟨_, .str x, rfl, rfl, rfl, rfl⟩
  | tup h _ _ _ => exact ⟨_, .tup h, rfl, rfl, rfl, rfl⟩
  | lst h => exact ⟨_, .lst h, rfl, rfl, rfl, rfl⟩
  | dK h => exact ⟨_, .dK h, rfl, rfl, rfl, rfl⟩
/-! what the program asks of things -/
def isNumB : D → Bool | .int _ => true | _ => false
def isWholeB (d : D) (lo hi : Int) : Bool := match d with | .int i => decide (lo ≤ i) && decide (i ≤ hi) | _ => false
def isRowB (d : D) (lo hi : Int) : Bool := match d with | .tup ds => decide (lo ≤ (ds.length : Int)) && decide ((ds.length : Int) ≤ hi) | _ => false
def headStrB : D → Bool | .tup (.str _ :: _) => true | _ => false
def isNameD : D → Bool | .str x => isNameB x | _ => false
def namingL : List Str := ["by", "from", "to", "mark"]
def isPlainB : D → Bool
  | .tup [.str w, x] => if w = "long" then isWholeB x 0 99 else (namingL.any fun y => decide (y = w)) && isNameD x
  | _ => false
def isCondB (d : D) : Bool := match d with
  | .tup [.str w, x] => if w = "not" then isPlainB x else isPlainB d
  | _ => false
def areCondsB : D → Bool | .tup ds => decide (ds.length ≤ 4) && ds.all isCondB | _ => false
def asks0 : D → Bool | .tup [.str w, _] => decide (w = "to") | _ => false
def asksB : D → Bool | .tup [.str w, x] => if w = "not" then asks0 x else decide (w = "to") | _ => false
def isWorthB : D → Bool | .non => true | d => isWholeB d (-999) 999
def anyAsks : D → Bool | .tup ds => ds.any asksB | _ => false
def isLikingB : D → Bool | .tup [c, x] => areCondsB c && isWorthB x && !anyAsks c | _ => false
def isActB : D → Bool
  | .tup [.str w] => decide (w = "keep")
  | .tup [.str w, x] => (decide (w = "put") || decide (w = "strike")) && isNameD x
  | _ => false
def isHandB : D → Bool | .tup [c, x] => areCondsB c && isActB x | _ => false
theorem lt_a (c : Nat) : decide (({ cps := #[c] } : Str).cps.toList < (Str.ofString "a").cps.toList) = decide (c < 97) := by
  have e : (Str.ofString "a").cps.toList = [97] := by decide +kernel
  rw [e]
  show decide ([c] < [97]) = _
  by_cases h : c < 97
  · rw [decide_eq_true h]
    exact decide_eq_true (List.cons_lt_cons_iff.mpr (.inl h))
  · rw [decide_eq_false h]
    refine decide_eq_false fun z => ?_
    rcases List.cons_lt_cons_iff.mp z with q | ⟨_, q⟩
    · exact h q
    · exact absurd q (by simp)
theorem lt_z (c : Nat) : decide ((Str.ofString "z").cps.toList < ({ cps := #[c] } : Str).cps.toList) = decide (122 < c) := by
  have e : (Str.ofString "z").cps.toList = [122] := by decide +kernel
  rw [e]
  show decide ([122] < [c]) = _
  by_cases h : 122 < c
  · rw [decide_eq_true h]
    exact decide_eq_true (List.cons_lt_cons_iff.mpr (.inl h))
  · rw [decide_eq_false h]
    refine decide_eq_false fun z => ?_
    rcases List.cons_lt_cons_iff.mp z with q | ⟨_, q⟩
    · exact h q
    · exact absurd q (by simp)
theorem nameD_eq {x : Str} : isNameD (.str x) = isNameB x := rfl
theorem dec_str' {x y : Str} : decide (V.str x = V.str y) = decide (x = y) := by
  by_cases h : x = y
  · subst h; rw [decide_eq_true rfl, decide_eq_true rfl]
  · rw [decide_eq_false h, decide_eq_false fun z => h (V.str.inj z)]
def spAny (g : D → Bool) : Sp := fun vs H Q _ => ∃ v d, vs = [v] ∧ Rep H v d ∧ ∀ H', Same H H' → Q (.bl (g d)) H'

theorem cut_take {xs : List V} {n : Nat} : cutV xs none (some (n : Int)) = xs.take n := by
  unfold cutV
  have e1 : HT.sIx xs.length 0 none = 0 := rfl
  have e2 : HT.sIx xs.length xs.length (some (n : Int)) = min n xs.length := by
    unfold HT.sIx
    have h : ¬ (n : Int) < 0 := by omega
    simp only [if_neg h, Int.toNat_natCast]
  rw [e1, e2, List.drop_zero, Nat.sub_zero, List.take_eq_take_iff]
  omega

/-- a comprehension that asks a truth of each thing of a row -/
theorem comp_truths {J : It} {vs : List V} {ds : List D} {g : D → Bool} {ok : Hp → Prop} {H : Hp} {te : TE} {src : List (Option Nat)} {σ : L2.St} {Q : VK} (wk : Wk J vs.length (fun i x => vs[i]? = some x) ok) (hok : ∀ H', Same H H' → ok H') (r : RepL H vs ds) (hl : ds.length ≤ 1000) (e : capt src σ = [none])
    (he : ∀ (x : V) (d : D) (H1 : Hp) (Q1 : VK), Same H H1 → Rep H1 x d → d ∈ ds → (∀ H2, Same H1 H2 → Q1 (.bl (g d)) H2) → te [some x] H1 Q1)
    (q : ∀ l H', Same H H' → H l = none → H' l = some (.lst ((ds.map g).map V.bl)) → Q (.ref l) H') : CompGo (gName 0) tYes te src σ Q J H := by
  refine comp_by wk (fun l i ys σ' H' => (∃ o, σ' = [o]) ∧ ys = ((ds.take i).map g).map V.bl ∧ Same H H') ?_ ?_ ?_ ?_
  · exact fun l h' => ⟨⟨none, e⟩, rfl, Same.new h'⟩
  · exact fun l i ys σ' H' _ p => hok H' p.2.2
  · rintro l i y ys σ' H1 h' hi hy ⟨⟨o, rfl⟩, rfl, s1⟩ hl'
    obtain ⟨d, hd, rd⟩ := r.get hy
    refine he y d H1 _ s1 (rd.same s1) (List.mem_of_getElem? hd) fun H2 s2 => ?_
    refine ⟨s2 _ _ hl', ?_, ⟨_, rfl⟩, ?_, ?_⟩
    · rw [List.length_map, List.length_map, List.length_take]
      exact small1000 (by omega)
    · rw [List.take_add_one, hd]
      simp
    · exact fun c o e => by
        rw [upd_ne (ne_of_none e h')]
        exact s2 _ _ (s1 _ _ e)
  · rintro l ys σ' H1 h' ⟨⟨o, rfl⟩, rfl, s1⟩ hl'
    rw [r.1, List.take_length] at hl'
    exact q l H1 s1 h' hl'
end RW

set_option Elab.async false
set_option linter.all false
set_option maxRecDepth 100000
set_option maxHeartbeats 4000000
/-! displays: what is written out of things, nothing but new things laid -/
namespace L2
open PySem PySem.Spec PyProof.Rows
theorem q_dnew {X : Cx} {pos : Pos} : QE X (.Dict [] [] pos) tDNewK := ⟨pe_dnewK⟩
end L2
namespace RW
open PySem PySem.Spec PyProof.Rows L2
def Dsp (te : TE) (σ : L2.St) (H : Hp) (d : D) : Prop := ∀ (H1 : Hp) (Q : VK), Same H H1 → (∀ v H2, Same H1 H2 → Rep H2 v d → Q v H2) → te σ H1 Q
def DspA (ta : TA) (σ : L2.St) (H : Hp) (ds : List D) : Prop := ∀ (H1 : Hp) (Q : List V → Hp → Prop), Same H H1 → (∀ vs H2, Same H1 H2 → RepL H2 vs ds → Q vs H2) → ta σ H1 Q
def DspL (te : TE) (σ : L2.St) (H : Hp) (ds : List D) : Prop := ∀ (H1 : Hp) (Q : VK), Same H H1 → (∀ l vs H2, Same H1 H2 → H2 l = some (.lst vs) → RepL H2 vs ds → Q (.ref l) H2) → te σ H1 Q
section
variable {te tf : TE} {ta : TA} {σ : L2.St} {H : Hp} {d : D} {ds es : List D} {K : PySem.W.Frag}
theorem dsp_str {x : Str} (h : x.length ≤ 1000) : Dsp (tC (.str x)) σ H (.str x) := fun H1 Q s q => q _ H1 (Same.refl _) (.str x h)
theorem dsp_int {i : Int} : Dsp (tC (.int i)) σ H (.int i) := fun H1 Q s q => q _ H1 (Same.refl _) (.int i)
theorem dsp_bl {b : Bool} : Dsp (tC (.bl b)) σ H (.bl b) := fun H1 Q s q => q _ H1 (Same.refl _) (.bl b)
theorem dsp_non : Dsp (tC .non) σ H .non := fun H1 Q s q => q _ H1 (Same.refl _) .non
theorem dsp_var {i : Nat} {v : V} (h : σ[i]? = some (some v)) (r : Rep H v d) : Dsp (tVar i) σ H d := fun H1 Q s q => ⟨v, h, q v H1 (Same.refl _) (r.same s)⟩
theorem dspA_nil : DspA tNil σ H [] := fun H1 Q s q => q [] H1 (Same.refl _) RepL.nil
theorem dspA_cons (h : Dsp te σ H d) (r : DspA ta σ H ds) : DspA (tCons te ta) σ H (d :: ds) := fun H1 Q s q =>
  h H1 _ s fun v H2 s2 rv => r H2 _ (s.trans s2) fun vs H3 s3 rs => q (v :: vs) H3 (s2.trans s3) (.cons (rv.same s3) rs)
theorem dsp_tup (h : DspA ta σ H ds) (hl : ds.length ≤ 1000) : Dsp (tTup ta) σ H (.tup ds) := fun H1 Q s q =>
  h H1 _ s fun vs H2 s2 rs => ⟨Nat.le_of_lt (small1000 (by rw [rs.1]; exact hl)), fun p hp => q _ _ (s2.trans (Same.new hp)) (.mkL upd_same hl (rs.mono (.new hp)))⟩
theorem dspl_lst (h : DspA ta σ H ds) (hl : ds.length ≤ 1000) : DspL (tLst ta) σ H ds := fun H1 Q s q =>
  h H1 _ s fun vs H2 s2 rs => ⟨Nat.le_of_lt (small1000 (by rw [rs.1]; exact hl)), fun p hp => q p vs _ (s2.trans (Same.new hp)) upd_same (rs.mono (.new hp))⟩
theorem dspl_var {i : Nat} {l : Addr} {vs : List V} (h : σ[i]? = some (some (.ref l))) (e : H l = some (.lst vs)) (r : RepL H vs ds) : DspL (tVar i) σ H ds := fun H1 Q s q => ⟨_, h, q l vs H1 (Same.refl _) (s _ _ e) (r.mono (.of s))⟩
theorem dspl_cat (h : DspL te σ H ds) (g : DspL tf σ H es) (hl : ds.length + es.length ≤ 1000) : DspL (tOp rCat te tf) σ H (ds ++ es) := fun H1 Q s q =>
  h H1 _ s fun l vs H2 s2 e2 r2 => g H2 _ (s.trans s2) fun m us H3 s3 e3 r3 => ⟨l, m, vs, us, rfl, rfl, s3 _ _ e2, e3, Nat.le_of_lt (small1000 (by rw [r2.1, r3.1]; exact hl)),
    fun p hp => q p _ _ ((s2.trans s3).trans (Same.new hp)) upd_same (((r2.mono (.of s3)).append r3).mono (.new hp))⟩
def DspV (te : TE) (σ : L2.St) (H : Hp) : Prop := ∀ (H1 : Hp) (Q : VK), Same H H1 → (∀ v H2, Same H1 H2 → Q v H2) → te σ H1 Q
def DspN (ta : TA) (σ : L2.St) (H : Hp) (m : Nat) : Prop := ∀ (H1 : Hp) (Q : List V → Hp → Prop), Same H H1 → (∀ vs H2, Same H1 H2 → vs.length ≤ m → Q vs H2) → ta σ H1 Q
theorem v_var {i : Nat} {v : V} (h : σ[i]? = some (some v)) : DspV (tVar i) σ H := fun H1 Q s q => ⟨v, h, q v H1 (Same.refl _)⟩
theorem n_nil {m : Nat} : DspN tNil σ H m := fun H1 Q s q => q [] H1 (Same.refl _) (Nat.zero_le _)
theorem n_cons {m : Nat} (h : DspV te σ H) (r : DspN ta σ H m) : DspN (tCons te ta) σ H (m + 1) := fun H1 Q s q =>
  h H1 _ s fun v H2 s2 => r H2 _ (s.trans s2) fun vs H3 s3 hl => q (v :: vs) H3 (s2.trans s3) (Nat.succ_le_succ hl)
theorem dsp_lst' (h : DspN ta σ H 1000) : Dsp (tLst ta) σ H .oth := fun H1 Q s q =>
  h H1 _ s fun vs H2 s2 hl => ⟨Nat.le_of_lt (small1000 hl), fun p hp => q _ _ (s2.trans (Same.new hp)) (.lst upd_same)⟩
theorem dsp_dnew : Dsp tDNewK σ H .oth := fun H1 Q s q => fun p hp => q _ _ (Same.new hp) (.dK upd_same)
end
section
variable {te : TE} {tr : TA} {tb : TS} {De : Ends} {σ : L2.St} {H : Hp} {ds : List D} {d : D} {k : Nat}
theorem seq_L (h : DspL te σ H ds) (q : ∀ l vs H2, Same H H2 → H2 l = some (.lst vs) → RepL H2 vs ds → tb De (σ.set k (some (.ref l))) H2) : tSeq (tAsg te (gName k)) tb De σ H := h H _ (Same.refl H) q
theorem ret_L (h : DspL te σ H ds) (q : ∀ l vs H2, Same H H2 → H2 l = some (.lst vs) → RepL H2 vs ds → De.rt (.ref l) H2) : tRet te De σ H := h H _ (Same.refl H) q
end
theorem forall_nil {α : Type} {p : α → Prop} : ∀ d ∈ ([] : List α), p d := fun _ z => nomatch z
end RW

set_option Elab.async false
set_option linter.all false
set_option maxRecDepth 100000
set_option maxHeartbeats 4000000
/-! the sort, asked of unlike things in a strict order: it puts them so -/
namespace RW
open PySem PySem.W PyProof.Rows L2
section
variable {α β : Type} {N : Nat} {lt : Nat → Nat → Bool}
def OkT (N : Nat) (lt : Nat → Nat → Bool) {α : Type} : KasT α → (α → Prop) → Prop
  | .ret a, P => P a
  | .ask i j k, P => i < N ∧ j < N ∧ OkT N lt (k (lt i j)) P
theorem OkT.mono {P Q : α → Prop} (h : ∀ a, P a → Q a) : ∀ {t : KasT α}, OkT N lt t P → OkT N lt t Q
  | .ret a, q => h a q
  | .ask i j k, ⟨h1, h2, q⟩ => ⟨h1, h2, OkT.mono h q⟩
theorem OkT.bind {f : α → KasT β} {P : β → Prop} : ∀ {t : KasT α}, OkT N lt t (fun a => OkT N lt (f a) P) → OkT N lt (t.bind f) P
  | .ret a, q => q
  | .ask i j k, ⟨h1, h2, q⟩ => ⟨h1, h2, OkT.bind q⟩
theorem OkT.wp {cmp : Nat → Nat → (Bool → Shared → Prop) → Shared → Prop} {I : Shared → Prop} (hc : ∀ i j (C : Bool → Shared → Prop) s, i < N → j < N → I s → (∀ s', I s' → C (lt i j) s') → cmp i j C s) {P : α → Prop} {Q : α → Shared → Prop} (hq : ∀ a s, P a → I s → Q a s) :
    ∀ {t : KasT α} {s : Shared}, I s → OkT N lt t P → t.kasWp cmp Q s
  | .ret a, s, hs, q => hq a s q hs
  | .ask i j k, s, hs, ⟨h1, h2, q⟩ => hc i j _ s h1 h2 hs fun s' hs' => OkT.wp hc hq hs' q
abbrev gd (p : Array Nat) (i : Nat) : Nat := p.getD i 0
structure Strict (N : Nat) (lt : Nat → Nat → Bool) : Prop where
  tot : ∀ i j, i < N → j < N → i ≠ j → lt i j = false → lt j i = true
  tr : ∀ i j k, i < N → j < N → k < N → lt i j = true → lt j k = true → lt i k = true
  asy : ∀ i j, i < N → j < N → lt i j = true → lt j i = false
def PermN (N : Nat) (p : Array Nat) : Prop := p.toList.Perm (List.range N)
theorem PermN.size {p : Array Nat} (h : PermN N p) : p.size = N := by
  have := h.length_eq
  simpa using this
theorem gd_get {p : Array Nat} {i : Nat} (h : i < p.size) : gd p i = p[i] := by simp [gd, Array.getD, h]
theorem gd_opt {p q : Array Nat} {i j : Nat} (h : p[i]? = q[j]?) : gd p i = gd q j := by
  simp only [gd, Array.getD_eq_getD_getElem?, h]
theorem PermN.bd {p : Array Nat} (h : PermN N p) {i : Nat} (hi : i < N) : gd p i < N := by
  have hs := h.size
  rw [gd_get (by omega)]
  have : p[i] ∈ p.toList := by simp
  exact List.mem_range.mp (h.mem_iff.mp this)
theorem PermN.inj {p : Array Nat} (h : PermN N p) {i j : Nat} (hi : i < N) (hj : j < N) (hij : i ≠ j) : gd p i ≠ gd p j := by
  have hs := h.size
  have nd : p.toList.Nodup := h.nodup_iff.mpr List.nodup_range
  rw [gd_get (by omega), gd_get (by omega)]
  intro z
  exact hij ((List.getElem_inj (i := i) (j := j) (h₀ := by simp; omega) (h₁ := by simp; omega) nd).mp (by simpa using z))
def Sor (lt : Nat → Nat → Bool) (p : Array Nat) (m : Nat) : Prop := ∀ i j, i < j → j < m → lt (gd p i) (gd p j) = true
def Des (lt : Nat → Nat → Bool) (p : Array Nat) (m : Nat) : Prop := ∀ i j, i < j → j < m → lt (gd p j) (gd p i) = true
theorem Sor.snoc {p : Array Nat} {n : Nat} (S : Strict N lt) (hp : PermN N p) (h : Sor lt p n) (h1 : 1 ≤ n) (hn : n < N) (e : lt (gd p (n - 1)) (gd p n) = true) : Sor lt p (n + 1) := by
  intro i j hij hj
  by_cases hjn : j < n
  · exact h i j hij hjn
  · have ej : j = n := by omega
    subst ej
    by_cases hi : i = j - 1
    · subst hi; exact e
    · exact S.tr _ _ _ (hp.bd (by omega)) (hp.bd (by omega)) (hp.bd hn) (h i (j - 1) (by omega) (by omega)) e
theorem Des.snoc {p : Array Nat} {n : Nat} (S : Strict N lt) (hp : PermN N p) (h : Des lt p n) (h1 : 1 ≤ n) (hn : n < N) (e : lt (gd p n) (gd p (n - 1)) = true) : Des lt p (n + 1) := by
  intro i j hij hj
  by_cases hjn : j < n
  · exact h i j hij hjn
  · have ej : j = n := by omega
    subst ej
    by_cases hi : i = j - 1
    · subst hi; exact e
    · exact S.tr _ _ _ (hp.bd hn) (hp.bd (by omega)) (hp.bd (by omega)) e (h i (j - 1) (by omega) (by omega))
theorem asc_ok {p : Array Nat} (S : Strict N lt) (hp : PermN N p) : ∀ f n, 1 ≤ n → n + f ≤ N → Sor lt p n → OkT N lt (kas_asc p f n) (fun m => n ≤ m ∧ m ≤ n + f ∧ Sor lt p m ∧ (m < n + f → lt (gd p m) (gd p (m - 1)) = true))
  | 0, n, _, _, hs => ⟨Nat.le_refl _, Nat.le_refl _, hs, fun h => by omega⟩
  | f + 1, n, h1, hn, hs => by
    refine ⟨hp.bd (by omega), hp.bd (by omega), ?_⟩
    cases hc : lt (gd p n) (gd p (n - 1)) with
    | true =>
      show OkT N lt (if true = true then _ else _) _
      rw [if_pos rfl]
      exact ⟨Nat.le_refl _, by omega, hs, fun _ => hc⟩
    | false =>
      show OkT N lt (if false = true then _ else _) _
      rw [if_neg (by decide)]
      refine OkT.mono (fun m hm => ⟨by omega, by omega, hm.2.2.1, fun h => hm.2.2.2 (by omega)⟩) (asc_ok S hp f (n + 1) (by omega) (by omega) (hs.snoc S hp h1 (by omega) (S.tot _ _ (hp.bd (by omega)) (hp.bd (by omega)) (hp.inj (by omega) (by omega) (by omega)) hc)))
theorem desc_ok {p : Array Nat} (S : Strict N lt) (hp : PermN N p) : ∀ f n, 1 ≤ n → n + f ≤ N → Des lt p n → OkT N lt (kas_desc f p n 0) (fun r => r.1 = p ∧ n ≤ r.2.1 ∧ r.2.1 ≤ n + f ∧ Des lt p r.2.1 ∧ r.2.2 = 0)
  | 0, n, _, _, hs => ⟨rfl, Nat.le_refl _, Nat.le_refl _, hs, rfl⟩
  | f + 1, n, h1, hn, hs => by
    refine ⟨hp.bd (by omega), hp.bd (by omega), ?_⟩
    cases hc : lt (gd p n) (gd p (n - 1)) with
    | true =>
      show OkT N lt (if true = true then (if 0 > 0 then _ else _) else _) _
      rw [if_pos rfl, if_neg (by decide)]
      exact OkT.mono (fun m hm => ⟨hm.1, by omega, by omega, hm.2.2.2⟩) (desc_ok S hp f (n + 1) (by omega) (by omega) (hs.snoc S hp h1 (by omega) hc))
    | false =>
      show OkT N lt (if false = true then _ else _) _
      rw [if_neg (by decide)]
      refine ⟨hp.bd (by omega), hp.bd (by omega), ?_⟩
      have hd : lt (gd p (n - 1)) (gd p n) = true := S.tot _ _ (hp.bd (by omega)) (hp.bd (by omega)) (hp.inj (by omega) (by omega) (by omega)) hc
      show OkT N lt (if lt (gd p (n - 1)) (gd p n) = true then _ else _) _
      rw [if_pos hd]
      exact ⟨rfl, Nat.le_refl _, by show n ≤ n + (f + 1); omega, hs, rfl⟩
theorem rev_perm {p : Array Nat} (hp : PermN N p) (n : Nat) : PermN N (kas_rev p 0 n) := (Array.perm_iff_toList_perm.mp (mirror_perm p 0 n _)).trans hp
theorem rev_sor {p : Array Nat} {n : Nat} (hp : PermN N p) (hn : n ≤ N) (h : Des lt p n) : Sor lt (kas_rev p 0 n) n := by
  have hs := hp.size
  have e : ∀ k, k < n → gd (kas_rev p 0 n) k = gd p (n - 1 - k) := fun k hk => by
    refine gd_opt ?_
    show (mirror p 0 n ((n - 0) / 2))[k]? = _
    rw [getElem?_mirror_all (by omega), if_pos ⟨Nat.zero_le _, hk⟩, Nat.zero_add]
  intro i j hij hj
  rw [e i (by omega), e j hj]
  exact h (n - 1 - j) (n - 1 - i) (by omega) (by omega)
def CountP (N : Nat) (lt : Nat → Nat → Bool) (r : Nat × Array Nat) : Prop := PermN N r.2 ∧ Sor lt r.2 r.1 ∧ 1 ≤ r.1 ∧ r.1 ≤ N
theorem tail3_ok {p : Array Nat} {n : Nat} (S : Strict N lt) (hp : PermN N p) (h1 : 1 ≤ n) (hn : n ≤ N) (h : Des lt p n) : OkT N lt (kas_tail3 n N p) (CountP N lt) := by
  refine OkT.bind (OkT.mono (fun m hm => ?_) (asc_ok S (rev_perm hp n) (N - n) n h1 (by omega) (rev_sor hp hn h)))
  exact ⟨rev_perm hp n, hm.2.2.1, by have := hm.1; omega, by have := hm.2.1; omega⟩
theorem count_ok {p : Array Nat} (S : Strict N lt) (hp : PermN N p) (h1 : 1 ≤ N) : OkT N lt (kas_count N p) (CountP N lt) := by
  refine OkT.bind (OkT.mono (fun n hn => ?_) (asc_ok S hp (N - 1) 1 (Nat.le_refl _) (by omega) (fun i j hij hj => by omega)))
  obtain ⟨n1, n2, hs, hl⟩ := hn
  by_cases hN : (n == N) = true
  · rw [if_pos hN]
    exact ⟨hp, hs, n1, by omega⟩
  · have hne : n ≠ N := by simpa using hN
    rw [if_neg hN]
    by_cases h2 : n > 1
    · rw [if_pos h2]
      refine ⟨hp.bd (by omega), hp.bd (by omega), ?_⟩
      show OkT N lt (if lt (gd p 0) (gd p (n - 1)) = true then _ else _) _
      rw [if_pos (hs 0 (n - 1) (by omega) (by omega))]
      exact ⟨hp, hs, n1, by omega⟩
    · rw [if_neg h2]
      have e1 : n = 1 := by omega
      subst e1
      have hd : Des lt p 2 := fun i j hij hj => by
        have ei : i = 0 := by omega
        have ej : j = 1 := by omega
        subst ei ej
        exact hl (by omega)
      refine OkT.bind (OkT.mono (fun r hr => ?_) (desc_ok S hp (N - (1 + 1)) (1 + 1) (by omega) (by omega) hd))
      obtain ⟨e1, r1, r2, r3, r4⟩ := hr
      rw [if_neg (by omega), e1]
      exact tail3_ok S hp (by omega) (by omega) r3
theorem place_ok {p : Array Nat} {k : Nat} (S : Strict N lt) (hp : PermN N p) (hs : Sor lt p k) (hk : k < N) : ∀ f l r, l ≤ r → r ≤ k → r - l ≤ f → (∀ i, i < l → lt (gd p i) (gd p k) = true) → (∀ i, r ≤ i → i < k → lt (gd p k) (gd p i) = true) →
    OkT N lt (kas_place p k f l r) (fun m => m ≤ k ∧ (∀ i, i < m → lt (gd p i) (gd p k) = true) ∧ ∀ i, m ≤ i → i < k → lt (gd p k) (gd p i) = true)
  | 0, l, r, h1, h2, h3, ha, hb => ⟨by omega, ha, fun i hi => hb i (by omega)⟩
  | f + 1, l, r, h1, h2, h3, ha, hb => by
    by_cases hlr : l ≥ r
    · show OkT N lt (if l ≥ r then _ else _) _
      rw [if_pos hlr]
      exact ⟨by omega, ha, fun i hi => hb i (by omega)⟩
    · show OkT N lt (if l ≥ r then _ else _) _
      rw [if_neg hlr]
      refine ⟨hp.bd hk, hp.bd (by omega), ?_⟩
      cases hc : lt (gd p k) (gd p ((l + r) / 2)) with
      | true =>
        show OkT N lt (if true = true then _ else _) _
        rw [if_pos rfl]
        refine place_ok S hp hs hk f l ((l + r) / 2) (by omega) (by omega) (by omega) ha fun i hi hik => ?_
        by_cases e : i = (l + r) / 2
        · subst e; exact hc
        · exact S.tr _ _ _ (hp.bd hk) (hp.bd (by omega)) (hp.bd (by omega)) hc (hs ((l + r) / 2) i (by omega) hik)
      | false =>
        show OkT N lt (if false = true then _ else _) _
        rw [if_neg (by decide)]
        have hm : lt (gd p ((l + r) / 2)) (gd p k) = true := S.tot _ _ (hp.bd hk) (hp.bd (by omega)) (hp.inj hk (by omega) (by omega)) hc
        refine place_ok S hp hs hk f ((l + r) / 2 + 1) r (by omega) h2 (by omega) (fun i hi => ?_) hb
        by_cases e : i = (l + r) / 2
        · subst e; exact hm
        · exact S.tr _ _ _ (hp.bd (by omega)) (hp.bd (by omega)) (hp.bd hk) (hs i ((l + r) / 2) (by omega) (by omega)) hm
theorem bubble_sor {p : Array Nat} {k l : Nat} (hp : PermN N p) (hk : k < N) (hl : l ≤ k) (hs : Sor lt p k) (ha : ∀ i, i < l → lt (gd p i) (gd p k) = true) (hb : ∀ i, l ≤ i → i < k → lt (gd p k) (gd p i) = true) : Sor lt (bubble p k (k - l)) (k + 1) := by
  have hz := hp.size
  have g : ∀ i, (bubble p k (k - l))[i]? = if i = l then p[k]? else if l < i ∧ i ≤ k then p[i - 1]? else p[i]? := fun i => by
    rw [getElem?_bubble (by omega) (k - l) (by omega), show k - (k - l) = l by omega]
  have g1 : gd (bubble p k (k - l)) l = gd p k := gd_opt (by rw [g, if_pos rfl])
  have g2 : ∀ i, l < i → i ≤ k → gd (bubble p k (k - l)) i = gd p (i - 1) := fun i h1 h2 => gd_opt (by rw [g, if_neg (by omega), if_pos ⟨h1, h2⟩])
  have g3 : ∀ i, i < l → gd (bubble p k (k - l)) i = gd p i := fun i h1 => gd_opt (by rw [g, if_neg (by omega), if_neg (by omega)])
  intro i j hij hj
  rcases Nat.lt_trichotomy i l with hi | hi | hi
  · rw [g3 i hi]
    rcases Nat.lt_trichotomy j l with h | h | h
    · rw [g3 j h]; exact hs i j hij (by omega)
    · subst h; rw [g1]; exact ha i hi
    · rw [g2 j h (by omega)]; exact hs i (j - 1) (by omega) (by omega)
  · subst hi
    rw [g1, g2 j hij (by omega)]
    exact hb (j - 1) (by omega) (by omega)
  · rw [g2 i hi (by omega), g2 j (by omega) (by omega)]
    exact hs (i - 1) (j - 1) (by omega) (by omega)
theorem bin_ok (S : Strict N lt) : ∀ f (p : Array Nat) k, PermN N p → Sor lt p k → k + f = N → OkT N lt (kas_bin f p k) (fun p' => PermN N p' ∧ Sor lt p' N)
  | 0, p, k, hp, hs, hk => ⟨hp, by have : k = N := by omega
                                   rw [← this]; exact hs⟩
  | f + 1, p, k, hp, hs, hk => by
    refine OkT.bind (OkT.mono (fun l hl => ?_) (place_ok S hp hs (by omega) k 0 k (Nat.zero_le _) (Nat.le_refl _) (by omega) (fun i hi => by omega) (fun i hi hik => by omega)))
    exact bin_ok S f _ (k + 1) ((Array.perm_iff_toList_perm.mp (bubble_perm p k _)).trans hp) (bubble_sor hp (by omega) hl.1 hs hl.2.1 hl.2.2) (by omega)
theorem sort_ok (S : Strict N lt) (h1 : 1 ≤ N) : OkT N lt (kas_sort N) (fun p => PermN N p ∧ Sor lt p N) := by
  have h0 : PermN N (List.toArray (List.range N)) := by show (List.range N).Perm _; exact List.Perm.refl _
  refine OkT.bind (OkT.mono (fun r hr => ?_) (count_ok S h0 h1))
  obtain ⟨c1, c2, c3, c4⟩ := hr
  by_cases h : r.1 < N
  · rw [if_pos h]
    have e : max r.1 1 = r.1 := by omega
    rw [e]
    exact bin_ok S _ _ _ c1 c2 (by omega)
  · rw [if_neg h]
    have e : r.1 = N := by omega
    rw [e] at c2
    exact ⟨c1, c2⟩
end
end RW

set_option Elab.async false
set_option linter.all false
set_option maxRecDepth 100000
set_option maxHeartbeats 4000000
/-! the keys of a dict, whatever they are, walked -/
namespace L2
open PySem PySem.W PySem.Spec PyProof.Rows
section
variable {prog : Program} {w : World} {A : Around} {E : Value → Shared → Prop} {s : Shared} {it d : Addr} {i ep : Nat} {ks : List Value}
end
end L2

set_option Elab.async false
set_option linter.all false
set_option maxRecDepth 100000
set_option maxHeartbeats 4000000
/-! sorted, of things that are asked for their order -/
namespace L2
open PySem PySem.W PySem.Spec PyProof.Rows
section
variable {prog : Program} {w : World} {A : Around} {E : Value → Shared → Prop} {s : Shared}
/-- s1 is s but for the heap, where all but what stands at a is kept -/
def Kp (a : Addr) (s s1 : Shared) : Prop := s1 = { s with heap := s1.heap } ∧ ∀ b o, b ≠ a → s.heap.get? b = some o → s1.heap.get? b = some o
theorem lsort_raw {a : Addr} {vs : List Value} {n : Nat} {R : PySem.Fin → Shared → Prop} {G : Array Nat → Prop} {κ : SortKind} (ho : s.heap.get? a = some (seqObj "list" vs.toArray n)) (h64 : vs.length < 64)
    (hk : 2 ≤ vs.length → ∀ s1 : Shared, Kp a s s1 → (∀ C : SortKind → Shared → Prop, C κ s1 → wpAny (model prog w) A (keyKind' vs.toArray) C E s1) ∧ (kas_sort vs.length).kasWp (kas_ask prog w A κ vs) (fun p s' => s' = s1 ∧ G p) s1)
    (q : ∀ (out : List Value) (h' : Heap) (c : Nat), (vs.length < 2 ∧ out = vs ∨ ∃ p : Array Nat, p.size = vs.length ∧ G p ∧ out = p.toList.map fun i => vs.getD i Value.none) → (∀ b o, b ≠ a → s.heap.get? b = some o → h'.get? b = some o) →
      h'.get? a = some (seqObj "list" out.toArray c) → R (.done (.ret .none)) { s with heap := h' }) : wpAny (model prog w) A (Builtin.«list.sort» ⟨[.ref a], []⟩) R E s := by
  have la : a < s.heap.objs.size := Heap.lt_size ho
  have lz : vs.toArray.size = vs.length := List.size_toArray ..
  have u1 := Heap.SameBut.update s.heap a (Obj.mapSeq fun _ => (#[] : Array Value))
  obtain ⟨e1, g1⟩ : ∃ e1, (s.heap.update a (Obj.mapSeq fun _ => (#[] : Array Value))).get? a = some (seqObj "list" #[] e1) := ⟨_, get?_update_seq ho fun _ => #[]⟩
  rw [list_sort_plain]
  refine wpAny_bind (listItems_at ho rfl (wpAny_bind (listUpdate_at ho rfl (wpAny_bind (seqEpoch_at g1 rfl (wpAny_bind (wpAny_newTuple (wpAny_bind (wpAny_newList (wpAny_holding ?_) (Nat.zero_le _))) (by show vs.length ≤ _; rw [sizeLine_eq]; omega))))) (by rw [lz, sizeLine_eq]; omega) (Nat.zero_le _))))
  generalize hs1 : ({ s with heap := ((s.heap.update a (Obj.mapSeq fun _ => (#[] : Array Value))).push (seqObj "tuple" vs.toArray 0)).push (seqObj "list" #[] 0) } : Shared) = s1
  have kp : ∀ b o, (s.heap.update a (Obj.mapSeq fun _ => (#[] : Array Value))).get? b = some o → s1.heap.get? b = some o := fun b o e => by rw [← hs1]; exact Heap.get?_push_of_some _ (Heap.get?_push_of_some _ e)
  have k1 : Kp a s s1 := ⟨by rw [← hs1], fun b o nb e => kp b o ((u1.2 b nb).trans e)⟩
  have g2 : s1.heap.get? a = some (seqObj "list" #[] e1) := kp a _ g1
  dsimp only
  -- the end
  have fin : ∀ (st : SortSt) (out : List Value), (arrOf st).map (·.2) = out.toArray → failedOf st = none → out.length < 64 → (vs.length < 2 ∧ out = vs ∨ ∃ p : Array Nat, p.size = vs.length ∧ G p ∧ out = p.toList.map fun i => vs.getD i Value.none) →
      wpAny (model prog w) A (do
        let touched := (← seqEpoch a) != e1
        Builtin.List.listUpdate (.ref a) fun _ => (arrOf st).map (·.2)
        if let some e := failedOf st then rule "list.sort.comparison-raised"; throw e
        if touched then rule "list.sort.modified"; raiseError "ValueError" "list modified during sort"
        ret .none) R E s1 := by
    intro st out ho hf hl hc
    rw [ho]
    have u2 := Heap.SameBut.update s1.heap a (Obj.mapSeq fun _ => out.toArray)
    obtain ⟨c2, g3⟩ : ∃ c2, (s1.heap.update a (Obj.mapSeq fun _ => out.toArray)).get? a = some (seqObj "list" out.toArray c2) := ⟨_, get?_update_seq g2 fun _ => out.toArray⟩
    refine wpAny_bind (seqEpoch_at g2 rfl (wpAny_bind (listUpdate_at g2 rfl ?_ (Nat.zero_le _) (by show out.toArray.size ≤ _; rw [List.size_toArray, sizeLine_eq]; omega))))
    rw [hf]
    simp only [bne_self_eq_false, Bool.false_eq_true, if_false]
    have := q out _ c2 hc (fun b o nb e => (u2.2 b nb).trans (k1.2 b o nb e)) g3
    rw [k1.1]
    exact wpAny_pure this
  by_cases h2 : vs.toArray.size < 2
  · rw [if_pos h2, if_pos h2]
    refine wpAny_bind (wpAny_pure ?_)
    rw [StateT.run_pure]
    refine wpAny_bind (wpAny_pure ?_)
    refine fin _ vs ?_ rfl h64 (.inl ⟨by omega, rfl⟩)
    apply Array.toList_inj.mp
    show ((vs.toArray.zip vs.toArray).map (·.2)).toList = _
    rw [Array.toList_map, Array.toList_zip]
    exact List.map_snd_zip (Nat.le_refl _)
  · rw [if_neg h2, if_neg h2]
    obtain ⟨hkk, hw⟩ := hk (by omega) s1 k1
    refine wpAny_bind (hkk _ ?_)
    refine wpAny_bind (wpAny_mono (kat_run (E := E) (Q := fun st' s' => s' = s1 ∧ ∃ p : Array Nat, p.size = vs.length ∧ arrOf st' = p.map (kas_item (vs.toArray.zip vs.toArray)) ∧ failedOf st' = none ∧ G p) rfl (by omega) h64 (fun p st' s' x1 x2 x3 x4 => ⟨x4.1, p, x1, x2, x3, x4.2⟩) hw) ?_ fun _ _ e => e)
    rintro ⟨⟨⟩, st'⟩ s' ⟨rfl, p, hp, har, hf, hG⟩
    refine fin st' (p.toList.map fun i => vs.getD i Value.none) (kat_snds rfl har) hf (by rw [List.length_map, Array.length_toList, hp]; exact h64) (.inr ⟨p, hp, hG, rfl⟩)
end
end L2

set_option Elab.async false
set_option linter.all false
set_option maxRecDepth 100000
set_option maxHeartbeats 4000000
/-! texts and pairs of texts in order -/
namespace L2
open PySem PySem.W PySem.Spec PyProof.Rows
abbrev ltS (x y : Str) : Bool := decide (x.cps.toList < y.cps.toList)
def ltP (p q : Str × Str) : Bool := if p.1 = q.1 then (if p.2 = q.2 then false else ltS p.2 q.2) else ltS p.1 q.1
theorem lex_tri : ∀ (a b : List Nat), a ≠ b → ¬ a < b → b < a
  | [], [], h, _ => absurd rfl h
  | [], b :: bs, _, h => absurd (List.nil_lt_cons b bs) h
  | a :: as, [], _, _ => List.nil_lt_cons a as
  | a :: as, b :: bs, h, hn => by
    rw [List.cons_lt_cons_iff] at hn ⊢
    rcases Nat.lt_trichotomy a b with q | q | q
    · exact absurd (.inl q) hn
    · subst q
      exact .inr ⟨rfl, lex_tri as bs (fun z => h (by rw [z])) (fun z => hn (.inr ⟨rfl, z⟩))⟩
    · exact .inl q
theorem lex_tr : ∀ {a b c : List Nat}, a < b → b < c → a < c
  | _, [], _, h, _ => absurd h (by simp)
  | _, _ :: _, [], _, h => absurd h (by simp)
  | [], _ :: _, c :: cs, _, _ => List.nil_lt_cons c cs
  | a :: as, b :: bs, c :: cs, h1, h2 => by
    rw [List.cons_lt_cons_iff] at h1 h2 ⊢
    rcases h1 with h1 | ⟨rfl, h1⟩
    · rcases h2 with h2 | ⟨rfl, h2⟩
      · exact .inl (by omega)
      · exact .inl h1
    · rcases h2 with h2 | ⟨rfl, h2⟩
      · exact .inl h2
      · exact .inr ⟨rfl, lex_tr h1 h2⟩
theorem lex_irr : ∀ (a : List Nat), ¬ a < a
  | [], h => absurd h (by simp)
  | a :: as, h => by
    rw [List.cons_lt_cons_iff] at h
    rcases h with h | ⟨_, h⟩
    · omega
    · exact lex_irr as h
theorem cps_inj {x y : Str} (h : x.cps.toList = y.cps.toList) : x = y := by
  cases x; cases y
  simp only [Str.mk.injEq]
  exact Array.toList_inj.mp h
theorem ltS_tri {x y : Str} (h : x ≠ y) (e : ltS x y = false) : ltS y x = true := decide_eq_true (lex_tri _ _ (fun z => h (cps_inj z)) (of_decide_eq_false e))
theorem ltS_tr {x y z : Str} (h1 : ltS x y = true) (h2 : ltS y z = true) : ltS x z = true := decide_eq_true (lex_tr (of_decide_eq_true h1) (of_decide_eq_true h2))
theorem ltS_irr (x : Str) : ltS x x = false := decide_eq_false (lex_irr _)
theorem ltS_asy {x y : Str} (h : ltS x y = true) : ltS y x = false := decide_eq_false fun z => lex_irr _ (lex_tr (of_decide_eq_true h) z)
theorem ltS_ne {x y : Str} (h : ltS x y = true) : x ≠ y := fun z => by rw [z, ltS_irr] at h; cases h
/-- rising -/
theorem rise_of : ∀ (l : List Str), sortedS l = true → l.Nodup → l.Pairwise (fun a b => ltS a b = true)
  | [], _, _ => .nil
  | [x], _, _ => by simp
  | x :: y :: r, h, hn => by
    have h' : (!ltCps y.cps.toList x.cps.toList && risingS y r) = true := h
    rw [Bool.and_eq_true] at h'
    have hr : sortedS (y :: r) = true := h'.2
    have ih := rise_of (y :: r) hr (List.nodup_cons.mp hn).2
    have hxy : ltS x y = true := by
      have h1 : ltS y x = false := by
        have := h'.1
        rw [ltCps_eq] at this
        simpa using this
      exact ltS_tri (fun z => (List.nodup_cons.mp hn).1 (by rw [z]; exact List.mem_cons_self)) h1
    refine List.pairwise_cons.mpr ⟨fun z hz => ?_, ih⟩
    rcases List.mem_cons.mp hz with rfl | hz
    · exact hxy
    · exact ltS_tr hxy ((List.pairwise_cons.mp ih).1 z hz)
section
variable {X : Cx}

end
end L2

set_option Elab.async false
set_option linter.all false
set_option maxRecDepth 100000
set_option maxHeartbeats 4000000
namespace L2
open PySem PySem.W PySem.Spec PyProof.Rows
/-! min, max of two texts -/
def valS (a c : Str) (t u : Tok) (i : Nat) : Value := if i = 0 then .str a t else .str c u
section
variable {prog : Program} {w : World} {A : Around} {E : Value → Shared → Prop} {s : Shared}
theorem two_at {a c : Str} {t u : Tok} {i : Nat} {v : Value} (h : (#[Value.str a t, Value.str c u])[i]? = some v) : (i = 0 ∧ v = .str a t) ∨ (i = 1 ∧ v = .str c u) := by
  match i, h with
  | 0, h => exact .inl ⟨rfl, by simpa using h.symm⟩
  | 1, h => exact .inr ⟨rfl, by simpa using h.symm⟩
  | i + 2, h => simp at h
theorem max_two_strs {a c : Str} {t u : Tok} {R : Value → Shared → Prop} (hh : A.handled = none) (q : ∀ h' tk, (∀ b o, s.heap.get? b = some o → h'.get? b = some o) → R (if ltS a c = true then .str c u else .str a t) { s with heap := h', toks := tk }) :
    wpAny (model prog w) A (call (.builtin "max") [.str a t, .str c u]) R E s := by
  have hT : (s.heap.push { cls := .type "tuple", data := .seq #[.str a t, .str c u] }).IsTuple s.heap.objs.size #[.str a t, .str c u] := ⟨_, Heap.get?_push_size _ rfl, rfl, 0, rfl⟩
  have z : (s.heap.push { cls := .type "tuple", data := .seq #[.str a t, .str c u] }).objs.size = s.heap.objs.size + 1 := Heap.size_push ..
  refine call_max_two (wpAny_pyIter_tuple hT ?_)
  refine ⟨_, [_, s.heap.objs.size], [_], _, _, _, fun i j => ltS (strOf (valS a c t u j)) (strOf (valS a c t u i)), rfl, Walks.tuple (A := A.in1) hh _ s.heap.objs.size (by rw [z]; exact Nat.ne_of_lt (Nat.lt_succ_self _)) #[.str a t, .str c u], ⟨⟨_, Heap.get?_push_size _ rfl, rfl, rfl⟩, hT.push _⟩, fun b hb => ?_, (by decide : 0 < 2), ?_, fun v h' tk hP hk => ?_⟩
  · show b < ((s.heap.push _).push _).objs.size
    rw [Heap.size_push, z]
    rcases List.mem_cons.mp hb with rfl | hb
    · rw [z]; exact Nat.lt_succ_self _
    · rcases List.mem_cons.mp hb with rfl | hb
      · exact Nat.lt_succ_of_lt (Nat.lt_succ_self _)
      · cases hb
  · intro i j vi vj s' R' E' hi hj hq
    rcases two_at hi with ⟨rfl, rfl⟩ | ⟨rfl, rfl⟩ <;> rcases two_at hj with ⟨rfl, rfl⟩ | ⟨rfl, rfl⟩ <;> exact (PySem.P.gt_str hq : wpAny (model prog w) A.in1 (compareOp .Gt _ _) R' E' s')
  · have keep : ∀ b o, s.heap.get? b = some o → h'.get? b = some o := fun b o e => hk b o (fun hm => by
      rcases List.mem_cons.mp hm with e1 | hm
      · have lb := Heap.lt_size e
        rw [e1, z] at lb
        exact absurd lb (Nat.not_lt.mpr (Nat.le_succ _))
      · cases hm) (Heap.get?_push_of_some _ (Heap.get?_push_of_some _ e))
    have fin := q h' tk keep
    have eb : argBest (fun i j => ltS (strOf (valS a c t u j)) (strOf (valS a c t u i))) (2 - 1) = if ltS a c = true then 1 else 0 := rfl
    have hP' : (#[Value.str a t, Value.str c u])[if ltS a c = true then 1 else 0]? = some v := hP
    by_cases hc : ltS a c = true
    · rw [if_pos hc] at hP' fin
      have ev : Value.str c u = v := by simpa using hP'
      rw [← ev]; exact fin
    · rw [if_neg hc] at hP' fin
      have ev : Value.str a t = v := by simpa using hP'
      rw [← ev]; exact fin
theorem min_two_strs {a c : Str} {t u : Tok} {R : Value → Shared → Prop} (hh : A.handled = none) (q : ∀ h' tk, (∀ b o, s.heap.get? b = some o → h'.get? b = some o) → R (if ltS c a = true then .str c u else .str a t) { s with heap := h', toks := tk }) :
    wpAny (model prog w) A (call (.builtin "min") [.str a t, .str c u]) R E s := by
  have hT : (s.heap.push { cls := .type "tuple", data := .seq #[.str a t, .str c u] }).IsTuple s.heap.objs.size #[.str a t, .str c u] := ⟨_, Heap.get?_push_size _ rfl, rfl, 0, rfl⟩
  have z : (s.heap.push { cls := .type "tuple", data := .seq #[.str a t, .str c u] }).objs.size = s.heap.objs.size + 1 := Heap.size_push ..
  refine call_min_two (wpAny_pyIter_tuple hT ?_)
  refine ⟨_, [_, s.heap.objs.size], [_], _, _, _, fun i j => ltS (strOf (valS a c t u i)) (strOf (valS a c t u j)), rfl, Walks.tuple (A := A.in1) hh _ s.heap.objs.size (by rw [z]; exact Nat.ne_of_lt (Nat.lt_succ_self _)) #[.str a t, .str c u], ⟨⟨_, Heap.get?_push_size _ rfl, rfl, rfl⟩, hT.push _⟩, fun b hb => ?_, (by decide : 0 < 2), ?_, fun v h' tk hP hk => ?_⟩
  · show b < ((s.heap.push _).push _).objs.size
    rw [Heap.size_push, z]
    rcases List.mem_cons.mp hb with rfl | hb
    · rw [z]; exact Nat.lt_succ_self _
    · rcases List.mem_cons.mp hb with rfl | hb
      · exact Nat.lt_succ_of_lt (Nat.lt_succ_self _)
      · cases hb
  · intro i j vi vj s' R' E' hi hj hq
    rcases two_at hi with ⟨rfl, rfl⟩ | ⟨rfl, rfl⟩ <;> rcases two_at hj with ⟨rfl, rfl⟩ | ⟨rfl, rfl⟩ <;> exact (lt_str hq : wpAny (model prog w) A.in1 (compareOp .Lt _ _) R' E' s')
  · have keep : ∀ b o, s.heap.get? b = some o → h'.get? b = some o := fun b o e => hk b o (fun hm => by
      rcases List.mem_cons.mp hm with e1 | hm
      · have lb := Heap.lt_size e
        rw [e1, z] at lb
        exact absurd lb (Nat.not_lt.mpr (Nat.le_succ _))
      · cases hm) (Heap.get?_push_of_some _ (Heap.get?_push_of_some _ e))
    have fin := q h' tk keep
    have eb : argBest (fun i j => ltS (strOf (valS a c t u i)) (strOf (valS a c t u j))) (2 - 1) = if ltS c a = true then 1 else 0 := rfl
    have hP' : (#[Value.str a t, Value.str c u])[if ltS c a = true then 1 else 0]? = some v := hP
    by_cases hc : ltS c a = true
    · rw [if_pos hc] at hP' fin
      have ev : Value.str c u = v := by simpa using hP'
      rw [← ev]; exact fin
    · rw [if_neg hc] at hP' fin
      have ev : Value.str a t = v := by simpa using hP'
      rw [← ev]; exact fin
end

section
variable {X : Cx}
theorem call_max2S (hc : X.calm = true) : CallR X (.builtin "max") (fun xs H Q => ∃ a c, xs = [.str a, .str c] ∧ Q (.str (if ltS a c = true then c else a)) H) := by
  intro pins s σ H xs us Q I r h
  obtain ⟨i, j, rfl, q⟩ := h
  obtain ⟨u, w', rfl, ⟨t, rfl⟩, ⟨t', rfl⟩⟩ := vals2 r
  refine max_two_strs (I.ok.hd hc) fun h' tk k => ⟨_, H, I.kept k, ?_, q⟩
  by_cases hj : ltS i j = true
  · rw [if_pos hj, if_pos hj]; exact ⟨_, rfl⟩
  · rw [if_neg hj, if_neg hj]; exact ⟨_, rfl⟩
theorem call_min2S (hc : X.calm = true) : CallR X (.builtin "min") (fun xs H Q => ∃ a c, xs = [.str a, .str c] ∧ Q (.str (if ltS c a = true then c else a)) H) := by
  intro pins s σ H xs us Q I r h
  obtain ⟨i, j, rfl, q⟩ := h
  obtain ⟨u, w', rfl, ⟨t, rfl⟩, ⟨t', rfl⟩⟩ := vals2 r
  refine min_two_strs (I.ok.hd hc) fun h' tk k => ⟨_, H, I.kept k, ?_, q⟩
  by_cases hj : ltS j i = true
  · rw [if_pos hj, if_pos hj]; exact ⟨_, rfl⟩
  · rw [if_neg hj, if_neg hj]; exact ⟨_, rfl⟩
end
end L2

set_option Elab.async false
set_option linter.all false
set_option maxRecDepth 100000
set_option maxHeartbeats 4000000
namespace L2
open PySem PySem.W PySem.Spec PyProof.Rows
section
open PySem.SeqAt
open PySem.AutoSeq1 (wpAny_loadPart')
open PySem.MeetsSeq PySem.MeetsSeq2 PySem.MeetsSeq3
end

section
variable {X : Cx} {K : PySem.W.Frag}
/-- t + u, whatever is empty -/
def rCatA (K : PySem.W.Frag) : R2 := fun x y H Q => ∃ a b xs ys, x = .ref a ∧ y = .ref b ∧ SqT K H a xs ∧ SqT K H b ys ∧ xs.length + ys.length ≤ sizeLine ∧
  (xs = [] → Q (.ref b) H) ∧ (xs ≠ [] → ys = [] → Q (.ref a) H) ∧ (xs ≠ [] → ys ≠ [] → ∀ p, H p = none → Q (.ref p) (upd H p (.tup (xs ++ ys))))
theorem op_catA : OpR X (binaryOp .Add) (rCatA X.K) := by
  intro pins s σ H x y v u Q I rx ry h
  obtain ⟨a, b, xs, ys, rfl, rfl, ha, hb, hz, q0, q1, q2⟩ := h
  by_cases hx : xs = []
  · cases rx
    cases ry
    obtain ⟨its, r1, p1, _⟩ := I.tuple ha
    obtain ⟨its2, r2, p2, _⟩ := I.tuple hb
    have e1 : its = [] := r1.nil_iff.mpr hx
    obtain ⟨⟨cls, dd, data, sl⟩, ho, hc, n, hd⟩ := id p1
    obtain ⟨⟨cls2, dd2, data2, sl2⟩, ho2, hc2, n2, hd2⟩ := id p2
    simp only at hc hd hc2 hd2
    subst hc hd hc2 hd2
    exact concat_meets ⟨_, ho, rfl⟩ ⟨_, ho2, rfl⟩ noFill_tuple_add seq_tuple_add PySem.F.slot_tuple_add PySem.F.entry_tuple_add (PySem.F.args_tuple_add_2 _ _) (tuple_addW0 a b its.toArray its2.toArray n n2 dd dd2 sl sl2 (by simp [e1])) ⟨ho, ho2, ⟨.ref b, H, I, rfl, q0 hx⟩⟩
  · exact op_catT pins s σ H _ _ v u Q I rx ry ⟨a, b, xs, ys, rfl, rfl, ha, hb, hx, hz, q1 hx, q2 hx⟩
theorem op_catAK (h : X.K = K) : OpR X (binaryOp .Add) (rCatA K) := by subst h; exact op_catA
end

section
open PySem.AutoSeq1 (wpAny_loadPart')
end
section
variable {X : Cx} {K : PySem.W.Frag}
theorem hu1 {k : Nat} {A : Around} (r : Room k A) : A.units + 1 < cLine := by have := r.units; omega
end
section
variable {X : Cx} {a b o i value : Expr} {x y : Str} {px py pt pt2 pos pos' : Pos} {kt k2 : Nat} {ta : TA} {td ty tv : TE}
theorem s_par (m n : Nat) (hN : X.N.Nodup) (ha : QA X [a, b] ta) (hc : X.calm = true := by rfl) (hi : X.N[m]? = some x := by rfl) (hj : X.N[n]? = some y := by rfl) (hij : m ≠ n := by decide)
    (hx : X.env.scope.names.lookup x = some .local := by rfl) (hy : X.env.scope.names.lookup y = some .local := by rfl)
    (hw : swappedStores [.Tuple [.Name x px, .Name y py] kt pt] (.Tuple [a, b] k2 pt2) X.env = pure (some [x, y]) := by rfl)
    (hs : swapsWithSole [.Tuple [.Name x px, .Name y py] kt pt] (.Tuple [a, b] k2 pt2) pos.line X.env = pure false := by rfl) :
    QS X (.Assign [.Tuple [.Name x px, .Name y py] kt pt] (.Tuple [a, b] k2 pt2) pos) (tPar m n ta) := ⟨ps_par hc hN hi hj hij hx hy ha.o hw hs⟩
end
end L2

set_option Elab.async false
set_option linter.all false
set_option maxRecDepth 100000
set_option maxHeartbeats 4000000
/-! towns: the mathematics -/
namespace RW
open PySem PySem.Spec PyProof.Rows L2
/-- the order of things that are_houses and are_ties ask for -/
def ltD : D → D → Bool
  | .str x, .str y => ltS x y
  | .tup [.str a, .str b], .tup [.str c, .str d] => ltP (a, b) (c, d)
  | _, _ => false
def isStrD : D → Bool | .str _ => true | _ => false
/-- each less than the next -/
def risingB (ds : List D) : Bool := (List.range (ds.length - 1)).all fun k => ltD (ds.getD k .non) (ds.getD (k + 1) .non)
def areHousesB : D → Bool | .tup ds => decide (1 ≤ ds.length) && decide (ds.length ≤ 10) && ds.all isNameD && risingB ds | _ => false
def areLikingsB : D → Bool | .tup ds => decide (ds.length ≤ 90) && ds.all isLikingB | _ => false
def areHandsB : D → Bool | .tup ds => decide (ds.length ≤ 90) && ds.all isHandB | _ => false
def strsOf : D → List Str | .tup ds => ds.filterMap (fun d => match d with | .str x => some x | _ => none) | _ => []
theorem strs_map (xs : List Str) : strsOf (.tup (xs.map D.str)) = xs := by
  show (xs.map D.str).filterMap _ = xs
  rw [List.filterMap_map]
  exact List.filterMap_some
end RW
namespace RW
open PySem PySem.Spec PyProof.Rows L2
/-! unlike names -/
theorem repS_list (z : Str) (n : Nat) : (repS z n).cps.toList = (List.replicate n z.cps.toList).flatten := by
  unfold repS
  have key : ∀ (k : Nat) (acc : Array Nat), ((List.replicate k z.cps).foldl (· ++ ·) acc).toList = acc.toList ++ (List.replicate k z.cps.toList).flatten := by
    intro k
    induction k with
    | zero => intro acc; simp
    | succ k ih => intro acc; rw [List.replicate_succ, List.foldl_cons, ih, List.replicate_succ, List.flatten_cons, Array.toList_append, List.append_assoc]
  have := key n #[]
  simpa using this
theorem repS_one_list (c n : Nat) : (repS (one c) n).cps.toList = List.replicate n c := by
  rw [repS_list]
  show (List.replicate n [c]).flatten = _
  induction n with
  | zero => rfl
  | succ n ih => rw [List.replicate_succ, List.flatten_cons, ih, List.replicate_succ]; rfl
/-- all of one letter -/
def sameB (x : Str) : Bool := x.cps.toList.all fun c => some c == x.cps.toList.head?
theorem same_rep (c n : Nat) : sameB (repS (one c) n) = true := by
  unfold sameB
  rw [repS_one_list]
  cases n with
  | zero => rfl
  | succ n =>
    rw [List.all_eq_true]
    intro d hd
    rw [List.eq_of_mem_replicate hd]
    simp [List.replicate_succ]
def keptL : List Str := ["goal", "to", "by", "houses", "tie", "like", "hand", "keep", "put", "mark", "long", "from", "strike"]
theorem kept_ok : ∀ x ∈ keptL, isNameB x = true := by decide +kernel
theorem kept_same : ∀ x ∈ keptL, sameB x = false := by decide +kernel
theorem reps_ok : ∀ c ∈ lettersS.cps.toList, ∀ k ∈ List.range 8, isNameB (repS (one c) (k + 1)) = true := by decide +kernel
theorem letters_len : lettersS.length = 26 := by decide +kernel
theorem letters_at : ∀ k ∈ List.range 26, lettersS.cps.toList[k]? = some (97 + k) := by decide +kernel
theorem one_len (c : Nat) : (one c).length = 1 := rfl
def steps : List Nat := [1, 3, 5, 7, 9, 11]
theorem steps_nd : ∀ f ∈ List.range 26, ∀ st ∈ steps, ((List.range 13).map fun k => (f + st * k) % 26).Nodup := by decide +kernel
def nmS (f st k : Nat) : Str := repS (one (97 + (f + st * k) % 26)) (1 + (k * k + f) % 8)
def kwS (sp k : Nat) : Str := keptL.getD ((sp + 3 * k) % 13) ""
def nameS (f st sp j k : Nat) : Str := if k < j then kwS sp k else nmS f st k
theorem kws_nd : ∀ sp ∈ List.range 13, ((List.range 4).map fun k => kwS sp k).Nodup := by decide +kernel
theorem kw_mem (sp k : Nat) : kwS sp k ∈ keptL := by
  unfold kwS
  have h : (sp + 3 * k) % 13 < keptL.length := Nat.mod_lt _ (by decide)
  simp [List.getD, h]
theorem nd_ne {α : Type} {l : List α} (h : l.Nodup) {i j : Nat} (hi : i < l.length) (hj : j < l.length) (hij : i ≠ j) : l[i] ≠ l[j] := fun z => hij ((List.getElem_inj h).mp z)
theorem names_nodup {f st sp j m : Nat} (hf : f < 26) (hst : st ∈ steps) (hsp : sp < 13) (hj : j ≤ 4) (hm : m ≤ 13) : ((List.range m).map (nameS f st sp j)).Nodup := by
  have key : ∀ a b, a < b → b < 13 → nameS f st sp j a ≠ nameS f st sp j b := by
    intro a b hab hb
    unfold nameS
    by_cases h1 : a < j
    · rw [if_pos h1]
      by_cases h2 : b < j
      · rw [if_pos h2]
        have := nd_ne (kws_nd sp (List.mem_range.mpr hsp)) (i := a) (j := b) (by simp; omega) (by simp; omega) (by omega)
        simpa using this
      · rw [if_neg h2]
        intro z
        have e1 := kept_same _ (kw_mem sp a)
        rw [z] at e1
        unfold nmS at e1
        rw [same_rep] at e1
        cases e1
    · rw [if_neg h1, if_neg (by omega)]
      intro z
      have hh : (nmS f st a).cps.toList.head? = (nmS f st b).cps.toList.head? := by rw [z]
      unfold nmS at hh
      rw [repS_one_list, repS_one_list, Nat.add_comm 1, Nat.add_comm 1, List.replicate_succ, List.replicate_succ] at hh
      simp only [List.head?_cons, Option.some.injEq] at hh
      have := nd_ne (steps_nd f (List.mem_range.mpr hf) st hst) (i := a) (j := b) (by simp; omega) (by simp; omega) (by omega)
      simp at this
      omega
  rw [List.nodup_iff_pairwise_ne, List.pairwise_map]
  refine List.Pairwise.imp_of_mem (fun {a b} ha hb hab => ?_) (List.pairwise_lt_range (n := m))
  exact key a b hab (by have := List.mem_range.mp hb; omega)

theorem nm_ok (f st k : Nat) : isNameB (nmS f st k) = true := by
  unfold nmS
  rw [Nat.add_comm 1]
  have hr : (f + st * k) % 26 < 26 := Nat.mod_lt _ (by decide)
  exact reps_ok _ (List.mem_of_getElem? (letters_at _ (List.mem_range.mpr hr))) _ (List.mem_range.mpr (Nat.mod_lt _ (by decide)))
theorem name_ok (f st sp j k : Nat) : isNameB (nameS f st sp j k) = true := by
  unfold nameS
  split
  · exact kept_ok _ (kw_mem sp k)
  · exact nm_ok f st k
theorem name_set {f st sp j m : Nat} (hj : j < m) : ((List.range m).map (nameS f st sp j)).set j (kwS sp j) = (List.range m).map (nameS f st sp (j + 1)) := by
  apply List.ext_getElem?
  intro i
  rw [List.getElem?_set]
  by_cases e : j = i
  · subst e
    rw [if_pos rfl, if_pos (by simp; exact hj)]
    simp [hj, nameS]
  · rw [if_neg e]
    rcases Nat.lt_or_ge i m with h | h
    · rw [List.getElem?_map, List.getElem?_map, List.getElem?_range h]
      show some _ = some _
      congr 1
      unfold nameS
      by_cases h1 : i < j
      · rw [if_pos h1, if_pos (by omega)]
      · rw [if_neg h1, if_neg (by omega)]
    · rw [List.getElem?_eq_none (by simpa using h), List.getElem?_eq_none (by simpa using h)]
theorem kept_at {sp k : Nat} : keptL[(sp + 3 * k) % 13]? = some (kwS sp k) := by
  unfold kwS
  have h : (sp + 3 * k) % 13 < keptL.length := Nat.mod_lt _ (by decide)
  simp [List.getD, h]

theorem cut_drop {xs : List V} {m : Nat} : cutV xs (some (m : Int)) none = xs.drop m := by
  unfold cutV
  have e1 : HT.sIx xs.length xs.length none = xs.length := rfl
  have e2 : HT.sIx xs.length 0 (some (m : Int)) = min m xs.length := by
    unfold HT.sIx
    have h : ¬ (m : Int) < 0 := by omega
    simp only [if_neg h, Int.toNat_natCast]
  rw [e1, e2]
  rcases Nat.lt_or_ge m xs.length with h | h
  · rw [Nat.min_eq_left (by omega), List.take_of_length_le (by rw [List.length_drop]; omega)]
  · rw [Nat.min_eq_right h, List.drop_of_length_le (Nat.le_refl _), List.drop_of_length_le h]; simp
/-! a town as it is drawn -/
structure TownOk (g : Str) (hs : List Str) (ps : List (Str × Str)) (lks hds : List D) : Prop where
  rise : hs.Pairwise (fun a b => ltS a b = true)
  one : 1 ≤ hs.length
  ten : hs.length ≤ 10
  names : ∀ x ∈ hs, isNameB x = true
  goal : g ∈ hs
  riseP : ps.Pairwise (fun a b => ltP a b = true)
  ties : ∀ p ∈ ps, p.1 ∈ hs ∧ p.2 ∈ hs ∧ ltS p.1 p.2 = true
  ll : lks.length = hs.length
  lh : hds.length = hs.length
  likes : ∀ d ∈ lks, areLikingsB d = true
  hands : ∀ d ∈ hds, areHandsB d = true

section
variable {te tf : TE} {ta : TA} {tb : TS} {De : Ends} {σ : L2.St} {H : Hp} {d : D} {ds es : List D} {K : PySem.W.Frag} {k : Nat}
theorem dsp_catA (h : Dsp te σ H (.tup ds)) (g : Dsp tf σ H (.tup es)) (hl : ds.length + es.length ≤ 1000) : Dsp (tOp (rCatA K) te tf) σ H (.tup (ds ++ es)) := fun H1 Q s q =>
  h H1 _ s fun v H2 s2 rv => g H2 _ (s.trans s2) fun u H3 s3 ru => by
    obtain ⟨p, vs, rfl, hp, r1, _⟩ := rv.ofT
    obtain ⟨p', us, rfl, hp', r2, _⟩ := ru.ofT
    have hp3 := s3 _ _ hp
    have r13 := r1.mono (.of s3)
    refine ⟨p, p', vs, us, rfl, rfl, .inl (.inl hp3), .inl (.inl hp'), Nat.le_of_lt (small1000 (by rw [r1.1, r2.1]; exact hl)), fun z => ?_, fun _ z => ?_, fun _ _ p2 hp2 => ?_⟩
    · have e : ds = [] := by have := r1.1; rw [z] at this; exact List.eq_nil_of_length_eq_zero this.symm
      subst e
      exact q _ H3 (s2.trans s3) ru
    · have e : es = [] := by have := r2.1; rw [z] at this; exact List.eq_nil_of_length_eq_zero this.symm
      subst e
      have q' := q (.ref p) H3 (s2.trans s3)
      rw [List.append_nil] at q'
      exact q' (rv.same s3)
    · exact q _ _ ((s2.trans s3).trans (Same.new hp2)) (.mkL upd_same (by rw [List.length_append]; exact hl) ((r13.append r2).mono (.new hp2)))
theorem ret_D (h : Dsp te σ H d) (q : ∀ v H2, Same H H2 → Rep H2 v d → De.rt v H2) : tRet te De σ H := h H _ (Same.refl H) q
end
end RW

set_option Elab.async false
set_option linter.all false
set_option maxRecDepth 100000
set_option maxHeartbeats 4000000
/-! Rows kept and made, all ties. -/
namespace RW
open PySem PySem.Spec PyProof.Rows L2
section
variable {te tf : TE} {σ : L2.St} {H : Hp} {d : D} {ds es : List D} {K : PySem.W.Frag}
end
theorem strs_rep {H : Hp} {hs : List Str} (h : ∀ x ∈ hs, x.length ≤ 1000) : RepL H (hs.map V.str) (hs.map D.str) := by
  refine ⟨by rw [List.length_map, List.length_map], fun i v d hv hd => ?_⟩
  rw [List.getElem?_map] at hv hd
  cases e : hs[i]? with
  | none => rw [e] at hv; cases hv
  | some x =>
    rw [e] at hv hd
    cases hv
    cases hd
    exact .str x (h x (List.mem_of_getElem? e))
end RW

set_option Elab.async false
set_option linter.all false
set_option maxRecDepth 100000
set_option maxHeartbeats 4000000
/-! == and in of things with things in them -/
namespace RW
open PySem PySem.Spec PyProof.Rows L2
inductive Tr (H : Hp) : V → PyData → Prop
  | non : Tr H .non .none
  | bl (b : Bool) : Tr H (.bl b) (.bool b)
  | int (i : Int) : Tr H (.int i) (.int i)
  | str (x : Str) (h : PyData.strOk x = true) : Tr H (.str x) (.str x)
  | tup {p : Addr} {vs : List V} {ds : List PyData} (e : H p = some (.tup vs)) (hl : vs.length = ds.length) (h : ∀ (i : Nat) (v : V) (d : PyData), vs[i]? = some v → ds[i]? = some d → Tr H v d) : Tr H (.ref p) (.tuple ds)
  | lst {p : Addr} {vs : List V} {ds : List PyData} (e : H p = some (.lst vs)) (hl : vs.length = ds.length) (h : ∀ (i : Nat) (v : V) (d : PyData), vs[i]? = some v → ds[i]? = some d → Tr H v d) : Tr H (.ref p) (.list ds)
theorem readsAll_of {h : Heap} : ∀ {vs : List V} {us : List Value} {ds : List PyData}, Vals vs us → vs.length = ds.length → (∀ (i : Nat) (v : V) (d : PyData), vs[i]? = some v → ds[i]? = some d → ∀ u, RelV v u → ∃ as, Reads h u d as) → ∃ bs, ReadsAll h us ds bs
  | _, _, [], .nil, _, _ => ⟨_, .nil⟩
  | v :: vs, u :: us, d :: ds, .cons r t, hl, hh => by
    obtain ⟨as, ha⟩ := hh 0 v d rfl rfl u r
    obtain ⟨bs, hb⟩ := readsAll_of t (by simpa using hl) fun i v' d' h1 h2 => hh (i + 1) v' d' h1 h2
    exact ⟨_, .cons ha hb⟩
  | [], _, d :: ds, .nil, hl, _ => by simp at hl
  | v :: vs, u :: us, [], .cons r t, hl, _ => by simp at hl
theorem Tr.reads {X : Cx} {pins : List (Addr × Obj)} {σ : L2.St} {H : Hp} {s : Shared} (I : Inv X pins σ H s) {x : V} {d : PyData} (t : Tr H x d) : ∀ v, RelV x v → ∃ as, Reads s.heap v d as := by
  induction t with
  | non => intro v r; cases r; exact ⟨_, .none⟩
  | bl b => intro v r; cases r; exact ⟨_, .bool b⟩
  | int i => intro v r; obtain ⟨t, rfl⟩ := r; exact ⟨_, .int i t⟩
  | str x h => intro v r; obtain ⟨t, rfl⟩ := r; exact ⟨_, .str x t⟩
  | tup e hl h ih =>
    intro v r
    cases r
    obtain ⟨its, rv, ⟨o, ho, hc, n, hd⟩, _⟩ := I.tuple (SqT.of e)
    obtain ⟨bs, hb⟩ := readsAll_of (h := s.heap) rv hl ih
    exact ⟨_, .tuple ho hc hd (by simpa using hb)⟩
  | lst e hl h ih =>
    intro v r
    cases r
    obtain ⟨its, n, rv, ho, _⟩ := I.lst e
    obtain ⟨bs, hb⟩ := readsAll_of (h := s.heap) rv hl ih
    exact ⟨_, .list ho rfl rfl (by simpa using hb)⟩
theorem canAll_of : ∀ {vs : List V} {ds : List PyData}, vs.length = ds.length → (∀ (i : Nat) (v : V) (d : PyData), vs[i]? = some v → ds[i]? = some d → d.canLay0 = true) → PyData.canLayAll0 ds = true
  | _, [], _, _ => rfl
  | v :: vs, d :: ds, hl, hh => by
    rw [PyData.canLayAll0, hh 0 v d rfl rfl, canAll_of (vs := vs) (ds := ds) (by simpa using hl) fun i v' d' h1 h2 => hh (i + 1) v' d' h1 h2]; rfl
  | [], d :: ds, hl, _ => by simp at hl
theorem Tr.can {H : Hp} {x : V} {d : PyData} (t : Tr H x d) : d.canLay0 = true := by
  induction t with
  | non => rfl
  | bl b => rfl
  | int i => rfl
  | str x h => simp only [PyData.canLay0]; exact h
  | tup e hl h ih => rw [PyData.canLay0]; exact canAll_of hl ih
  | lst e hl h ih => rw [PyData.canLay0]; exact canAll_of hl ih
section
variable {X : Cx}
def rEqD : R2 := fun x y H Q => ∃ d e, Tr H x d ∧ Tr H y e ∧ min d.depth e.depth ≤ 60 ∧ Q (.bl (d.eqv e)) H
def rNeD : R2 := fun x y H Q => ∃ d e, Tr H x d ∧ Tr H y e ∧ min d.depth e.depth ≤ 60 ∧ Q (.bl (!d.eqv e)) H
theorem op_eqD (hu : X.A.units + 64 < cLine) : OpR X (compareOp .Eq) rEqD := by
  intro pins s σ H x y v u Q I rx ry h
  obtain ⟨d, e, t1, t2, hd, q⟩ := h
  obtain ⟨as, r1⟩ := t1.reads I v rx
  obtain ⟨bs, r2⟩ := t2.reads I u ry
  exact SeqAt.compareEq_reads r1 r2 t1.can t2.can (by omega) ⟨.bl _, H, I, rfl, q⟩
theorem op_neD (hu : X.A.units + 64 < cLine) : OpR X (compareOp .NotEq) rNeD := by
  intro pins s σ H x y v u Q I rx ry h
  obtain ⟨d, e, t1, t2, hd, q⟩ := h
  obtain ⟨as, r1⟩ := t1.reads I v rx
  obtain ⟨bs, r2⟩ := t2.reads I u ry
  exact SeqAt.compareNe_reads r1 r2 t1.can t2.can (by omega) ⟨.bl _, H, I, rfl, q⟩
def rInD : R2 := fun x y H Q => ∃ d es, Tr H x d ∧ (Tr H y (.list es) ∨ Tr H y (.tuple es)) ∧ d.depth ≤ 60 ∧ Q (.bl (es.any fun y => y.eqv d)) H
theorem op_inD (hu : X.A.units + 64 < cLine) : OpR X (compareOp .In) rInD := by
  intro pins s σ H x y v u Q I rx ry h
  obtain ⟨d, es, t1, t2, hd, q⟩ := h
  obtain ⟨as, r1⟩ := t1.reads I v rx
  rcases t2 with t2 | t2
  · obtain ⟨bs, r2⟩ := t2.reads I u ry
    have c := t2.can
    rw [PyData.canLay0] at c
    exact SeqAt.in_list_reads r2 r1 c t1.can (by omega) ⟨.bl _, H, I, rfl, q⟩
  · obtain ⟨bs, r2⟩ := t2.reads I u ry
    have c := t2.can
    rw [PyData.canLay0] at c
    exact SeqAt.in_tuple_reads r2 r1 c t1.can (by omega) ⟨.bl _, H, I, rfl, q⟩
def rNiD : R2 := fun x y H Q => ∃ d es, Tr H x d ∧ (Tr H y (.list es) ∨ Tr H y (.tuple es)) ∧ d.depth ≤ 60 ∧ Q (.bl (!es.any fun y => y.eqv d)) H
theorem op_niD (hu : X.A.units + 64 < cLine) : OpR X (compareOp .NotIn) rNiD := by
  intro pins s σ H x y v u Q I rx ry h
  obtain ⟨d, es, t1, t2, hd, q⟩ := h
  obtain ⟨as, r1⟩ := t1.reads I v rx
  rcases t2 with t2 | t2
  · obtain ⟨bs, r2⟩ := t2.reads I u ry
    have c := t2.can
    rw [PyData.canLay0] at c
    exact SeqAt.notIn_list_reads r2 r1 c t1.can (by omega) ⟨.bl _, H, I, rfl, q⟩
  · obtain ⟨bs, r2⟩ := t2.reads I u ry
    have c := t2.can
    rw [PyData.canLay0] at c
    exact SeqAt.notIn_tuple_reads r2 r1 c t1.can (by omega) ⟨.bl _, H, I, rfl, q⟩
theorem hu64 {k : Nat} {A : Around} (r : Room k A) : A.units + 64 < cLine := by have := r.un; omega
end
end RW

set_option Elab.async false
set_option linter.all false
set_option maxRecDepth 100000
set_option maxHeartbeats 4000000
/-! t[::-1] -/
namespace HT
open PySem PySem.Spec PyProof.Rows
section
variable {prog : Program} {w : World} {A : Around} {E : Value → Shared → Prop} {s : Shared}
theorem fm_map {α β : Type} {f : α → Option β} {g : α → β} : ∀ {l : List α}, (∀ a ∈ l, f a = some (g a)) → l.filterMap f = l.map g
  | [], _ => rfl
  | a :: l, h => by rw [List.filterMap_cons, h a List.mem_cons_self, fm_map fun b hb => h b (List.mem_cons_of_mem _ hb)]; rfl
theorem pick_rev (xs : Array Value) : ((List.range xs.size).filterMap fun (m : Nat) => xs[((xs.size : Int) - 1 + (m : Int) * -1).toNat]?).toArray = xs.toList.reverse.toArray := by
  congr 1
  refine List.ext_getElem? fun i => ?_
  have e : ((List.range xs.size).filterMap fun (m : Nat) => xs[((xs.size : Int) - 1 + (m : Int) * -1).toNat]?) = (List.range xs.size).map fun m => xs[xs.size - 1 - m]?.getD .none := by
    refine fm_map fun m hm => ?_
    have hm' := List.mem_range.mp hm
    rw [show ((xs.size : Int) - 1 + (m : Int) * -1).toNat = xs.size - 1 - m by omega]
    have : xs.size - 1 - m < xs.size := by omega
    simp [this]
  rw [e, List.getElem?_map]
  rcases Nat.lt_or_ge i xs.size with h | h
  · rw [List.getElem?_range h, List.getElem?_reverse (by simpa using h)]
    have : xs.size - 1 - i < xs.size := by omega
    simp [this]
  · rw [List.getElem?_eq_none (by simpa using h), List.getElem?_eq_none (by simpa using h)]; rfl
theorem getItem_tuple_rev {t sl : Addr} {items : Array Value} {tk : Tok} {Q : Value → Shared → Prop} (ht : IsTup s.heap t items) (hs : s.heap.IsSliceOf sl .none .none (.int (-1) tk))
    (h : Q (.ref s.heap.objs.size) { s with heap := s.heap.push { cls := .type "tuple", data := .seq items.toList.reverse.toArray } })
    (hsz : items.size ≤ sizeLine) : wpAny (model prog w) A (getItem (.ref t) (.ref sl)) Q E s := by
  have htake : sizeOk (.seq items.toList.reverse.toArray) := by
    show items.toList.reverse.toArray.size ≤ sizeLine
    rw [List.size_toArray, List.length_reverse, Array.length_toList]
    exact hsz
  obtain ⟨os, hos, hcs, hds⟩ := id hs
  have hTs : s.TypeIs (.ref sl) "slice" := ⟨os, hos, hcs⟩
  unfold getItem
  try with_reducible refine wpAny_holding ?_
  first | refine wpAny_bind (wpAny_pure ?_) | skip
  refine wpAny_bind (wpAny_sequenceKey ht.typeIs (by decide) ?_)
  refine wpAny_bind (wpAny_callSpecial?_slot (name := Str.ofString "__getitem__") ht.typeIs PyProof.Rows.slot_tuple_getitem
    (wpAny_call_entry PyProof.Rows.slot_tuple_getitem ht.typeIs entry_tuple_getitem ?_ (args_tuple_getitem _ _)))
  show wpAny _ _ (Builtin.Tuple.tupleItemsOf (.ref t) >>= _) _ _ s
  refine wpAny_bind (tupleItemsOf_ ht ?_)
  refine wpAny_bind (wpAny_typeOf hTs ?_)
  rw [if_pos (by decide)]
  have happ : ∀ {A : Around} {R : Int × Int × Nat → Shared → Prop}, R ((items.size : Int) - 1, -1, items.size) s → wpAny (model prog w) A (Builtin.Slice.sliceApplied (.ref sl) (pure (items.size : Int))) R E s := by
    intro A R hR
    unfold Builtin.Slice.sliceApplied Builtin.Slice.sliceFields
    refine wpAny_bind (wpAny_bind (wpAny_field hos hds (x := .none) rfl (wpAny_bind (wpAny_field hos hds (x := .none) rfl (wpAny_bind (wpAny_field hos hds (x := .int (-1) tk) rfl (wpAny_pure ?_)))))))
    refine wpAny_bind (slicePart_ (.int (-1) tk) ?_)
    show wpAny _ _ (if ((-1 : Int) == 0) = true then _ else _) _ _ s
    rw [if_neg (by decide)]
    refine wpAny_bind (slicePart_ .none (wpAny_bind (slicePart_ .none (wpAny_bind (wpAny_pure ?_)))))
    show wpAny _ _ (pure ((items.size : Int) - 1, (-1 : Int), Builtin.Slice.slicePlaces ((items.size : Int) - 1) (-1) (-1))) _ _ s
    have hp : Builtin.Slice.slicePlaces ((items.size : Int) - 1) (-1) (-1) = items.size := by
      unfold Builtin.Slice.slicePlaces
      rw [if_neg (by decide), show (- -1 : Int) = 1 by decide, Int.ediv_one]
      split <;> omega
    rw [hp]
    exact wpAny_pure hR
  refine wpAny_bind (happ ?_)
  have hno : ¬ (((items.size : Int) - 1 == 0 && (-1 : Int) == 1 && items.size == items.size) = true) := by
    intro q
    rw [Bool.and_eq_true, Bool.and_eq_true] at q
    exact absurd q.1.2 (by decide)
  show wpAny _ _ (if ((items.size : Int) - 1 == 0 && (-1 : Int) == 1 && items.size == items.size) = true then _ else _) _ _ s
  rw [if_neg hno, pick_rev]
  first
    | exact wpAny_bind (m := Builtin.Tuple.tupleExact _) (wpAny_newObj_type (wpAny_pure ⟨_, rfl, wpAny_pure h⟩) htake)
    | exact wpAny_bind (m := Builtin.Tuple.tupleExact _) (wpAny_newObj_type (wpAny_bind (wpAny_pure (wpAny_pure ⟨_, rfl, wpAny_pure h⟩))) htake)
    | exact wpAny_bind (wpAny_bind (m := Builtin.Tuple.tupleExact _) (wpAny_newObj_type (wpAny_pure (wpAny_pure ⟨_, rfl, wpAny_pure h⟩)) htake))
    | exact wpAny_bind (wpAny_bind (m := Builtin.Tuple.tupleExact _) (wpAny_newObj_type (wpAny_pure ⟨_, rfl, wpAny_pure h⟩) htake))
end
end HT
namespace L2
open PySem PySem.Spec PyProof.Rows
section
variable {X : Cx} {e : Expr} {te : TE} {p1 p2 p3 pos : Pos} {tk : Tok}
/-- t[::-1] -/
def tRev (K : PySem.W.Frag) (te : TE) : TE := fun σ H Q => te σ H fun x H1 => ∃ a xs, x = .ref a ∧ SqT K H1 a xs ∧ ∀ p, H1 p = none → Q (.ref p) (upd H1 p (.tup xs.reverse))
theorem Vals.rev : ∀ {xs : List V} {us : List Value}, Vals xs us → Vals xs.reverse us.reverse
  | _, _, .nil => .nil
  | x :: xs, u :: us, .cons r t => by
    rw [List.reverse_cons, List.reverse_cons]
    exact (Vals.rev t).append (.cons r .nil)
theorem pe_rev {st : Expr} (he : PE X e te) (hst : PE X st (tUn (rU fun i => .int (-i)) (tC (.int 1)))) : PE X (.Subscript e (.Slice none none (some st) p2) pos) (tRev X.K te) := by
  intro pins s σ H Q I h
  refine Subscript_ (thn (he pins s σ H _ I h) fun v s1 ⟨x, H1, I1, r1, q1⟩ => ?_)
  refine wpAny_Slice ?_
  rw [evalPart_none, evalPart_some]
  refine wpAny_pure (wpAny_pure ?_)
  refine thn (hst pins s1 σ H1 (fun y H2 => y = .int (-1) ∧ H2 = H1) I1 ⟨1, rfl, rfl, rfl⟩) fun vst s3 ⟨y, H3, I3, r3, ey, eh⟩ => ?_
  subst ey eh
  obtain ⟨tk, rfl⟩ := r3
  obtain ⟨a, xs, rfl, hx, q⟩ := q1
  cases r1
  have I4 : Inv X pins σ _ { s3 with heap := s3.heap.push { cls := .type "slice", data := .fields #[.none, .none, .int (-1) tk] } } := I3.kept (t' := s3.toks) fun b ob q => Heap.get?_push_of_some _ q
  obtain ⟨its, r, ht, hz⟩ := I4.tuple hx
  have hlen : its.toArray.size = xs.length := by rw [List.size_toArray]; exact r.length.symm
  show wpAny (model X.prog X.w) X.A (subscriptTail e (.Slice none none (some st) p2) (.ref a) (.ref s3.heap.objs.size)) (EP X pins σ Q) X.xe { s3 with heap := s3.heap.push { cls := .type "slice", data := .fields #[.none, .none, .int (-1) tk] } }
  refine tail_any (ops := [.ref a, .ref s3.heap.objs.size]) ht.typeIs PyProof.Rows.slot_tuple_getitem.lookup ?_ (by with_unfolding_all rfl)
  refine HT.getItem_tuple_rev (tk := tk) ht (Heap.IsSliceOf.new ..) ?_ (by rw [hlen]; exact hz)
  refine ⟨.ref _, _, I4.laid (t' := s3.toks) (o := .tup xs.reverse) (fun b ob q => Heap.get?_push_of_some _ q) (Nat.le_refl _) ?_, rfl, q _ (I4.hok.fresh (Nat.le_refl _))⟩
  exact ⟨by rw [List.length_reverse]; exact hz, _, r.rev, IsTup.new _ _, NoDict.new rfl (Heap.get?_push_size _ rfl)⟩
theorem q_rev {st : Expr} (he : QE X e te) (hst : QE X st (tUn (rU fun i => .int (-i)) (tC (.int 1)))) : QE X (.Subscript e (.Slice none none (some st) p2) pos) (tRev X.K te) := ⟨pe_rev he.o hst.o⟩
end
end L2
namespace HT
open PySem PySem.Spec PyProof.Rows
section
variable {prog : Program} {w : World} {A : Around} {E : Value → Shared → Prop} {s : Shared}
theorem getItem_tuple_whole {t sl : Addr} {items : Array Value} {vl vu : Value} {lo hi : Option Int} {Q : Value → Shared → Prop} (ht : IsTup s.heap t items) (hs : s.heap.IsSliceOf sl vl vu .none) (pl : IsPart vl lo) (pu : IsPart vu hi)
    (h1 : sIx items.size 0 lo = 0) (h2 : sIx items.size items.size hi = items.size)
    (h : Q (.ref t) s) : wpAny (model prog w) A (getItem (.ref t) (.ref sl)) Q E s := by
  obtain ⟨os, hos, hcs, hds⟩ := id hs
  have hTs : s.TypeIs (.ref sl) "slice" := ⟨os, hos, hcs⟩
  unfold getItem
  try with_reducible refine wpAny_holding ?_
  first | refine wpAny_bind (wpAny_pure ?_) | skip
  refine wpAny_bind (wpAny_sequenceKey ht.typeIs (by decide) ?_)
  refine wpAny_bind (wpAny_callSpecial?_slot (name := Str.ofString "__getitem__") ht.typeIs PyProof.Rows.slot_tuple_getitem
    (wpAny_call_entry PyProof.Rows.slot_tuple_getitem ht.typeIs entry_tuple_getitem ?_ (args_tuple_getitem _ _)))
  show wpAny _ _ (Builtin.Tuple.tupleItemsOf (.ref t) >>= _) _ _ s
  refine wpAny_bind (tupleItemsOf_ ht ?_)
  refine wpAny_bind (wpAny_typeOf hTs ?_)
  rw [if_pos (by decide)]
  refine wpAny_bind (sliceApplied_gen hs pl pu ?_)
  rw [h1, h2]
  show wpAny _ _ (if (((0 : Nat) : Int) == 0 && (1 : Int) == 1 && (items.size - 0) == items.size) = true then _ else _) _ _ s
  rw [if_pos (by simp)]
  unfold Builtin.Tuple.tupleIsExact
  refine wpAny_bind (wpAny_bind (wpAny_typeOf ht.typeIs (wpAny_pure ?_)))
  rw [if_pos (by decide)]
  refine wpAny_bind (wpAny_rule ?_)
  exact wpAny_pure ⟨_, rfl, wpAny_pure h⟩
end
end HT
namespace L2
open PySem PySem.Spec PyProof.Rows
section
variable {X : Cx} {K : PySem.W.Frag}
/-- t[lo:hi], the whole of it, too -/
def rSlA (K : PySem.W.Frag) : V → Option Int → Option Int → Hp → VK → Prop := fun x lo hi H Q => ∃ a xs, x = .ref a ∧ SqT K H a xs ∧
  (cutV xs lo hi = xs → Q (.ref a) H) ∧ ∀ p, H p = none → Q (.ref p) (upd H p (.tup (cutV xs lo hi)))
theorem sl_tupA : SlR X (rSlA X.K) := by
  intro pins s σ H x v vl vu lo hi sl Q I rx hs pl pu h
  obtain ⟨a, xs, rfl, hx, q1, q2⟩ := h
  by_cases hw : HT.sIx xs.length 0 lo = 0 ∧ HT.sIx xs.length xs.length hi = xs.length
  · have rx' : v = .ref a := rx
    subst rx'
    obtain ⟨its, r, ht, hz⟩ := I.tuple hx
    have hlen : its.toArray.size = xs.length := by rw [List.size_toArray]; exact r.length.symm
    refine ⟨"tuple", _, PyProof.Rows.slot_tuple_getitem.lookup, ht.typeIs, ?_⟩
    refine HT.getItem_tuple_whole ht hs pl pu (by rw [hlen]; exact hw.1) (by rw [hlen]; exact hw.2) ⟨.ref a, H, I, rfl, q1 ?_⟩
    unfold cutV
    rw [hw.1, hw.2]; simp
  · exact sl_tup pins s σ H (.ref a) v vl vu lo hi sl Q I rx hs pl pu ⟨a, xs, rfl, hx, hw, q2⟩
theorem sl_tupAK (h : X.K = K) : SlR X (rSlA K) := by subst h; exact sl_tupA
end
end L2
namespace RW
open PySem PySem.Spec PyProof.Rows L2
section
variable {te tf : TE} {ta : TA} {σ : L2.St} {H : Hp} {d : D} {ds es : List D} {K : PySem.W.Frag}
/-- a slice of a tuple as it is read: the bounds are values -/
theorem dsp_slA {tl th : TO} {i : Nat} {v : V} {lo hi : Option Int} (hv : σ[i]? = some (some v)) (r : Rep H v (.tup ds)) (hl : ∀ H1 (Q : Option Int → Hp → Prop), Q lo H1 → tl σ H1 Q) (hh : ∀ H1 (Q : Option Int → Hp → Prop), Q hi H1 → th σ H1 Q)
    (hc : ∀ vs : List V, vs.length = ds.length → ∃ m k, cutV vs lo hi = (vs.drop m).take k ∧ es = (ds.drop m).take k) : Dsp (tSl (rSlA K) (tVar i) tl th) σ H (.tup es) := fun H1 Q s q => by
  obtain ⟨p, vs, rfl, hp, r1, b⟩ := (r.same s).ofT
  obtain ⟨m, k, e1, e2⟩ := hc vs r1.1
  refine ⟨_, hv, hl _ _ (hh _ _ ⟨p, vs, rfl, .inl (.inl hp), fun z => ?_, fun p2 hp2 => ?_⟩)⟩
  · refine q _ H1 (Same.refl _) ?_
    have e3 : es = ds := by
      rw [e2]
      rw [e1] at z
      have z1 := congrArg List.length z
      rw [List.length_take, List.length_drop, r1.1] at z1
      rcases Nat.eq_zero_or_pos m with rfl | hm
      · rw [List.drop_zero]
        exact List.take_of_length_le (by omega)
      · have : ds = [] := List.eq_nil_of_length_eq_zero (by omega)
        subst this; simp
    rw [e3]
    exact .mkL hp b r1
  · refine q _ _ (Same.new hp2) (.mkL upd_same (by rw [e2, List.length_take, List.length_drop]; omega) ?_)
    rw [e1, e2]
    exact ((r1.drop m).take k).mono (.new hp2)
theorem part_none {Q : Option Int → Hp → Prop} {H1 : Hp} (h : Q none H1) : tNoPart σ H1 Q := h
theorem part_int {Q : Option Int → Hp → Prop} {H1 : Hp} {i : Int} (h : Q (some i) H1) : tPart (tC (.int i)) σ H1 Q := ⟨i, rfl, h⟩
theorem dsp_headN {n : Nat} {i : Nat} {v : V} (hv : σ[i]? = some (some v)) (r : Rep H v (.tup ds)) : Dsp (tSl (rSlA K) (tVar i) tNoPart (tPart (tC (.int (n : Int))))) σ H (.tup (ds.take n)) :=
  dsp_slA (lo := none) (hi := some (n : Int)) hv r (fun _ _ h => part_none h) (fun _ _ h => part_int h) fun vs hl => ⟨0, n, by rw [cut_take, List.drop_zero], by rw [List.drop_zero]⟩
/-- list(t): a list, whose things are not looked at -/
theorem dsp_listO {i : Nat} {v : V} (hv : σ[i]? = some (some v)) (r : Rep H v (.tup ds)) : Dsp (tCB (fun xs H Q => ∃ p ys, xs = [.ref p] ∧ (SqL K H p ys ∨ SqT K H p ys) ∧ ∀ l, H l = none → Q (.ref l) (upd H l (.lst ys))) (tCons (tVar i) tNil)) σ H .oth := fun H1 Q s q => by
  obtain ⟨p, vs, rfl, hp, r1, b⟩ := (r.same s).ofT
  exact ⟨_, hv, p, vs, rfl, .inr (.inl (.inl hp)), fun p2 hp2 => q _ _ (Same.new hp2) (.lst upd_same)⟩
end
end RW
namespace RW
open PySem PySem.Spec PyProof.Rows L2
theorem here_kept : ∀ x ∈ keptL, x ≠ "nowhere" := by decide +kernel
theorem here_same : sameB "nowhere" = false := by decide +kernel
theorem name_here (f st sp j k : Nat) : nameS f st sp j k ≠ "nowhere" := by
  unfold nameS
  split
  · exact here_kept _ (kw_mem sp k)
  · intro z
    have e := here_same
    rw [← z] at e
    unfold nmS at e
    rw [same_rep] at e
    cases e
end RW

set_option Elab.async false
set_option linter.all false
set_option maxRecDepth 100000
set_option maxHeartbeats 4000000
/-! rows of spoilt things; what is no town -/
namespace RW
open PySem PySem.Spec PyProof.Rows L2
section
variable {te : TE} {ta : TA} {tb : TS} {De : Ends} {σ : L2.St} {H : Hp} {d : D} {ds es : List D} {K : PySem.W.Frag} {k j : Nat} {g : D → Bool} {l lf : Addr} {m : Nat}
end
/-! what is no town -/
section
variable {x h t l a : D}
end
theorem all_bad {g : D → Bool} {ds : List D} {d : D} (h : d ∈ ds) (e : g d = false) : ds.all g = false := List.all_eq_false.mpr ⟨d, h, by rw [e]; decide⟩
end RW

set_option Elab.async false
set_option linter.all false
set_option maxRecDepth 100000
set_option maxHeartbeats 4000000
namespace RW
open PySem PySem.Spec PyProof.Rows L2
section
variable {te tf : TE} {ta : TA} {tb : TS} {De : Ends} {σ : L2.St} {H : Hp} {d : D} {ds es : List D} {K : PySem.W.Frag} {k j : Nat} {g : D → Bool} {m : Nat}
theorem none_of_same {H H' : Hp} {p : Addr} (s : Same H H') (h : H' p = none) : H p = none := by
  cases e : H p with
  | none => rfl
  | some o => have := s _ _ e; rw [h] at this; cases this
end
end RW
namespace RW
open PySem PySem.Spec PyProof.Rows L2
theorem name_strOk {x : Str} (h : isNameB x = true) : PyData.strOk x = true := by
  unfold isNameB at h
  simp only [Bool.and_eq_true] at h
  have h2 := h.1.2
  unfold PyData.strOk
  rw [Array.all_eq_true']
  intro c hc
  have := List.all_eq_true.mp h2 c (by simpa using hc)
  unfold letterC at this
  simp only [Bool.and_eq_true, decide_eq_true_eq] at this
  exact decide_eq_true (by omega)
end RW
namespace RW
theorem if_t {b : Bool} {X Y : Prop} (h : b = true) (x : X) : if b = true then X else Y := by rw [if_pos h]; exact x
theorem if_f {b : Bool} {X Y : Prop} (h : b = false) (y : Y) : if b = true then X else Y := by rw [if_neg (by rw [h]; decide)]; exact y
end RW

set_option Elab.async false
set_option linter.all false
set_option maxRecDepth 100000
set_option maxHeartbeats 4000000
/-! sorted of a tuple or a list of texts, some of them alike -/
namespace L2
open PySem PySem.W PySem.Spec PyProof.Rows
section
variable {prog : Program} {w : World} {A : Around} {E : Value → Shared → Prop} {s : Shared}
theorem collect_any {r : Addr} {T : String} {o : Obj} {vs : List Value} {n : Nat} {R : List Value → Shared → Prop} (hT : T = "list" ∨ T = "tuple") (ho : s.heap.get? r = some o) (hc : o.cls = .type T) (hd : o.data = .seq vs.toArray n) (hz : vs.length ≤ sizeLine)
    (q : ∀ (h' : Heap), (∀ b o, s.heap.get? b = some o → h'.get? b = some o) → s.heap.objs.size < h'.objs.size → R vs { s with heap := h' }) : wpAny (model prog w) A (collect (.ref r)) R E s := by
  have lt := Heap.lt_size ho
  have hne : r ≠ s.heap.objs.size := Nat.ne_of_lt lt
  have g0 : (s.heap.push { cls := .type "list", data := .seq ([] : List Value).toArray }).get? s.heap.objs.size = some (seqObj "list" #[] 0) := Heap.get?_push_size _ rfl
  have gr : (s.heap.push { cls := .type "list", data := .seq ([] : List Value).toArray }).get? r = some o := Heap.get?_push_of_some _ ho
  obtain ⟨e1, g1⟩ : ∃ e1, ((s.heap.push { cls := .type "list", data := .seq ([] : List Value).toArray }).update s.heap.objs.size (Obj.mapSeq fun x => x ++ vs.toArray)).get? s.heap.objs.size = some (seqObj "list" ((#[] : Array Value) ++ vs.toArray) e1) := ⟨_, get?_update_seq g0 fun x => x ++ vs.toArray⟩
  have u1 := Heap.SameBut.update (s.heap.push { cls := .type "list", data := .seq ([] : List Value).toArray }) s.heap.objs.size (Obj.mapSeq fun x => x ++ vs.toArray)
  unfold collect
  refine wpAny_bind (wpAny_runValue (codeAny_builtin entry_proto_collect' (by
    rw [Around.under_plainId PySem.F.plain_proto_collect _]
    show wpAny _ A.in1 (newList [] >>= fun l => again (.builtin "list.__iadd__" ⟨[l, .ref r], []⟩)) _ _ s
    refine wpAny_bind (wpAny_newObj_type (wpAny_pure ⟨plainId_quiet PySem.F.plain_list_iadd _, codeAny_builtin entry_list_iadd' (by
      rw [Around.under_plainId PySem.F.plain_list_iadd _]
      show wpAny _ A.in1 (Builtin.List.listExtendWith (.ref s.heap.objs.size) (.ref r) (.ref s.heap.objs.size)) _ _ _
      unfold Builtin.List.listExtendWith
      have hty : ({ s with heap := s.heap.push { cls := .type "list", data := .seq ([] : List Value).toArray } } : Shared).TypeIs (.ref r) T := ⟨o, gr, hc⟩
      refine wpAny_bind (wpAny_typeOf hty ?_)
      rw [if_pos (by rcases hT with rfl | rfl <;> simp)]
      refine wpAny_bind (listItems_at gr hd (wpAny_bind (listItems_at g0 rfl ?_)))
      rw [if_neg (by simp)]
      refine wpAny_bind (listUpdate_at g0 rfl ?_ (Nat.zero_le _) (by show ((#[] : Array Value) ++ vs.toArray).size ≤ _; simp; omega))
      refine wpAny_pure ?_
      show wpAny _ A (load s.heap.objs.size >>= _) _ _ _
      refine wpAny_bind (wpAny_load g1 (wpAny_pure ?_))
      have ev : ((#[] : Array Value) ++ vs.toArray).toList = vs := by simp
      show R ((#[] : Array Value) ++ vs.toArray).toList _
      rw [ev]
      exact q _ (fun b o e => (u1.2 b (Nat.ne_of_lt (Heap.lt_size e))).trans (Heap.get?_push_of_some _ e)) (Heap.lt_size g1))⟩)))))
theorem sorted_strs_any {l : Addr} {T : String} {o : Obj} {vs : List Value} {n : Nat} {ss : List Str} {Q : Value → Shared → Prop} (hT : T = "list" ∨ T = "tuple") (ho : s.heap.get? l = some o) (hc : o.cls = .type T) (hd : o.data = .seq vs.toArray n) (hS : StrsAre vs ss) (h64 : vs.length < 64)
    (q : ∀ (D : Addr) (out : Array Value) (ss' : List Str) (h' : Heap) (e : Nat), StrsAre out.toList ss' → ss'.Perm ss → sortedS ss' = true → (∀ b o, s.heap.get? b = some o → h'.get? b = some o) → s.heap.objs.size ≤ D → h'.get? D = some (seqObj "list" out e) → Q (.ref D) { s with heap := h' }) :
    wpAny (model prog w) A (call (.builtin "sorted") [.ref l]) Q E s := by
  refine Calls.call_function_entry kind_sorted plain_sorted entry_sorted (args_sorted1 _) ?_
  unfold Builtin.«sorted»
  refine wpAny_bind (m := checkCount "sorted" 1 1 _) (wpAny_pure (wpAny_bind (collect_any hT ho hc hd (by rw [sizeLine_eq]; omega) fun h1 kp gr0 => ?_)))
  refine wpAny_bind (wpAny_newList ?_ (by show vs.length ≤ _; rw [sizeLine_eq]; omega))
  have hD : (h1.push (seqObj "list" vs.toArray 0)).get? h1.objs.size = some (seqObj "list" vs.toArray 0) := Heap.get?_push_size _ rfl
  have k2 : ∀ b o, s.heap.get? b = some o → (h1.push (seqObj "list" vs.toArray 0)).get? b = some o := fun b o e => Heap.get?_push_of_some _ (kp b o e)
  have gr : s.heap.objs.size ≤ h1.objs.size := Nat.le_of_lt gr0
  show wpAny _ _ _ _ _ { s with heap := h1.push (seqObj "list" vs.toArray 0) }
  refine wpAny_bind (wpAny_holding (wpAny_call_entry slot_list_sort ⟨_, hD, rfl⟩ entry_list_sort (list_sort_treeK strKind_oneLt (s := { s with heap := h1.push (seqObj "list" vs.toArray 0) }) hD hS.keysOf (fun v1 v2 rest e => ?_) h64 fun st' hp hs => ?_) (args_list_sort _)))
  · subst e
    exact keyKind_strs hS
  · obtain ⟨ss', a1, a2, a3⟩ := sorted_out_str hS hp hs
    obtain ⟨e, he⟩ := sortedHeap_at (h := h1.push (seqObj "list" vs.toArray 0)) (vs := vs) (out := Array.map (fun x => x.snd) (arrOf st')) hD
    refine ⟨_, rfl, wpAny_pure ⟨_, rfl, q h1.objs.size _ ss' _ e a1 a2 a3 (fun b o hb => ?_) gr he⟩⟩
    have lb := Heap.lt_size hb
    rw [sortedHeap_old (Nat.ne_of_lt (Nat.lt_of_lt_of_le lb gr)) (Heap.lt_size (k2 b o hb))]
    exact k2 b o hb
end
section
variable {X : Cx} {K : PySem.W.Frag}
/-- sorted of texts, in a list or a tuple -/
def rSorted (K : PySem.W.Frag) : List V → Hp → VK → Prop := fun xs H Q => ∃ (p : Addr) (ss : List Str), xs = [.ref p] ∧ (SqL K H p (ss.map V.str) ∨ SqT K H p (ss.map V.str)) ∧ ss.length < 64 ∧ ∀ (ss' : List Str) l, ss'.Perm ss → sortedS ss' = true → H l = none → Q (.ref l) (upd H l (.lst (ss'.map V.str)))
theorem call_sortedA : CallR X (.builtin "sorted") (rSorted X.K) := by
  intro pins s σ H xs us Q I r h
  obtain ⟨p, ss, rfl, hq, h64, q⟩ := h
  obtain ⟨u, rfl, ru⟩ := vals1 r
  cases ru
  have key : ∀ {its : List Value} {T : String} {o : Obj} {n : Nat}, T = "list" ∨ T = "tuple" → s.heap.get? p = some o → o.cls = .type T → o.data = .seq its.toArray n → Vals (ss.map V.str) its → wpAny (model X.prog X.w) X.A (call (.builtin "sorted") [.ref p]) (EP X pins σ Q) X.xe s := by
    intro its T o n hT ho hc hd rv
    have hS := strsAre_of rv
    have hl := rv.length
    rw [List.length_map] at hl
    refine sorted_strs_any hT ho hc hd hS (by omega) fun D out ss' h' e a1 a2 a3 kp hD he => ?_
    refine ⟨.ref D, _, I.laid (a := D) (o := .lst (ss'.map V.str)) (t' := s.toks) kp hD ⟨?_, out.toList, e, ?_, ?_⟩, rfl, q ss' D a2 a3 (I.hok.fresh hD)⟩
    · rw [List.length_map, a2.length_eq]; exact Nat.le_of_lt (small1000 (by omega))
    · have mk : ∀ {vs : List Value} {zs : List Str}, StrsAre vs zs → Vals (zs.map V.str) vs := by
        intro vs zs h
        induction h with
        | nil => exact .nil
        | cons x t _ ih => exact .cons ⟨t, rfl⟩ ih
      exact mk a1
    · rw [Array.toArray_toList]; exact he
  rcases hq with hq | hq
  · obtain ⟨its, rv, pl, hz⟩ := I.list hq
    obtain ⟨o, ho, hc, n, hd⟩ := pl.isList
    exact key (.inl rfl) ho hc hd rv
  · obtain ⟨its, rv, pl, hz⟩ := I.tuple hq
    obtain ⟨o, ho, hc, n, hd⟩ := pl
    exact key (.inr rfl) ho hc hd rv
theorem call_sortedAK (h : X.K = K) : CallR X (.builtin "sorted") (rSorted K) := by subst h; exact call_sortedA
end
end L2

set_option Elab.async false
set_option linter.all false
set_option maxRecDepth 100000
set_option maxHeartbeats 4000000
/-! ways and neighbours -/
namespace RW
open PySem PySem.Spec PyProof.Rows L2

/-! those tied with x -/
def nbrs (ps : List (Str × Str)) (x : Str) : List Str := (ps.filter fun p => decide (p.2 = x)).map (·.1) ++ (ps.filter fun p => decide (p.1 = x)).map (·.2)
/-! what rises -/
/-! ways -/
structure WayOk (g : Str) (hs : List Str) (ps : List (Str × Str)) (ws : List Str) : Prop where
  nd : ws.Nodup
  mem : ∀ x ∈ ws, x ∈ hs
  last : ∃ w0, ws = w0 ++ [g]
  tied : ∀ (i : Nat) (a b : Str), ws[i]? = some a → ws[i + 1]? = some b → b ∈ nbrs ps a
end RW

set_option Elab.async false
set_option linter.all false
set_option maxRecDepth 100000
set_option maxHeartbeats 4000000
namespace RW
open PySem PySem.Spec PyProof.Rows L2
section
variable {X : Cx} {K : PySem.W.Frag}
end
section
variable {te tf : TE} {ta : TA} {σ : L2.St} {H : Hp} {d : D} {ds es : List D} {K : PySem.W.Frag}
theorem part_var {Q : Option Int → Hp → Prop} {H1 : Hp} {j : Nat} {i : Int} (hj : σ[j]? = some (some (.int i))) (h : Q (some i) H1) : tPart (tVar j) σ H1 Q := ⟨_, hj, i, rfl, h⟩
theorem part_add {Q : Option Int → Hp → Prop} {H1 : Hp} {j : Nat} {i : Int} (hj : σ[j]? = some (some (.int i))) (h : Q (some (i + 1)) H1) : tPart (tOp (rI0 fun i j => .int (i + j)) (tVar j) (tC (.int 1))) σ H1 Q := ⟨_, hj, _, _, rfl, rfl, _, rfl, h⟩
end
end RW

set_option Elab.async false
set_option linter.all false
set_option maxRecDepth 100000
set_option maxHeartbeats 4000000
/-! rows of houses, read twice -/
namespace RW
open PySem PySem.Spec PyProof.Rows L2
section
variable {te tf : TE} {ta : TA} {tb : TS} {De : Ends} {σ : L2.St} {H : Hp} {d : D} {ds es : List D} {K : PySem.W.Frag} {k : Nat}
end
/-! rows of houses -/
/-! the same way -/
/-! those tied, rising -/
theorem sorted_ext : ∀ {l m : List Str}, l.Pairwise (fun a b => ltS a b = true) → m.Pairwise (fun a b => ltS a b = true) → (∀ x, x ∈ l ↔ x ∈ m) → l = m
  | [], [], _, _, _ => rfl
  | [], b :: m, _, _, h => absurd ((h b).mpr List.mem_cons_self) List.not_mem_nil
  | a :: l, [], _, _, h => absurd ((h a).mp List.mem_cons_self) List.not_mem_nil
  | a :: l, b :: m, p, q, h => by
    obtain ⟨p1, p2⟩ := List.pairwise_cons.mp p
    obtain ⟨q1, q2⟩ := List.pairwise_cons.mp q
    have e : a = b := by
      rcases List.mem_cons.mp ((h a).mp List.mem_cons_self) with z | z
      · exact z
      rcases List.mem_cons.mp ((h b).mpr List.mem_cons_self) with y | y
      · exact y.symm
      have := ltS_asy (q1 a z)
      rw [p1 b y] at this; cases this
    subst e
    rw [sorted_ext p2 q2 fun x => ⟨fun hx => ?_, fun hx => ?_⟩]
    · rcases List.mem_cons.mp ((h x).mp (List.mem_cons_of_mem _ hx)) with rfl | z
      · have := p1 x hx; rw [ltS_irr] at this; cases this
      · exact z
    · rcases List.mem_cons.mp ((h x).mpr (List.mem_cons_of_mem _ hx)) with rfl | z
      · have := q1 x hx; rw [ltS_irr] at this; cases this
      · exact z
/-! pairs among pairs -/
end RW

set_option Elab.async false
set_option linter.all false
set_option maxRecDepth 100000
set_option maxHeartbeats 4000000
/-! a def with a default None for its last parameter -/
namespace L2
open PySem PySem.Spec PyProof.Rows
structure FunD (K : PySem.W.Frag) (x qual : Str) (st : Stmt) (f : Addr) (fd : FuncData) : Prop where
  ex : ∃ (oc : Value) (od : Option Addr) (dt : Addr) (kV doc pm : Value) (an : Option Addr) (cdv ct : Value) (osl : Array (Option Value)) (od2 : Option Addr) (n2 : Nat) (sl2 : Array (Option Value)),
    fd = PySem.W.fnOf x qual (defArgs st) (defBody st) (defScope st) (.ref dt) kV doc pm an cdv ct ∧ K.lookup f = some ⟨oc, od, .func fd, osl⟩ ∧ PySem.W.codeIn K cdv qual = true ∧ K.lookup dt = some ⟨.type "tuple", od2, .seq #[.none] n2, sl2⟩
  kp : PySem.W.keepIn K (.ref f) = true
section
variable {P : Program} {w : World} {K : PySem.W.Frag} {mg : Str → Option Value} {base : Heap}
end
end L2
namespace RW
open PySem PySem.Spec PyProof.Rows L2
structure AtD (K : PySem.W.Frag) (mg : Str → Option Value) (x : Str) (st : Stmt) (ps : List Str) (f : Addr) (fd : FuncData) : Prop where
  fn : FunD K x x st f fd
  b : Binds K fd ps []
  bd : Binds K fd ps [.none]
  mg : mg x = some (.ref f)
  kp : PySem.W.keepIn K (.ref f) = true
end RW

set_option Elab.async false
set_option linter.all false
set_option maxRecDepth 100000
set_option maxHeartbeats 4000000
/-! whose names stand in rules -/
namespace RW
open PySem PySem.Spec PyProof.Rows L2
def plainIn (O : List Str) : D → Bool | .tup [_, .str x] => decide (x ∈ O) | _ => true
def condIn (O : List Str) : D → Bool | .tup [.str w, e] => if w = "not" then plainIn O e else plainIn O (.tup [.str w, e]) | _ => true
def condsIn (O : List Str) : D → Bool | .tup ds => ds.all (condIn O) | _ => true
def ruleIn (O : List Str) : D → Bool | .tup [c, t] => condsIn O c && plainIn O t | _ => true
def rulesIn (O : List Str) : D → Bool | .tup ds => ds.all (ruleIn O) | _ => true
structure Pool (hs : List Str) (lks hds : List D) (O : List Str) : Prop where
  few : O.length ≤ 13
  nm : ∀ x ∈ O, isNameB x = true
  hs : ∀ x ∈ hs, x ∈ O
  lk : ∀ d ∈ lks, rulesIn O d = true
  hd : ∀ d ∈ hds, rulesIn O d = true
end RW

set_option Elab.async false
set_option linter.all false
set_option maxRecDepth 100000
set_option maxHeartbeats 4000000
/-! a dict of ints and texts made here, walked by a comprehension: while it is walked (and behind that) it is no longer looked at -/
namespace L2
open PySem PySem.Spec PyProof.Rows
section
variable {X : Cx} {pos : Pos} {pins : List (Addr × Obj)} {σ : St} {H : Hp} {s : Shared}
end
end L2

set_option Elab.async false
set_option linter.all false
set_option maxRecDepth 100000
set_option maxHeartbeats 4000000
/-! whether a cond holds -/
namespace RW
open PySem PySem.Spec PyProof.Rows L2
end RW

set_option Elab.async false
set_option linter.all false
set_option maxRecDepth 100000
set_option maxHeartbeats 4000000
/-! names gathered in a dict -/
namespace RW
open PySem PySem.Spec PyProof.Rows L2
end RW
namespace RW
open PySem PySem.Spec PyProof.Rows L2
section
variable {te tf : TE} {ta : TA} {tb : TS} {De : Ends} {σ : L2.St} {H : Hp} {d : D} {ds es : List D} {K : PySem.W.Frag} {k : Nat}
end
end RW

set_option Elab.async false
set_option linter.all false
set_option maxRecDepth 100000
set_option maxHeartbeats 4000000
/-! where a text stands in a tuple; a tuple counted through -/
namespace HT
open PySem PySem.Spec PyProof.Rows
section
variable {prog : Program} {w : World} {A : Around} {E : Value → Shared → Prop} {s : Shared}
end
end HT
namespace HT
open PySem PySem.Spec PyProof.Rows
section
variable {prog : Program} {w : World} {A : Around} {E : Value → Shared → Prop} {s : Shared}
theorem nextOf_tuple_item {it d : Addr} {i : Nat} {items : Array Value} {x : Value} {Q : Value → Shared → Prop} (y : s.heap.IsTupleIter it d i) (ht : s.heap.IsTuple d items) (hx : items[i]? = some x)
    (q : ∀ h', h'.IsTupleIter it d (i + 1) → Heap.SameBut it s.heap h' → Q x { s with heap := h' }) : wpAny (model prog w) A (Builtin.SmallTypes.nextOf (.ref it)) Q E s := by
  obtain ⟨o, ho, hc, hd⟩ := id y
  obtain ⟨od, hod, hcd, n, hdd⟩ := id ht
  unfold Builtin.SmallTypes.nextOf
  refine wpAny_bind (wpAny_callSpecial?_slot (name := Str.ofString "__next__") ⟨o, ho, hc⟩ PySem.F.slot_tuple_iterator_next (wpAny_call_entry PySem.F.slot_tuple_iterator_next ⟨o, ho, hc⟩ PySem.F.entry_tuple_iterator_next ?_ (PySem.F.args_tuple_iterator_next_1 _)))
  show wpAny _ _ (slotArgs "__next__" 0 _ >>= _) _ _ s
  refine wpAny_bind (m := slotArgs "__next__" 0 _) (wpAny_pure ?_)
  dsimp only
  refine wpAny_bind (wpAny_field ho hd (x := .ref d) rfl ?_)
  rw [if_neg (fun z => nomatch z)]
  refine wpAny_bind (wpAny_field ho hd (x := .int i 0) rfl ?_)
  dsimp only
  rw [seqItems?.eq_1]
  refine wpAny_bind (wpAny_bind (wpAny_load hod ?_))
  rw [hdd]
  refine wpAny_pure ?_
  dsimp only
  rw [Int.toNat_natCast, hx]
  dsimp only
  refine wpAny_bind (wpAny_setField ho hd (by simp) ?_)
  refine wpAny_pure ⟨_, rfl, wpAny_pure (q _ ⟨_, Heap.get?_update_self _ ho (Obj.isFreed_of_fields (Obj.data_mapFields hd _)), (Obj.cls_mapFields ..).trans hc, ?_⟩ (Heap.SameBut.update ..))⟩
  rw [Obj.data_mapFields hd]; simp [rawInt]
theorem nextOf_tuple_end {it d : Addr} {i : Nat} {items : Array Value} {Q : Value → Shared → Prop} (hh : A.handled = none) (y : s.heap.IsTupleIter it d i) (ht : s.heap.IsTuple d items) (hx : items[i]? = none)
    (q : ∀ (h' : Heap) (e : Addr), Heap.ExtBut it s.heap h' → (∃ o, h'.get? e = some o ∧ o.cls = .type "StopIteration") → E (.ref e) { s with heap := h' }) : wpAny (model prog w) A (Builtin.SmallTypes.nextOf (.ref it)) Q E s := by
  obtain ⟨o, ho, hc, hd⟩ := id y
  obtain ⟨od, hod, hcd, n, hdd⟩ := id ht
  unfold Builtin.SmallTypes.nextOf
  refine wpAny_bind (wpAny_callSpecial?_slot (name := Str.ofString "__next__") ⟨o, ho, hc⟩ PySem.F.slot_tuple_iterator_next (wpAny_call_entry PySem.F.slot_tuple_iterator_next ⟨o, ho, hc⟩ PySem.F.entry_tuple_iterator_next ?_ (PySem.F.args_tuple_iterator_next_1 _)))
  show wpAny _ _ (slotArgs "__next__" 0 _ >>= _) _ _ s
  refine wpAny_bind (m := slotArgs "__next__" 0 _) (wpAny_pure ?_)
  dsimp only
  refine wpAny_bind (wpAny_field ho hd (x := .ref d) rfl ?_)
  rw [if_neg (fun z => nomatch z)]
  refine wpAny_bind (wpAny_field ho hd (x := .int i 0) rfl ?_)
  dsimp only
  rw [seqItems?.eq_1]
  refine wpAny_bind (wpAny_bind (wpAny_load hod ?_))
  rw [hdd]
  refine wpAny_pure ?_
  dsimp only
  rw [Int.toNat_natCast, hx]
  dsimp only
  refine wpAny_bind (wpAny_rule ?_)
  refine wpAny_bind (wpAny_setField ho hd (by simp) ?_)
  show wpAny _ _ (newExc (.type "StopIteration") [] >>= _) _ _ _
  refine wpAny_bind (by
    simp only [newExc, newTuple]
    refine wpAny_bind (wpAny_newObj_type (wpAny_bind (m := firstArgMember _ _) (wpAny_of_eq (a := Value.none) (by first | rfl | (simp only [firstArgMember]; rfl)) (wpAny_newObj_type ?_ (by size_fits)))) (by size_fits))
    simp only [raiseNew]
    refine wpAny_bind (wpAny_handled ?_)
    rw [show A.in1.handled = none from hh]
    refine wpAny_bind (wpAny_pure (wpAny_throw ?_))
    exact q _ _ (((Heap.SameBut.update ..).extBut.push _).push _) ⟨_, Heap.get?_push_size _ rfl, rfl⟩)
theorem draws_tuple (hh : A.handled = none) (it l : Addr) (hne : l ≠ it) (items : Array Value) : Draws prog w A it [it, l] items.size (fun i v => items[i]? = some v) (fun i h => h.IsTupleIter it l i ∧ h.IsTuple l items) where
  live := fun i h st => let ⟨o, e, _⟩ := st.1; ⟨o, e⟩
  frame := fun i h h' st k => ⟨st.1.at fun o e => k it (by simp) o e, let ⟨o, e, r⟩ := st.2; ⟨o, k l (by simp) o e, r⟩⟩
  item := fun i s Q E hi st q => nextOf_tuple_item st.1 st.2 (x := items[i]) (by simp [hi]) fun h' y' sb => q _ h' s.toks (by simp [hi]) ⟨y', let ⟨o, e, r⟩ := st.2; ⟨o, (sb.2 l hne).trans e, r⟩⟩ sb
  done := fun s Q E st q => nextOf_tuple_end hh st.1 st.2 (by simp) q
end
end HT
namespace HT
open PySem PySem.Spec PyProof.Rows
section
variable {prog : Program} {w : World} {A : Around} {E : Value → Shared → Prop} {s : Shared}
end
end HT
namespace L2
open PySem PySem.Spec PyProof.Rows
section
variable {X : Cx} {K : PySem.W.Frag}
end
end L2

set_option Elab.async false
set_option linter.all false
set_option maxRecDepth 100000
set_option maxHeartbeats 4000000
/-! rules gone through -/
namespace RW
open PySem PySem.Spec PyProof.Rows L2
/-! worths -/
end RW
namespace RW
open PySem PySem.Spec PyProof.Rows L2
end RW

set_option Elab.async false
set_option linter.all false
set_option maxRecDepth 100000
set_option maxHeartbeats 4000000
/-! data as trees -/
namespace RW
open PySem PySem.Spec PyProof.Rows L2
mutual
def okD : D → Bool
  | .str x => PyData.strOk x
  | .tup ds => okL ds
  | .oth => false
  | .non => true
  | .bl _ => true
  | .int _ => true
def okL : List D → Bool
  | [] => true
  | d :: ds => okD d && okL ds
end
mutual
def pyD : D → PyData
  | .non => .none
  | .bl b => .bool b
  | .int i => .int i
  | .str x => .str x
  | .tup ds => .tuple (pyL ds)
  | .oth => .none
def pyL : List D → List PyData
  | [] => []
  | d :: ds => pyD d :: pyL ds
end
theorem pyL_map : ∀ {ds : List D}, pyL ds = ds.map pyD
  | [] => by rw [pyL]; rfl
  | d :: ds => by rw [pyL, List.map_cons, pyL_map]
theorem okL_all : ∀ {ds : List D}, okL ds = true → ∀ d ∈ ds, okD d = true
  | [], _, _, z => nomatch z
  | d :: ds, h, e, he => by
    rw [okL, Bool.and_eq_true] at h
    rcases List.mem_cons.mp he with rfl | he
    · exact h.1
    · exact okL_all h.2 e he
theorem okL_of : ∀ {ds : List D}, (∀ d ∈ ds, okD d = true) → okL ds = true
  | [], _ => by rw [okL]
  | d :: ds, h => by rw [okL, h d List.mem_cons_self, okL_of fun e he => h e (List.mem_cons_of_mem _ he)]; rfl
theorem tr_of {H : Hp} {v : V} {d : D} (r : Rep H v d) : okD d = true → Tr H v (pyD d) := by
  induction r with
  | non => intro _; rw [pyD]; exact .non
  | bl b => intro _; rw [pyD]; exact .bl b
  | int i => intro _; rw [pyD]; exact .int i
  | str x _ => intro h; rw [okD] at h; rw [pyD]; exact .str x h
  | @tup p vs ds hp l b r ih =>
    intro h
    rw [okD] at h
    rw [pyD, pyL_map]
    refine .tup hp (by rw [l, List.length_map]) fun i v d e1 e2 => ?_
    rw [List.getElem?_map] at e2
    cases e : ds[i]? with
    | none => rw [e] at e2; cases e2
    | some d' =>
      rw [e] at e2
      cases e2
      exact ih i v d' e1 e (okL_all h d' (List.mem_of_getElem? e))
  | lst _ => intro h; rw [okD] at h; cases h
  | dK _ => intro h; rw [okD] at h; cases h
theorem tup_eqv0 {ds : List D} : (PyData.tuple (pyL ds)).eqv (.tuple []) = decide (ds = []) := by
  rw [PyData.eqv]
  cases ds with
  | nil => rw [pyL, PyData.eqvAll]; rfl
  | cons d ds => rw [pyL, PyData.eqvAll]; rfl
theorem depth0 : (PyData.tuple []).depth ≤ 60 := by rw [PyData.depth, PyData.depthAll]; decide
theorem tr_tup0 {H : Hp} {p : Addr} (e : H p = some (.tup [])) : Tr H (.ref p) (.tuple []) := .tup e rfl fun i v d z => by cases z
end RW

set_option Elab.async false
set_option linter.all false
set_option maxRecDepth 100000
set_option maxHeartbeats 4000000
/-! marks handed on -/
namespace RW
open PySem PySem.Spec PyProof.Rows L2
def leS (a b : Str) : Bool := !ltS b a
def srt (l : List Str) : List Str := l.mergeSort leS
theorem leS_tr (a b c : Str) (h1 : leS a b = true) (h2 : leS b c = true) : leS a c = true := by
  unfold leS at *
  rw [Bool.not_eq_true'] at *
  cases h : ltS c a with
  | false => rfl
  | true =>
    by_cases e : a = b
    · subst e; rw [h] at h2; cases h2
    · have ab : ltS a b = true := ltS_tri (fun z => e z.symm) h1
      have := ltS_tr h ab
      rw [this] at h2; cases h2
theorem leS_tot (a b : Str) : (leS a b || leS b a) = true := by
  unfold leS
  cases h : ltS b a with
  | false => rfl
  | true => rw [ltS_asy h]; rfl
theorem srt_perm (l : List Str) : (srt l).Perm l := List.mergeSort_perm l leS
theorem srt_rise {l : List Str} (nd : l.Nodup) : (srt l).Pairwise (fun a b => ltS a b = true) := by
  have h1 : (srt l).Pairwise (fun a b => leS a b = true) := List.pairwise_mergeSort leS_tr leS_tot l
  have h2 : (srt l).Nodup := (srt_perm l).nodup_iff.mpr nd
  refine (h1.and h2).imp fun {a b} h => ?_
  obtain ⟨ha, hn⟩ := h
  unfold leS at ha
  rw [Bool.not_eq_true'] at ha
  exact ltS_tri (fun z => hn z.symm) ha
theorem srt_eq {ts l : List Str} (hp : ts.Perm l) (hs : sortedS ts = true) (nd : l.Nodup) : ts = srt l :=
  sorted_ext (rise_of ts hs (hp.nodup_iff.mpr nd)) (srt_rise nd) fun x => by rw [hp.mem_iff, (srt_perm l).mem_iff]
/-- told so far: names of O, each once -/
structure Mk (O t : List Str) : Prop where
  nd : t.Nodup
  mem : ∀ x ∈ t, x ∈ O
end RW

set_option Elab.async false
set_option linter.all false
set_option maxRecDepth 100000
set_option maxHeartbeats 4000000
/-! tuples in order -/
namespace L2
open PySem PySem.W PySem.Spec PyProof.Rows
section
open PySem.SeqAt
open PySem.AutoSeq1 (wpAny_loadPart')
open PySem.MeetsSeq PySem.MeetsSeq2 PySem.MeetsSeq3
theorem tuple_lt_gen (l b : Addr) (n n2 : Nat) (dd dd2 : Option Addr) (sl sl2 : Array (Option Value)) (xs ys : List Value) (k : Nat) (res : Bool) :
    Meets (Builtin.«tuple.__lt__» ⟨[.ref l, .ref b], []⟩) (fun A R s => s.heap.get? l = some { cls := .type "tuple", dict := dd, data := .seq xs.toArray n, slots := sl } ∧ s.heap.get? b = some { cls := .type "tuple", dict := dd2, data := .seq ys.toArray n2, slots := sl2 } ∧
      (∀ prog w i x y, i < k → xs[i]? = some x → ys[i]? = some y → ∀ (E : Value → Shared → Prop) (Q : Bool → Shared → Prop), Q true s → wpAny (model prog w) A.in1 (eqBool x y) Q E s) ∧ k ≤ xs.length ∧ k ≤ ys.length ∧
      ((k = min xs.length ys.length ∧ res = decide (xs.length < ys.length)) ∨ ∃ x y, xs[k]? = some x ∧ ys[k]? = some y ∧ (∀ prog w (E : Value → Shared → Prop) (Q : Bool → Shared → Prop), Q false s → wpAny (model prog w) A.in1 (eqBool x y) Q E s) ∧ ∀ prog w (E : Value → Shared → Prop) (Q : Value → Shared → Prop), Q (.bool res) s → wpAny (model prog w) A.in1 (richCompare .Lt x y) Q E s) ∧
      R (.ok (.ret (.bool res))) s) :=
  .of_wp fun prog w A R s h => by
    obtain ⟨hp, g, d, tk, os⟩ := s
    obtain ⟨hl, hb, he, k1, k2, hk, h⟩ := h
    have f2 := AutoSeq1.sub_tuple_tuple
    wp_walk using wpAny_loadPart' hl, wpAny_loadPart' hb, wpAny_forIn_list _ (fun rest b s' => b.1 = none ∧ s' = ⟨hp, g, d, tk, os⟩ ∧ ∃ i, i ≤ k ∧ rest = (xs.zip ys).drop i) _
    case turn =>
      rintro ⟨p, q⟩ rest b s' ⟨hb', rfl, i, hi, hr⟩
      have hx : (xs.zip ys)[i]? = some (p, q) := by
        have := congrArg (fun l => l[0]?) hr
        simpa [List.getElem?_drop] using this.symm
      rw [List.getElem?_zip_eq_some] at hx
      have hr2 : rest = (xs.zip ys).drop (i + 1) := by
        have := congrArg List.tail hr
        simpa using this
      rcases Nat.lt_or_ge i k with z | z
      · refine wpAny_bind (he prog w i p q z hx.1 hx.2 _ _ ?_)
        wp_walk
        exact ⟨rfl, rfl, i + 1, z, hr2⟩
      · have ei : i = k := by omega
        subst ei
        rcases hk with ⟨hm, _⟩ | ⟨x, y, ex, ey, f1, f3⟩
        · have h1 : i < xs.length := by
            rcases Nat.lt_or_ge i xs.length with y | y
            · exact y
            · rw [List.getElem?_eq_none y] at hx; cases hx.1
          have h2 : i < ys.length := by
            rcases Nat.lt_or_ge i ys.length with y | y
            · exact y
            · rw [List.getElem?_eq_none y] at hx; cases hx.2
          omega
        · rw [hx.1] at ex
          rw [hx.2] at ey
          cases ex
          cases ey
          refine wpAny_bind (f1 prog w _ _ ?_)
          have c1 := f3 prog w
          wp_walk using c1
          exact ⟨_, rfl, h⟩
    case fin =>
      rintro ⟨b1, b2⟩ s' ⟨hb', rfl, i, hi, hr⟩
      simp only at hb'
      subst hb'
      have hlen : (xs.zip ys).length ≤ i := by
        have := congrArg List.length hr
        rw [List.length_nil, List.length_drop] at this
        omega
      rw [List.length_zip] at hlen
      rcases hk with ⟨hm, hres⟩ | ⟨x, y, ex, ey, _⟩
      · wp_walk
        rw [hres] at h
        exact ⟨_, rfl, h⟩
      · have h1 : k < xs.length := by
          rcases Nat.lt_or_ge k xs.length with y | y
          · exact y
          · rw [List.getElem?_eq_none y] at ex; cases ex
        have h2 : k < ys.length := by
          rcases Nat.lt_or_ge k ys.length with z | z
          · exact z
          · rw [List.getElem?_eq_none z] at ey; cases ey
        omega
    case h =>
      exact ⟨rfl, rfl, 0, Nat.zero_le _, by simp⟩
end
end L2
namespace L2
open PySem PySem.W PySem.Spec PyProof.Rows RW
def ltL : List Str → List Str → Bool
  | [], [] => false
  | [], _ :: _ => true
  | _ :: _, [] => false
  | x :: xs, y :: ys => if x = y then ltL xs ys else ltS x y
theorem ltL_at : ∀ (ps qs : List Str), ∃ k, k ≤ ps.length ∧ k ≤ qs.length ∧ (∀ i < k, ps[i]? = qs[i]?) ∧ ((k = min ps.length qs.length ∧ ltL ps qs = decide (ps.length < qs.length)) ∨ ∃ x y, ps[k]? = some x ∧ qs[k]? = some y ∧ x ≠ y ∧ ltL ps qs = ltS x y)
  | [], [] => ⟨0, Nat.le_refl _, Nat.le_refl _, fun i z => absurd z (Nat.not_lt_zero _), .inl ⟨rfl, rfl⟩⟩
  | [], q :: qs => ⟨0, Nat.le_refl _, Nat.zero_le _, fun i z => absurd z (Nat.not_lt_zero _), .inl ⟨by simp, by rw [ltL]; simp⟩⟩
  | p :: ps, [] => ⟨0, Nat.zero_le _, Nat.le_refl _, fun i z => absurd z (Nat.not_lt_zero _), .inl ⟨by simp, by rw [ltL]; simp⟩⟩
  | p :: ps, q :: qs => by
    by_cases e : p = q
    · subst e
      obtain ⟨k, k1, k2, he, hk⟩ := ltL_at ps qs
      refine ⟨k + 1, by simp; omega, by simp; omega, fun i hi => ?_, ?_⟩
      · cases i with
        | zero => rfl
        | succ i => exact he i (by omega)
      · rw [ltL, if_pos rfl]
        rcases hk with ⟨h1, h2⟩ | ⟨x, y, h1, h2, h3, h4⟩
        · exact .inl ⟨by simp; omega, by rw [h2]; simp⟩
        · exact .inr ⟨x, y, by simpa using h1, by simpa using h2, h3, h4⟩
    · exact ⟨0, Nat.zero_le _, Nat.zero_le _, fun i z => absurd z (Nat.not_lt_zero _), .inr ⟨p, q, rfl, rfl, e, by rw [ltL, if_neg e]⟩⟩
section
variable {X : Cx} {K : PySem.W.Frag}
theorem vals_str {ps : List Str} {its : List Value} (r : Vals (ps.map V.str) its) {i : Nat} {v : Value} (h : its[i]? = some v) : ∃ p t, ps[i]? = some p ∧ v = .str p t := by
  have hi : i < its.length := by
    rcases Nat.lt_or_ge i its.length with z | z
    · exact z
    · rw [List.getElem?_eq_none z] at h; cases h
  have hp : i < ps.length := by have := r.length; rw [List.length_map] at this; omega
  obtain ⟨u, hu, ru⟩ := r.get (i := i) (x := .str ps[i]) (by rw [List.getElem?_map, List.getElem?_eq_getElem hp]; rfl)
  rw [hu] at h
  cases h
  obtain ⟨t, rfl⟩ := ru
  exact ⟨ps[i], t, List.getElem?_eq_getElem hp, rfl⟩
theorem vals_len {ps : List Str} {its : List Value} (r : Vals (ps.map V.str) its) : its.length = ps.length := by have := r.length; rw [List.length_map] at this; exact this.symm
/-- tuples of texts in order, the bare comparison -/
theorem lt_strsT {prog : Program} {w : World} {A : Around} {E : Value → Shared → Prop} {s : Shared} {Q : Value → Shared → Prop} {a b : Addr} {ps qs : List Str} {its its2 : List Value} (ra : Vals (ps.map V.str) its) (rb : Vals (qs.map V.str) its2) (ha : IsTup s.heap a its.toArray) (hb : IsTup s.heap b its2.toArray) (hu : A.units < cLine)
    (q : Q (.bool (ltL ps qs)) s) : wpAny (model prog w) A (richCompare .Lt (.ref a) (.ref b)) Q E s := by
  obtain ⟨⟨c1, d1, e1, f1⟩, ho, hc, n, hd⟩ := id ha
  obtain ⟨⟨c2, d2, e2, f2⟩, ho2, hc2, n2, hd2⟩ := id hb
  simp only at hc hd hc2 hd2
  subst hc hd hc2 hd2
  obtain ⟨k, k1, k2, he, hk⟩ := ltL_at ps qs
  have l1 := vals_len ra
  have l2 := vals_len rb
  refine richCompare_meets_room (op := .Lt) ⟨_, ho, rfl⟩ ⟨_, ho2, rfl⟩ PySem.F.slot_tuple_lt PySem.F.entry_tuple_lt (PySem.F.args_tuple_lt_2 _ _) (tuple_lt_gen a b n n2 d1 d2 f1 f2 its its2 k (ltL ps qs)) ⟨ho, ho2, ?_, by omega, by omega, ?_, ?_⟩ hu
  · intro prog w i x y hi hx hy E Q hq
    obtain ⟨p, t, hp, rfl⟩ := vals_str ra hx
    obtain ⟨q', t', hp', rfl⟩ := vals_str rb hy
    have e : p = q' := by
      have := he i hi
      rw [hp, hp'] at this; exact Option.some.inj this
    refine wpAny_eqBool_str ?_
    rw [decide_eq_true e]; exact hq
  · rcases hk with ⟨h1, h2⟩ | ⟨x, y, h1, h2, h3, h4⟩
    · exact .inl ⟨by omega, by rw [h2, l1, l2]⟩
    · have hx : k < its.length := by
        rw [l1]
        rcases Nat.lt_or_ge k ps.length with z | z
        · exact z
        · rw [List.getElem?_eq_none z] at h1; cases h1
      have hy : k < its2.length := by
        rw [l2]
        rcases Nat.lt_or_ge k qs.length with z | z
        · exact z
        · rw [List.getElem?_eq_none z] at h2; cases h2
      obtain ⟨p, t, hp, e1⟩ := vals_str ra (List.getElem?_eq_getElem hx)
      obtain ⟨q', t', hp', e2⟩ := vals_str rb (List.getElem?_eq_getElem hy)
      rw [h1] at hp
      rw [h2] at hp'
      cases hp
      cases hp'
      refine .inr ⟨_, _, List.getElem?_eq_getElem hx, List.getElem?_eq_getElem hy, fun prog w E Q hq => ?_, fun prog w E Q hq => ?_⟩
      · rw [e1, e2]
        refine wpAny_eqBool_str ?_
        rw [decide_eq_false h3]; exact hq
      · rw [e1, e2]
        rw [h4] at hq
        exact (PyProof.Rows.lt_str hq : wpAny (model prog w) A.in1 (compareOp .Lt (.str x t) (.str y t')) Q E s)
  · exact ⟨(fun x => nomatch x), q⟩
def rLtS (K : PySem.W.Frag) : R2 := fun x y H Q => ∃ a b ps qs, x = .ref a ∧ y = .ref b ∧ SqT K H a (ps.map V.str) ∧ SqT K H b (qs.map V.str) ∧ Q (.bl (ltL ps qs)) H
theorem op_ltS (hu : X.A.units + 64 < cLine) : OpR X (compareOp .Lt) (rLtS X.K) := by
  intro pins s σ H x y v u Q I rx ry h
  obtain ⟨a, b, ps, qs, rfl, rfl, ha, hb, q⟩ := h
  cases rx
  cases ry
  obtain ⟨its, r1, t1, _⟩ := I.tuple ha
  obtain ⟨its2, r2, t2, _⟩ := I.tuple hb
  exact lt_strsT r1 r2 t1 t2 (by omega) ⟨.bl (ltL ps qs), H, I, rfl, q⟩
theorem ltL_irr : ∀ (ps : List Str), ltL ps ps = false
  | [] => rfl
  | p :: ps => by rw [ltL, if_pos rfl]; exact ltL_irr ps
end
end L2

set_option Elab.async false
set_option linter.all false
set_option maxRecDepth 100000
set_option maxHeartbeats 4000000
/-! ways with marks, liked more or less -/
namespace RW
open PySem PySem.Spec PyProof.Rows L2
def LP (P : D → Prop) (H : Hp) (l : Addr) (n : Nat) : Prop := ∃ vs ds, H l = some (.lst vs) ∧ RepL H vs ds ∧ ds.length ≤ n ∧ ∀ d ∈ ds, P d
end RW

set_option Elab.async false
set_option linter.all false
set_option maxRecDepth 100000
set_option maxHeartbeats 4000000
/-! t[::step], step being 1 or -1 -/
namespace HT
open PySem PySem.Spec PyProof.Rows
section
variable {prog : Program} {w : World} {A : Around} {E : Value → Shared → Prop} {s : Shared}
end
end HT
namespace L2
open PySem PySem.Spec PyProof.Rows
section
variable {X : Cx} {e st : Expr} {te ts : TE} {p1 p2 p3 pos : Pos} {tk : Tok}
end
end L2

set_option Elab.async false
set_option linter.all false
set_option maxRecDepth 100000
set_option maxHeartbeats 4000000
/-! rules cut in two, rules that never hold -/
namespace RW
open PySem PySem.Spec PyProof.Rows L2
section
variable {te tf : TE} {ta : TA} {σ : L2.St} {H : Hp} {d : D} {ds es : List D} {K : PySem.W.Frag}
/-- a slice of what is told -/
theorem dsp_slE {tl th : L2.TO} {lo hi : Option Int} (h : Dsp te σ H (.tup ds)) (hl : ∀ H1 (Q : Option Int → Hp → Prop), Q lo H1 → tl σ H1 Q) (hh : ∀ H1 (Q : Option Int → Hp → Prop), Q hi H1 → th σ H1 Q)
    (hc : ∀ vs : List V, vs.length = ds.length → ∃ m k, cutV vs lo hi = (vs.drop m).take k ∧ es = (ds.drop m).take k) : Dsp (tSl (rSlA K) te tl th) σ H (.tup es) := fun H1 Q s q =>
  h H1 _ s fun v H2 s2 r => by
    obtain ⟨p, vs, rfl, hp, r1, b⟩ := r.ofT
    obtain ⟨m, k, e1, e2⟩ := hc vs r1.1
    refine hl _ _ (hh _ _ ⟨p, vs, rfl, .inl (.inl hp), fun z => ?_, fun p2 hp2 => ?_⟩)
    · refine q _ H2 s2 ?_
      have e3 : es = ds := by
        rw [e2]
        rw [e1] at z
        have z1 := congrArg List.length z
        rw [List.length_take, List.length_drop, r1.1] at z1
        rcases Nat.eq_zero_or_pos m with rfl | hm
        · rw [List.drop_zero]
          exact List.take_of_length_le (by omega)
        · have : ds = [] := List.eq_nil_of_length_eq_zero (by omega)
          subst this; simp
      rw [e3]
      exact .mkL hp b r1
    · refine q _ _ (s2.trans (Same.new hp2)) (.mkL upd_same (by rw [e2, List.length_take, List.length_drop]; omega) ?_)
      rw [e1, e2]
      exact ((r1.drop m).take k).mono (.new hp2)
theorem dsp_takeE {j t : Nat} (h : Dsp te σ H (.tup ds)) (ht : σ[j]? = some (some (.int (t : Int)))) : Dsp (tSl (rSlA K) te tNoPart (tPart (tVar j))) σ H (.tup (ds.take t)) :=
  dsp_slE (lo := none) (hi := some (t : Int)) h (fun _ _ h => part_none h) (fun _ _ h => part_var ht h) fun vs hl => ⟨0, t, by rw [cut_take, List.drop_zero], by rw [List.drop_zero]⟩
theorem dsp_dropE1 {j t : Nat} (h : Dsp te σ H (.tup ds)) (ht : σ[j]? = some (some (.int (t : Int)))) : Dsp (tSl (rSlA K) te (tPart (tOp (rI0 fun i j => .int (i + j)) (tVar j) (tC (.int 1)))) tNoPart) σ H (.tup (ds.drop (t + 1))) :=
  dsp_slE (lo := some ((t : Int) + 1)) (hi := none) h (fun _ _ h => part_add ht h) (fun _ _ h => part_none h) fun vs hl => ⟨t + 1, vs.length, by rw [show (t : Int) + 1 = ((t + 1 : Nat) : Int) by push_cast; rfl, cut_drop]; exact (List.take_of_length_le (by rw [List.length_drop]; omega)).symm, (List.take_of_length_le (by rw [List.length_drop]; omega)).symm⟩
end
/-! lists with one place changed -/
/-! worths of rules put together -/
end RW

set_option Elab.async false
set_option linter.all false
set_option maxRecDepth 100000
set_option maxHeartbeats 4000000
/-! a dict keyed by tuples, walked by a comprehension: while it is walked (and behind that) it is frozen: read, not written -/
namespace L2
open PySem PySem.Spec PyProof.Rows
section
variable {X : Cx} {pos : Pos} {pins : List (Addr × Obj)} {σ : St} {H : Hp} {s : Shared}
end
end L2

set_option Elab.async false
set_option linter.all false
set_option maxRecDepth 100000
set_option maxHeartbeats 4000000
/-! list.insert, enumerate(list), sorted(.., reverse=True) of ints, a dict display keyed by a tuple, its length -/
namespace L2
open PySem PySem.Spec PyProof.Rows
section
variable {X : Cx} {K : PySem.W.Frag}
def ItL (K : PySem.W.Frag) (a : Addr) (n : Nat) : It :=
  ⟨fun i H => ∃ xs x, SqL K H a xs ∧ xs.length = n ∧ xs[i]? = some x, fun i H x H' => ∃ T y, x = .ref T ∧ H T = none ∧ (∀ xs, SqL K H a xs → xs[i]? = some y) ∧ H' = upd H T (.tup [.int (i : Int), y]), fun i H => ∃ xs, SqL K H a xs ∧ xs.length = n ∧ n ≤ i⟩
theorem turn_enumL {P : Program} {w : World} {K : PySem.W.Frag} {elts : List Expr} {k : Nat} {pos : Pos} (a e it : Addr) (n : Nat) (hne : e ≠ it) :
    Turn P w K (.Tuple elts k pos) (ItL K a n) [e, it] e (fun i h => i ≤ n ∧ (∃ old, IsEnum h e it (i : Int) old) ∧ h.IsListIter it a i) where
  mem := by simp
  obj := fun i h st b hb => by
    obtain ⟨_, ⟨old, he⟩, o, e', c, d⟩ := st
    rcases List.mem_cons.mp hb with rfl | hb
    · exact ⟨_, he, fun v z => by cases z⟩
    · have : b = it := by simpa using hb
      subst this
      exact ⟨o, e', fun v z => by rw [d] at z; cases z⟩
  keep := fun i h h' st kk => ⟨st.1, let ⟨old, he⟩ := st.2.1; ⟨old, kk e (by simp) _ he⟩, st.2.2.at fun o e' => kk it (by simp) o e'⟩
  item := by
    intro X hP hw hK hc i pins s σ H E I hf st hg
    subst hP hw hK
    obtain ⟨xs, x, hq, hn, hx⟩ := hg
    obtain ⟨its, rv, p, hz⟩ := I.list hq
    obtain ⟨u, hu, ru⟩ := rv.get hx
    have pT : s.heap.IsList a its.toArray := p.isList
    have hil : i < its.length := by
      rcases Nat.lt_or_ge i its.length with z | z
      · exact z
      · rw [List.getElem?_eq_none z] at hu; cases hu
    have hlen : its.length = n := by rw [← rv.length]; exact hn
    obtain ⟨o1, ho1, hc1, _⟩ := id pT
    have na1 : a ≠ it := fun z => by
      obtain ⟨o2, ho2, hc2, _⟩ := st.2.2
      rw [z, ho2] at ho1; cases ho1; rw [hc2] at hc1; injection hc1 with hc1; exact absurd hc1 (by decide)
    have na2 : a ≠ e := fun z => by
      obtain ⟨old, he⟩ := st.2.1
      rw [z, he] at ho1; cases ho1; injection hc1 with hc1; exact absurd hc1 (by decide)
    obtain ⟨f0, f1, f2, f3, f4, f5⟩ := hf e (by simp)
    obtain ⟨g0, g1, g2, g3, g4, g5⟩ := hf it (by simp)
    have W := WalksT.enumerateD (Draws.list (prog := X.prog) (w := X.w) (A := X.A.in1) (I.ok.hd hc) it a na1 its.toArray) e hne (by simp [hne, Ne.symm na2]) (by simp)
    obtain ⟨old, he⟩ := st.2.1
    unfold pyNext
    refine wpAny_bind (wpAny_attempt (wpAny_callSpecial?_slot (name := Str.ofString "__next__") ⟨_, he, rfl⟩ PySem.F.slot_enumerate_next (wpAny_call_entry PySem.F.slot_enumerate_next ⟨_, he, rfl⟩ PySem.F.entry_enumerate_next (enumerate_next_itemD (Draws.list (prog := X.prog) (w := X.w) (A := X.A.in1) (I.ok.hd hc) it a na1 its.toArray) he ⟨st.2.2, pT⟩ (by simpa using hil) hne (by simp [hne, Ne.symm na2]) fun x' h' t hx' hOut hSt hTo hsz hk0 => ?_) (PySem.F.args_enumerate_next_1 _))))
    refine wpAny_pure ?_
    obtain ⟨tk, htk⟩ : ∃ tk, tk = t + 1 := ⟨_, rfl⟩
    rw [← htk]
    obtain ⟨T, hTT⟩ : ∃ T, T = s.heap.objs.size := ⟨_, rfl⟩
    have hk : ∀ (b : Addr) (o : Obj), b ∉ [e, it] → s.heap.get? b = some o → h'.get? b = some o := fun b o hb q => hk0 b o (fun z => hb (by simp [z])) (fun z => hb (by simp [z])) q
    rw [← hTT] at hOut hTo ⊢
    have hT : s.heap.objs.size ≤ T := Nat.le_of_eq hTT.symm
    have hTup : h'.IsTuple T #[Value.int (i : Int) t, x'] := ⟨_, hTo, rfl, _, rfl⟩
    have nTe : T ≠ e := fun z => by have := Heap.lt_size he; rw [← z, hTT] at this; exact absurd this (Nat.lt_irrefl _)
    have nTi : T ≠ it := fun z => by obtain ⟨o2, ho2, _⟩ := st.2.2; have := Heap.lt_size ho2; rw [← z, hTT] at this; exact absurd this (Nat.lt_irrefl _)
    have hMid : (∃ x, IsEnumOut h' e it ((i : Int) + 1) x T) ∧ (h'.IsListIter it a (i + 1) ∧ h'.IsList a its.toArray) ∧ T ≠ e ∧ T ≠ it := ⟨⟨_, hOut⟩, hSt, nTe, nTi⟩
    have ex : x' = u := by
      have : its.toArray[i]? = some u := by simpa using hu
      rw [this] at hx'; exact (Option.some.inj hx').symm
    subst ex
    refine ⟨_, rfl, W.go elts k pos i T { s with heap := h', toks := tk } _ _ hMid fun h2 st2 hk2 => ?_⟩
    have nT : T ∉ [e, it] := W.apart i T h' hMid
    have fT : H T = none := I.hok.fresh hT
    have ltT : ∀ {b o}, s.heap.get? b = some o → b ≠ T := fun q z => by
      have := Heap.lt_size q
      rw [z] at this
      exact absurd (Nat.lt_of_lt_of_le this hT) (Nat.lt_irrefl _)
    have hTup2 : h2.IsTuple T #[Value.int (i : Int) t, x'] := by
      obtain ⟨o, ho, r⟩ := hTup
      exact ⟨o, hk2 T o nT ho, r⟩
    have hND : NoDict h2 T := fun o q => by rw [hk2 T _ nT hTo] at q; cases q; rfl
    have kk : ∀ b o, b ∉ [e, it] → s.heap.get? b = some o → h2.get? b = some o := fun b o hb q => hk2 b o hb (hk b o hb q)
    have neT : ∀ {b u'}, H b = some u' → b ≠ T := fun q z => by rw [z, fT] at q; cases q
    refine ⟨.ref T, upd H T (.tup [.int (i : Int), x]), ?_, rfl, ⟨T, x, rfl, fT, fun ys hy => by rw [I.list_inj hy hq]; exact hx, rfl⟩, ⟨by omega, st2.1, st2.2.1⟩, fun b hb => ?_⟩
    · show Inv X pins σ _ { s with heap := h2, gens := s.gens, drawn := s.drawn, toks := tk }
      refine Inv.step (s := s) (h' := h2) (t' := tk) (g' := s.gens) (d' := s.drawn) (ch := [e, it]) I (fun b hb => ?_) (fun b o _ _ hc e' _ => kk b o hc e') (fun b o _ _ hc e' _ => ⟨o.slots, kk b o hc e'⟩) (fun b o _ e' z => by rw [upd_ne (ltT e')]; exact z) (fun b o hc e' => ⟨o, kk b o hc e'⟩) (fun b xs z => by rw [upd_ne (neT z)]; exact z) (fun b o u' z => by rw [upd_ne (neT z)]; exact z) (fun b ps z => ⟨#[], by rw [upd_ne (neT z), z]; simp⟩) (fun m hm => ?_) (fun b u' z => ?_) I.bare
      · rcases List.mem_cons.mp hb with rfl | hb
        · exact ⟨f3, f1, f4, f5⟩
        · have : b = it := by simpa using hb
          subst this
          exact ⟨g3, g1, g4, g5⟩
      · obtain ⟨o, es, ep, ho, r⟩ := hm
        refine ⟨o, es, ep, kk _ o (fun z => ?_) ho, r⟩
        rcases List.mem_cons.mp z with z | z
        · exact f1 z.symm
        · exact g1 ((by simpa using z : X.env.locals = it).symm)
      · by_cases hb : b = T
        · subst hb
          rw [upd_same] at z
          cases z
          exact ⟨few rfl, [Value.int (i : Int) t, x'], .cons ⟨t, rfl⟩ (.cons ru .nil), hTup2, hND⟩
        · rw [upd_ne hb] at z
          refine (I.hok b u' z).stay (fun c v hc q => kk c v (fun y => ?_) q) (fun c q => by rw [upd_ne (neT q)]; exact q) fun c xs q => by rw [upd_ne (neT q)]; exact q
          have : ∃ u2, H c = some u2 := by
            rcases hc with rfl | hc
            · exact ⟨_, z⟩
            · exact ⟨_, hc⟩
          obtain ⟨u2, hu2⟩ := this
          rcases List.mem_cons.mp y with rfl | y
          · rw [f0] at hu2; cases hu2
          · have : c = it := by simpa using y
            subst this
            rw [g0] at hu2; cases hu2
    · have : b ≠ T := fun z => nT (by rw [← z]; exact hb)
      rw [upd_ne this]
      exact (hf b hb).1
  done := by
    intro X hP hw hK hc i pins s σ H E I hf st hg
    subst hP hw hK
    obtain ⟨xs, hq, hn, hx⟩ := hg
    obtain ⟨its, rv, p, hz⟩ := I.list hq
    have pT : s.heap.IsList a its.toArray := p.isList
    have hlen : its.length = n := by rw [← rv.length]; exact hn
    have ei : i = its.toArray.size := by have := st.1; simp; omega
    obtain ⟨o1, ho1, hc1, _⟩ := id pT
    have na1 : a ≠ it := fun z => by
      obtain ⟨o2, ho2, hc2, _⟩ := st.2.2
      rw [z, ho2] at ho1; cases ho1; rw [hc2] at hc1; injection hc1 with hc1; exact absurd hc1 (by decide)
    have na2 : a ≠ e := fun z => by
      obtain ⟨old, he⟩ := st.2.1
      rw [z, he] at ho1; cases ho1; injection hc1 with hc1; exact absurd hc1 (by decide)
    obtain ⟨f0, f1, f2, f3, f4, f5⟩ := hf e (by simp)
    obtain ⟨g0, g1, g2, g3, g4, g5⟩ := hf it (by simp)
    have W := WalksT.enumerateD (Draws.list (prog := X.prog) (w := X.w) (A := X.A.in1) (I.ok.hd hc) it a na1 its.toArray) e hne (by simp [hne, Ne.symm na2]) (by simp)
    subst ei
    refine W.done s _ _ ⟨st.2.1, st.2.2, pT⟩ fun h' tk kk => ⟨rfl, ?_⟩
    refine I.step (g' := s.gens) (d' := s.drawn) (ch := [e, it]) (fun b hb => ?_) (fun b o _ _ hc e' _ => kk b o hc e') (fun b o _ _ hc e' _ => ⟨o.slots, kk b o hc e'⟩) (fun _ _ _ _ z => z) (fun b o hc e' => ⟨o, kk b o hc e'⟩) (fun _ _ z => z) (fun _ _ _ z => z) (fun b ps z => ⟨#[], by rw [z]; simp⟩) (fun m hm => ?_) (fun b u' z => ?_) I.bare
    · rcases List.mem_cons.mp hb with rfl | hb
      · exact ⟨f3, f1, f4, f5⟩
      · have : b = it := by simpa using hb
        subst this
        exact ⟨g3, g1, g4, g5⟩
    · obtain ⟨o, es, ep, ho, r⟩ := hm
      refine ⟨o, es, ep, kk _ o (fun z => ?_) ho, r⟩
      rcases List.mem_cons.mp z with z | z
      · exact f1 z.symm
      · exact g1 ((by simpa using z : X.env.locals = it).symm)
    · refine (I.hok b u' z).stay (fun c v hc q => kk c v (fun y => ?_) q) (fun c q => q) fun c xs q => q
      have : ∃ u2, H c = some u2 := by
        rcases hc with rfl | hc
        · exact ⟨_, z⟩
        · exact ⟨_, hc⟩
      obtain ⟨u2, hu2⟩ := this
      rcases List.mem_cons.mp y with rfl | y
      · rw [f0] at hu2; cases hu2
      · have : c = it := by simpa using y
        subst this
        rw [g0] at hu2; cases hu2
  self := fun A i s Q E st h => by
    obtain ⟨_, ⟨old, he⟩, _⟩ := st
    refine wpAny_pyIter_slot (T := "enumerate") ⟨_, he, rfl⟩ PySem.F.slot_enumerate_iter (wpAny_call_entry PySem.F.slot_enumerate_iter ⟨_, he, rfl⟩ PySem.F.entry_enumerate_iter ?_ (PySem.F.args_enumerate_iter_1 _))
    unfold Builtin.«dict_keyiterator.__iter__»
    refine wpAny_bind (wpAny_pure (wpAny_pure ⟨_, rfl, "enumerate", _, ⟨_, he, rfl⟩, PySem.F.slot_enumerate_next.lookup, h⟩))
def iEnumL (K : PySem.W.Frag) (ta : TA) : TI := fun σ H R => ta σ H fun vs H1 => ∃ a xs, vs = [.ref a] ∧ SqL K H1 a xs ∧ R (ItL K a xs.length) H1
theorem i_enumL {elts : List Expr} {k : Nat} {pos2 : Pos} {a : Expr} {ta : TA} {p pos : Pos} (hm : X.mg "enumerate" = none) (ha : QA X [a] ta) (hg : Gl X "enumerate" := by rfl) (hs : starEach [a] X.env = [(false, eval a X.env)] := by rfl) : QI X (.Tuple elts k pos2) (.Call (.Name "enumerate" p) [a] [] pos) (iEnumL X.K ta) := ⟨by
  intro pins s σ H R I h
  refine Call_ (ld_blt I hg hm boot_enumerate (PyProof.Rows.callWith_type1 (thn (ha.o pos pins s σ H _ I h) fun us s1 ⟨vs, H1, I1, r1, q1⟩ => ?_) hs rfl))
  obtain ⟨l, xs, rfl, hq, q⟩ := q1
  obtain ⟨u, rfl, ru⟩ := vals1 r1
  cases ru
  obtain ⟨its, rv, pl, hz⟩ := I1.list hq
  refine call_enumerate_list pl.isList fun h' he hit hsz kk => ?_
  have ne1 : s1.heap.objs.size + 1 ≠ s1.heap.objs.size := by omega
  refine (turn_enumL (P := X.prog) (w := X.w) (K := X.K) (elts := elts) (k := k) (pos := pos2) l (s1.heap.objs.size + 1) s1.heap.objs.size xs.length ne1).self X.A 0 _ _ _ ⟨Nat.zero_le _, ⟨_, he⟩, hit⟩ ?_
  refine ⟨s1.heap.objs.size + 1, [s1.heap.objs.size + 1, s1.heap.objs.size], _, _, H1, rfl, I1.kept (t' := s1.toks) kk, turn_enumL l _ _ xs.length ne1, ⟨Nat.zero_le _, ⟨_, he⟩, hit⟩, fun b hb => ?_, q⟩
  have hb' : s1.heap.objs.size ≤ b := by
    rcases List.mem_cons.mp hb with z | z
    · rw [z]; exact Nat.le_succ _
    · have z : b = s1.heap.objs.size := by simpa using z
      rw [z]; exact Nat.le_refl _
  exact I1.fpOk hb' (I1.hok.fresh hb')⟩
end
end L2
namespace L2
open PySem PySem.Spec PyProof.Rows
section
variable {X : Cx} {pos : Pos}
end
end L2
namespace HT
open PySem PySem.Spec PyProof.Rows
end HT
namespace L2
open PySem PySem.Spec PyProof.Rows
section
variable {X : Cx} {e i o : Expr} {te td ty : TE} {p1 p2 p3 pos : Pos} {tk : Tok}
theorem q_dget (hu : X.A.units + 1 < cLine) (ho : QE X o td) (hi : QE X i ty) (hs : NoSl i := by exact fun _ _ => rfl) : QE X (.Subscript o i pos) (tDGet td ty) := ⟨pe_dget hu ho.o hi.o hs⟩
end
end L2

set_option Elab.async false
set_option linter.all false
set_option maxRecDepth 100000
set_option maxHeartbeats 4000000
/-! ways put in order by likes_more -/
namespace RW
open PySem PySem.Spec PyProof.Rows L2
/-! putting in -/
/-! data -/
mutual
theorem eqv_pyD : ∀ d : D, (pyD d).eqv (pyD d) = true
  | .non => by rw [pyD, PyData.eqv]
  | .bl b => by rw [pyD, PyData.eqv]; simp
  | .int i => by rw [pyD, PyData.eqv]; simp
  | .str x => by rw [pyD, PyData.eqv]; simp
  | .tup ds => by rw [pyD, PyData.eqv]; exact eqv_pyL ds
  | .oth => by rw [pyD, PyData.eqv]
theorem eqv_pyL : ∀ ds : List D, PyData.eqvAll (pyL ds) (pyL ds) = true
  | [] => by rw [pyL, PyData.eqvAll]
  | d :: ds => by rw [pyL, PyData.eqvAll, eqv_pyD d, eqv_pyL ds]; rfl
end
/-! a dict of ways and marks -/
end RW

set_option Elab.async false
set_option linter.all false
set_option maxRecDepth 100000
set_option maxHeartbeats 4000000
/-! zip of two lists or tuples -/
namespace HT
open PySem PySem.Spec PyProof.Rows L2
section
variable {prog : Program} {w : World} {A : Around} {E : Value → Shared → Prop} {s : Shared}
theorem zip_itemD {z TI TO i1 i2 l1 l2 : Addr} {n1 n2 k : Nat} {P1 P2 : Nat → Value → Prop} {S1 S2 : Nat → Heap → Prop} {a b : Value} {Q : Value → Shared → Prop} (D : ZipApart z TI TO i1 i2 l1 l2)
    (D1 : Draws prog w A i1 [i1, l1] n1 P1 S1) (D2 : Draws prog w A i2 [i2, l2] n2 P2 S2)
    (hz : IsZip s.heap z TI TO .none) (hTI : IsPair s.heap TI (.ref i1) (.ref i2)) (hTO : IsPair s.heap TO a b) (h1 : S1 k s.heap) (h2 : S2 k s.heap) (k1 : k < n1) (k2 : k < n2)
    (hQ : ∀ x y h' tk, P1 k x → P2 k y → IsZip h' z TI TO (rawInt s.heap.objs.size) → IsPair h' TO x y → S1 (k + 1) h' → S2 (k + 1) h' → IsPair h' s.heap.objs.size x y → h'.objs.size = s.heap.objs.size + 1 →
      (∀ c o, c ≠ z → c ≠ TO → c ≠ i1 → c ≠ i2 → s.heap.get? c = some o → h'.get? c = some o) → Q (.ref s.heap.objs.size) { s with heap := h', toks := tk }) :
    wpAny (model prog w) A (Builtin.«zip.__next__» ⟨[.ref z], []⟩) (fun fin s' => ∃ v, fin = .done (.ret v) ∧ Q v s') E s := by
  show wpAny _ _ (field (.ref z) 2 >>= _) _ _ _
  refine wpAny_bind (wpAny_field hz rfl (x := .bool false) rfl ?_)
  show wpAny _ _ (field (.ref z) 3 >>= _) _ _ _
  refine wpAny_bind (wpAny_field hz rfl (x := .ref TI) rfl ?_)
  refine wpAny_bind (wpAny_seqItems hTI rfl ?_)
  show wpAny _ _ (Builtin.SmallTypes.ownedTupleIsFree (.ref z) >>= _) _ _ _
  refine wpAny_bind ?_
  unfold Builtin.SmallTypes.ownedTupleIsFree
  refine wpAny_bind (wpAny_field hz rfl (x := .none) rfl (wpAny_pure ?_))
  simp only [if_true]
  refine wpAny_bind (wpAny_rule ?_)
  refine wpAny_bind (wpAny_field hz rfl (x := .ref TO) rfl ?_)
  refine wpAny_bind (wpAny_setField_rec hz (by simp) fun h₁ hz₁ hs₁ => ?_)
  replace hz₁ : IsZip h₁ z TI TO .ellipsis := hz₁
  refine wpAny_bind ?_
  simp only [List.zipIdx_cons, List.zipIdx_nil, List.forIn_cons, List.forIn_nil]
  refine wpAny_bind (wpAny_bind (wpAny_onRaise ?_))
  show wpAny _ _ (Builtin.SmallTypes.nextOf (.ref i1) >>= _) _ _ _
  have f1 : ∀ {i : Nat} {h h' : Heap}, S1 i h → (∀ c o, c ≠ z → c ≠ TO → c ≠ i2 → h.get? c = some o → h'.get? c = some o) → S1 i h' := fun st kk => D1.frame _ _ _ st fun c hc o e => by
    rcases List.mem_cons.mp hc with rfl | hc
    · exact kk c o D.i1z D.TOi1.symm D.i12 e
    · have : c = l1 := by simpa using hc
      subst this
      exact kk c o D.l1z D.l1TO D.l1i2 e
  have f2 : ∀ {i : Nat} {h h' : Heap}, S2 i h → (∀ c o, c ≠ z → c ≠ TO → c ≠ i1 → h.get? c = some o → h'.get? c = some o) → S2 i h' := fun st kk => D2.frame _ _ _ st fun c hc o e => by
    rcases List.mem_cons.mp hc with rfl | hc
    · exact kk c o D.i2z D.TOi2.symm D.i12.symm e
    · have : c = l2 := by simpa using hc
      subst this
      exact kk c o D.l2z D.l2TO D.l2i1 e
  refine wpAny_bind (D1.item k _ _ _ k1 (f1 h1 fun c o c1 _ _ e => hs₁.extBut _ _ c1 e) fun x h₂ tk2 hx h1₂ hs₂ => wpAny_pure ?_)
  have hTO₂ : IsPair h₂ TO a b := hs₂.extBut _ _ D.TOi1 (hs₁.extBut _ _ D.TOz hTO)
  refine wpAny_bind (wpAny_seqItems hTO₂ rfl ?_)
  refine wpAny_bind (wpAny_updateSeq_pair hTO₂ fun h₃ hTO₃ hs₃ => ?_)
  replace hTO₃ : IsPair h₃ TO x b := hTO₃
  refine wpAny_bind (wpAny_letGo (wpAny_pure ?_))
  refine wpAny_bind (wpAny_bind (wpAny_onRaise ?_))
  show wpAny _ _ (Builtin.SmallTypes.nextOf (.ref i2) >>= _) _ _ _
  refine wpAny_bind (D2.item k _ _ _ k2 (f2 h2 fun c o c1 c2 c3 e => hs₃.extBut _ _ c2 (hs₂.extBut _ _ c3 (hs₁.extBut _ _ c1 e))) fun y h₄ tk4 hy h2₄ hs₄ => wpAny_pure ?_)
  have hTO₄ : IsPair h₄ TO x b := hs₄.extBut _ _ D.TOi2 hTO₃
  refine wpAny_bind (wpAny_seqItems hTO₄ rfl ?_)
  refine wpAny_bind (wpAny_updateSeq_pair hTO₄ fun h₅ hTO₅ hs₅ => ?_)
  replace hTO₅ : IsPair h₅ TO x y := hTO₅
  refine wpAny_bind (wpAny_letGo (wpAny_pure (wpAny_pure ?_)))
  refine wpAny_bind (wpAny_seqItems hTO₅ rfl ?_)
  refine wpAny_bind (wpAny_newTuple ?_)
  have hsz : h₅.objs.size = s.heap.objs.size := by rw [hs₅.1, hs₄.1, hs₃.1, hs₂.1, hs₁.1]
  have hz₅ : IsZip h₅ z TI TO .ellipsis := hs₅.extBut _ _ D.TOz.symm (hs₄.extBut _ _ D.i2z.symm (hs₃.extBut _ _ D.TOz.symm (hs₂.extBut _ _ D.i1z.symm hz₁)))
  have hk₅ : ∀ c o, c ≠ z → c ≠ TO → c ≠ i1 → c ≠ i2 → s.heap.get? c = some o → h₅.get? c = some o := fun c o c1 c2 c3 c4 e =>
    hs₅.extBut _ _ c2 (hs₄.extBut _ _ c4 (hs₃.extBut _ _ c2 (hs₂.extBut _ _ c3 (hs₁.extBut _ _ c1 e))))
  have h1₅ : S1 (k + 1) h₅ := f1 h1₂ fun c o c1 c2 c3 e => hs₅.extBut _ _ c2 (hs₄.extBut _ _ c3 (hs₃.extBut _ _ c2 e))
  have h2₅ : S2 (k + 1) h₅ := f2 h2₄ fun c o c1 c2 c3 e => hs₅.extBut _ _ c2 e
  have hzlt : z < h₅.objs.size := Heap.lt_size hz₅
  have hTOlt : TO < h₅.objs.size := Heap.lt_size hTO₅
  show wpAny _ _ (Builtin.SmallTypes.ownedTupleHandOut (.ref z) (.ref h₅.objs.size) >>= _) _ _ _
  refine wpAny_bind ?_
  unfold Builtin.SmallTypes.ownedTupleHandOut
  have hz₆ : IsZip (h₅.push { cls := .type "tuple", data := .seq #[x, y] }) z TI TO .ellipsis := Heap.get?_push_of_some _ hz₅
  refine wpAny_bind (wpAny_setField_rec hz₆ (by simp) fun h₇ hz₇ hs₇ => ?_)
  replace hz₇ : IsZip h₇ z TI TO (rawInt h₅.objs.size) := hz₇
  refine wpAny_setField_rec hz₇ (by simp) fun h₈ hz₈ hs₈ => ?_
  replace hz₈ : IsZip h₈ z TI TO (rawInt h₅.objs.size) := hz₈
  have up : ∀ c o, c ≠ z → h₅.get? c = some o → h₈.get? c = some o := fun c o c1 e => hs₈.extBut _ _ c1 (hs₇.extBut _ _ c1 (Heap.get?_push_of_some _ e))
  have hT₈ : IsPair h₈ h₅.objs.size x y := hs₈.extBut _ _ (Nat.ne_of_gt hzlt) (hs₇.extBut _ _ (Nat.ne_of_gt hzlt) (Heap.get?_push_size _ rfl))
  have hz8 : h₈.objs.size = h₅.objs.size + 1 := by rw [hs₈.1, hs₇.1, Heap.size_push]
  rw [hsz] at hz₈ hT₈ hz8
  refine wpAny_pure ⟨_, rfl, ?_⟩
  show Q (.ref h₅.objs.size) _
  rw [hsz]
  exact hQ x y h₈ _ hx hy hz₈ (up _ _ D.TOz hTO₅) (f1 h1₅ fun c o c1 _ _ e => up c o c1 e) (f2 h2₅ fun c o c1 _ _ e => up c o c1 e) hT₈ hz8 fun c o c1 c2 c3 c4 e => up c o c1 (hk₅ c o c1 c2 c3 c4 e)
theorem zip_endD {z TI TO i1 i2 l1 l2 : Addr} {n1 n2 k : Nat} {P1 P2 : Nat → Value → Prop} {S1 S2 : Nat → Heap → Prop} {a b : Value} {Q : Fin → Shared → Prop} (D : ZipApart z TI TO i1 i2 l1 l2)
    (D1 : Draws prog w A i1 [i1, l1] n1 P1 S1) (D2 : Draws prog w A i2 [i2, l2] n2 P2 S2)
    (hz : IsZip s.heap z TI TO .none) (hTI : IsPair s.heap TI (.ref i1) (.ref i2)) (hTO : IsPair s.heap TO a b) (h1 : S1 k s.heap) (h2 : S2 k s.heap) (hend : k = n1 ∨ (k < n1 ∧ k = n2))
    (hE : ∀ h' tk e, (∀ c o, c ≠ z → c ≠ TO → c ≠ i1 → c ≠ i2 → s.heap.get? c = some o → h'.get? c = some o) → (∃ o, h'.get? e = some o ∧ o.cls = .type "StopIteration") → E (.ref e) { s with heap := h', toks := tk }) :
    wpAny (model prog w) A (Builtin.«zip.__next__» ⟨[.ref z], []⟩) Q E s := by
  show wpAny _ _ (field (.ref z) 2 >>= _) _ _ _
  refine wpAny_bind (wpAny_field hz rfl (x := .bool false) rfl ?_)
  show wpAny _ _ (field (.ref z) 3 >>= _) _ _ _
  refine wpAny_bind (wpAny_field hz rfl (x := .ref TI) rfl ?_)
  refine wpAny_bind (wpAny_seqItems hTI rfl ?_)
  show wpAny _ _ (Builtin.SmallTypes.ownedTupleIsFree (.ref z) >>= _) _ _ _
  refine wpAny_bind ?_
  unfold Builtin.SmallTypes.ownedTupleIsFree
  refine wpAny_bind (wpAny_field hz rfl (x := .none) rfl (wpAny_pure ?_))
  simp only [if_true]
  refine wpAny_bind (wpAny_rule ?_)
  refine wpAny_bind (wpAny_field hz rfl (x := .ref TO) rfl ?_)
  refine wpAny_bind (wpAny_setField_rec hz (by simp) fun h₁ hz₁ hs₁ => ?_)
  replace hz₁ : IsZip h₁ z TI TO .ellipsis := hz₁
  refine wpAny_bind ?_
  simp only [List.zipIdx_cons, List.zipIdx_nil, List.forIn_cons, List.forIn_nil]
  refine wpAny_bind (wpAny_bind (wpAny_onRaise ?_))
  show wpAny _ _ (Builtin.SmallTypes.nextOf (.ref i1) >>= _) _ _ _
  have f1 : ∀ {i : Nat} {h h' : Heap}, S1 i h → (∀ c o, c ≠ z → c ≠ TO → c ≠ i2 → h.get? c = some o → h'.get? c = some o) → S1 i h' := fun st kk => D1.frame _ _ _ st fun c hc o e => by
    rcases List.mem_cons.mp hc with rfl | hc
    · exact kk c o D.i1z D.TOi1.symm D.i12 e
    · have : c = l1 := by simpa using hc
      subst this
      exact kk c o D.l1z D.l1TO D.l1i2 e
  have f2 : ∀ {i : Nat} {h h' : Heap}, S2 i h → (∀ c o, c ≠ z → c ≠ TO → c ≠ i1 → h.get? c = some o → h'.get? c = some o) → S2 i h' := fun st kk => D2.frame _ _ _ st fun c hc o e => by
    rcases List.mem_cons.mp hc with rfl | hc
    · exact kk c o D.i2z D.TOi2.symm D.i12.symm e
    · have : c = l2 := by simpa using hc
      subst this
      exact kk c o D.l2z D.l2TO D.l2i1 e
  rcases hend with rfl | ⟨k1, rfl⟩
  · refine wpAny_bind (D1.done _ _ _ (f1 h1 fun c o c1 _ _ e => hs₁.extBut _ _ c1 e) fun h₂ e hs₂ he => ?_)
    obtain ⟨oe, hoe, hce⟩ := he
    have hz₂ : IsZip h₂ z TI TO .ellipsis := hs₂ _ _ D.i1z.symm hz₁
    have hez : e ≠ z := fun x => by subst x; rw [hz₂] at hoe; cases hoe; simp at hce
    refine wpAny_setField_rec hz₂ (by simp) fun h₃ _ hs₃ => hE h₃ s.toks e (fun c o c1 _ c3 _ x => hs₃.extBut _ _ c1 (hs₂ _ _ c3 (hs₁.extBut _ _ c1 x))) ⟨oe, hs₃.extBut _ _ hez hoe, hce⟩
  · refine wpAny_bind (D1.item k _ _ _ k1 (f1 h1 fun c o c1 _ _ e => hs₁.extBut _ _ c1 e) fun x h₂ tk2 hx h1₂ hs₂ => wpAny_pure ?_)
    have hTO₂ : IsPair h₂ TO a b := hs₂.extBut _ _ D.TOi1 (hs₁.extBut _ _ D.TOz hTO)
    refine wpAny_bind (wpAny_seqItems hTO₂ rfl ?_)
    refine wpAny_bind (wpAny_updateSeq_pair hTO₂ fun h₃ hTO₃ hs₃ => ?_)
    refine wpAny_bind (wpAny_letGo (wpAny_pure ?_))
    refine wpAny_bind (wpAny_bind (wpAny_onRaise ?_))
    show wpAny _ _ (Builtin.SmallTypes.nextOf (.ref i2) >>= _) _ _ _
    refine wpAny_bind (D2.done _ _ _ (f2 h2 fun c o c1 c2 c3 e => hs₃.extBut _ _ c2 (hs₂.extBut _ _ c3 (hs₁.extBut _ _ c1 e))) fun h₄ e hs₄ he => ?_)
    obtain ⟨oe, hoe, hce⟩ := he
    have hz₄ : IsZip h₄ z TI TO .ellipsis := hs₄ _ _ D.i2z.symm (hs₃.extBut _ _ D.TOz.symm (hs₂.extBut _ _ D.i1z.symm hz₁))
    have hez : e ≠ z := fun x => by subst x; rw [hz₄] at hoe; cases hoe; simp at hce
    refine wpAny_setField_rec hz₄ (by simp) fun h₅ _ hs₅ => hE h₅ _ e (fun c o c1 c2 c3 c4 x => hs₅.extBut _ _ c1 (hs₄ _ _ c4 (hs₃.extBut _ _ c2 (hs₂.extBut _ _ c3 (hs₁.extBut _ _ c1 x))))) ⟨oe, hs₅.extBut _ _ hez hoe, hce⟩
/-! the sources -/
def SqH (t : Bool) (h : Heap) (a : Addr) (items : Array Value) : Prop := if t then h.IsTuple a items else h.IsList a items
def ItH (t : Bool) (h : Heap) (it a : Addr) (i : Nat) : Prop := if t then h.IsTupleIter it a i else h.IsListIter it a i
def itO (t : Bool) (a : Addr) : Obj := { cls := .type (if t then "tuple_iterator" else "list_iterator"), data := .fields #[.ref a, .int 0 0] }
theorem ItH.at {t : Bool} {h h' : Heap} {it a : Addr} {i : Nat} (x : ItH t h it a i) (e : ∀ o, h.get? it = some o → h'.get? it = some o) : ItH t h' it a i := by
  cases t <;> (obtain ⟨o, ho, r⟩ := x; exact ⟨o, e _ ho, r⟩)
theorem ItH.obj {t : Bool} {h : Heap} {it a : Addr} {i : Nat} (x : ItH t h it a i) : ∃ o, h.get? it = some o ∧ (∀ v, o.data ≠ .cell v) ∧ o.cls ≠ .type "tuple" ∧ o.cls ≠ .type "list" := by
  cases t
  · obtain ⟨o, ho, c, d⟩ := x
    exact ⟨o, ho, (fun v z => by rw [d] at z; cases z), (fun z => by rw [c] at z; injection z with z; exact absurd z (by decide)), (fun z => by rw [c] at z; injection z with z; exact absurd z (by decide))⟩
  · obtain ⟨o, ho, c, d⟩ := x
    exact ⟨o, ho, (fun v z => by rw [d] at z; cases z), (fun z => by rw [c] at z; injection z with z; exact absurd z (by decide)), (fun z => by rw [c] at z; injection z with z; exact absurd z (by decide))⟩
theorem drawsH (t : Bool) (hh : A.handled = none) (it l : Addr) (hne : l ≠ it) (items : Array Value) : Draws prog w A it [it, l] items.size (fun i v => items[i]? = some v) (fun i h => ItH t h it l i ∧ SqH t h l items) := by
  cases t
  · exact Draws.list hh it l hne items
  · exact draws_tuple hh it l hne items
abbrev zpH1 (h : Heap) (t1 : Bool) (l1 : Addr) : Heap := h.push (itO t1 l1)
abbrev zpH2 (h : Heap) (t1 t2 : Bool) (l1 l2 : Addr) : Heap := (zpH1 h t1 l1).push (itO t2 l2)
abbrev zpH3 (h : Heap) (t1 t2 : Bool) (l1 l2 : Addr) : Heap := (zpH2 h t1 t2 l1 l2).push { cls := .type "tuple", data := .seq #[.ref h.objs.size, .ref (zpH1 h t1 l1).objs.size] }
abbrev zpH4 (h : Heap) (t1 t2 : Bool) (l1 l2 : Addr) : Heap := (zpH3 h t1 t2 l1 l2).push { cls := .type "tuple", data := .seq #[.none, .none] }
abbrev zpH5 (h : Heap) (t1 t2 : Bool) (l1 l2 : Addr) : Heap := (zpH4 h t1 t2 l1 l2).push { cls := .type "zip", data := .fields #[.none, .bool false, .bool false, .ref (zpH2 h t1 t2 l1 l2).objs.size, .ref (zpH3 h t1 t2 l1 l2).objs.size] }
theorem meets_zp (t1 t2 : Bool) (l1 l2 : Addr) (xs ys : Array Value) :
    Meets (Builtin.«zip.__new__» ⟨[.type "zip", .ref l1, .ref l2], []⟩) (fun _ R s => SqH t1 s.heap l1 xs ∧ SqH t2 s.heap l2 ys ∧
      R (.ok (.ret (.ref (zpH4 s.heap t1 t2 l1 l2).objs.size))) { s with heap := zpH5 s.heap t1 t2 l1 l2 }) :=
  .of_wp fun prog w A R s h => by
    obtain ⟨hp, g, d, tk, os⟩ := s; obtain ⟨hl1, hl2, h⟩ := h
    have hsub := sub_zip
    cases t1 <;> cases t2
    · have hL1 : Heap.IsList (Shared.heap ⟨hp, g, d, tk, os⟩) l1 xs := hl1
      have hL2 : Heap.IsList (Shared.heap ⟨hp.push { cls := .type "list_iterator", data := .fields #[.ref l1, .int 0 0] }, g, d, tk, os⟩) l2 ys := Heap.IsList.push hl2 _
      wp_walk using wpAny_pyIter_list hL1, wpAny_pyIter_list hL2
      exact ⟨_, rfl, h⟩
    · have hL1 : Heap.IsList (Shared.heap ⟨hp, g, d, tk, os⟩) l1 xs := hl1
      have hL2 : Heap.IsTuple (Shared.heap ⟨hp.push { cls := .type "list_iterator", data := .fields #[.ref l1, .int 0 0] }, g, d, tk, os⟩) l2 ys := (show Heap.IsTuple _ l2 ys from hl2).at fun o e => Heap.get?_push_of_some _ e
      wp_walk using wpAny_pyIter_list hL1, wpAny_pyIter_tuple hL2
      exact ⟨_, rfl, h⟩
    · have hL1 : Heap.IsTuple (Shared.heap ⟨hp, g, d, tk, os⟩) l1 xs := hl1
      have hL2 : Heap.IsList (Shared.heap ⟨hp.push { cls := .type "tuple_iterator", data := .fields #[.ref l1, .int 0 0] }, g, d, tk, os⟩) l2 ys := Heap.IsList.push hl2 _
      wp_walk using wpAny_pyIter_tuple hL1, wpAny_pyIter_list hL2
      exact ⟨_, rfl, h⟩
    · have hL1 : Heap.IsTuple (Shared.heap ⟨hp, g, d, tk, os⟩) l1 xs := hl1
      have hL2 : Heap.IsTuple (Shared.heap ⟨hp.push { cls := .type "tuple_iterator", data := .fields #[.ref l1, .int 0 0] }, g, d, tk, os⟩) l2 ys := (show Heap.IsTuple _ l2 ys from hl2).at fun o e => Heap.get?_push_of_some _ e
      wp_walk using wpAny_pyIter_tuple hL1, wpAny_pyIter_tuple hL2
      exact ⟨_, rfl, h⟩
theorem ItH.new {t : Bool} {h : Heap} {it a : Addr} (e : h.get? it = some (itO t a)) : ItH t h it a 0 := by
  cases t
  · exact ⟨_, e, rfl, rfl⟩
  · exact ⟨_, e, rfl, rfl⟩
theorem call_zp {t1 t2 : Bool} {l1 l2 : Addr} {xs ys : Array Value} {Q : Value → Shared → Prop} (hl1 : SqH t1 s.heap l1 xs) (hl2 : SqH t2 s.heap l2 ys)
    (h : ∀ h', IsZip h' (s.heap.objs.size + 4) (s.heap.objs.size + 2) (s.heap.objs.size + 3) .none → IsPair h' (s.heap.objs.size + 2) (.ref s.heap.objs.size) (.ref (s.heap.objs.size + 1)) →
      IsPair h' (s.heap.objs.size + 3) .none .none → ItH t1 h' s.heap.objs.size l1 0 → ItH t2 h' (s.heap.objs.size + 1) l2 0 → h'.objs.size = s.heap.objs.size + 5 →
      (∀ c o, s.heap.get? c = some o → h'.get? c = some o) → Q (.ref (s.heap.objs.size + 4)) { s with heap := h' }) :
    wpAny (model prog w) A (call (.type "zip") [.ref l1, .ref l2]) Q E s := by
  refine callType_new PySem.F.called_zip (by decide) (PySem.F.typeCall_zip_2 _ _) (PySem.F.newCall_zip_2 _ _) (fun obj => PySem.F.args_object_init_3 obj _ _) PySem.F.entry_zip_new
    (meets_zp t1 t2 l1 l2 xs ys) ⟨hl1, hl2, ?_⟩
  have z1 : (zpH1 s.heap t1 l1).objs.size = s.heap.objs.size + 1 := Heap.size_push ..
  have z2 : (zpH2 s.heap t1 t2 l1 l2).objs.size = s.heap.objs.size + 2 := by rw [Heap.size_push, z1]
  have z3 : (zpH3 s.heap t1 t2 l1 l2).objs.size = s.heap.objs.size + 3 := by rw [Heap.size_push, z2]
  have z4 : (zpH4 s.heap t1 t2 l1 l2).objs.size = s.heap.objs.size + 4 := by rw [Heap.size_push, z3]
  have z5 : (zpH5 s.heap t1 t2 l1 l2).objs.size = s.heap.objs.size + 5 := by rw [Heap.size_push, z4]
  have g5 : (zpH5 s.heap t1 t2 l1 l2).get? (zpH4 s.heap t1 t2 l1 l2).objs.size = some _ := Heap.get?_push_size _ rfl
  have g4 : (zpH5 s.heap t1 t2 l1 l2).get? (zpH3 s.heap t1 t2 l1 l2).objs.size = some _ := Heap.get?_push_of_some _ (Heap.get?_push_size _ rfl)
  have g3 : (zpH5 s.heap t1 t2 l1 l2).get? (zpH2 s.heap t1 t2 l1 l2).objs.size = some _ := Heap.get?_push_of_some _ (Heap.get?_push_of_some _ (Heap.get?_push_size _ rfl))
  have g2 : (zpH5 s.heap t1 t2 l1 l2).get? (zpH1 s.heap t1 l1).objs.size = some _ := Heap.get?_push_of_some _ (Heap.get?_push_of_some _ (Heap.get?_push_of_some _ (Heap.get?_push_size _ rfl)))
  have g1 : (zpH5 s.heap t1 t2 l1 l2).get? s.heap.objs.size = some _ := Heap.get?_push_of_some _ (Heap.get?_push_of_some _ (Heap.get?_push_of_some _ (Heap.get?_push_of_some _ (Heap.get?_push_size _ rfl))))
  show _ ∧ _
  rw [z2, z3, z4] at g5
  rw [z1, z2] at g3
  rw [z3] at g4
  rw [z1] at g2
  rw [z4]
  exact ⟨⟨_, g5, rfl⟩, h _ g5 g3 g4 (ItH.new g1) (ItH.new g2) z5 fun c o x =>
    Heap.get?_push_of_some _ (Heap.get?_push_of_some _ (Heap.get?_push_of_some _ (Heap.get?_push_of_some _ (Heap.get?_push_of_some _ x))))⟩
end
end HT

set_option Elab.async false
set_option linter.all false
set_option maxRecDepth 100000
set_option maxHeartbeats 4000000
/-! zip walked by a loop -/
namespace L2
open PySem PySem.Spec PyProof.Rows
section
variable {X : Cx} {K : PySem.W.Frag}
def SqZ (t : Bool) (H : Hp) (a : Addr) (xs : List V) : Prop := if t then H a = some (.tup xs) else H a = some (.lst xs)
theorem SqZ.some {t : Bool} {H : Hp} {a : Addr} {xs : List V} (h : SqZ t H a xs) : ∃ o, H a = some o := by cases t <;> exact ⟨_, h⟩
theorem SqZ.inj {t : Bool} {H : Hp} {a : Addr} {xs ys : List V} (h : SqZ t H a xs) (g : SqZ t H a ys) : xs = ys := by
  cases t
  · have e := (show H a = Option.some (.lst xs) from h).symm.trans (show H a = Option.some (.lst ys) from g); cases e; rfl
  · have e := (show H a = Option.some (.tup xs) from h).symm.trans (show H a = Option.some (.tup ys) from g); cases e; rfl
theorem sqz_of {pins : List (Addr × Obj)} {σ : St} {H : Hp} {s : Shared} {t : Bool} {a : Addr} {xs : List V} (I : Inv X pins σ H s) (h : SqZ t H a xs) : ∃ its : List Value, Vals xs its ∧ HT.SqH t s.heap a its.toArray := by
  cases t
  · obtain ⟨its, rv, p, _⟩ := I.list (SqL.of (show H a = Option.some (.lst xs) from h)); exact ⟨its, rv, p.isList⟩
  · obtain ⟨its, rv, p, _⟩ := I.tuple (show SqT X.K H a xs from .inl (.inl (show H a = Option.some (.tup xs) from h))); exact ⟨its, rv, p⟩
def Itz (t1 t2 : Bool) (a b : Addr) (n : Nat) : It :=
  ⟨fun i H => ∃ xs ys x y, SqZ t1 H a xs ∧ SqZ t2 H b ys ∧ min xs.length ys.length = n ∧ xs[i]? = some x ∧ ys[i]? = some y,
   fun i H x H' => ∃ T xs ys u v, SqZ t1 H a xs ∧ SqZ t2 H b ys ∧ x = .ref T ∧ H T = none ∧ xs[i]? = some u ∧ ys[i]? = some v ∧ H' = upd H T (.tup [u, v]),
   fun i H => ∃ xs ys, SqZ t1 H a xs ∧ SqZ t2 H b ys ∧ min xs.length ys.length = n ∧ n ≤ i⟩
structure ZpA (z TI TO i1 i2 : Addr) : Prop where
  TIz : TI ≠ z
  TOz : TO ≠ z
  i1z : i1 ≠ z
  i2z : i2 ≠ z
  TITO : TI ≠ TO
  TIi1 : TI ≠ i1
  TIi2 : TI ≠ i2
  TOi1 : TO ≠ i1
  TOi2 : TO ≠ i2
  i12 : i1 ≠ i2
theorem ZpA.apart {z TI TO i1 i2 l1 l2 : Addr} (Z : ZpA z TI TO i1 i2) {H : Hp} (hf : ∀ b ∈ [z, TI, TO, i1, i2], H b = none) (h1 : ∃ o, H l1 = some o) (h2 : ∃ o, H l2 = some o) : ZipApart z TI TO i1 i2 l1 l2 := by
  have n1 : ∀ b ∈ [z, TI, TO, i1, i2], l1 ≠ b := fun b hb e => by obtain ⟨o, h⟩ := h1; rw [e, hf b hb] at h; cases h
  have n2 : ∀ b ∈ [z, TI, TO, i1, i2], l2 ≠ b := fun b hb e => by obtain ⟨o, h⟩ := h2; rw [e, hf b hb] at h; cases h
  exact ⟨Z.TIz, Z.TOz, Z.i1z, Z.i2z, Z.TITO, Z.TIi1, Z.TIi2, Z.TOi1, Z.TOi2, Z.i12, n1 _ (by simp), n1 _ (by simp), n1 _ (by simp), n1 _ (by simp), n2 _ (by simp), n2 _ (by simp), n2 _ (by simp), n2 _ (by simp)⟩
theorem Inv.stepF {pins : List (Addr × Obj)} {σ : St} {H : Hp} {s : Shared} {fp : List Addr} {h2 : Heap} {tk : Nat} (I : Inv X pins σ H s) (hf : ∀ b ∈ fp, FpOk X pins H b) (kk : ∀ b o, b ∉ fp → s.heap.get? b = some o → h2.get? b = some o) :
    Inv X pins σ H { s with heap := h2, toks := tk } := by
  refine Inv.step (s := s) (h' := h2) (t' := tk) (g' := s.gens) (d' := s.drawn) (ch := fp) I (fun b hb => ?_) (fun b o _ _ hc e' _ => kk b o hc e') (fun b o _ _ hc e' _ => ⟨o.slots, kk b o hc e'⟩) (fun _ _ _ _ z => z) (fun b o hc e' => ⟨o, kk b o hc e'⟩) (fun _ _ z => z) (fun _ _ _ z => z) (fun b ps z => ⟨#[], by rw [z]; simp⟩) (fun m hm => ?_) (fun b u' z => ?_) I.bare
  · obtain ⟨f0, f1, f2, f3, f4, f5⟩ := hf b hb
    exact ⟨f3, f1, f4, f5⟩
  · obtain ⟨o, es, ep, ho, r⟩ := hm
    exact ⟨o, es, ep, kk _ o (fun z => (hf _ z).2.1 rfl) ho, r⟩
  · refine (I.hok b u' z).stay (fun c v hc q => kk c v (fun y => ?_) q) (fun c q => q) fun c xs q => q
    have : ∃ u2, H c = some u2 := by
      rcases hc with rfl | hc
      · exact ⟨_, z⟩
      · exact ⟨_, hc⟩
    obtain ⟨u2, hu2⟩ := this
    rw [(hf c y).1] at hu2; cases hu2
theorem turn_zip {P : Program} {w : World} {K : PySem.W.Frag} {elts : List Expr} {k : Nat} {pos : Pos} {t1 t2 : Bool} (a b z TI TO i1 i2 : Addr) (n : Nat) (Z : ZpA z TI TO i1 i2) :
    Turn P w K (.Tuple elts k pos) (Itz t1 t2 a b n) [z, TI, TO, i1, i2] z (fun i h => i ≤ n ∧ IsZip h z TI TO .none ∧ IsPair h TI (.ref i1) (.ref i2) ∧ (∃ x y, IsPair h TO x y) ∧ HT.ItH t1 h i1 a i ∧ HT.ItH t2 h i2 b i) where
  mem := by simp
  obj := fun i h st c hc => by
    obtain ⟨_, hz, hTI, ⟨x, y, hTO⟩, h1, h2⟩ := st
    simp only [List.mem_cons, List.not_mem_nil, or_false] at hc
    rcases hc with rfl | rfl | rfl | rfl | rfl
    · exact ⟨_, hz, fun v e => by cases e⟩
    · exact ⟨_, hTI, fun v e => by cases e⟩
    · exact ⟨_, hTO, fun v e => by cases e⟩
    · obtain ⟨o, ho, d, _⟩ := h1.obj; exact ⟨o, ho, d⟩
    · obtain ⟨o, ho, d, _⟩ := h2.obj; exact ⟨o, ho, d⟩
  keep := fun i h h' st kk => by
    obtain ⟨l, hz, hTI, ⟨x, y, hTO⟩, h1, h2⟩ := st
    exact ⟨l, kk _ (by simp) _ hz, kk _ (by simp) _ hTI, ⟨x, y, kk _ (by simp) _ hTO⟩, h1.at fun o e => kk _ (by simp) o e, h2.at fun o e => kk _ (by simp) o e⟩
  item := by
    intro X hP hw hK hc i pins s σ H E I hf st hg
    subst hP hw hK
    obtain ⟨xs, ys, x, y, hq1, hq2, hn, hx, hy⟩ := hg
    obtain ⟨it1, rv1, p1⟩ := sqz_of I hq1
    obtain ⟨it2, rv2, p2⟩ := sqz_of I hq2
    obtain ⟨u1, hu1, ru1⟩ := rv1.get hx
    obtain ⟨u2, hu2, ru2⟩ := rv2.get hy
    have hf0 : ∀ c ∈ [z, TI, TO, i1, i2], H c = none := fun c hc => (hf c hc).1
    have D := Z.apart hf0 hq1.some hq2.some
    obtain ⟨hin, hz, hTI, ⟨x0, y0, hTO⟩, h1, h2⟩ := st
    have L1 : i < it1.toArray.size := by
      rcases Nat.lt_or_ge i it1.length with q | q
      · simpa using q
      · rw [List.getElem?_eq_none q] at hu1; cases hu1
    have L2' : i < it2.toArray.size := by
      rcases Nat.lt_or_ge i it2.length with q | q
      · simpa using q
      · rw [List.getElem?_eq_none q] at hu2; cases hu2
    have hT : s.TypeIs (.ref z) "zip" := ⟨_, hz, rfl⟩
    unfold pyNext
    refine wpAny_bind (wpAny_attempt (wpAny_callSpecial?_slot (name := Str.ofString "__next__") hT PySem.F.slot_zip_next (wpAny_call_entry PySem.F.slot_zip_next hT PySem.F.entry_zip_next
      (HT.zip_itemD D (HT.drawsH (A := X.A.in1) t1 (I.ok.hd hc) i1 a D.l1i1 it1.toArray) (HT.drawsH (A := X.A.in1) t2 (I.ok.hd hc) i2 b D.l2i2 it2.toArray) hz hTI hTO ⟨h1, p1⟩ ⟨h2, p2⟩ L1 L2' fun x' y' h' tk hx' hy' az ao a1 a2 aT asz hk => ?_) (PySem.F.args_zip_next_1 _))))
    refine wpAny_pure ?_
    obtain ⟨T, hTT⟩ : ∃ T, T = s.heap.objs.size := ⟨_, rfl⟩
    rw [← hTT] at az aT ⊢
    have e1 : x' = u1 := by
      have : it1.toArray[i]? = some u1 := by simpa using hu1
      rw [this] at hx'; exact (Option.some.inj hx').symm
    have e2 : y' = u2 := by
      have : it2.toArray[i]? = some u2 := by simpa using hu2
      rw [this] at hy'; exact (Option.some.inj hy').symm
    subst e1 e2
    refine ⟨_, rfl, wpAny_letOwnedTupleGo_zip az fun h2' hz2 hs2 => ?_⟩
    have ltT : ∀ {c o}, s.heap.get? c = some o → c ≠ T := fun q e => by
      have := Heap.lt_size q
      rw [e, hTT] at this
      exact absurd this (Nat.lt_irrefl _)
    have nTz : T ≠ z := Ne.symm (ltT hz)
    have hT2 : h2'.get? T = some { cls := .type "tuple", data := .seq #[x', y'] } := hs2.extBut _ _ nTz aT
    have fT : H T = none := I.hok.fresh (Nat.le_of_eq hTT.symm)
    have kk : ∀ c o, c ∉ [z, TI, TO, i1, i2] → s.heap.get? c = some o → h2'.get? c = some o := fun c o hc e => hs2.extBut _ _ (fun q => hc (by simp [q])) (hk c o (fun q => hc (by simp [q])) (fun q => hc (by simp [q])) (fun q => hc (by simp [q])) (fun q => hc (by simp [q])) e)
    have nT : T ∉ [z, TI, TO, i1, i2] := fun q => by
      simp only [List.mem_cons, List.not_mem_nil, or_false] at q
      rcases q with q | q | q | q | q
      · exact nTz q
      · exact ltT hTI q.symm
      · exact ltT hTO q.symm
      · obtain ⟨o, ho, _⟩ := h1.obj; exact ltT ho q.symm
      · obtain ⟨o, ho, _⟩ := h2.obj; exact ltT ho q.symm
    have neT : ∀ {c u'}, H c = some u' → c ≠ T := fun q e => by rw [e, fT] at q; cases q
    refine ⟨.ref T, upd H T (.tup [x, y]), ?_, rfl, ⟨T, xs, ys, x, y, hq1, hq2, rfl, fT, hx, hy, rfl⟩, ⟨?_, hz2, hs2.extBut _ _ Z.TIz (hk _ _ Z.TIz Z.TITO Z.TIi1 Z.TIi2 hTI), ⟨_, _, hs2.extBut _ _ Z.TOz ao⟩, a1.1.at fun o e => hs2.extBut _ _ Z.i1z e, a2.1.at fun o e => hs2.extBut _ _ Z.i2z e⟩, fun c hc => ?_⟩
    · show Inv X pins σ _ { s with heap := h2', gens := s.gens, drawn := s.drawn, toks := tk }
      refine Inv.step (s := s) (h' := h2') (t' := tk) (g' := s.gens) (d' := s.drawn) (ch := [z, TI, TO, i1, i2]) I (fun c hc => ?_) (fun c o _ _ hc e' _ => kk c o hc e') (fun c o _ _ hc e' _ => ⟨o.slots, kk c o hc e'⟩) (fun c o _ e' q => by rw [upd_ne (ltT e')]; exact q) (fun c o hc e' => ⟨o, kk c o hc e'⟩) (fun c xs q => by rw [upd_ne (neT q)]; exact q) (fun c o u' q => by rw [upd_ne (neT q)]; exact q) (fun c ps q => ⟨#[], by rw [upd_ne (neT q), q]; simp⟩) (fun m hm => ?_) (fun c u' q => ?_) I.bare
      · obtain ⟨f0, f1, f2, f3, f4, f5⟩ := hf c hc
        exact ⟨f3, f1, f4, f5⟩
      · obtain ⟨o, es, ep, ho, r⟩ := hm
        exact ⟨o, es, ep, kk _ o (fun q => (hf _ q).2.1 rfl) ho, r⟩
      · by_cases hb : c = T
        · subst hb
          rw [upd_same] at q
          cases q
          exact ⟨few rfl, [x', y'], .cons ru1 (.cons ru2 .nil), ⟨_, hT2, rfl, _, rfl⟩, fun o q => by rw [hT2] at q; cases q; rfl⟩
        · rw [upd_ne hb] at q
          refine (I.hok c u' q).stay (fun d v hd q' => kk d v (fun y' => ?_) q') (fun d q' => by rw [upd_ne (neT q')]; exact q') fun d xs q' => by rw [upd_ne (neT q')]; exact q'
          have : ∃ u2, H d = some u2 := by
            rcases hd with rfl | hd
            · exact ⟨_, q⟩
            · exact ⟨_, hd⟩
          obtain ⟨u2, hu2⟩ := this
          rw [hf0 d y'] at hu2; cases hu2
    · have m1 : i < xs.length := by
        rcases Nat.lt_or_ge i xs.length with q | q
        · exact q
        · rw [List.getElem?_eq_none q] at hx; cases hx
      have m2 : i < ys.length := by
        rcases Nat.lt_or_ge i ys.length with q | q
        · exact q
        · rw [List.getElem?_eq_none q] at hy; cases hy
      rw [← hn]
      exact Nat.lt_min.mpr ⟨m1, m2⟩
    · have : c ≠ T := fun q => nT (by rw [← q]; exact hc)
      rw [upd_ne this]
      exact (hf c hc).1
  done := by
    intro X hP hw hK hc i pins s σ H E I hf st hg
    subst hP hw hK
    obtain ⟨xs, ys, hq1, hq2, hn, hle⟩ := hg
    obtain ⟨it1, rv1, p1⟩ := sqz_of I hq1
    obtain ⟨it2, rv2, p2⟩ := sqz_of I hq2
    have hf0 : ∀ c ∈ [z, TI, TO, i1, i2], H c = none := fun c hc => (hf c hc).1
    have D := Z.apart hf0 hq1.some hq2.some
    obtain ⟨hin, hz, hTI, ⟨x0, y0, hTO⟩, h1, h2⟩ := st
    have ei : i = min xs.length ys.length := by omega
    have l1 := rv1.length
    have l2 := rv2.length
    have hend : i = it1.toArray.size ∨ (i < it1.toArray.size ∧ i = it2.toArray.size) := by
      simp only [List.size_toArray]
      rcases Nat.lt_or_ge ys.length xs.length with q | q
      · exact .inr ⟨by omega, by omega⟩
      · exact .inl (by omega)
    have hT : s.TypeIs (.ref z) "zip" := ⟨_, hz, rfl⟩
    unfold pyNext
    refine wpAny_bind (wpAny_attempt (wpAny_callSpecial?_slot (name := Str.ofString "__next__") hT PySem.F.slot_zip_next (wpAny_call_entry PySem.F.slot_zip_next hT PySem.F.entry_zip_next
      (HT.zip_endD D (HT.drawsH (A := X.A.in1) t1 (I.ok.hd hc) i1 a D.l1i1 it1.toArray) (HT.drawsH (A := X.A.in1) t2 (I.ok.hd hc) i2 b D.l2i2 it2.toArray) hz hTI hTO ⟨h1, p1⟩ ⟨h2, p2⟩ hend fun h' tk e hk he => ?_) (PySem.F.args_zip_next_1 _))))
    obtain ⟨o, ho, hce⟩ := he
    refine wpAny_bind (wpAny_isInstance (T := "StopIteration") (b := true) ⟨o, ho, hce⟩ isSubtype_stop ?_)
    refine wpAny_pure ⟨rfl, I.stepF (fp := [z, TI, TO, i1, i2]) hf fun c o hc e => hk c o (fun q => hc (by simp [q])) (fun q => hc (by simp [q])) (fun q => hc (by simp [q])) (fun q => hc (by simp [q])) e⟩
  self := fun A i s Q E st h => wpAny_pyIter_zip st.2.1 h
def iZip (ta : TA) : TI := fun σ H R => ta σ H fun vs H1 => ∃ a b t1 t2 xs ys, vs = [.ref a, .ref b] ∧ SqZ t1 H1 a xs ∧ SqZ t2 H1 b ys ∧ R (Itz t1 t2 a b (min xs.length ys.length)) H1
theorem boot_zip : bootBuiltins "zip" = some (.type "zip") := by kernel_rfl
theorem i_zip {elts : List Expr} {k : Nat} {pos2 : Pos} {a b : Expr} {ta : TA} {p pos : Pos} (hm : X.mg "zip" = none) (ha : QA X [a, b] ta) (hg : Gl X "zip" := by rfl) (hs : starEach [a, b] X.env = [(false, eval a X.env), (false, eval b X.env)] := by rfl) (hs2 : starEach [b] X.env = [(false, eval b X.env)] := by rfl) : QI X (.Tuple elts k pos2) (.Call (.Name "zip" p) [a, b] [] pos) (iZip ta) := ⟨by
  intro pins s σ H R I h
  refine Call_ (ld_blt I hg hm boot_zip (PyProof.Rows.callWith_type1 (thn (ha.o pos pins s σ H _ I h) fun us s1 ⟨vs, H1, I1, r1, q1⟩ => ?_) (by rw [hs, hs2]) (by rw [hs2]; rfl)))
  obtain ⟨l1, l2, t1, t2, xs, ys, rfl, hq1, hq2, q⟩ := q1
  obtain ⟨u, v, rfl, ru, rv⟩ := vals2 r1
  cases ru
  cases rv
  obtain ⟨it1, rv1, p1⟩ := sqz_of I1 hq1
  obtain ⟨it2, rv2, p2⟩ := sqz_of I1 hq2
  refine HT.call_zp p1 p2 fun h' hz hTI hTO hi1 hi2 hsz kk => ?_
  have Z : ZpA (s1.heap.objs.size + 4) (s1.heap.objs.size + 2) (s1.heap.objs.size + 3) s1.heap.objs.size (s1.heap.objs.size + 1) := by constructor <;> (intro e; have e' : (_ : Nat) = _ := e; omega)
  refine wpAny_pyIter_zip hz ?_
  refine ⟨s1.heap.objs.size + 4, [s1.heap.objs.size + 4, s1.heap.objs.size + 2, s1.heap.objs.size + 3, s1.heap.objs.size, s1.heap.objs.size + 1], _, _, H1, rfl, I1.kept (t' := s1.toks) kk, turn_zip l1 l2 _ _ _ _ _ (min xs.length ys.length) Z, ⟨Nat.zero_le _, hz, hTI, ⟨_, _, hTO⟩, hi1, hi2⟩, fun c hc => ?_, q⟩
  have hb' : s1.heap.objs.size ≤ c := by
    simp only [List.mem_cons, List.not_mem_nil, or_false] at hc
    rcases hc with e | e | e | e | e <;> (have e' : (c : Nat) = _ := e; rw [e']; first | exact Nat.le_refl _ | exact Nat.le_add_right _ _)
  exact I1.fpOk hb' (I1.hok.fresh hb')⟩
/-- a loop whose iterator lays a tuple each turn -/
theorem for_byY {J : It} {n : Nat} {g : TG} {tb : TS} {D : Ends} {σ : St} {H : Hp} (Pv : Nat → St → Hp → Prop) (h0 : Pv 0 σ H) (hgo : ∀ i σ H, i < n → Pv i σ H → J.go i H) (hst : ∀ σ H, Pv n σ H → J.stop n H)
    (hs : ∀ i x σ H H1, i < n → Pv i σ H → J.yld i H x H1 → g x σ H1 fun σ2 H2 => tb { D with nx := Pv (i + 1), ct := Pv (i + 1), bk := D.nx } σ2 H2) (hd : ∀ σ H, Pv n σ H → D.nx σ H) : ForGo g tb D σ J H := by
  refine ⟨fun i m σ H => m = n - i ∧ i ≤ n ∧ Pv i σ H, ⟨n, by simp, Nat.zero_le _, h0⟩, ?_⟩
  rintro i m σ H ⟨rfl, hi, p⟩
  by_cases hlt : i < n
  · exact .inr ⟨hgo i σ H hlt p, Pv (i + 1), fun σ' H' q => ⟨n - (i + 1), by omega, rfl, hlt, q⟩, fun x H' y => hs i x σ H H' hlt p y⟩
  · have e : i = n := by omega
    subst e
    exact .inl ⟨hst σ H p, hd σ H p⟩
theorem comp_byY {J : It} {n : Nat} {g : TG} {tc : TT} {te : TE} {src : List (Option Nat)} {σ : St} {H1 : Hp} {Q : VK} (Pv : Addr → Nat → List V → St → Hp → Prop)
    (h0 : ∀ l, H1 l = none → Pv l 0 [] (capt src σ) (upd H1 l (.lst []))) (hgo : ∀ l i ys σ H, H1 l = none → i < n → Pv l i ys σ H → J.go i H) (hst : ∀ l ys σ H, H1 l = none → Pv l n ys σ H → J.stop n H)
    (hs : ∀ l i x ys σ H H2, H1 l = none → i < n → Pv l i ys σ H → H l = some (.lst ys) → J.yld i H x H2 → g x σ H2 fun σ2 H3 => tc σ2 H3 fun b H4 =>
      if b = true then te σ2 H4 fun y H5 => H5 l = some (.lst ys) ∧ ys.length < sizeLine ∧ Pv l (i + 1) (ys ++ [y]) σ2 (upd H5 l (.lst (ys ++ [y]))) else H4 l = some (.lst ys) ∧ Pv l (i + 1) ys σ2 H4)
    (hd : ∀ l ys σ H, H1 l = none → Pv l n ys σ H → H l = some (.lst ys) → Q (.ref l) H) : CompGo g tc te src σ Q J H1 := by
  intro l hl
  refine ⟨fun i m ys σ H => m = n - i ∧ i ≤ n ∧ Pv l i ys σ H, ⟨n, by simp, Nat.zero_le _, h0 l hl⟩, ?_⟩
  rintro i m ys σ' H' ⟨rfl, hi, p⟩ hl'
  by_cases hlt : i < n
  · exact .inr ⟨hgo l i ys σ' H' hl hlt p, Pv l (i + 1), fun zs σ2 H2 q => ⟨n - (i + 1), by omega, rfl, hlt, q⟩, fun x H2 y => hs l i x ys σ' H' H2 hl hlt p hl' y⟩
  · have e : i = n := by omega
    subst e
    exact .inl ⟨hst l ys σ' H' hl p, hd l ys σ' H' hl p hl'⟩
end
end L2

set_option Elab.async false
set_option linter.all false
set_option maxRecDepth 100000
set_option maxHeartbeats 4000000
/-! sorted of tuples of texts, some of them perhaps alike -/
namespace RW
open PySem PySem.W PyProof.Rows L2
section
variable {N : Nat} {lt : Nat → Nat → Bool}
theorem revP {p : Array Nat} (hp : PermN N p) (i n : Nat) : PermN N (kas_rev p i n) := (Array.perm_iff_toList_perm.mp (mirror_perm p i n _)).trans hp
theorem asc_p {p : Array Nat} (hp : PermN N p) : ∀ f n, 1 ≤ n → n + f ≤ N → OkT N lt (kas_asc p f n) (fun m => n ≤ m ∧ m ≤ n + f)
  | 0, n, _, _ => ⟨Nat.le_refl _, Nat.le_refl _⟩
  | f + 1, n, h1, hn => by
    refine ⟨hp.bd (by omega), hp.bd (by omega), ?_⟩
    cases hc : lt (gd p n) (gd p (n - 1)) with
    | true =>
      show OkT N lt (if true = true then _ else _) _
      rw [if_pos rfl]
      exact ⟨Nat.le_refl _, by omega⟩
    | false =>
      show OkT N lt (if false = true then _ else _) _
      rw [if_neg (by decide)]
      exact OkT.mono (fun m hm => ⟨by omega, by omega⟩) (asc_p hp f (n + 1) (by omega) (by omega))
theorem desc_p : ∀ f (p : Array Nat) n q, PermN N p → 1 ≤ n → n + f ≤ N → OkT N lt (kas_desc f p n q) (fun r => PermN N r.1 ∧ n ≤ r.2.1 ∧ r.2.1 ≤ n + f)
  | 0, p, n, q, hp, _, _ => ⟨hp, Nat.le_refl _, Nat.le_refl _⟩
  | f + 1, p, n, q, hp, h1, hn => by
    refine ⟨hp.bd (by omega), hp.bd (by omega), ?_⟩
    cases hc : lt (gd p n) (gd p (n - 1)) with
    | true =>
      show OkT N lt (if true = true then (if q > 0 then _ else _) else _) _
      rw [if_pos rfl]
      split
      · exact OkT.mono (fun m hm => ⟨hm.1, by omega, by omega⟩) (desc_p f _ (n + 1) 0 (revP hp _ _) (by omega) (by omega))
      · exact OkT.mono (fun m hm => ⟨hm.1, by omega, by omega⟩) (desc_p f _ (n + 1) 0 hp (by omega) (by omega))
    | false =>
      show OkT N lt (if false = true then _ else _) _
      rw [if_neg (by decide)]
      refine ⟨hp.bd (by omega), hp.bd (by omega), ?_⟩
      cases hd : lt (gd p (n - 1)) (gd p n) with
      | true =>
        show OkT N lt (if true = true then _ else _) _
        rw [if_pos rfl]
        exact ⟨hp, Nat.le_refl _, by show n ≤ n + (f + 1); omega⟩
      | false =>
        show OkT N lt (if false = true then _ else _) _
        rw [if_neg (by decide)]
        exact OkT.mono (fun m hm => ⟨hm.1, by omega, by omega⟩) (desc_p f _ (n + 1) _ hp (by omega) (by omega))
def CountQ (N : Nat) (r : Nat × Array Nat) : Prop := PermN N r.2 ∧ 1 ≤ r.1 ∧ r.1 ≤ N
theorem tail3_p {p : Array Nat} {n : Nat} (hp : PermN N p) (h1 : 1 ≤ n) (hn : n ≤ N) : OkT N lt (kas_tail3 n N p) (CountQ N) := by
  refine OkT.bind (OkT.mono (fun m hm => ?_) (asc_p (revP hp 0 n) (N - n) n h1 (by omega)))
  exact ⟨revP hp 0 n, by have := hm.1; omega, by have := hm.2; omega⟩
theorem descPart_p {p : Array Nat} {n : Nat} (hp : PermN N p) (h1 : 1 ≤ n) (hn : n < N) : OkT N lt (kas_descPart n N p) (CountQ N) := by
  refine OkT.bind (OkT.mono (fun r hr => ?_) (desc_p (N - (n + 1)) p (n + 1) 0 hp (by omega) (by omega)))
  obtain ⟨r1, r2, r3⟩ := hr
  split
  · exact tail3_p (revP r1 _ _) (by omega) (by omega)
  · exact tail3_p r1 (by omega) (by omega)
theorem count_p {p : Array Nat} (hp : PermN N p) (h1 : 1 ≤ N) : OkT N lt (kas_count N p) (CountQ N) := by
  refine OkT.bind (OkT.mono (fun n hn => ?_) (asc_p hp (N - 1) 1 (Nat.le_refl _) (by omega)))
  obtain ⟨n1, n2⟩ := hn
  by_cases hN : (n == N) = true
  · rw [if_pos hN]
    exact ⟨hp, n1, by show n ≤ N; omega⟩
  · have hne : n ≠ N := by simpa using hN
    rw [if_neg hN]
    by_cases h2 : n > 1
    · rw [if_pos h2]
      refine ⟨hp.bd (by omega), hp.bd (by omega), ?_⟩
      cases hc : lt (gd p 0) (gd p (n - 1)) with
      | true =>
        show OkT N lt (if true = true then _ else _) _
        rw [if_pos rfl]
        exact ⟨hp, n1, by show n ≤ N; omega⟩
      | false =>
        show OkT N lt (if false = true then _ else _) _
        rw [if_neg (by decide)]
        exact descPart_p (revP hp 0 n) n1 (by omega)
    · rw [if_neg h2]
      exact descPart_p hp n1 (by omega)
theorem place_p {p : Array Nat} {k : Nat} (hp : PermN N p) (hk : k < N) : ∀ f l r, l ≤ r → r ≤ k → OkT N lt (kas_place p k f l r) (fun _ => True)
  | 0, l, r, _, _ => trivial
  | f + 1, l, r, h1, h2 => by
    by_cases hlr : l ≥ r
    · show OkT N lt (if l ≥ r then _ else _) _
      rw [if_pos hlr]
      trivial
    · show OkT N lt (if l ≥ r then _ else _) _
      rw [if_neg hlr]
      refine ⟨hp.bd hk, hp.bd (by omega), ?_⟩
      cases hc : lt (gd p k) (gd p ((l + r) / 2)) with
      | true =>
        show OkT N lt (if true = true then _ else _) _
        rw [if_pos rfl]
        exact place_p hp hk f l ((l + r) / 2) (by omega) (by omega)
      | false =>
        show OkT N lt (if false = true then _ else _) _
        rw [if_neg (by decide)]
        exact place_p hp hk f ((l + r) / 2 + 1) r (by omega) h2
theorem bin_p : ∀ f (p : Array Nat) k, PermN N p → k + f = N → OkT N lt (kas_bin f p k) (fun p' => PermN N p')
  | 0, p, k, hp, hk => hp
  | f + 1, p, k, hp, hk => by
    refine OkT.bind (OkT.mono (fun l _ => ?_) (place_p hp (by omega) k 0 k (Nat.zero_le _) (Nat.le_refl _)))
    exact bin_p f _ (k + 1) ((Array.perm_iff_toList_perm.mp (bubble_perm p k _)).trans hp) (by omega)
theorem sort_p (h1 : 1 ≤ N) : OkT N lt (kas_sort N) (fun p => PermN N p) := by
  have h0 : PermN N (List.toArray (List.range N)) := by show (List.range N).Perm _; exact List.Perm.refl _
  refine OkT.bind (OkT.mono (fun r hr => ?_) (count_p h0 h1))
  obtain ⟨c1, c3, c4⟩ := hr
  by_cases h : r.1 < N
  · rw [if_pos h]
    have e : max r.1 1 = r.1 := by omega
    rw [e]
    exact bin_p _ _ _ c1 (by omega)
  · rw [if_neg h]
    exact c1
theorem sort_any (h1 : 1 ≤ N) : OkT N lt (kas_sort N) (fun p => PermN N p ∧ (Strict N lt → Sor lt p N)) := by
  by_cases S : Strict N lt
  · exact OkT.mono (fun p hp => ⟨hp.1, fun _ => hp.2⟩) (sort_ok S h1)
  · exact OkT.mono (fun p hp => ⟨hp, fun z => absurd z S⟩) (sort_p h1)
end
end RW
namespace L2
open PySem PySem.Spec PySem.W PyProof.Rows
theorem ltL_asy' : ∀ {a b : List Str}, ltL a b = true → ltL b a = false
  | [], [], h => by cases h
  | [], _ :: _, _ => rfl
  | _ :: _, [], h => by cases h
  | x :: xs, y :: ys, h => by
    rw [ltL] at h ⊢
    by_cases e : x = y
    · rw [if_pos e] at h; rw [if_pos e.symm]; exact ltL_asy' h
    · rw [if_neg e] at h; rw [if_neg (Ne.symm e)]; exact ltS_asy h
theorem ltL_tri' : ∀ {a b : List Str}, a ≠ b → ltL a b = false → ltL b a = true
  | [], [], h, _ => absurd rfl h
  | [], _ :: _, _, e => by cases e
  | _ :: _, [], _, _ => rfl
  | x :: xs, y :: ys, h, e => by
    rw [ltL] at e ⊢
    by_cases z : x = y
    · rw [if_pos z] at e; rw [if_pos z.symm]; exact ltL_tri' (fun q => h (by rw [z, q])) e
    · rw [if_neg z] at e; rw [if_neg (Ne.symm z)]; exact ltS_tri z e
theorem ltL_tr' : ∀ {a b c : List Str}, ltL a b = true → ltL b c = true → ltL a c = true
  | [], [], _, h, _ => by cases h
  | [], _ :: _, [], _, h => by cases h
  | [], _ :: _, _ :: _, _, _ => rfl
  | _ :: _, [], _, h, _ => by cases h
  | _ :: _, _ :: _, [], _, h => by cases h
  | x :: xs, y :: ys, z :: zs, h1, h2 => by
    rw [ltL] at h1 h2 ⊢
    by_cases e1 : x = y
    · rw [if_pos e1] at h1
      subst e1
      by_cases e2 : x = z
      · rw [if_pos e2] at h2 ⊢; exact ltL_tr' h1 h2
      · rw [if_neg e2] at h2 ⊢; exact h2
    · rw [if_neg e1] at h1
      by_cases e2 : y = z
      · rw [if_pos e2] at h2; subst e2; rw [if_neg e1]; exact h1
      · rw [if_neg e2] at h2
        have h3 := ltS_tr h1 h2
        rw [if_neg (ltS_ne h3)]; exact h3
/-- a tuple of texts, as it lies -/
def TupL (h : Heap) (u : Value) (p : List Str) : Prop := ∃ b o n its, u = .ref b ∧ h.get? b = some o ∧ o.cls = .type "tuple" ∧ o.data = .seq its n ∧ Vals (p.map V.str) its.toList
theorem TupL.keeps {h h' : Heap} {u : Value} {p : List Str} (x : TupL h u p) (k : ∀ b o, h.get? b = some o → h'.get? b = some o) : TupL h' u p := let ⟨b, o, n, its, e, g, r⟩ := x; ⟨b, o, n, its, e, k _ _ g, r⟩
theorem kat_strs {prog : Program} {w : World} {A : Around} {s : Shared} {C : Bool → Shared → Prop} {fin : Bool} : ∀ {p q : List Str} {its jts : List Value} (i : Nat), Vals (p.map V.str) its → Vals (q.map V.str) jts → (fin = decide (p.length + i < q.length + i)) → C (ltL p q) s → KatLex prog w A true fin C (its.zip jts) i s
  | [], q, its, jts, i, r1, r2, hf, h => by
    cases r1
    refine kat_nil ?_
    cases q with
    | nil => simp at hf; subst hf; exact h
    | cons y ys => simp at hf; subst hf; exact h
  | x :: xs, [], its, jts, i, r1, r2, hf, h => by
    cases r2
    rw [List.zip_nil_right]
    refine kat_nil ?_
    rw [decide_eq_false (by simp)] at hf; subst hf; exact h
  | x :: xs, y :: ys, its, jts, i, r1, r2, hf, h => by
    cases r1 with
    | cons a1 r1 =>
      cases r2 with
      | cons a2 r2 =>
        obtain ⟨t1, rfl⟩ := a1
        obtain ⟨t2, rfl⟩ := a2
        rw [List.zip_cons_cons]
        refine kat_cons (wpAny_eqBool_str ?_)
        rw [ltL] at h
        by_cases e1 : x = y
        · rw [if_pos e1] at h
          rw [decide_eq_true e1]
          exact kat_yes (kat_strs (i + 1) r1 r2 (by rw [hf]; simp only [List.length_cons]; congr 1; exact propext ⟨fun h => by omega, fun h => by omega⟩) h)
        · rw [if_neg e1] at h
          rw [decide_eq_false e1]
          refine kat_no ?_
          cases i with
          | zero =>
            show wpAny (model prog w) A (oneLt' true (.str x t1) (.str y t2)) C _ s
            exact oneLt_str h
          | succ i =>
            show wpAny (model prog w) A (oneLt' false (.str x t1) (.str y t2)) C _ s
            exact kat_one _ _ (lt_str h)
theorem ask_tups {prog : Program} {w : World} {A : Around} {E : Value → Shared → Prop} {s : Shared} {u v : Value} {p q : List Str} {C : Bool → Shared → Prop} (x : TupL s.heap u p) (y : TupL s.heap v q) (h : C (ltL p q) s) : wpAny (model prog w) A (keyLt' (tuples' true) u v) C E s := by
  obtain ⟨b, o, n, its, rfl, g, _, d, r⟩ := x
  obtain ⟨b', o', n', jts, rfl, g', _, d', r'⟩ := y
  refine kat_lt g d g' d' (kat_strs 0 r r' ?_ h)
  have l1 := r.length
  have l2 := r'.length
  simp only [List.length_map, Array.length_toList] at l1 l2
  rw [Nat.add_zero, Nat.add_zero, l1, l2]
theorem tupsL_of {h : Heap} : ∀ {us : List Value} {ps : List (List Str)}, us.length = ps.length → (∀ p ∈ ps, 0 < p.length) → (∀ (i : Nat) (u : Value) (p : List Str), us[i]? = some u → ps[i]? = some p → TupL h u p) → ∃ fs, KatTups h us fs ∧ fs.length = us.length ∧ ∀ f ∈ fs, ∃ x t, f = Value.str x t
  | [], [], _, _, _ => ⟨[], trivial, rfl, fun _ z => nomatch z⟩
  | [], _ :: _, z, _, _ => by simp at z
  | _ :: _, [], z, _, _ => by simp at z
  | u :: us, p :: ps, hl, hp, hx => by
    obtain ⟨fs, h1, h2, h3⟩ := tupsL_of (us := us) (ps := ps) (by simpa using hl) (fun q hq => hp q (List.mem_cons_of_mem _ hq)) fun i u p e1 e2 => hx (i + 1) u p (by simpa using e1) (by simpa using e2)
    obtain ⟨b, o, n, its, rfl, g, c, d, r⟩ := hx 0 u p rfl rfl
    obtain ⟨x, xs, rfl⟩ : ∃ x xs, p = x :: xs := by
      match p, hp p (List.mem_cons_self) with
      | x :: xs, _ => exact ⟨x, xs, rfl⟩
    obtain ⟨l⟩ := its
    cases r with
    | cons a r =>
      obtain ⟨t, rfl⟩ := a
      refine ⟨.str x t :: fs, KatTups.cons g c d rfl h1, by simp [h2], fun f hf => ?_⟩
      rcases List.mem_cons.mp hf with rfl | hf
      · exact ⟨_, _, rfl⟩
      · exact h3 f hf
def lAt (ps : List (List Str)) (i : Nat) : List Str := ps.getD i []
theorem strict_tups {ps : List (List Str)} (hn : ps.Nodup) : RW.Strict ps.length (fun i j => ltL (lAt ps i) (lAt ps j)) where
  tot := fun i j hi hj hij e => ltL_tri' (fun z => hij ((List.getElem_inj hn (h₀ := hi) (h₁ := hj)).mp (by unfold lAt at z; simpa [hi, hj] using z))) e
  tr := fun i j k _ _ _ h1 h2 => ltL_tr' h1 h2
  asy := fun i j _ _ h => ltL_asy' h
theorem map_lAt {ps : List (List Str)} : (List.range ps.length).map (lAt ps) = ps := by
  apply List.ext_getElem?
  intro i
  rw [List.getElem?_map]
  rcases Nat.lt_or_ge i ps.length with h | h
  · rw [List.getElem?_range h]
    show some (lAt ps i) = _
    unfold lAt
    simp [h]
  · rw [List.getElem?_eq_none (by simpa using h), List.getElem?_eq_none h]; rfl
def TupsAt (H : Hp) (vs : List V) (ps : List (List Str)) : Prop := vs.length = ps.length ∧ ∀ (i : Nat) (v : V) (p : List Str), vs[i]? = some v → ps[i]? = some p → ∃ b, v = .ref b ∧ H b = some (.tup (p.map V.str))
section
variable {prog : Program} {w : World} {A : Around} {E : Value → Shared → Prop} {s : Shared}
/-- sorted(l), l a list or a tuple -/
theorem sorted_rawA {l : Addr} {T : String} {o : Obj} {n : Nat} {ks : List Value} {R : Value → Shared → Prop} {G : Array Nat → Prop} {κ : SortKind} (hT : T = "list" ∨ T = "tuple") (ho : s.heap.get? l = some o) (hc : o.cls = .type T) (hd : o.data = .seq ks.toArray n) (h64 : ks.length < 64)
    (hk : 2 ≤ ks.length → ∀ s1 : Shared, (∀ b o, s.heap.get? b = some o → s1.heap.get? b = some o) → (∀ C : SortKind → Shared → Prop, C κ s1 → wpAny (model prog w) A.in1.in1 (keyKind' ks.toArray) C (fun _ _ => False) s1) ∧ (kas_sort ks.length).kasWp (kas_ask prog w A.in1.in1 κ ks) (fun p s' => s' = s1 ∧ G p) s1)
    (q : ∀ (D : Addr) (out : List Value) (h' : Heap) (c : Nat), (ks.length < 2 ∧ out = ks ∨ ∃ p : Array Nat, p.size = ks.length ∧ G p ∧ out = p.toList.map fun i => ks.getD i Value.none) → (∀ b o, s.heap.get? b = some o → h'.get? b = some o) →
      s.heap.objs.size ≤ D → h'.get? D = some (seqObj "list" out.toArray c) → R (.ref D) { s with heap := h' }) : wpAny (model prog w) A (call (.builtin "sorted") [.ref l]) R E s := by
  refine Calls.call_function_entry kind_sorted plain_sorted entry_sorted (args_sorted1 _) ?_
  unfold Builtin.«sorted»
  refine wpAny_bind (m := checkCount "sorted" 1 1 _) (wpAny_pure (wpAny_bind (collect_any hT ho hc hd (by rw [sizeLine_eq]; omega) fun h1 kp gr0 => ?_)))
  refine wpAny_bind (wpAny_newList ?_ (by rw [sizeLine_eq]; omega))
  have hD : (h1.push (seqObj "list" ks.toArray 0)).get? h1.objs.size = some (seqObj "list" ks.toArray 0) := Heap.get?_push_size _ rfl
  have k2 : ∀ b o, s.heap.get? b = some o → (h1.push (seqObj "list" ks.toArray 0)).get? b = some o := fun b o e => Heap.get?_push_of_some _ (kp b o e)
  have gr : s.heap.objs.size ≤ h1.objs.size := Nat.le_of_lt gr0
  show wpAny _ _ _ _ _ { s with heap := h1.push (seqObj "list" ks.toArray 0) }
  refine wpAny_bind (wpAny_holding (wpAny_call_entry slot_list_sort ⟨_, hD, rfl⟩ entry_list_sort (lsort_raw (G := G) (κ := κ) (s := { s with heap := h1.push (seqObj "list" ks.toArray 0) }) hD h64 (fun h2 s1 k1 => ?_) fun out h' c hc hkp hg => ?_) (args_list_sort _)))
  · obtain ⟨x1, x2⟩ := hk h2 s1 fun b o e => k1.2 b o (Nat.ne_of_lt (Nat.lt_of_lt_of_le (Heap.lt_size e) gr)) (k2 b o e)
    exact ⟨fun C hC => wpAny_mono (x1 C hC) (fun _ _ z => z) fun _ _ z => z.elim, x2⟩
  · exact ⟨_, rfl, wpAny_pure ⟨_, rfl, q h1.objs.size out h' c hc (fun b o e => hkp b o (Nat.ne_of_lt (Nat.lt_of_lt_of_le (Heap.lt_size e) gr)) (k2 b o e)) gr hg⟩⟩
end
section
variable {X : Cx} {K : PySem.W.Frag}
def rSortTs (K : PySem.W.Frag) : List V → Hp → VK → Prop := fun xs H Q => ∃ (p : Addr) (vs : List V) (ps : List (List Str)), xs = [.ref p] ∧ (SqL K H p vs ∨ SqT K H p vs) ∧ TupsAt H vs ps ∧ (∀ q ∈ ps, 0 < q.length) ∧ ps.length < 64 ∧
  ∀ (ps' : List (List Str)) (vs' : List V) l, ps'.Perm ps → (ps.Nodup → ps'.Pairwise (fun a b => ltL a b = true)) → TupsAt H vs' ps' → H l = none → Q (.ref l) (upd H l (.lst vs'))
theorem vals_of_at {vs : List V} {us : List Value} (hl : vs.length = us.length) (h : ∀ (i : Nat) (v : V) (u : Value), vs[i]? = some v → us[i]? = some u → RelV v u) : Vals vs us := by
  induction vs generalizing us with
  | nil => match us, hl with | [], _ => exact .nil
  | cons v vs ih =>
    match us, hl with
    | u :: us, hl => exact .cons (h 0 v u rfl rfl) (ih (by simpa using hl) fun i v u e1 e2 => h (i + 1) v u (by simpa using e1) (by simpa using e2))
theorem call_sortedTs : CallR X (.builtin "sorted") (rSortTs X.K) := by
  intro pins s σ H xs us Q I r h
  obtain ⟨p, vs, ps, rfl, hq, ht, hp0, h64, q⟩ := h
  obtain ⟨u, rfl, ru⟩ := vals1 r
  cases ru
  have key : ∀ {its : List Value} {T : String} {o : Obj} {n : Nat}, T = "list" ∨ T = "tuple" → s.heap.get? p = some o → o.cls = .type T → o.data = .seq its.toArray n → Vals vs its → wpAny (model X.prog X.w) X.A (call (.builtin "sorted") [.ref p]) (EP X pins σ Q) X.xe s := by
    intro its T o n hT ho hc hd rv
    have hl := rv.length
    have hlp : its.length = ps.length := by rw [← hl]; exact ht.1
    have keyA : ∀ (i : Nat) (u : Value) (q : List Str), its[i]? = some u → ps[i]? = some q → ∃ b, u = .ref b ∧ H b = some (.tup (q.map V.str)) := fun i u q e1 e2 => by
      have hi : i < vs.length := by
        rcases Nat.lt_or_ge i vs.length with z | z
        · exact z
        · rw [List.getElem?_eq_none (by omega)] at e1; cases e1
      obtain ⟨b, e3, hb⟩ := ht.2 i vs[i] q (by simp [hi]) e2
      obtain ⟨u', hu', ru'⟩ := rv.get (i := i) (x := vs[i]) (by simp [hi])
      rw [e1] at hu'
      cases hu'
      rw [e3] at ru'
      cases ru'
      exact ⟨b, rfl, hb⟩
    have keyT : ∀ (i : Nat) (u : Value) (q : List Str), its[i]? = some u → ps[i]? = some q → TupL s.heap u q := fun i u q e1 e2 => by
      obtain ⟨b, rfl, hb⟩ := keyA i u q e1 e2
      obtain ⟨_, jts, rj, ⟨o', g', c', n', d'⟩, _⟩ := (show ObjOk X.prog X.w H s.heap b (.tup (q.map V.str)) from I.hok b _ hb)
      exact ⟨b, o', n', _, rfl, g', c', d', by simpa using rj⟩
    refine sorted_rawA (A := X.A) (G := fun p => RW.PermN ps.length p ∧ (RW.Strict ps.length (fun i j => ltL (lAt ps i) (lAt ps j)) → RW.Sor (fun i j => ltL (lAt ps i) (lAt ps j)) p ps.length)) (κ := tuples' true) hT ho hc hd (by omega) (fun h2 s1 k1 => ?_) (fun D out h' c ho' kp hD gD => ?_)
    · have keyT1 : ∀ (i : Nat) (u : Value) (q : List Str), its[i]? = some u → ps[i]? = some q → TupL s1.heap u q := fun i u p e1 e2 => (keyT i u p e1 e2).keeps k1
      obtain ⟨fs, ft, fl, fa⟩ := tupsL_of hlp hp0 keyT1
      refine ⟨fun C hC => kat_kind (T := .type "str") ft (by omega) (fun f hf => ?_) rfl hC, ?_⟩
      · obtain ⟨x, t, rfl⟩ := fa f hf
        exact Looks.of_pure rfl
      · rw [hlp]
        refine RW.OkT.wp (N := ps.length) (lt := fun i j => ltL (lAt ps i) (lAt ps j)) (I := fun s' => s' = s1) (fun i j C s' hi hj e hC => ?_) (fun p s' hp e => ⟨e, hp⟩) rfl (RW.sort_any (by omega))
        subst e
        have gi : ∀ i, i < ps.length → TupL s'.heap (its.getD i Value.none) (lAt ps i) := fun i hi => by
          have hi' : i < its.length := by omega
          refine keyT1 i _ _ ?_ ?_
          · simp [hi']
          · unfold lAt; simp [hi]
        exact ask_tups (gi i hi) (gi j hj) (hC s' rfl)
    · have nD : H D = none := I.hok.fresh hD
      obtain ⟨ps', hperm, hpw, hlen, hout⟩ : ∃ ps' : List (List Str), ps'.Perm ps ∧ (ps.Nodup → ps'.Pairwise (fun a b => ltL a b = true)) ∧ out.length = ps'.length ∧ ∀ (i : Nat) (u : Value) (q : List Str), out[i]? = some u → ps'[i]? = some q → ∃ b, u = .ref b ∧ H b = some (.tup (q.map V.str)) := by
        rcases ho' with ⟨hlt, rfl⟩ | ⟨p, hp, ⟨hP, hS⟩, rfl⟩
        · refine ⟨ps, .refl _, fun _ => ?_, hlp, keyA⟩
          match ps, (show ps.length < 2 by omega) with
          | [], _ => exact .nil
          | [a], _ => exact List.pairwise_singleton _ _
        · refine ⟨p.toList.map (lAt ps), ?_, fun nd => ?_, by simp, fun i u q e1 e2 => ?_⟩
          · have h1 := hP.map (lAt ps)
            rwa [map_lAt] at h1
          · have hs := hS (strict_tups nd)
            have hz := hP.size
            rw [List.pairwise_iff_getElem]
            intro i j hi hj hij
            have hi' : i < p.size := by simpa using hi
            have hj' : j < p.size := by simpa using hj
            have h := hs i j hij (by omega)
            rw [RW.gd_get hi', RW.gd_get hj'] at h
            simpa using h
          · rw [List.getElem?_map] at e1 e2
            cases e3 : p.toList[i]? with
            | none => rw [e3] at e1; cases e1
            | some j =>
              rw [e3] at e1 e2
              have hj : j < ps.length := by
                have : j ∈ p.toList := List.mem_of_getElem? e3
                have := (hP.mem_iff (a := j)).mp this
                simpa using this
              have hj' : j < its.length := by omega
              refine keyA j u q ?_ ?_
              · rw [← e1]; simp [hj']
              · rw [← e2]; unfold lAt; simp [hj]
      let vs' : List V := out.map fun u => match u with | .ref b => V.ref b | _ => V.non
      have hv : ∀ (i : Nat) (q : List Str), ps'[i]? = some q → ∃ b, out[i]? = some (.ref b) ∧ vs'[i]? = some (.ref b) ∧ H b = some (.tup (q.map V.str)) := fun i q e => by
        have hi : i < out.length := by
          rcases Nat.lt_or_ge i ps'.length with z | z
          · omega
          · rw [List.getElem?_eq_none z] at e; cases e
        obtain ⟨b, e1, hb⟩ := hout i out[i] q (by simp [hi]) e
        exact ⟨b, by rw [List.getElem?_eq_getElem hi, e1], by show (out.map _)[i]? = _; rw [List.getElem?_map, List.getElem?_eq_getElem hi, e1]; rfl, hb⟩
      have hlv : vs'.length = out.length := by show (out.map _).length = _; rw [List.length_map]
      have hpl : ps'.length < 64 := by rw [hperm.length_eq]; omega
      have T' : TupsAt H vs' ps' := ⟨by omega, fun i v q e1 e2 => by
        obtain ⟨b, _, e3, hb⟩ := hv i q e2
        rw [e1] at e3; cases e3
        exact ⟨b, rfl, hb⟩⟩
      refine ⟨.ref D, _, I.laid (a := D) (o := .lst vs') (t' := s.toks) kp hD ⟨?_, out, c, ?_, gD⟩, rfl, q ps' vs' D hperm hpw T' nD⟩
      · rw [hlv, hlen]; exact Nat.le_of_lt (small1000 (by omega))
      · refine vals_of_at hlv fun i v u e1 e2 => ?_
        have hi : i < ps'.length := by
          rcases Nat.lt_or_ge i ps'.length with z | z
          · exact z
          · rw [List.getElem?_eq_none (by omega)] at e2; cases e2
        obtain ⟨b, e3, e4, _⟩ := hv i ps'[i] (by simp [hi])
        rw [e3] at e2; cases e2
        rw [e4] at e1; cases e1
        rfl
  rcases hq with hq | hq
  · obtain ⟨its, rv, pl, hz⟩ := I.list hq
    obtain ⟨o, ho, hc, n, hd⟩ := pl.isList
    exact key (.inl rfl) ho hc hd rv
  · obtain ⟨its, rv, pl, hz⟩ := I.tuple hq
    obtain ⟨o, ho, hc, n, hd⟩ := pl
    exact key (.inr rfl) ho hc hd rv
theorem call_sortedTsK (h : X.K = K) : CallR X (.builtin "sorted") (rSortTs K) := by subst h; exact call_sortedTs
end
end L2

set_option Elab.async false
set_option linter.all false
set_option maxRecDepth 100000
set_option maxHeartbeats 4000000
/-! a method without arguments; str.upper -/
namespace L2
open PySem PySem.Spec PyProof.Rows
section
variable {X : Cx} {K : PySem.W.Frag} {o : Expr} {to : TE} {name : Str} {apos cpos : Pos} {T id : String} {r : V → List V → Hp → VK → Prop}
theorem q_bm0 (pa : PlainAttrs T) (slot : Slot T name id) (hty : typeOf (.builtin id) = pure (.type "method_descriptor")) (hm : MtR X id r) (ho : QE X o to)
    (hbase : attributeBase o name X.env (eval o X.env) = eval o X.env := by rfl) (hline : (apos.endLine == cpos.line) = true := by rfl) : QE X (.Call (.Attribute o name apos) [] [] cpos) (tBM0 X.K T r to) := ⟨pe_bm0 pa slot hty hm ho.o hbase hline⟩
abbrev upS (x : Str) : Str := Txt.upper x
theorem mt_upper : MtR X "str.upper" (fun x vs H Q => ∃ z : Str, x = .str z ∧ vs = [] ∧ (upS z).length ≤ 1000 ∧ Q (.str (upS z)) H) := by
  intro pins s σ H x vs v us Q I r1 r2 h
  obtain ⟨z, rfl, rfl, hl, q⟩ := h
  cases r2
  obtain ⟨t, rfl⟩ := r1
  exact SC.upper (by unfold Builtin.Str.tooLong; exact decide_eq_false (Nat.not_lt.mpr (Nat.le_of_lt (small1000 hl)))) ⟨.str _, H, I.tok _, ⟨_, rfl⟩, q⟩
theorem up_over : upS "over" = "OVER" := by decide +kernel
theorem up_equal : upS "equal" = "EQUAL" := by decide +kernel
end
end L2
namespace L2
open PySem PySem.Spec PyProof.Rows
section
variable {X : Cx} {K : PySem.W.Frag}
theorem op_ltSK (h : X.K = K) (hu : X.A.units + 64 < cLine) : OpR X (compareOp .Lt) (rLtS K) := by subst h; exact op_ltS hu
end
end L2

set_option Elab.async false
set_option linter.all false
set_option maxRecDepth 100000
set_option maxHeartbeats 4000000
/-! kin: the mathematics -/
namespace RW
open PySem PySem.Spec PyProof.Rows L2
def tD (xs : List Str) : D := .tup (xs.map D.str)
def rowL : List Str → Bool
  | [a, b, w] => isNameB a && isNameB b && (if w = "equal" then ltS a b else decide (w = "over") && !decide (a = b))
  | _ => false
def rowD : D → Bool
  | .tup [.str a, .str b, .str w] => rowL [a, b, w]
  | _ => false
theorem strs_tD (xs : List Str) : strsOf (tD xs) = xs := strs_map xs
theorem rowL_form {r : List Str} (h : rowL r = true) : ∃ a b w, r = [a, b, w] ∧ isNameB a = true ∧ isNameB b = true ∧ a ≠ b ∧ ((w = "equal" ∧ ltS a b = true) ∨ w = "over") := by
  unfold rowL at h
  split at h
  · rename_i a b w
    rw [Bool.and_eq_true, Bool.and_eq_true] at h
    obtain ⟨⟨h1, h2⟩, h3⟩ := h
    refine ⟨a, b, w, rfl, h1, h2, ?_⟩
    split at h3
    · rename_i e; exact ⟨ltS_ne h3, .inl ⟨e, h3⟩⟩
    · rw [Bool.and_eq_true, Bool.not_eq_true'] at h3
      exact ⟨of_decide_eq_false h3.2, .inr (of_decide_eq_true h3.1)⟩
  · cases h
theorem rowD_form {d : D} (h : rowD d = true) : ∃ r, d = tD r ∧ rowL r = true := by
  unfold rowD at h
  split at h
  · exact ⟨_, rfl, h⟩
  · cases h
theorem rows_form : ∀ {ds : List D}, ds.all rowD = true → ∃ rs : List (List Str), ds = rs.map tD ∧ ∀ r ∈ rs, rowL r = true
  | [], _ => ⟨[], rfl, fun _ z => nomatch z⟩
  | d :: ds, h => by
    rw [List.all_cons, Bool.and_eq_true] at h
    obtain ⟨r, rfl, hr⟩ := rowD_form h.1
    obtain ⟨rs, rfl, hrs⟩ := rows_form h.2
    exact ⟨r :: rs, rfl, fun x hx => (List.mem_cons.mp hx).elim (fun e => by rw [e]; exact hr) (hrs x)⟩
theorem rowD_of {r : List Str} (h : rowL r = true) : rowD (tD r) = true := by
  obtain ⟨a, b, w, rfl, _⟩ := rowL_form h
  exact h
def riseB (ls : List (List Str)) : Bool := (List.range (ls.length - 1)).all fun k => ltL (ls.getD k []) (ls.getD (k + 1) [])
theorem rise_pw {ls : List (List Str)} (h : riseB ls = true) : ls.Pairwise (fun a b => ltL a b = true) := by
  have adj : ∀ k, k + 1 < ls.length → ltL (ls.getD k []) (ls.getD (k + 1) []) = true := fun k hk => List.all_eq_true.mp h k (List.mem_range.mpr (by omega))
  have key : ∀ d i, i + d + 1 < ls.length → ltL (ls.getD i []) (ls.getD (i + d + 1) []) = true := by
    intro d
    induction d with
    | zero => exact fun i hi => adj i hi
    | succ d ih => exact fun i hi => ltL_tr' (ih i (by omega)) (adj (i + d + 1) (by omega))
  rw [List.pairwise_iff_getElem]
  intro i j hi hj hij
  have := key (j - i - 1) i (by omega)
  rw [show i + (j - i - 1) + 1 = j by omega] at this
  simpa [hi, hj] using this
theorem pw_rise {ls : List (List Str)} (h : ls.Pairwise (fun a b => ltL a b = true)) : riseB ls = true := by
  refine List.all_eq_true.mpr fun k hk => ?_
  have hk' : k + 1 < ls.length := by have := List.mem_range.mp hk; omega
  have hk0 : k < ls.length := by omega
  have := List.pairwise_iff_getElem.mp h k (k + 1) hk0 hk' (by omega)
  simpa [hk0, hk'] using this
theorem pw_nodup {ls : List (List Str)} (h : ls.Pairwise (fun a b => ltL a b = true)) : ls.Nodup := h.imp fun {a b} h z => by rw [z, ltL_irr] at h; cases h
/-- of a list put in order: it rises just where no two are alike -/
theorem rise_sorted {ls ls' : List (List Str)} (hp : ls'.Perm ls) (hs : ls.Nodup → ls'.Pairwise (fun a b => ltL a b = true)) : riseB ls' = decide ls.Nodup := by
  by_cases h : ls.Nodup
  · rw [decide_eq_true h]; exact pw_rise (hs h)
  · rw [decide_eq_false h]
    cases e : riseB ls' with
    | false => rfl
    | true => exact absurd (hp.nodup_iff.mp (pw_nodup (rise_pw e))) h
def tieL (r : List Str) : List Str := srt (r.take 2)
def kinB : D → Bool
  | .tup ds => ds.all rowD && (riseB (ds.map strsOf) && decide ((ds.map fun d => tieL (strsOf d)).Nodup))
  | _ => false
theorem map_strs {rs : List (List Str)} : (rs.map tD).map strsOf = rs := by
  rw [List.map_map]
  exact (List.map_congr_left fun r _ => strs_tD r).trans (List.map_id' rs)
theorem map_ties {rs : List (List Str)} : ((rs.map tD).map fun d => tieL (strsOf d)) = rs.map tieL := by
  rw [List.map_map]
  exact List.map_congr_left fun r _ => by show tieL (strsOf (tD r)) = _; rw [strs_tD]
theorem kinB_rows {rs : List (List Str)} (h : ∀ r ∈ rs, rowL r = true) : kinB (.tup (rs.map tD)) = (riseB rs && decide (rs.map tieL).Nodup) := by
  show ((rs.map tD).all rowD && (riseB ((rs.map tD).map strsOf) && decide ((rs.map tD).map fun d => tieL (strsOf d)).Nodup)) = _
  rw [map_strs, map_ties, List.all_eq_true.mpr fun d hd => by obtain ⟨r, hr, rfl⟩ := List.mem_map.mp hd; exact rowD_of (h r hr)]
  rfl
structure KinOk (rs : List (List Str)) : Prop where
  row : ∀ r ∈ rs, rowL r = true
  rise : rs.Pairwise (fun a b => ltL a b = true)
  ties : (rs.map tieL).Nodup
theorem KinOk.ok {rs : List (List Str)} (k : KinOk rs) : kinB (.tup (rs.map tD)) = true := by
  rw [kinB_rows k.row, pw_rise k.rise, decide_eq_true k.ties]; rfl
theorem kin_bad {ds : List D} {d : D} (h : d ∈ ds) (e : rowD d = false) : kinB (.tup ds) = false := by
  show (ds.all rowD && _) = false
  rw [all_bad h e]; rfl
theorem kin_norise {ds : List D} (e : riseB (ds.map strsOf) = false) : kinB (.tup ds) = false := by
  show (ds.all rowD && (riseB (ds.map strsOf) && _)) = false
  rw [e, Bool.false_and, Bool.and_false]
theorem kin_twice {ds : List D} (e : ¬ (ds.map fun d => tieL (strsOf d)).Nodup) : kinB (.tup ds) = false := by
  show (ds.all rowD && (_ && decide (ds.map fun d => tieL (strsOf d)).Nodup)) = false
  rw [decide_eq_false e, Bool.and_false, Bool.and_false]
theorem tie_nd {rs : List (List Str)} (h : (rs.map tieL).Nodup) : rs.Nodup := (List.pairwise_map.mp h).imp fun {a b} h z => h (by rw [z])
theorem kin_of {rs rs' : List (List Str)} (h : ∀ r ∈ rs, rowL r = true) (nd : (rs.map tieL).Nodup) (hp : rs'.Perm rs) (hs : rs.Nodup → rs'.Pairwise (fun a b => ltL a b = true)) : KinOk rs' :=
  ⟨fun r hr => h r (hp.mem_iff.mp hr), hs (tie_nd nd), (hp.map tieL).nodup_iff.mpr nd⟩
/-! ties of names -/
def pr (a b : Str) : List Str := srt [a, b]
theorem pw_unique {l1 l2 : List Str} (h1 : l1.Pairwise (fun a b => ltS a b = true)) (h2 : l2.Pairwise (fun a b => ltS a b = true)) (hp : l1.Perm l2) : l1 = l2 :=
  hp.eq_of_pairwise (fun a b _ _ h1 h2 => absurd h2 (by rw [ltS_asy h1]; decide)) h1 h2
theorem pr_comm {a b : Str} : pr a b = pr b a := by
  by_cases e : a = b
  · rw [e]
  · exact pw_unique (srt_rise (by simpa using e)) (srt_rise (by simpa using Ne.symm e)) ((srt_perm [a, b]).trans ((List.Perm.swap b a []).trans (srt_perm [b, a]).symm))
theorem pr_inj {a b c d : Str} (h : pr a b = pr c d) : (a = c ∧ b = d) ∨ (a = d ∧ b = c) := by
  have hp : [a, b].Perm [c, d] := (srt_perm [a, b]).symm.trans (by rw [show srt [a, b] = srt [c, d] from h]; exact srt_perm [c, d])
  have ha : a ∈ [c, d] := hp.mem_iff.mp (by simp)
  simp only [List.mem_cons, List.not_mem_nil, or_false] at ha
  rcases ha with rfl | rfl
  · have := (List.perm_cons a).mp hp
    exact .inl ⟨rfl, by simpa using this⟩
  · have h2 : [a, b].Perm [a, c] := hp.trans (List.Perm.swap a c [])
    have := (List.perm_cons a).mp h2
    exact .inr ⟨rfl, by simpa using this⟩
end RW

set_option Elab.async false
set_option linter.all false
set_option maxRecDepth 100000
set_option maxHeartbeats 4000000
/-! kin drawn, kin spoilt -/
namespace RW
open PySem PySem.Spec PyProof.Rows L2
abbrev at_ (xs : List Str) (i : Nat) : Str := xs.getD i ""
structure KD62 (xs : List Str) (ps : List (Nat × Nat)) (k : Nat) (rs : List (List Str)) : Prop where
  row : ∀ r ∈ rs, rowL r = true
  nd : (rs.map tieL).Nodup
  few : rs.length ≤ k
  old : ∀ r ∈ rs, ∃ q ∈ ps.take k, q.1 < q.2 ∧ tieL r = pr (at_ xs q.1) (at_ xs q.2)
theorem at_inj {xs : List Str} (nd : xs.Nodup) {i j : Nat} (hi : i < xs.length) (hj : j < xs.length) (h : at_ xs i = at_ xs j) : i = j := by
  unfold at_ at h
  simp only [List.getD, List.getElem?_eq_getElem hi, List.getElem?_eq_getElem hj, Option.getD_some] at h
  exact (List.getElem_inj nd).mp h
theorem pr_at {xs : List Str} (nd : xs.Nodup) {i j k l : Nat} (hij : i < j) (hj : j < xs.length) (hkl : k < l) (hl : l < xs.length) (h : pr (at_ xs i) (at_ xs j) = pr (at_ xs k) (at_ xs l)) : i = k ∧ j = l := by
  rcases pr_inj h with ⟨h1, h2⟩ | ⟨h1, h2⟩
  · exact ⟨at_inj nd (by omega) (by omega) h1, at_inj nd hj hl h2⟩
  · have e1 := at_inj nd (by omega) hl h1
    have e2 := at_inj nd hj (by omega) h2
    omega
theorem KD62.skip {xs : List Str} {ps : List (Nat × Nat)} {k : Nat} {rs : List (List Str)} (h : KD62 xs ps k rs) : KD62 xs ps (k + 1) rs where
  row := h.row
  nd := h.nd
  few := by have := h.few; omega
  old := fun r hr => by
    obtain ⟨q, hq, r1⟩ := h.old r hr
    exact ⟨q, (List.take_sublist_take_left (Nat.le_succ k)).subset hq, r1⟩
theorem KD62.put {xs : List Str} {ps : List (Nat × Nat)} {k : Nat} {rs : List (List Str)} (h : KD62 xs ps k rs) (nd : xs.Nodup) (hp : ∀ q ∈ ps, q.1 ≤ q.2 ∧ q.2 < xs.length) {q : Nat × Nat} (hq : ps[k]? = some q) (hne : q.1 ≠ q.2) (hn : q ∉ ps.take k)
    {r : List Str} (hr : rowL r = true) (ht : tieL r = pr (at_ xs q.1) (at_ xs q.2)) : KD62 xs ps (k + 1) (rs ++ [r]) := by
  have tk : ps.take (k + 1) = ps.take k ++ [q] := by rw [List.take_add_one, hq]; rfl
  have hq' := hp q (List.mem_of_getElem? hq)
  have hlt : q.1 < q.2 := by omega
  refine ⟨fun x hx => ?_, ?_, by rw [List.length_append, List.length_singleton]; have := h.few; omega, fun x hx => ?_⟩
  · rcases List.mem_append.mp hx with hx | hx
    · exact h.row x hx
    · rw [List.mem_singleton.mp hx]; exact hr
  · rw [List.map_append]
    refine List.nodup_append.mpr ⟨h.nd, by simp, fun a ha b hb z => ?_⟩
    obtain ⟨x, hx, rfl⟩ := List.mem_map.mp ha
    have hb' : b = tieL r := by simpa using hb
    obtain ⟨q2, hq2, l2, e2⟩ := h.old x hx
    rw [z, hb', ht] at e2
    have hq2' := hp q2 (List.mem_of_mem_take hq2)
    obtain ⟨e3, e4⟩ := pr_at nd hlt hq'.2 l2 hq2'.2 e2
    exact hn (by rw [show q = q2 from Prod.ext e3 e4]; exact hq2)
  · rw [tk]
    rcases List.mem_append.mp hx with hx | hx
    · obtain ⟨q2, hq2, r2⟩ := h.old x hx
      exact ⟨q2, List.mem_append_left _ hq2, r2⟩
    · rw [List.mem_singleton.mp hx]
      exact ⟨q, List.mem_append_right _ (List.mem_singleton.mpr rfl), hlt, ht⟩
theorem mm_lt {x y : Str} (h : x ≠ y) : ltS (if ltS y x = true then y else x) (if ltS x y = true then y else x) = true := by
  cases e : ltS x y with
  | true => rw [ltS_asy e]; simp only [Bool.false_eq_true, if_false, if_true]; exact e
  | false =>
    have := ltS_tri h e
    rw [this]; simp only [Bool.false_eq_true, if_false, if_true]; exact this
theorem mm_pr {x y : Str} : pr (if ltS y x = true then y else x) (if ltS x y = true then y else x) = pr x y := by
  cases e : ltS x y with
  | true => rw [ltS_asy e]; simp
  | false =>
    cases e2 : ltS y x with
    | true => simp; exact pr_comm
    | false =>
      simp
      by_cases h : x = y
      · rw [h]
      · rw [ltS_tri h e] at e2; cases e2
theorem row_equal {x y : Str} (hx : isNameB x = true) (hy : isNameB y = true) (h : x ≠ y) : rowL [if ltS y x = true then y else x, if ltS x y = true then y else x, "equal"] = true := by
  show (_ && _ && (if ("equal" : Str) = "equal" then _ else _)) = true
  rw [if_pos rfl, mm_lt h]
  have h1 : isNameB (if ltS y x = true then y else x) = true := by split <;> assumption
  have h2 : isNameB (if ltS x y = true then y else x) = true := by split <;> assumption
  rw [h1, h2]; rfl
theorem row_over {x y : Str} (hx : isNameB x = true) (hy : isNameB y = true) (h : x ≠ y) : rowL [x, y, "over"] = true := by
  show (_ && _ && (if ("over" : Str) = "equal" then _ else _)) = true
  rw [if_neg (by decide +kernel), hx, hy, decide_eq_false h]
  decide +kernel
/-! a ring -/
def rgRow (xs : List Str) (k : Nat) : List Str := [at_ xs k, at_ xs ((k + 1) % xs.length), "over"]
def rgRows (xs : List Str) : List (List Str) := (List.range xs.length).map (rgRow xs)
theorem at_name {xs : List Str} {i : Nat} (h : ∀ x ∈ xs, isNameB x = true) (hi : i < xs.length) : isNameB (at_ xs i) = true := by
  unfold at_
  rw [show xs.getD i "" = xs[i] by simp [List.getD, hi]]
  exact h _ (List.getElem_mem hi)
theorem ring_rows {xs : List Str} (nd : xs.Nodup) (hn : ∀ x ∈ xs, isNameB x = true) (h3 : 3 ≤ xs.length) : (∀ r ∈ rgRows xs, rowL r = true) ∧ ((rgRows xs).map tieL).Nodup := by
  have key : ∀ k, k < xs.length → (k + 1) % xs.length < xs.length ∧ (k + 1) % xs.length ≠ k := fun k hk => by
    refine ⟨Nat.mod_lt _ (by omega), ?_⟩
    by_cases e : k + 1 = xs.length
    · rw [e, Nat.mod_self]; omega
    · rw [Nat.mod_eq_of_lt (by omega)]; omega
  constructor
  · intro r hr
    obtain ⟨k, hk, rfl⟩ := List.mem_map.mp hr
    have hk := List.mem_range.mp hk
    obtain ⟨h1, h2⟩ := key k hk
    exact row_over (at_name hn hk) (at_name hn h1) fun z => h2 (at_inj nd hk h1 z).symm
  · unfold rgRows
    rw [List.map_map]
    refine List.pairwise_map.mpr (List.Pairwise.imp_of_mem ?_ List.nodup_range)
    intro i j hi hj hij z
    have hi := List.mem_range.mp hi
    have hj := List.mem_range.mp hj
    obtain ⟨i1, i2⟩ := key i hi
    obtain ⟨j1, j2⟩ := key j hj
    have z' : pr (at_ xs i) (at_ xs ((i + 1) % xs.length)) = pr (at_ xs j) (at_ xs ((j + 1) % xs.length)) := z
    rcases pr_inj z' with ⟨e1, _⟩ | ⟨e1, e2⟩
    · exact hij (at_inj nd hi hj e1)
    · have e1 := at_inj nd hi j1 e1
      have e2 := at_inj nd i1 hj e2
      by_cases c1 : i + 1 = xs.length
      · rw [c1, Nat.mod_self] at e2
        subst e2
        rw [Nat.mod_eq_of_lt (by omega)] at e1
        omega
      · rw [Nat.mod_eq_of_lt (by omega)] at e2
        by_cases c2 : j + 1 = xs.length
        · rw [c2, Nat.mod_self] at e1; omega
        · rw [Nat.mod_eq_of_lt (by omega)] at e1; omega
/-! spoilt -/
theorem kin_dup {rs ls : List (List Str)} {r : List Str} (hr : r ∈ rs) (hp : ls.Perm (rs ++ [r])) : kinB (.tup (ls.map tD)) = false := by
  refine kin_norise ?_
  rw [map_strs]
  cases e : riseB ls with
  | false => rfl
  | true =>
    have h := hp.nodup_iff.mp (pw_nodup (rise_pw e))
    exact absurd rfl ((List.nodup_append.mp h).2.2 r hr r (List.mem_singleton.mpr rfl))
theorem kin_dup' {rs : List (List Str)} {r : List Str} (hr : r ∈ rs) : kinB (.tup (rs.map tD ++ [tD r])) = false := by
  have := kin_dup (ls := rs ++ [r]) hr (List.Perm.refl _)
  rwa [List.map_append] at this
theorem kin_tie {rs ls : List (List Str)} {r r2 : List Str} (hr : r ∈ rs) (ht : tieL r2 = tieL r) (hp : ls.Perm (rs ++ [r2])) : kinB (.tup (ls.map tD)) = false := by
  refine kin_twice ?_
  rw [map_ties]
  intro h
  have h := (hp.map tieL).nodup_iff.mp h
  rw [List.map_append] at h
  exact absurd ht.symm ((List.nodup_append.mp h).2.2 (tieL r) (List.mem_map.mpr ⟨r, hr, rfl⟩) (tieL r2) (List.mem_singleton.mpr rfl))
theorem kin_rev {rs : List (List Str)} (k : KinOk rs) (h : 1 < rs.length) : kinB (.tup (rs.map tD).reverse) = false := by
  refine kin_norise ?_
  rw [List.map_reverse, map_strs]
  cases e : riseB rs.reverse with
  | false => rfl
  | true =>
    have h1 := List.pairwise_reverse.mp (rise_pw e)
    have h2 := k.rise
    match rs, h with
    | a :: b :: t, _ =>
      have e1 := (List.pairwise_cons.mp h1).1 b (by simp)
      have e2 := (List.pairwise_cons.mp h2).1 b (by simp)
      rw [ltL_asy' e2] at e1; cases e1
theorem kin_put {ds es : List D} {d : D} (e : rowD d = false) : kinB (.tup (ds ++ [d] ++ es)) = false := kin_bad (d := d) (by simp) e
/-! rows that are none -/
def lastW (w : Str) : Str := if w = "over" then "equal" else "over"
def badRows (a b w : Str) : List D :=
  [.tup [.str a, .str b], .tup [.str a, .str b, .str w, .str w], .tup [.str a, .str a, .str w], .tup [.str a, .str b, .str "under"], .tup [.str a, .str b, .non]] ++
  [.tup [.str "if", .str b, .str w], .tup [.str a, .str "", .str w], .tup [.str a, .str "abcdefghi", .str w], .tup [.str a, .str (b ++ "A"), .str w], .non] ++
  [.tup [.non, .str b, .str w], .tup [.bl true, .str b, .str w], .oth, .tup [.str a, .str b, .oth], .str a, .tup []] ++
  [.tup [.str a, .tup [.str b], .str w], .tup [.str (if ltS a b = true then b else a), .str (if ltS b a = true then b else a), .str "equal"], .tup [.str a, .str b, .str (upS (lastW w))]]
theorem row_bad1 {a b w : Str} (h : isNameB a = false ∨ isNameB b = false) : rowD (.tup [.str a, .str b, .str w]) = false := by
  show (isNameB a && isNameB b && _) = false
  rcases h with h | h <;> rw [h] <;> simp
theorem row_bad2 {a b w : Str} (h1 : w ≠ "equal") (h2 : w ≠ "over") : rowD (.tup [.str a, .str b, .str w]) = false := by
  show (isNameB a && isNameB b && (if w = "equal" then _ else (decide (w = "over") && _))) = false
  rw [if_neg h1, decide_eq_false h2]; simp
theorem addA_bad (b : Str) : isNameB (b ++ "A") = false := by
  unfold isNameB
  have : (b ++ "A" : Str).cps.toList = b.cps.toList ++ [65] := Array.toList_append
  rw [this, List.all_append]
  have h : List.all [65] letterC = false := by decide
  rw [h]; simp
theorem bad_rows {a b w : Str} (h : rowL [a, b, w] = true) : ∀ d ∈ badRows a b w, rowD d = false := by
  obtain ⟨a', b', w', e, ha, hb, hne, hw⟩ := rowL_form h
  cases e
  unfold badRows
  intro d hd
  simp only [List.mem_append, List.mem_cons, List.not_mem_nil, or_false] at hd
  rcases hd with ((((rfl | rfl | rfl | rfl | rfl) | (rfl | rfl | rfl | rfl | rfl)) | (rfl | rfl | rfl | rfl | rfl | rfl))) | (rfl | rfl | rfl)
  · rfl
  · rfl
  · show (isNameB a && isNameB a && (if w = "equal" then ltS a a else (decide (w = "over") && !decide (a = a)))) = false
    rw [ltS_irr, decide_eq_true rfl]; simp
  · exact row_bad2 (by decide +kernel) (by decide +kernel)
  · rfl
  · exact row_bad1 (.inl (by decide +kernel))
  · exact row_bad1 (.inr (by decide +kernel))
  · exact row_bad1 (.inr (by decide +kernel))
  · exact row_bad1 (.inr (addA_bad b))
  · rfl
  · rfl
  · rfl
  · rfl
  · rfl
  · rfl
  · rfl
  · rfl
  · show (_ && _ && (if ("equal" : Str) = "equal" then ltS _ _ else _)) = false
    rw [if_pos rfl]
    have : ltS (if ltS a b = true then b else a) (if ltS b a = true then b else a) = false := by
      cases e : ltS a b with
      | true => rw [ltS_asy e, if_pos rfl, if_neg (by decide)]; exact ltS_asy e
      | false => rw [ltS_tri hne e, if_neg (by decide), if_pos rfl]; exact e
    rw [this]; simp
  · unfold lastW
    split
    · rw [up_equal]; exact row_bad2 (by decide +kernel) (by decide +kernel)
    · rw [up_over]; exact row_bad2 (by decide +kernel) (by decide +kernel)
/-! pairs of numbers -/
def idxD (q : Nat × Nat) : D := .tup [.int (q.1 : Int), .int (q.2 : Int)]
theorem list_of {α β : Type} {f : α → β} {P : α → Prop} : ∀ {ds : List β}, (∀ d ∈ ds, ∃ q, d = f q ∧ P q) → ∃ ps : List α, ds = ps.map f ∧ ∀ q ∈ ps, P q
  | [], _ => ⟨[], rfl, fun _ z => nomatch z⟩
  | d :: ds, h => by
    obtain ⟨q, rfl, hq⟩ := h d List.mem_cons_self
    obtain ⟨ps, rfl, hp⟩ := list_of fun d hd => h d (List.mem_cons_of_mem _ hd)
    exact ⟨q :: ps, rfl, fun x hx => (List.mem_cons.mp hx).elim (fun e => by rw [e]; exact hq) (hp x)⟩
theorem idx_eqv {q r : Nat × Nat} : (pyD (idxD q)).eqv (pyD (idxD r)) = decide (q = r) := by
  unfold idxD
  rw [pyD, pyD, pyL, pyL, pyL, pyL, pyL, pyL, pyD, pyD, pyD, pyD, PyData.eqv, PyData.eqvAll, PyData.eqvAll, PyData.eqvAll, PyData.eqv, PyData.eqv]
  by_cases h : q = r
  · subst h; simp
  · rw [decide_eq_false h]
    by_cases h1 : q.1 = r.1
    · have h2 : q.2 ≠ r.2 := fun z => h (Prod.ext h1 z)
      have : ((q.2 : Int) == (r.2 : Int)) = false := by simp; omega
      rw [this]; simp
    · have : ((q.1 : Int) == (r.1 : Int)) = false := by simp; omega
      rw [this]; simp
theorem idx_in {ps : List (Nat × Nat)} {q : Nat × Nat} : ((ps.map fun r => pyD (idxD r)).any fun y => y.eqv (pyD (idxD q))) = decide (q ∈ ps) := by
  rw [List.any_map]
  by_cases h : q ∈ ps
  · rw [decide_eq_true h]
    exact List.any_eq_true.mpr ⟨q, h, by show (pyD (idxD q)).eqv (pyD (idxD q)) = true; rw [idx_eqv, decide_eq_true rfl]⟩
  · rw [decide_eq_false h]
    refine List.any_eq_false.mpr fun r hr z => ?_
    have z' : (pyD (idxD r)).eqv (pyD (idxD q)) = true := z
    rw [idx_eqv] at z'
    exact h (of_decide_eq_true z' ▸ hr)
theorem idx_ok (q : Nat × Nat) : okD (idxD q) = true := by
  unfold idxD
  rw [okD, okL, okL, okL, okD, okD]; rfl
theorem idx_depth (q : Nat × Nat) : (pyD (idxD q)).depth ≤ 60 := by
  unfold idxD
  rw [pyD, pyL, pyL, pyL, pyD, pyD, PyData.depth, PyData.depthAll, PyData.depthAll, PyData.depthAll, PyData.depth, PyData.depth]; decide
theorem tr_list {H : Hp} {l : Addr} {vs : List V} {ds : List D} (e : H l = some (.lst vs)) (r : RepL H vs ds) (h : ∀ d ∈ ds, okD d = true) : Tr H (.ref l) (.list (ds.map pyD)) := by
  refine .lst e (by rw [List.length_map]; exact r.1) fun i v d e1 e2 => ?_
  rw [List.getElem?_map] at e2
  cases e3 : ds[i]? with
  | none => rw [e3] at e2; cases e2
  | some d' => rw [e3] at e2; cases e2; exact tr_of (r.2 i v d' e1 e3) (h d' (List.mem_of_getElem? e3))
theorem comp_drawsP {J : It} {N : Nat} {Pw : Nat → V → Prop} {ok : Hp → Prop} {a : Addr} {m c : Int} {Pd : Nat → D → Prop} {H : Hp} {te : TE} {src : List (Option Nat)} {σ σr : L2.St} {Q : VK} (wk : Wk J N Pw ok) (hok : ∀ H', Keep a H H' → ok H') (hs : capt src σ = none :: σr) (hH : Hand H a m) (hN : N ≤ 900) (hc : 0 ≤ c)
    (he : ∀ (i : Nat) (x : V) (H1 : Hp) (Q1 : VK), i < N → Pw i x → Hand H1 a (m + c * i) → Keep a H H1 → (∀ v d H2, Rep H2 v d → Pd i d → Hand H2 a (m + c * i + c) → Keep a H1 H2 → Q1 v H2) → te (some x :: σr) H1 Q1)
    (q : ∀ l vs ds H', H l = none → H' l = some (.lst vs) → RepL H' vs ds → ds.length = N → (∀ i d, ds[i]? = some d → Pd i d) → Hand H' a (m + c * N) → Keep a H H' → Q (.ref l) H') : CompGo (gName 0) tYes te src σ Q J H := by
  refine comp_by wk (fun l i ys σ' H' => (∃ o, σ' = o :: σr) ∧ (∃ ds : List D, RepL H' ys ds ∧ ds.length = i ∧ ∀ j d, ds[j]? = some d → Pd j d) ∧ Hand H' a (m + c * i) ∧ Keep a H H') ?_ (fun _ _ _ _ _ _ p => hok _ p.2.2.2) ?_ ?_
  · exact fun l hl => ⟨⟨_, hs⟩, ⟨[], RepL.nil, rfl, fun j d z => by simp at z⟩, (hH.new hl).mono (by simp), Keep.new hl⟩
  · rintro l i y ys σ' H1 hl hi hy ⟨⟨o, rfl⟩, ⟨ds, hr, hl2, hp⟩, hH1, k1⟩ hl'
    have nl := hH.ne hl
    refine he i y H1 _ hi hy hH1 k1 fun v d H2 rv pd hH2 k2 => ?_
    have hl2' : H2 l = some (.lst ys) := k2 _ _ nl hl'
    have m2 : Mono H1 H2 := Mono.keep k2 hH1 hH2
    have m3 : Mono H2 (upd H2 l (.lst (ys ++ [v]))) := Mono.lset hl2'
    refine ⟨hl2', ?_, ⟨_, rfl⟩, ⟨ds ++ [d], ((hr.mono m2).append (.cons rv .nil)).mono m3, ?_, ?_⟩, (hH2.updNe nl).mono ?_, (k1.trans k2).updNew hl⟩
    · have := hr.1
      exact small1000 (by omega)
    · rw [List.length_append, hl2]; rfl
    · intro j e he
      by_cases hj : j < ds.length
      · rw [List.getElem?_append_left hj] at he
        exact hp j e he
      · rw [List.getElem?_append_right (by omega)] at he
        have hj2 : j = ds.length := by
          rcases Nat.lt_or_ge ds.length j with z | z
          · rw [List.getElem?_eq_none (by simp; omega)] at he; cases he
          · omega
        subst hj2
        simp at he
        subst he
        rw [hl2]; exact pd
    · rw [show ((i + 1 : Nat) : Int) = (i : Int) + 1 by omega, Int.mul_add, Int.mul_one]
      omega
  · rintro l ys σ' H1 hl ⟨⟨o, rfl⟩, ⟨ds, hr, hl2, hp⟩, hH1, k1⟩ hl'
    exact q l ys ds H1 hl hl' hr hl2 hp hH1 k1
end RW

set_option Elab.async false
set_option linter.all false
set_option maxRecDepth 100000
set_option maxHeartbeats 4000000
/-! displays of which only a property is known -/
namespace RW
open PySem PySem.Spec PyProof.Rows L2
def DspX (te : TE) (σ : L2.St) (H : Hp) (P : D → Prop) : Prop := ∀ (H1 : Hp) (Q : VK), Same H H1 → (∀ v d H2, Same H1 H2 → Rep H2 v d → P d → Q v H2) → te σ H1 Q
def DspXA (ta : TA) (σ : L2.St) (H : Hp) (P : D → Prop) (n : Nat) : Prop := ∀ (H1 : Hp) (Q : List V → Hp → Prop), Same H H1 → (∀ vs ds H2, Same H1 H2 → RepL H2 vs ds → ds.length = n → (∀ d ∈ ds, P d) → Q vs H2) → ta σ H1 Q
section
variable {te tf : TE} {ta : TA} {σ : L2.St} {H : Hp} {P P' : D → Prop} {d : D} {ds : List D} {n : Nat} {K : PySem.W.Frag}
theorem dx_of (h : Dsp te σ H d) (hp : P d) : DspX te σ H P := fun H1 Q s q => h H1 Q s fun v H2 s2 r => q v d H2 s2 r hp
theorem dx_mono (h : DspX te σ H P) (hp : ∀ d, P d → P' d) : DspX te σ H P' := fun H1 Q s q => h H1 Q s fun v d H2 s2 r p => q v d H2 s2 r (hp d p)
theorem dxa_nil : DspXA tNil σ H P 0 := fun H1 Q s q => q [] [] H1 (Same.refl _) RepL.nil rfl fun _ z => nomatch z
theorem dxa_cons (h : DspX te σ H P) (r : DspXA ta σ H P n) : DspXA (tCons te ta) σ H P (n + 1) := fun H1 Q s q =>
  h H1 _ s fun v d H2 s2 rv pv => r H2 _ (s.trans s2) fun vs ds H3 s3 rs hl hp => q (v :: vs) (d :: ds) H3 (s2.trans s3) (.cons (rv.same s3) rs) (by rw [List.length_cons, hl]) fun e he => (List.mem_cons.mp he).elim (fun z => by rw [z]; exact pv) (hp e)
/-- a list display -/
theorem lp_lst (h : DspXA ta σ H P n) (hn : n ≤ 900) {Q : VK} (q : ∀ l H2, Same H H2 → H l = none → LP P H2 l n → Q (.ref l) H2) : tLst ta σ H Q :=
  h H _ (Same.refl H) fun vs ds H2 s2 r hl hp => ⟨Nat.le_of_lt (small1000 (by have := r.1; omega)), fun p hp' => q p _ (s2.trans (Same.new hp')) (none_of_same s2 hp') ⟨vs, ds, upd_same, r.mono (.new hp'), by omega, hp⟩⟩
theorem LP.same {H' : Hp} {l : Addr} (h : LP P H l n) (s : Same H H') : LP P H' l n := let ⟨vs, ds, e, r, k, b⟩ := h; ⟨vs, ds, s _ _ e, r.mono (.of s), k, b⟩
theorem LP.cat {l1 l2 : Addr} {m : Nat} {Q : VK} (b1 : LP P H l1 m) (b2 : LP P H l2 n) (hm : m + n ≤ 900) (q : ∀ l H', H l = none → Same H H' → LP P H' l (m + n) → Q (.ref l) H') : rCat (.ref l1) (.ref l2) H Q := by
  obtain ⟨vs, ds, e, r, k, b⟩ := b1
  obtain ⟨us, es, e', r', k', b'⟩ := b2
  have h1 := r.1
  have h2 := r'.1
  exact ⟨l1, l2, vs, us, rfl, rfl, e, e', Nat.le_of_lt (small1000 (by omega)), fun p hp => q p _ hp (Same.new hp) ⟨_, _, upd_same, (r.append r').mono (.new hp), by rw [List.length_append]; omega, List.forall_mem_append.mpr ⟨b, b'⟩⟩⟩
/-- a comprehension over data, a test of any answer, each item of a property -/
theorem comp_P {J : It} {vs : List V} {ok : Hp → Prop} {tc : TT} {src : List (Option Nat)} {σr : L2.St} {Q : VK} (wk : Wk J vs.length (fun i x => vs[i]? = some x) ok) (hok : ∀ H', Same H H' → ok H') (r : RepL H vs ds) (hl : ds.length ≤ 900) (e : capt src σ = none :: σr)
    (ht : ∀ x d H1 (Q1 : Bool → Hp → Prop), Same H H1 → Rep H1 x d → d ∈ ds → (∀ b H2, Same H1 H2 → Q1 b H2) → tc (some x :: σr) H1 Q1)
    (he : ∀ x d H1, Same H H1 → Rep H1 x d → d ∈ ds → DspX te (some x :: σr) H1 P)
    (q : ∀ l H', Same H H' → H l = none → LP P H' l ds.length → Q (.ref l) H') : CompGo (gName 0) tc te src σ Q J H := by
  refine comp_by wk (fun l i ys σ' H' => (∃ o, σ' = o :: σr) ∧ (∃ es, RepL H' ys es ∧ es.length ≤ i ∧ ∀ d ∈ es, P d) ∧ Same H H') ?_ (fun _ _ _ _ _ _ p => hok _ p.2.2) ?_ ?_
  · exact fun l hl => ⟨⟨_, e⟩, ⟨[], RepL.nil, Nat.le_refl _, fun _ z => nomatch z⟩, Same.new hl⟩
  · rintro l i y ys σ' H1 hl' hi hy ⟨⟨o, rfl⟩, ⟨es, re, el, ep⟩, s1⟩ hl1
    obtain ⟨d, hd, rd⟩ := r.get hy
    have hdm := List.mem_of_getElem? hd
    have hi9 : i < 900 := by have := r.1; omega
    refine ht y d H1 _ s1 (rd.same s1) hdm fun b H2 s2 => ?_
    cases b with
    | false => exact if_f rfl ⟨s2 _ _ hl1, ⟨_, rfl⟩, ⟨es, re.mono (.of s2), by omega, ep⟩, s1.trans s2⟩
    | true =>
      refine if_t rfl (he y d H2 (s1.trans s2) (rd.same (s1.trans s2)) hdm H2 _ (Same.refl _) fun v e3 H3 s3 r3 p3 => ?_)
      have hl3 := s3 _ _ (s2 _ _ hl1)
      refine ⟨hl3, small1000 (by have := re.1; omega), ⟨_, rfl⟩, ⟨es ++ [e3], ((re.mono (.of (s2.trans s3))).append (.cons r3 .nil)).mono (.lset hl3), by rw [List.length_append, List.length_singleton]; omega, fun x hx => ?_⟩, fun c o z => ?_⟩
      · rcases List.mem_append.mp hx with hx | hx
        · exact ep x hx
        · rw [List.mem_singleton.mp hx]; exact p3
      · rw [upd_ne (ne_of_none z hl')]
        exact s3 _ _ (s2 _ _ (s1 _ _ z))
  · rintro l ys σ' H1 hl' ⟨⟨o, rfl⟩, ⟨es, re, el, ep⟩, s1⟩ hl1
    exact q l H1 s1 hl' ⟨ys, es, hl1, re, by rw [← r.1]; exact el, ep⟩
end
end RW

set_option Elab.async false
set_option linter.all false
set_option maxRecDepth 100000
set_option maxHeartbeats 4000000
namespace K62
open PySem PySem.Spec PyProof.Rows L2
def top (i : Nat) : Stmt := PySem.Challenge.pw_restways_k62_kin_or_none.main.body.getD i (.Pass ⟨0, 0, 0, 0⟩)
abbrev s_is_name : Stmt := top 3
abbrev n_is_name : List Str := ["thing"]
abbrev p_is_name : List Str := ["thing"]
theorem c_is_name : FnScope n_is_name p_is_name (defScope s_is_name) := ⟨rfl, rfl, rfl, by decide +kernel, rfl, by decide +kernel, by decide +kernel⟩
def k_is_name_1 : Scope := { kind := .function, names := [(".0", .local), ("sign", .local)], isGenerator := false, isCoroutine := false, more := [] }
theorem o_is_name_1 : CompOk n_is_name (defScope s_is_name) ["sign"] [none] k_is_name_1 := ⟨rfl, by decide +kernel, by decide +kernel, by decide +kernel, by decide +kernel, rfl, by decide +kernel⟩
abbrev s_is_row : Stmt := top 5
abbrev n_is_row : List Str := ["thing", "fewest", "most"]
abbrev p_is_row : List Str := ["thing", "fewest", "most"]
theorem c_is_row : FnScope n_is_row p_is_row (defScope s_is_row) := ⟨rfl, rfl, rfl, by decide +kernel, rfl, by decide +kernel, by decide +kernel⟩
abbrev s_is_rising : Stmt := top 6
abbrev n_is_rising : List Str := ["things"]
abbrev p_is_rising : List Str := ["things"]
theorem c_is_rising : FnScope n_is_rising p_is_rising (defScope s_is_rising) := ⟨rfl, rfl, rfl, by decide +kernel, rfl, by decide +kernel, by decide +kernel⟩
def k_is_rising_1 : Scope := { kind := .function, names := [(".0", .local), ("k", .local), ("things", .free)], isGenerator := false, isCoroutine := false, more := [] }
theorem o_is_rising_1 : CompOk n_is_rising (defScope s_is_rising) ["k", "things"] [none, some 0] k_is_rising_1 := ⟨rfl, by decide +kernel, by decide +kernel, by decide +kernel, by decide +kernel, rfl, by decide +kernel⟩
abbrev s_is_kin_row : Stmt := top 8
abbrev n_is_kin_row : List Str := ["thing", "one", "other", "word"]
abbrev p_is_kin_row : List Str := ["thing"]
theorem c_is_kin_row : FnScope n_is_kin_row p_is_kin_row (defScope s_is_kin_row) := ⟨rfl, rfl, rfl, by decide +kernel, rfl, by decide +kernel, by decide +kernel⟩
abbrev s_ties_of : Stmt := top 9
abbrev n_ties_of : List Str := ["kin"]
abbrev p_ties_of : List Str := ["kin"]
theorem c_ties_of : FnScope n_ties_of p_ties_of (defScope s_ties_of) := ⟨rfl, rfl, rfl, by decide +kernel, rfl, by decide +kernel, by decide +kernel⟩
def k_ties_of_1 : Scope := { kind := .function, names := [(".0", .local), ("row", .local), ("tuple", .globalImplicit), ("sorted", .globalImplicit)], isGenerator := false, isCoroutine := false, more := [] }
theorem o_ties_of_1 : CompOk n_ties_of (defScope s_ties_of) ["row"] [none] k_ties_of_1 := ⟨rfl, by decide +kernel, by decide +kernel, by decide +kernel, by decide +kernel, rfl, by decide +kernel⟩
abbrev s_is_kin : Stmt := top 10
abbrev n_is_kin : List Str := ["thing"]
abbrev p_is_kin : List Str := ["thing"]
theorem c_is_kin : FnScope n_is_kin p_is_kin (defScope s_is_kin) := ⟨rfl, rfl, rfl, by decide +kernel, rfl, by decide +kernel, by decide +kernel⟩
def k_is_kin_1 : Scope := { kind := .function, names := [(".0", .local), ("row", .local), ("is_kin_row", .globalImplicit)], isGenerator := false, isCoroutine := false, more := [] }
theorem o_is_kin_1 : CompOk n_is_kin (defScope s_is_kin) ["row"] [none] k_is_kin_1 := ⟨rfl, by decide +kernel, by decide +kernel, by decide +kernel, by decide +kernel, rfl, by decide +kernel⟩
abbrev s__law_hand : Stmt := top 12
abbrev n__law_hand : List Str := ["_law_script", "_law_k", "_law_cell"]
abbrev p__law_hand : List Str := ["_law_script", "_law_k"]
theorem c__law_hand : FnScope n__law_hand p__law_hand (defScope s__law_hand) := ⟨rfl, rfl, rfl, by decide +kernel, rfl, by decide +kernel, by decide +kernel⟩
abbrev s__law_take : Stmt := top 13
abbrev n__law_take : List Str := ["_law_hand_here", "_law_many", "_law_digit", "_law_turn", "_law_mixed", "_law_more"]
abbrev p__law_take : List Str := ["_law_hand_here", "_law_many"]
theorem c__law_take : FnScope n__law_take p__law_take (defScope s__law_take) := ⟨rfl, rfl, rfl, by decide +kernel, rfl, by decide +kernel, by decide +kernel⟩
abbrev s__law_pick : Stmt := top 14
abbrev n__law_pick : List Str := ["_law_hand_here", "_law_some"]
abbrev p__law_pick : List Str := ["_law_hand_here", "_law_some"]
theorem c__law_pick : FnScope n__law_pick p__law_pick (defScope s__law_pick) := ⟨rfl, rfl, rfl, by decide +kernel, rfl, by decide +kernel, by decide +kernel⟩
abbrev s__law_names : Stmt := top 15
abbrev n__law_names : List Str := ["_law_hand_here", "_law_many", "_law_letters", "_law_first", "_law_step", "_law_names_here", "_law_kept", "_law_spot", "_law_k"]
abbrev p__law_names : List Str := ["_law_hand_here", "_law_many"]
theorem c__law_names : FnScope n__law_names p__law_names (defScope s__law_names) := ⟨rfl, rfl, rfl, by decide +kernel, rfl, by decide +kernel, by decide +kernel⟩
def k__law_names_1 : Scope := { kind := .function, names := [(".0", .local), ("_law_k", .local), ("_law_first", .free), ("_law_letters", .free), ("_law_step", .free)], isGenerator := false, isCoroutine := false, more := [] }
theorem o__law_names_1 : CompOk n__law_names (defScope s__law_names) ["_law_k", "_law_first", "_law_letters", "_law_step"] [none, some 3, some 2, some 4] k__law_names_1 := ⟨rfl, by decide +kernel, by decide +kernel, by decide +kernel, by decide +kernel, rfl, by decide +kernel⟩
abbrev s__law_kin : Stmt := top 16
abbrev n__law_kin : List Str := ["_law_hand_here", "_law_houses", "_law_more", "_law_pairs", "_law_k", "_law_a", "_law_b", "_law_rows", "_law_pair", "_law_one", "_law_other"]
abbrev p__law_kin : List Str := ["_law_hand_here", "_law_houses", "_law_more"]
theorem c__law_kin : FnScope n__law_kin p__law_kin (defScope s__law_kin) := ⟨rfl, rfl, rfl, by decide +kernel, rfl, by decide +kernel, by decide +kernel⟩
def k__law_kin_1 : Scope := { kind := .function, names := [(".0", .local), ("_law_k", .local), ("_law_take", .globalImplicit), ("_law_hand_here", .free)], isGenerator := false, isCoroutine := false, more := [] }
theorem o__law_kin_1 : CompOk n__law_kin (defScope s__law_kin) ["_law_k", "_law_hand_here"] [none, some 0] k__law_kin_1 := ⟨rfl, by decide +kernel, by decide +kernel, by decide +kernel, by decide +kernel, rfl, by decide +kernel⟩
abbrev s__law_put : Stmt := top 17
abbrev n__law_put : List Str := ["_law_kin_here", "_law_at", "_law_some"]
abbrev p__law_put : List Str := ["_law_kin_here", "_law_at", "_law_some"]
theorem c__law_put : FnScope n__law_put p__law_put (defScope s__law_put) := ⟨rfl, rfl, rfl, by decide +kernel, rfl, by decide +kernel, by decide +kernel⟩
abbrev s__law_bad_rows : Stmt := top 18
abbrev n__law_bad_rows : List Str := ["_law_row", "_law_one", "_law_other", "_law_word", "_law_last", "_law_some"]
abbrev p__law_bad_rows : List Str := ["_law_row"]
theorem c__law_bad_rows : FnScope n__law_bad_rows p__law_bad_rows (defScope s__law_bad_rows) := ⟨rfl, rfl, rfl, by decide +kernel, rfl, by decide +kernel, by decide +kernel⟩
abbrev s__law_spoilt : Stmt := top 19
abbrev n__law_spoilt : List Str := ["_law_hand_here", "_law_kin_here", "_law_at", "_law_one", "_law_other", "_law_word", "_law_found", "_law_more"]
abbrev p__law_spoilt : List Str := ["_law_hand_here", "_law_kin_here"]
theorem c__law_spoilt : FnScope n__law_spoilt p__law_spoilt (defScope s__law_spoilt) := ⟨rfl, rfl, rfl, by decide +kernel, rfl, by decide +kernel, by decide +kernel⟩
def k__law_spoilt_1 : Scope := { kind := .function, names := [(".0", .local), ("_law_row", .local), ("_law_put", .globalImplicit), ("_law_at", .free), ("_law_kin_here", .free)], isGenerator := false, isCoroutine := false, more := [] }
theorem o__law_spoilt_1 : CompOk n__law_spoilt (defScope s__law_spoilt) ["_law_row", "_law_at", "_law_kin_here"] [none, some 2, some 1] k__law_spoilt_1 := ⟨rfl, by decide +kernel, by decide +kernel, by decide +kernel, by decide +kernel, rfl, by decide +kernel⟩
def k__law_spoilt_2 : Scope := { kind := .function, names := [(".0", .local), ("_law_row", .local), ("tuple", .globalImplicit), ("sorted", .globalImplicit), ("_law_kin_here", .free)], isGenerator := false, isCoroutine := false, more := [] }
theorem o__law_spoilt_2 : CompOk n__law_spoilt (defScope s__law_spoilt) ["_law_row", "_law_kin_here"] [none, some 1] k__law_spoilt_2 := ⟨rfl, by decide +kernel, by decide +kernel, by decide +kernel, by decide +kernel, rfl, by decide +kernel⟩
abbrev s__law_ring : Stmt := top 20
abbrev n__law_ring : List Str := ["_law_hand_here", "_law_houses", "_law_some"]
abbrev p__law_ring : List Str := ["_law_hand_here", "_law_houses"]
theorem c__law_ring : FnScope n__law_ring p__law_ring (defScope s__law_ring) := ⟨rfl, rfl, rfl, by decide +kernel, rfl, by decide +kernel, by decide +kernel⟩
def k__law_ring_1 : Scope := { kind := .function, names := [(".0", .local), ("_law_one", .local), ("_law_other", .local)], isGenerator := false, isCoroutine := false, more := [] }
theorem o__law_ring_1 : CompOk n__law_ring (defScope s__law_ring) ["_law_one", "_law_other"] [none, none] k__law_ring_1 := ⟨rfl, by decide +kernel, by decide +kernel, by decide +kernel, by decide +kernel, rfl, by decide +kernel⟩
abbrev s_law : Stmt := top 21
abbrev n_law : List Str := ["_law_script", "_law_odd", "_law_k", "_law_hand_here", "_law_houses", "_law_kin_here", "_law_thing"]
abbrev p_law : List Str := ["_law_script"]
theorem c_law : FnScope n_law p_law (defScope s_law) := ⟨rfl, rfl, rfl, by decide +kernel, rfl, by decide +kernel, by decide +kernel⟩
set_option genInjectivity false in
set_option genSizeOfSpec false in
set_option genSizeOf false in
structure Ev (K : PySem.W.Frag) (mg : Str → Option Value) where
  a_is_name : Addr
  d_is_name : FuncData
  is_name : RW.At K mg "is_name" s_is_name p_is_name a_is_name d_is_name
  a_is_row : Addr
  d_is_row : FuncData
  is_row : RW.At K mg "is_row" s_is_row p_is_row a_is_row d_is_row
  a_is_rising : Addr
  d_is_rising : FuncData
  is_rising : RW.At K mg "is_rising" s_is_rising p_is_rising a_is_rising d_is_rising
  a_is_kin_row : Addr
  d_is_kin_row : FuncData
  is_kin_row : RW.At K mg "is_kin_row" s_is_kin_row p_is_kin_row a_is_kin_row d_is_kin_row
  a_ties_of : Addr
  d_ties_of : FuncData
  ties_of : RW.At K mg "ties_of" s_ties_of p_ties_of a_ties_of d_ties_of
  a_is_kin : Addr
  d_is_kin : FuncData
  is_kin : RW.At K mg "is_kin" s_is_kin p_is_kin a_is_kin d_is_kin
  a__law_hand : Addr
  d__law_hand : FuncData
  _law_hand : RW.At K mg "_law_hand" s__law_hand p__law_hand a__law_hand d__law_hand
  a__law_take : Addr
  d__law_take : FuncData
  _law_take : RW.At K mg "_law_take" s__law_take p__law_take a__law_take d__law_take
  a__law_pick : Addr
  d__law_pick : FuncData
  _law_pick : RW.At K mg "_law_pick" s__law_pick p__law_pick a__law_pick d__law_pick
  a__law_names : Addr
  d__law_names : FuncData
  _law_names : RW.At K mg "_law_names" s__law_names p__law_names a__law_names d__law_names
  a__law_kin : Addr
  d__law_kin : FuncData
  _law_kin : RW.At K mg "_law_kin" s__law_kin p__law_kin a__law_kin d__law_kin
  a__law_put : Addr
  d__law_put : FuncData
  _law_put : RW.At K mg "_law_put" s__law_put p__law_put a__law_put d__law_put
  a__law_bad_rows : Addr
  d__law_bad_rows : FuncData
  _law_bad_rows : RW.At K mg "_law_bad_rows" s__law_bad_rows p__law_bad_rows a__law_bad_rows d__law_bad_rows
  a__law_spoilt : Addr
  d__law_spoilt : FuncData
  _law_spoilt : RW.At K mg "_law_spoilt" s__law_spoilt p__law_spoilt a__law_spoilt d__law_spoilt
  a__law_ring : Addr
  d__law_ring : FuncData
  _law_ring : RW.At K mg "_law_ring" s__law_ring p__law_ring a__law_ring d__law_ring
  a_law : Addr
  d_law : FuncData
  law : RW.At K mg "law" s_law p_law a_law d_law
  v_LONGEST : Value
  m_LONGEST : mg "LONGEST" = some v_LONGEST
  r_LONGEST : RelV (.int 8) v_LONGEST
  a_TAKEN : Addr
  m_TAKEN : mg "TAKEN" = some (.ref a_TAKEN)
  t_TAKEN : ∀ H, SqT K H a_TAKEN [.str "if", .str "and", .str "not", .str "never"]
  isinstance : mg "isinstance" = none
  str : mg "str" = none
  len : mg "len" = none
  all : mg "all" = none
  int : mg "int" = none
  tuple : mg "tuple" = none
  range : mg "range" = none
  max : mg "max" = none
  min : mg "min" = none
  sorted : mg "sorted" = none
  list : mg "list" = none
  enumerate : mg "enumerate" = none
  zip : mg "zip" = none
end K62

set_option Elab.async false
set_option linter.all false
set_option maxRecDepth 100000
set_option maxHeartbeats 4000000
namespace K62
open PySem PySem.Spec PyProof.Rows L2 RW
local macro_rules | `(tactic| walk_at "cond") => `(tactic| first | assumption | decide | omega | exact few rfl | exact .inl ⟨by decide, by decide⟩ | exact .inr ⟨by decide, by decide⟩ | exact .inl ⟨by omega, by omega⟩ | exact .inr ⟨by omega, by omega⟩ | exact ⟨by omega, by omega⟩ | exact ⟨by assumption, by assumption⟩ | exact ⟨by decide, by decide, by decide⟩ | exact .inr ⟨by split <;> decide, by split <;> decide⟩)
local macro_rules | `(tactic| walk_at "rd") => `(tactic| first | with_reducible_and_instances refine ⟨_, rfl, ?_⟩ | refine ⟨_, rfl, ?_⟩ | refine ⟨_, _, rfl, rfl, ?_⟩ | refine ⟨_, _, _, _, rfl, rfl, SqL.of (by assumption), rfl, ?_⟩ | refine ⟨_, _, _, _, rfl, rfl, (by assumption), rfl, ?_⟩ | refine .inl ⟨_, rfl, ?_⟩ | refine .inr ⟨_, rfl, ?_⟩ | refine .inl ⟨_, _, rfl, .inl (by assumption), ?_⟩ | refine ⟨(by walk_at "cond"), ?_⟩)
local macro_rules | `(tactic| walk_at "dsp") => `(tactic| repeat' (first | exact dsp_str (by decide) | exact dsp_int | exact dsp_bl | exact dsp_non | exact dsp_neg | exact dspA_nil | exact dsp_dnew | exact dsp_disp rfl | exact dsp_var rfl (by assumption) | refine dspA_cons ?_ ?_ | refine dsp_tup ?_ ?_ | refine dsp_lst' ?_ | refine n_cons ?_ ?_ | exact n_nil | exact v_c | exact v_var rfl | refine v_tup ?_ | refine dspl_lst ?_ ?_ | refine dspl_cat ?_ ?_ ?_ | exact dspl_var rfl (by assumption) (by assumption) | exact Nat.le_of_ble_eq_true rfl))
local macro_rules | `(tactic| walk_at "each") => `(tactic| repeat' (first | exact forall_nil | refine List.forall_mem_append.mpr ⟨?_, ?_⟩ | refine List.forall_mem_cons.mpr ⟨?_, ?_⟩))
section
variable {P : Program} {w : World} {K : PySem.W.Frag} {mg : Str → Option Value} {base : Heap}
theorem ok_is_name (Y : Ev K mg) : FnOk P w K mg base CX0 1 Y.a_is_name Y.d_is_name p_is_name (spAny isNameD) := by
  refine Y.is_name.fn.okQ c_is_name (fun vs H Q E h => ?_) (fun cdv A outer s H vs Q E hr h => ?_)
  · obtain ⟨v, d, rfl, _⟩ := h; rfl
  · obtain ⟨v, d, rfl, hd, q⟩ := h
    refine ⟨_, (b_cons (s_if (t_w (w_or (t_not (t_val (q_callB call_isi Y.isinstance bt_isinstance (a_cons (qv 0) (a_cons (q_ty Y.str bt_str) a_nil))))) (w_or1 (t_not (t_chain op_le op_le q_int (q_callB call_len2 Y.len bt_len (a_cons (qv 0) a_nil)) (q_glob Y.m_LONGEST Y.r_LONGEST)))))) (b_one (s_ret q_bl)) b_nil)
      (b_one (s_ret (q_and (q_callB (call_allB rfl) Y.all bt_all (a_cons (q_comp (src := [none]) o_is_name_1 rfl rfl (i_str (qv 0)) (fun _ _ _ _ _ => (g_name 0 o_is_name_1.nd)) (fun _ _ _ _ _ => f_nil) (fun _ _ _ _ _ => (q_chain op_le_str op_le_str q_str (qv 0) q_str))) a_nil)) (q_one (q_cmp op_notIn_seq (qv 0) (q_glob (v := .ref Y.a_TAKEN) Y.m_TAKEN rfl))))))), ?_⟩
    obtain ⟨t, ht, _, _, _, h4⟩ := hd.isi (K := K)
    refine ⟨_, rfl, _, _, _, _, rfl, ht, h4, _, rfl, ?_⟩
    cases hd with
    | str x hx =>
      have hz : x.length ≤ sizeLine := Nat.le_of_lt (small1000 hx)
      refine ⟨_, rfl, .inr ⟨x, rfl, hz, _, _, rfl, rfl, _, rfl, ?_⟩⟩
      refine ite2 (fun h1 => ?_) (fun h1 => ?_)
      · have h1' : 1 ≤ x.length := by
          have := of_decide_eq_true h1
          omega
        refine ⟨_, _, rfl, rfl, _, rfl, ?_⟩
        cases h8 : decide ((x.length : Int) ≤ 8) with
        | false =>
          have e : isNameB x = false := by
            have h8' := of_decide_eq_false h8
            have : decide (x.length ≤ 8) = false := decide_eq_false (by omega)
            unfold isNameB
            rw [this]
            simp
          have q := q H (Same.refl H)
          rw [nameD_eq] at q
          rw [e] at q
          exact q
        | true =>
          have h8' : x.length ≤ 8 := by
            have := of_decide_eq_true h8
            omega
          refine ⟨_, rfl, x, rfl, ?_⟩
          refine comp_by wk_str (fun l i ys σ' H' => (∃ o, σ' = [o]) ∧ ys = (x.cps.toList.take i).map (fun c => V.bl (letterC c)) ∧ H' = upd H l (.lst ys)) ?_ (fun _ _ _ _ _ _ _ => trivial) ?_ ?_
          · exact fun l hl => ⟨⟨_, rfl⟩, rfl, rfl⟩
          · rintro l i y ys σ' H' hl hi ⟨c, hc, rfl⟩ ⟨⟨o, rfl⟩, rfl, rfl⟩ hl'
            repeat walk_at "rd"
            have hc' : x.cps.toList[i]? = some c := by simpa using hc
            have tk : (x.cps.toList.take i).map (fun c => V.bl (letterC c)) ++ [V.bl (letterC c)] = (x.cps.toList.take (i + 1)).map (fun c => V.bl (letterC c)) := by
              rw [List.take_add_one, hc']
              simp
            have ll : ((x.cps.toList.take i).map (fun c => V.bl (letterC c))).length < sizeLine := Nat.lt_of_le_of_lt (by rw [List.length_map, List.length_take]; omega) (small1000 (n := 8) (by decide))
            rw [lt_a]
            refine ite2 (fun ha => ⟨_, _, rfl, rfl, hl', ll, ⟨_, rfl⟩, ?_, upd_upd⟩) (fun ha => ⟨hl', ll, ⟨_, rfl⟩, ?_, upd_upd⟩)
            · rw [lt_z, ← tk]
              congr 2
              unfold letterC
              have ha' : ¬ c < 97 := by simpa using ha
              by_cases hq : 122 < c
              · rw [decide_eq_true hq, decide_eq_false (show ¬ c ≤ 122 by omega)]; simp
              · rw [decide_eq_false hq, decide_eq_true (show c ≤ 122 by omega), decide_eq_true (show 97 ≤ c by omega)]; rfl
            · rw [← tk]
              congr 2
              unfold letterC
              have ha' : c < 97 := by simpa using ha
              rw [decide_eq_false (show ¬ 97 ≤ c by omega)]; rfl
          · rintro l ys σ' H' hl ⟨⟨o, rfl⟩, rfl, rfl⟩ hl'
            have tk : (x.cps.toList.take x.length).map (fun c => V.bl (letterC c)) = (x.cps.toList.map letterC).map V.bl := by
              rw [List.take_of_length_le (by simp [Str.length]), List.map_map]
              rfl
            rw [tk] at hl'
            rw [tk]
            refine ⟨l, _, rfl, SqL.of hl', _, rfl, ?_⟩
            have sm : Same H (upd H l (.lst ((x.cps.toList.map letterC).map V.bl))) := Same.new hl
            have ea : (x.cps.toList.map letterC).all id = x.cps.toList.all letterC := by rw [List.all_map]; rfl
            rw [ea]
            refine ite2 (fun hA => ?_) (fun hA => ?_)
            · refine ⟨_, rfl, Y.a_TAKEN, _, rfl, .inr (Y.t_TAKEN _), rfl, rfl, ?_⟩
              have e : isNameB x = !inV (.str x) (takenL.map V.str) := by
                unfold isNameB inV
                rw [hA, decide_eq_true h1', decide_eq_true h8', List.any_map]
                simp only [Bool.true_and]
                congr 2
              have q := q _ sm
              rw [nameD_eq] at q
              rw [e] at q
              exact q
            · have e : isNameB x = false := by
                unfold isNameB
                have : x.cps.toList.all letterC = false := by simpa using hA
                rw [this]
                simp
              have q := q _ sm
              rw [nameD_eq] at q
              rw [e] at q
              exact q
      · have e : isNameB x = false := by
          have h1' : ¬ (1 : Int) ≤ (x.length : Int) := fun z => h1 (decide_eq_true z)
          have : decide (1 ≤ x.length) = false := decide_eq_false (by omega)
          unfold isNameB
          rw [this]
          simp
        have q := q H (Same.refl H)
        rw [nameD_eq] at q
        rw [e] at q
        exact ⟨_, rfl, q⟩
    | _ => exact q H (Same.refl H)
end
end K62

set_option Elab.async false
set_option linter.all false
set_option maxRecDepth 100000
set_option maxHeartbeats 4000000
namespace K62
open PySem PySem.Spec PyProof.Rows L2 RW
local macro_rules | `(tactic| walk_at "cond") => `(tactic| first | assumption | decide | omega | exact few rfl | exact .inl ⟨by decide, by decide⟩ | exact .inr ⟨by decide, by decide⟩ | exact .inl ⟨by omega, by omega⟩ | exact .inr ⟨by omega, by omega⟩ | exact ⟨by omega, by omega⟩ | exact ⟨by assumption, by assumption⟩ | exact ⟨by decide, by decide, by decide⟩ | exact .inr ⟨by split <;> decide, by split <;> decide⟩)
local macro_rules | `(tactic| walk_at "rd") => `(tactic| first | with_reducible_and_instances refine ⟨_, rfl, ?_⟩ | refine ⟨_, rfl, ?_⟩ | refine ⟨_, _, rfl, rfl, ?_⟩ | refine ⟨_, _, _, _, rfl, rfl, SqL.of (by assumption), rfl, ?_⟩ | refine ⟨_, _, _, _, rfl, rfl, (by assumption), rfl, ?_⟩ | refine .inl ⟨_, rfl, ?_⟩ | refine .inr ⟨_, rfl, ?_⟩ | refine .inl ⟨_, _, rfl, .inl (by assumption), ?_⟩ | refine ⟨(by walk_at "cond"), ?_⟩)
local macro_rules | `(tactic| walk_at "dsp") => `(tactic| repeat' (first | exact dsp_str (by decide) | exact dsp_int | exact dsp_bl | exact dsp_non | exact dsp_neg | exact dspA_nil | exact dsp_dnew | exact dsp_disp rfl | exact dsp_var rfl (by assumption) | refine dspA_cons ?_ ?_ | refine dsp_tup ?_ ?_ | refine dsp_lst' ?_ | refine n_cons ?_ ?_ | exact n_nil | exact v_c | exact v_var rfl | refine v_tup ?_ | refine dspl_lst ?_ ?_ | refine dspl_cat ?_ ?_ ?_ | exact dspl_var rfl (by assumption) (by assumption) | exact Nat.le_of_ble_eq_true rfl))
local macro_rules | `(tactic| walk_at "each") => `(tactic| repeat' (first | exact forall_nil | refine List.forall_mem_append.mpr ⟨?_, ?_⟩ | refine List.forall_mem_cons.mpr ⟨?_, ?_⟩))
section
variable {P : Program} {w : World} {K : PySem.W.Frag} {mg : Str → Option Value} {base : Heap}
def spRow : Sp := fun vs H Q _ => ∃ v d lo hi, vs = [v, .int lo, .int hi] ∧ Rep H v d ∧ ∀ H', Same H H' → Q (.bl (isRowB d lo hi)) H'
theorem ok_is_row (Y : Ev K mg) : FnOk P w K mg base CX0 1 Y.a_is_row Y.d_is_row p_is_row spRow := by
  refine Y.is_row.fn.okQ c_is_row (fun vs H Q E h => ?_) (fun cdv A outer s H vs Q E hr h => ?_)
  · obtain ⟨v, d, lo, hi, rfl, _⟩ := h; rfl
  · obtain ⟨v, d, lo, hi, rfl, hd, q⟩ := h
    have q := q H (Same.refl H)
    obtain ⟨t, ht, h1, h2, h3, h4⟩ := hd.isi (K := K)
    refine ⟨_, (b_one (s_ret (q_and (q_callB call_isi Y.isinstance bt_isinstance (a_cons (qv 0) (a_cons (q_ty Y.tuple bt_tuple) a_nil))) (q_one (q_chain op_le op_le (qv 1) (q_callB call_len2 Y.len bt_len (a_cons (qv 0) a_nil)) (qv 2)))))), ?_⟩
    refine ⟨_, rfl, _, _, _, _, rfl, ht, h1, _, rfl, ite2 (fun e => ?_) (fun e => ?_)⟩
    · cases hd with
      | @tup p vs ds hp l b r =>
        refine ⟨_, rfl, _, rfl, .inl ⟨p, vs, rfl, .inr (.inl (.inl hp)), _, _, rfl, rfl, _, rfl, ite2 (fun e1 => ?_) (fun e1 => ?_)⟩⟩
        · refine ⟨_, rfl, _, _, rfl, rfl, ?_⟩
          have : isRowB (.tup ds) lo hi = decide ((vs.length : Int) ≤ hi) := by show (decide (lo ≤ (ds.length : Int)) && decide ((ds.length : Int) ≤ hi)) = _; rw [← l, e1]; rfl
          rw [this] at q; exact q
        · have : isRowB (.tup ds) lo hi = false := by show (decide (lo ≤ (ds.length : Int)) && decide ((ds.length : Int) ≤ hi)) = _; rw [← l, tru e1]; rfl
          rw [this] at q; exact q
      | _ => cases e
    · have : isRowB d lo hi = false := by cases d <;> first | rfl | exact absurd rfl e
      rw [this] at q; exact q
end
end K62

set_option Elab.async false
set_option linter.all false
set_option maxRecDepth 100000
set_option maxHeartbeats 4000000
namespace K62
open PySem PySem.Spec PyProof.Rows L2 RW
local macro_rules | `(tactic| walk_at "cond") => `(tactic| first | assumption | decide | omega | exact few rfl | exact .inl ⟨by decide, by decide⟩ | exact .inr ⟨by decide, by decide⟩ | exact .inl ⟨by omega, by omega⟩ | exact .inr ⟨by omega, by omega⟩ | exact ⟨by omega, by omega⟩ | exact ⟨by assumption, by assumption⟩ | exact ⟨by decide, by decide, by decide⟩ | exact .inr ⟨by split <;> decide, by split <;> decide⟩)
local macro_rules | `(tactic| walk_at "rd") => `(tactic| first | with_reducible_and_instances refine ⟨_, rfl, ?_⟩ | refine ⟨_, rfl, ?_⟩ | refine ⟨_, _, rfl, rfl, ?_⟩ | refine ⟨_, _, _, _, rfl, rfl, SqL.of (by assumption), rfl, ?_⟩ | refine ⟨_, _, _, _, rfl, rfl, (by assumption), rfl, ?_⟩ | refine .inl ⟨_, rfl, ?_⟩ | refine .inr ⟨_, rfl, ?_⟩ | refine .inl ⟨_, _, rfl, .inl (by assumption), ?_⟩ | refine ⟨(by walk_at "cond"), ?_⟩)
local macro_rules | `(tactic| walk_at "dsp") => `(tactic| repeat' (first | exact dsp_str (by decide) | exact dsp_int | exact dsp_bl | exact dsp_non | exact dsp_neg | exact dspA_nil | exact dsp_dnew | exact dsp_disp rfl | exact dsp_var rfl (by assumption) | refine dspA_cons ?_ ?_ | refine dsp_tup ?_ ?_ | refine dsp_lst' ?_ | refine n_cons ?_ ?_ | exact n_nil | exact v_c | exact v_var rfl | refine v_tup ?_ | refine dspl_lst ?_ ?_ | refine dspl_cat ?_ ?_ ?_ | exact dspl_var rfl (by assumption) (by assumption) | exact Nat.le_of_ble_eq_true rfl))
local macro_rules | `(tactic| walk_at "each") => `(tactic| repeat' (first | exact forall_nil | refine List.forall_mem_append.mpr ⟨?_, ?_⟩ | refine List.forall_mem_cons.mpr ⟨?_, ?_⟩))
section
variable {P : Program} {w : World} {K : PySem.W.Frag} {mg : Str → Option Value} {base : Heap}
theorem name_short {x : Str} (h : isNameB x = true) : x.length ≤ 1000 := by
  unfold isNameB at h
  simp only [Bool.and_eq_true, decide_eq_true_eq] at h
  omega
theorem rep_strs2 {H : Hp} {v : V} {xs : List Str} (r : Rep H v (tD xs)) : ∃ p, v = .ref p ∧ H p = some (.tup (xs.map V.str)) := by
  obtain ⟨p, vs, rfl, hp, rr, _⟩ := r.ofT
  have e : vs = xs.map V.str := by
    apply List.ext_getElem?
    intro i
    rw [List.getElem?_map]
    have hl := rr.1
    rw [List.length_map] at hl
    rcases Nat.lt_or_ge i xs.length with h | h
    · have h' : i < vs.length := by omega
      have := rr.2 i vs[i] (.str xs[i]) (by simp [h']) (by simp [h])
      rw [List.getElem?_eq_getElem h', List.getElem?_eq_getElem h]
      cases hh : vs[i] with
      | str y => rw [hh] at this; cases this; rfl
      | _ => rw [hh] at this; cases this
    · rw [List.getElem?_eq_none (by omega), List.getElem?_eq_none h]; rfl
  exact ⟨p, rfl, e ▸ hp⟩
theorem tups_rep {H : Hp} {vs : List V} {ls : List (List Str)} (r : RepL H vs (ls.map tD)) : TupsAt H vs ls := by
  refine ⟨by have := r.1; rwa [List.length_map] at this, fun i v q e1 e2 => ?_⟩
  have := r.2 i v (tD q) e1 (by rw [List.getElem?_map, e2]; rfl)
  exact rep_strs2 this
theorem rep_tups {H : Hp} {vs : List V} {ls : List (List Str)} (t : TupsAt H vs ls) (h : ∀ q ∈ ls, q.length ≤ 1000 ∧ ∀ x ∈ q, x.length ≤ 1000) : RepL H vs (ls.map tD) := by
  refine ⟨by rw [List.length_map]; exact t.1, fun i v d e1 e2 => ?_⟩
  rw [List.getElem?_map] at e2
  cases e3 : ls[i]? with
  | none => rw [e3] at e2; cases e2
  | some q =>
    rw [e3] at e2; cases e2
    obtain ⟨b, rfl, hb⟩ := t.2 i v q e1 e3
    have hq := h q (List.mem_of_getElem? e3)
    exact .mkL hb (by rw [List.length_map]; exact hq.1) (strs_rep hq.2)
theorem tups_same {H H' : Hp} {vs : List V} {ls : List (List Str)} (t : TupsAt H vs ls) (s : Same H H') : TupsAt H' vs ls := ⟨t.1, fun i v q e1 e2 => let ⟨b, e, hb⟩ := t.2 i v q e1 e2; ⟨b, e, s _ _ hb⟩⟩
theorem rowL_short {r : List Str} (h : rowL r = true) : r.length ≤ 1000 ∧ ∀ x ∈ r, x.length ≤ 1000 := by
  obtain ⟨a, b, w, rfl, ha, hb, _, hw⟩ := rowL_form h
  refine ⟨(by decide : 3 ≤ 1000), fun x hx => ?_⟩
  simp only [List.mem_cons, List.not_mem_nil, or_false] at hx
  rcases hx with rfl | rfl | rfl
  · exact name_short ha
  · exact name_short hb
  · rcases hw with ⟨rfl, _⟩ | rfl <;> decide
def spRise62 : Sp := fun vs H Q _ => ∃ (p : Addr) (us : List V) (ls : List (List Str)), vs = [.ref p] ∧ H p = some (.tup us) ∧ TupsAt H us ls ∧ ls.length ≤ 900 ∧ ∀ H', Same H H' → Q (.bl (riseB ls)) H'
theorem ok_is_rising (Y : Ev K mg) : FnOk P w K mg base CX0 1 Y.a_is_rising Y.d_is_rising p_is_rising spRise62 := by
  refine Y.is_rising.fn.okQ c_is_rising (fun vs H Q E h => ?_) (fun cdv A outer s H vs Q E hr h => ?_)
  · obtain ⟨p, us, ls, rfl, _⟩ := h; rfl
  · obtain ⟨p, us, ls, rfl, hp, T, l9, q⟩ := h
    refine ⟨_, (b_one (s_ret (q_callB (call_allB rfl) Y.all bt_all (a_cons (q_comp (src := [none, some 0]) o_is_rising_1 rfl rfl (i_rng1 Y.range (a_cons (q_op op_sub (q_callB call_len2 Y.len bt_len (a_cons (qc 0) a_nil)) q_int) a_nil)) (fun _ _ _ _ _ => (g_name 0 o_is_rising_1.nd)) (fun _ _ _ _ _ => f_nil) (fun _ _ _ _ _ => (q_cmp (op_ltSK (K := K) rfl (hu64 hr)) (q_ix (ix_tupK (K := K) rfl) (qc 1) (qv 0)) (q_ix (ix_tupK (K := K) rfl) (qc 1) (q_op op_add (qv 0) q_int))))) a_nil)))), ?_⟩
    have hl := T.1
    refine ⟨_, rfl, .inl ⟨p, us, rfl, .inr (.inl (.inl hp)), _, _, rfl, rfl, _, rfl, ?_, ?_, ?_⟩⟩
    · omega
    · omega
    have e : ((us.length : Int) - 1).toNat = ls.length - 1 := by omega
    rw [e]
    refine comp_by wk_rng (fun l i ys σ' H' => (∃ o, σ' = [o, some (.ref p)]) ∧ ys = ((List.range i).map fun k => ltL (ls.getD k []) (ls.getD (k + 1) [])).map V.bl ∧ Same H H') ?_ (fun _ _ _ _ _ _ _ => trivial) ?_ ?_
    · exact fun l hl => ⟨⟨_, rfl⟩, rfl, Same.new hl⟩
    · rintro l i y ys σ' H1 hl' hi rfl ⟨⟨o, rfl⟩, rfl, s1⟩ hl1
      have hi1 : i + 1 < ls.length := by omega
      have hi0 : i < ls.length := by omega
      have g0 : us[i]? = some us[i] := by simp [show i < us.length by omega]
      have g1 : us[i + 1]? = some us[i + 1] := by simp [show i + 1 < us.length by omega]
      obtain ⟨b0, e0, hb0⟩ := T.2 i _ (ls.getD i []) g0 (by simp [List.getD, hi0])
      obtain ⟨b1, e1, hb1⟩ := T.2 (i + 1) _ (ls.getD (i + 1) []) g1 (by simp [List.getD, hi1])
      have hp1 := s1 _ _ hp
      have a0 : atI us (0 + (i : Int)) = some (.ref b0) := by rw [Int.zero_add, ← e0]; exact atI_nat g0
      have a1 : atI us (0 + (i : Int) + 1) = some (.ref b1) := by rw [Int.zero_add, ← e1]; exact atI_nat (j := i + 1) g1
      refine ⟨_, rfl, _, rfl, p, us, _, _, rfl, rfl, .inl (.inl hp1), a0, _, rfl, _, rfl, _, _, rfl, rfl, p, us, _, _, rfl, rfl, .inl (.inl hp1), a1, ?_⟩
      refine ⟨b0, b1, _, _, rfl, rfl, .inl (.inl (s1 _ _ hb0)), .inl (.inl (s1 _ _ hb1)), hl1, ?_, ⟨_, rfl⟩, ?_, ?_⟩
      · rw [List.length_map, List.length_map, List.length_range]
        exact small1000 (by omega)
      · rw [List.range_succ, List.map_append, List.map_append]; rfl
      · exact fun c o e => by
          rw [upd_ne (ne_of_none e hl')]
          exact s1 _ _ e
    · rintro l ys σ' H1 hl' ⟨⟨o, rfl⟩, rfl, s1⟩ hl1
      refine ⟨l, _, rfl, SqL.of hl1, ?_⟩
      have : (((List.range (ls.length - 1)).map fun k => ltL (ls.getD k []) (ls.getD (k + 1) [])).all id) = riseB ls := by rw [List.all_map]; rfl
      rw [this]
      exact q H1 s1
theorem ok_is_kin_row (Y : Ev K mg) : FnOk P w K mg base CX0 2 Y.a_is_kin_row Y.d_is_kin_row p_is_kin_row (spAny rowD) := by
  have G_is_row : FnOk P w K mg base CX0 1 Y.a_is_row Y.d_is_row p_is_row spRow := ok_is_row Y
  have G_is_name : FnOk P w K mg base CX0 1 Y.a_is_name Y.d_is_name p_is_name (spAny isNameD) := ok_is_name Y
  refine Y.is_kin_row.fn.okQ c_is_kin_row (fun vs H Q E h => ?_) (fun cdv A outer s H vs Q E hr h => ?_)
  · obtain ⟨v, d, rfl, _⟩ := h; rfl
  · obtain ⟨v, d, rfl, hd, q⟩ := h
    refine ⟨_, (b_cons (s_if (t_w (w_or (t_not (t_val (q_call G_is_row (hr.mono (by decide)) Y.is_row.mg Y.is_row.kp Y.is_row.b .nil pass0 (a_cons (qv 0) (a_cons q_int (a_cons q_int a_nil)))))) (w_or (t_not (t_val (q_call G_is_name (hr.mono (by decide)) Y.is_name.mg Y.is_name.kp Y.is_name.b .nil pass0 (a_cons (q_ix ix_tup (qv 0) q_int) a_nil)))) (w_or (t_not (t_val (q_call G_is_name (hr.mono (by decide)) Y.is_name.mg Y.is_name.kp Y.is_name.b .nil pass0 (a_cons (q_ix ix_tup (qv 0) q_int) a_nil)))) (w_or1 (t_not (t_val (q_callB call_isi Y.isinstance bt_isinstance (a_cons (q_ix ix_tup (qv 0) q_int) (a_cons (q_ty Y.str bt_str) a_nil)))))))))) (b_one (s_ret q_bl)) b_nil)
      (b_cons (s_asg (qv 0) (g_tup 3 rfl (gs_cons (g_name 1 c_is_kin_row.nd) (gs_cons (g_name 2 c_is_kin_row.nd) (gs_cons (g_name 3 c_is_kin_row.nd) gs_nil)))))
      (b_cons (s_if (t_cmp op_eq (qv 3) q_str) (b_one (s_ret (q_cmp op_lt_str (qv 1) (qv 2)))) b_nil)
      (b_one (s_ret (q_and (q_cmp op_eq (qv 3) q_str) (q_one (q_cmp op_ne (qv 1) (qv 2))))))))), ?_⟩
    refine ⟨_, rfl, v, d, 3, 3, rfl, hd, fun H1 s1 => ⟨_, rfl, ?_⟩⟩
    cases e3 : isRowB d 3 3 with
    | false =>
      have : rowD d = false := by
        cases hh : rowD d with
        | false => rfl
        | true => obtain ⟨r, rfl, hr'⟩ := rowD_form hh; obtain ⟨a, b, w, rfl, _⟩ := rowL_form hr'; cases e3
      have q := q H1 s1
      rw [this] at q
      exact if_t rfl (if_t rfl q)
    | true =>
      obtain ⟨x, y, z, rfl⟩ : ∃ x y z, d = .tup [x, y, z] := by
        cases d with
        | tup ds =>
          have hl : ds.length = 3 := by simp [isRowB] at e3; omega
          match ds, hl with
          | [x, y, z], _ => exact ⟨x, y, z, rfl⟩
        | _ => cases e3
      obtain ⟨p, vs, rfl, hp, rr, _⟩ := hd.ofT
      obtain ⟨vx, vy, vz, rfl⟩ : ∃ a b c, vs = [a, b, c] := by
        match vs, rr.1 with
        | [a, b, c], _ => exact ⟨a, b, c, rfl⟩
      have rx := rr.head.1
      have ry := rr.head.2.head.1
      have rz := rr.head.2.head.2.head.1
      have hp1 := s1 _ _ hp
      refine if_f rfl ⟨_, rfl, p, _, 0, _, rfl, rfl, .inl (.inl hp1), at0, vx, x, rfl, rx.same s1, fun H2 s2 => ⟨_, rfl, ?_⟩⟩
      have hp2 := s2 _ _ hp1
      cases ex : isNameD x with
      | false =>
        have : rowD (.tup [x, y, z]) = false := by
          cases hh : rowD (.tup [x, y, z]) with
          | false => rfl
          | true => obtain ⟨r, e, hr'⟩ := rowD_form hh; obtain ⟨a, b, w, rfl, ha, _⟩ := rowL_form hr'; cases e; rw [nameD_eq, ha] at ex; cases ex
        have q := q H2 (s1.trans s2)
        rw [this] at q
        exact if_t rfl (if_t rfl q)
      | true =>
        refine if_f rfl ⟨_, rfl, p, _, 1, _, rfl, rfl, .inl (.inl hp2), at1, vy, y, rfl, (ry.same s1).same s2, fun H3 s3 => ⟨_, rfl, ?_⟩⟩
        have hp3 := s3 _ _ hp2
        have s13 := (s1.trans s2).trans s3
        cases ey : isNameD y with
        | false =>
          have : rowD (.tup [x, y, z]) = false := by
            cases hh : rowD (.tup [x, y, z]) with
            | false => rfl
            | true => obtain ⟨r, e, hr'⟩ := rowD_form hh; obtain ⟨a, b, w, rfl, _, ha, _⟩ := rowL_form hr'; cases e; rw [nameD_eq, ha] at ey; cases ey
          have q := q H3 s13
          rw [this] at q
          exact if_t rfl (if_t rfl q)
        | true =>
          have rz3 := rz.same s13
          obtain ⟨t, ht, _, _, _, h4⟩ := rz3.isi (K := K)
          refine if_f rfl ⟨_, rfl, p, _, 2, _, rfl, rfl, .inl (.inl hp3), atI_nat (j := 2) rfl, _, _, _, _, rfl, ht, h4, _, rfl, ?_⟩
          have q := q H3 s13
          cases ez : isStrB z with
          | false =>
            have : rowD (.tup [x, y, z]) = false := by
              cases hh : rowD (.tup [x, y, z]) with
              | false => rfl
              | true => obtain ⟨r, e, hr'⟩ := rowD_form hh; obtain ⟨a, b, w, rfl, _⟩ := rowL_form hr'; cases e; cases ez
            rw [this] at q
            exact if_t rfl q
          | true =>
            obtain ⟨a, rfl⟩ : ∃ a, x = .str a := by cases x <;> first | exact ⟨_, rfl⟩ | cases ex
            obtain ⟨b, rfl⟩ : ∃ a, y = .str a := by cases y <;> first | exact ⟨_, rfl⟩ | cases ey
            obtain ⟨w', rfl⟩ : ∃ a, z = .str a := by cases z <;> first | exact ⟨_, rfl⟩ | cases ez
            cases rx with | str _ _ =>
            cases ry with | str _ _ =>
            cases rz with | str _ _ =>
            rw [nameD_eq] at ex ey
            have er : rowD (.tup [.str a, .str b, .str w']) = (if w' = "equal" then ltS a b else decide (w' = "over") && !decide (a = b)) := by
              show (isNameB a && isNameB b && _) = _
              rw [ex, ey]; rfl
            rw [er] at q
            refine if_f rfl ?_
            refine ⟨_, rfl, p, _, rfl, .inl (.inl hp3), rfl, _, _, rfl, _, _, rfl, _, _, rfl, rfl, ?_⟩
            refine ⟨_, rfl, rfl, _, rfl, ?_⟩
            rw [dec_str']
            by_cases ew : w' = "equal"
            · rw [if_pos ew] at q
              exact if_t (decide_eq_true ew) ⟨_, rfl, _, rfl, a, b, rfl, rfl, q⟩
            · rw [if_neg ew] at q
              refine if_f (decide_eq_false ew) ⟨_, rfl, rfl, _, rfl, ?_⟩
              rw [dec_str']
              cases eo : decide (w' = "over") with
              | false => rw [eo] at q; exact if_f rfl q
              | true =>
                rw [eo] at q
                refine if_t rfl ⟨_, rfl, _, rfl, rfl, ?_⟩
                rw [dec_str']
                exact q
def spTies62 : Sp := fun vs H Q _ => ∃ (p : Addr) (us : List V) (rs : List (List Str)), vs = [.ref p] ∧ H p = some (.tup us) ∧ TupsAt H us rs ∧ (∀ r ∈ rs, rowL r = true) ∧ rs.length ≤ 60 ∧
  ∀ (p' : Addr) (us' : List V) (ls : List (List Str)) (H' : Hp), H' p' = some (.tup us') → TupsAt H' us' ls → ls.Perm (rs.map tieL) → ((rs.map tieL).Nodup → ls.Pairwise (fun a b => ltL a b = true)) → Same H H' → Q (.ref p') H'
theorem ok_ties_of (Y : Ev K mg) : FnOk P w K mg base CX0 1 Y.a_ties_of Y.d_ties_of p_ties_of spTies62 := by
  refine Y.ties_of.fn.okQ c_ties_of (fun vs H Q E h => ?_) (fun cdv A outer s H vs Q E hr h => ?_)
  · obtain ⟨p, us, rs, rfl, _⟩ := h; rfl
  · obtain ⟨p, us, rs, rfl, hp, T, hrow, l6, q⟩ := h
    refine ⟨_, (b_one (s_ret (q_callTy call_tuple_of Y.tuple bt_tuple (a_cons (q_callB call_sortedTs Y.sorted bt_sorted (a_cons (q_comp (src := [none]) o_ties_of_1 rfl rfl (i_tup (qv 0)) (fun _ _ _ _ _ => (g_name 0 o_ties_of_1.nd)) (fun _ _ _ _ _ => f_nil) (fun _ _ _ _ _ => (q_callTy (call_tuple_ofK (K := K) rfl) Y.tuple bt_tuple (a_cons (q_callB (call_sortedAK (K := K) rfl) Y.sorted bt_sorted (a_cons (q_sl (sl_tupAK (K := K) rfl) (qv 0) o_none (o_some q_int)) a_nil)) a_nil)))) a_nil)) a_nil)))), ?_⟩
    have hl := T.1
    refine ⟨_, rfl, p, rfl, ⟨_, .inl (.inl hp)⟩, ?_⟩
    refine comp_by (wk_tup (K := K) (a := p) (xs := us)) (fun l i ys σ' H' => (∃ o, σ' = [o]) ∧ TupsAt H' ys ((rs.take i).map tieL) ∧ Same H H') ?_ ?_ ?_ ?_
    · exact fun l hl => ⟨⟨_, rfl⟩, ⟨rfl, fun i v q e => by cases e⟩, Same.new hl⟩
    · exact fun l i ys σ' H' _ z => .inl (.inl (z.2.2 _ _ hp))
    · rintro l i y ys σ' H1 hl' hi hy ⟨⟨o, rfl⟩, T1, s1⟩ hl1
      have hi' : i < rs.length := by omega
      obtain ⟨b, rfl, hb⟩ := T.2 i y rs[i] hy (by simp [hi'])
      obtain ⟨x1, x2, w', er, n1, n2, hne, _⟩ := rowL_form (hrow rs[i] (List.getElem_mem hi'))
      rw [er] at hb
      have hb1 := s1 _ _ hb
      refine ⟨_, rfl, _, rfl, b, _, rfl, .inl (.inl hb1), ?_⟩
      have ec : cutV (List.map V.str [x1, x2, w']) none (some 2) = [x1, x2].map V.str := cut_take (n := 2)
      refine ⟨fun hlen => ?_, fun p2 hp2 => ?_⟩
      · rw [ec] at hlen
        exact absurd (congrArg List.length hlen) (by simp)
      rw [ec]
      have S2 := Same.new (o := .tup ([x1, x2].map V.str)) hp2
      refine ⟨p2, [x1, x2], rfl, .inr (.inl (.inl upd_same)), (by decide : 2 < 64), fun ss l3 hpm hss hl3 => ⟨l3, _, rfl, .inl ⟨SqL.of upd_same, fun p4 hp4 => ?_⟩⟩⟩
      have es : ss = tieL rs[i] := by
        rw [er]
        exact srt_eq hpm hss (by simpa using hne)
      subst es
      have S3 := Same.new (o := .lst ((tieL rs[i]).map V.str)) hl3
      have S4 := Same.new (o := .tup ((tieL rs[i]).map V.str)) hp4
      have S14 := (S2.trans S3).trans S4
      have hl4 := S14 _ _ hl1
      have tk : rs.take (i + 1) = rs.take i ++ [rs[i]] := by rw [List.take_add_one, List.getElem?_eq_getElem hi']; rfl
      have hT1 := T1.1
      rw [List.length_map, List.length_take] at hT1
      refine ⟨hl4, small1000 (by omega), ⟨_, rfl⟩, ?_, fun c o e => ?_⟩
      · have T4 := tups_same T1 S14
        have e4 := upd_same (H := upd (upd H1 p2 (.tup ([x1, x2].map V.str))) l3 (.lst ((tieL rs[i]).map V.str))) (a := p4) (o := .tup ((tieL rs[i]).map V.str))
        generalize upd (upd (upd H1 p2 (HO.tup ([x1, x2].map V.str))) l3 (HO.lst ((tieL rs[i]).map V.str))) p4 (HO.tup ((tieL rs[i]).map V.str)) = H4 at *
        rw [tk, List.map_append]
        refine ⟨by rw [List.length_append, List.length_append, T4.1]; rfl, fun j v q e1 e2 => ?_⟩
        have upl : ∀ {b o}, H4 b = some (.tup o) → (upd H4 l (.lst (ys ++ [V.ref p4]))) b = some (.tup o) := fun {b o} h => by rw [upd_ne (fun z => by rw [z, hl4] at h; cases h)]; exact h
        rcases Nat.lt_or_ge j ys.length with hj | hj
        · rw [List.getElem?_append_left hj] at e1
          rw [List.getElem?_append_left (by rw [← T4.1]; exact hj)] at e2
          obtain ⟨b', rfl, hb'⟩ := T4.2 j v q e1 e2
          exact ⟨b', rfl, upl hb'⟩
        · have ej : j = ys.length := by
            rcases Nat.lt_or_ge j (ys ++ [V.ref p4]).length with z | z
            · rw [List.length_append, List.length_singleton] at z; omega
            · rw [List.getElem?_eq_none z] at e1; cases e1
          subst ej
          rw [List.getElem?_append_right (Nat.le_refl _), Nat.sub_self] at e1
          rw [List.getElem?_append_right (by rw [T4.1]; exact Nat.le_refl _), T4.1, Nat.sub_self] at e2
          cases e1
          cases e2
          exact ⟨p4, rfl, upl e4⟩
      · rw [upd_ne (ne_of_none e hl')]
        exact S14 _ _ (s1 _ _ e)
    · rintro l ys σ' H1 hl' ⟨⟨o, rfl⟩, T1, s1⟩ hl1
      rw [show rs.take us.length = rs by rw [hl]; exact List.take_length] at T1
      refine ⟨l, ys, _, rfl, .inl (SqL.of hl1), T1, fun q hq => ?_, by rw [List.length_map]; omega, fun ls vs' l2 hpm hpw T2 hl2 => ⟨l2, _, rfl, .inl ⟨SqL.of upd_same, fun p4 hp4 => ?_⟩⟩⟩
      · obtain ⟨r, hr', rfl⟩ := List.mem_map.mp hq
        obtain ⟨x1, x2, w', er, _⟩ := rowL_form (hrow r hr')
        rw [er]
        show 0 < (srt [x1, x2]).length
        rw [(srt_perm [x1, x2]).length_eq]
        exact (by decide : 0 < 2)
      · have S := (Same.new (o := .lst vs') hl2).trans (Same.new (o := .tup vs') hp4)
        exact q p4 vs' ls _ upd_same (tups_same T2 S) hpm hpw (s1.trans S)
def spKin62 : Sp := fun vs H Q _ => ∃ (v : V) (d : D), vs = [v] ∧ Rep H v d ∧ (∀ ds, d = .tup ds → ds.length ≤ 60) ∧ ∀ H', Same H H' → Q (.bl (kinB d)) H'
theorem ok_is_kin (Y : Ev K mg) : FnOk P w K mg base CX0 3 Y.a_is_kin Y.d_is_kin p_is_kin spKin62 := by
  have G_is_kin_row : FnOk P w K mg base CX0 2 Y.a_is_kin_row Y.d_is_kin_row p_is_kin_row (spAny rowD) := ok_is_kin_row Y
  have G_is_rising : FnOk P w K mg base CX0 1 Y.a_is_rising Y.d_is_rising p_is_rising spRise62 := ok_is_rising Y
  have G_ties_of : FnOk P w K mg base CX0 1 Y.a_ties_of Y.d_ties_of p_ties_of spTies62 := ok_ties_of Y
  refine Y.is_kin.fn.okQ c_is_kin (fun vs H Q E h => ?_) (fun cdv A outer s H vs Q E hr h => ?_)
  · obtain ⟨v, d, rfl, _⟩ := h; rfl
  · obtain ⟨v, d, rfl, hd, h60, q⟩ := h
    refine ⟨_, (b_cons (s_if (t_w (w_or (t_not (t_val (q_callB call_isi Y.isinstance bt_isinstance (a_cons (qv 0) (a_cons (q_ty Y.tuple bt_tuple) a_nil))))) (w_or1 (t_not (t_val (q_callB (call_allB rfl) Y.all bt_all (a_cons (q_comp (src := [none]) o_is_kin_1 rfl rfl (i_tup (qv 0)) (fun _ _ _ _ _ => (g_name 0 o_is_kin_1.nd)) (fun _ _ _ _ _ => f_nil) (fun _ _ _ _ _ => (q_call G_is_kin_row (hr.mono (by decide)) Y.is_kin_row.mg Y.is_kin_row.kp Y.is_kin_row.b .nil pass0 (a_cons (qv 0) a_nil)))) a_nil))))))) (b_one (s_ret q_bl)) b_nil)
      (b_one (s_ret (q_and (q_call G_is_rising (hr.mono (by decide)) Y.is_rising.mg Y.is_rising.kp Y.is_rising.b .nil pass0 (a_cons (qv 0) a_nil)) (q_one (q_call G_is_rising (hr.mono (by decide)) Y.is_rising.mg Y.is_rising.kp Y.is_rising.b .nil pass0 (a_cons (q_call G_ties_of (hr.mono (by decide)) Y.ties_of.mg Y.ties_of.kp Y.ties_of.b .nil pass0 (a_cons (qv 0) a_nil)) a_nil))))))), ?_⟩
    obtain ⟨t, ht, h1, _⟩ := hd.isi (K := K)
    refine ⟨_, rfl, _, _, _, _, rfl, ht, h1, _, rfl, ?_⟩
    cases et : isTupB d with
    | false =>
      have : kinB d = false := by cases d <;> first | rfl | cases et
      have q := q H (Same.refl H)
      rw [this] at q
      exact if_t rfl (if_t rfl q)
    | true =>
      obtain ⟨ds, rfl⟩ : ∃ ds, d = .tup ds := by cases d <;> first | exact ⟨_, rfl⟩ | cases et
      have l60 := h60 ds rfl
      obtain ⟨p, vs, rfl, hp, rr, _⟩ := hd.ofT
      refine if_f rfl ⟨_, rfl, p, rfl, ⟨_, .inl (.inl hp)⟩, ?_⟩
      refine comp_truths (g := rowD) (ok := fun H => SqT K H p vs) wk_tup (fun H' s => .inl (.inl (s _ _ hp))) rr (by omega) rfl (fun x d H2 Q1 s2 rx _ q1 => ⟨_, rfl, x, d, rfl, rx, q1⟩) (fun l H2 s2 _ hl => ?_)
      refine ⟨l, _, rfl, SqL.of hl, ?_⟩
      rw [List.all_map]
      refine ⟨_, rfl, ?_⟩
      cases ea : ds.all rowD with
      | false =>
        have : kinB (.tup ds) = false := by show (ds.all rowD && _) = false; rw [ea]; rfl
        have q := q H2 s2
        rw [this] at q
        exact if_t (by show (!(ds.all (id ∘ rowD))) = true; rw [show (id ∘ rowD) = rowD from rfl, ea]; rfl) q
      | true =>
        obtain ⟨rs, rfl, hrow⟩ := rows_form ea
        have T := tups_rep rr
        rw [List.length_map] at l60
        refine if_f (by show (!((rs.map tD).all (id ∘ rowD))) = false; rw [show (id ∘ rowD) = rowD from rfl, ea]; rfl) ?_
        refine ⟨_, rfl, p, vs, rs, rfl, s2 _ _ hp, tups_same T s2, by omega, fun H3 s3 => ?_⟩
        have s23 := s2.trans s3
        rw [kinB_rows hrow] at q
        cases er : riseB rs with
        | false =>
          rw [er] at q
          exact ⟨_, rfl, if_f rfl (q H3 s23)⟩
        | true =>
          rw [er] at q
          refine ⟨_, rfl, if_t rfl ⟨_, rfl, p, vs, rs, rfl, s23 _ _ hp, tups_same T s23, hrow, l60, fun p' us' ls H4 hp' T4 hpm hpw s4 => ⟨p', us', ls, rfl, hp', T4, ?_, fun H5 s5 => ?_⟩⟩⟩
          · rw [hpm.length_eq, List.length_map]; omega
          · rw [rise_sorted hpm hpw]
            exact q H5 ((s23.trans s4).trans s5)
end
end K62

set_option Elab.async false
set_option linter.all false
set_option maxRecDepth 100000
set_option maxHeartbeats 4000000
namespace K62
open PySem PySem.Spec PyProof.Rows L2 RW
local macro_rules | `(tactic| walk_at "cond") => `(tactic| first | assumption | decide | omega | exact few rfl | exact .inl ⟨by decide, by decide⟩ | exact .inr ⟨by decide, by decide⟩ | exact .inl ⟨by omega, by omega⟩ | exact .inr ⟨by omega, by omega⟩ | exact ⟨by omega, by omega⟩ | exact ⟨by assumption, by assumption⟩ | exact ⟨by decide, by decide, by decide⟩ | exact .inr ⟨by split <;> decide, by split <;> decide⟩)
local macro_rules | `(tactic| walk_at "rd") => `(tactic| first | with_reducible_and_instances refine ⟨_, rfl, ?_⟩ | refine ⟨_, rfl, ?_⟩ | refine ⟨_, _, rfl, rfl, ?_⟩ | refine ⟨_, _, _, _, rfl, rfl, SqL.of (by assumption), rfl, ?_⟩ | refine ⟨_, _, _, _, rfl, rfl, (by assumption), rfl, ?_⟩ | refine .inl ⟨_, rfl, ?_⟩ | refine .inr ⟨_, rfl, ?_⟩ | refine .inl ⟨_, _, rfl, .inl (by assumption), ?_⟩ | refine ⟨(by walk_at "cond"), ?_⟩)
local macro_rules | `(tactic| walk_at "dsp") => `(tactic| repeat' (first | exact dsp_str (by decide) | exact dsp_int | exact dsp_bl | exact dsp_non | exact dsp_neg | exact dspA_nil | exact dsp_dnew | exact dsp_disp rfl | exact dsp_var rfl (by assumption) | refine dspA_cons ?_ ?_ | refine dsp_tup ?_ ?_ | refine dsp_lst' ?_ | refine n_cons ?_ ?_ | exact n_nil | exact v_c | exact v_var rfl | refine v_tup ?_ | refine dspl_lst ?_ ?_ | refine dspl_cat ?_ ?_ ?_ | exact dspl_var rfl (by assumption) (by assumption) | exact Nat.le_of_ble_eq_true rfl))
local macro_rules | `(tactic| walk_at "each") => `(tactic| repeat' (first | exact forall_nil | refine List.forall_mem_append.mpr ⟨?_, ?_⟩ | refine List.forall_mem_cons.mpr ⟨?_, ?_⟩))
section
variable {P : Program} {w : World} {K : PySem.W.Frag} {mg : Str → Option Value} {base : Heap}
def spTake : Sp := fun vs H Q _ => ∃ (a : Addr) (k n : Int), vs = [.ref a, .int k] ∧ Hand H a n ∧ n < 2 ^ 40 ∧ 0 < k ∧ k < 1073741824 ∧ ∀ d H', 0 ≤ d → d < k → Hand H' a (n + 1) → Keep a H H' → Q (.int d) H'
theorem ok_take (Y : Ev K mg) : FnOk P w K mg base CX0 1 Y.a__law_take Y.d__law_take p__law_take spTake := by
  refine Y._law_take.fn.okQ c__law_take (fun vs H Q E h => ?_) (fun cdv A outer s H vs Q E hr h => ?_)
  · obtain ⟨a, k, n, rfl, _⟩ := h
    rfl
  · obtain ⟨a, k, n, rfl, ⟨x, m, t, hH, m0, m1, t0, t1⟩, hn, k0, k1, q⟩ := h
    refine ⟨_, (b_cons (s_if (t_cmp op_gt (q_ix ix_list (qv 0) q_int) q_int) (b_cons (s_set 2 c__law_take.nd (q_op op_mod (q_ix ix_list (qv 0) q_int) (qv 1)))
      (b_cons (s_asg (q_op op_fdiv (q_ix ix_list (qv 0) q_int) (qv 1)) (g_sub (qv 0) q_int set_list))
      (b_one (s_ret (qv 2))))) b_nil)
      (b_cons (s_asg (q_op op_add (q_ix ix_list (qv 0) q_int) q_int) (g_sub (qv 0) q_int set_list))
      (b_cons (s_set 3 c__law_take.nd (q_ix ix_list (qv 0) q_int))
      (b_cons (s_set 4 c__law_take.nd (q_op op_mod (q_op op_mul (q_ix ix_list (qv 0) q_int) (q_op op_add (q_op op_add q_int (q_op op_mul (q_op op_mul q_int (qv 3)) (qv 3))) (q_op op_mul q_int (qv 3)))) q_int))
      (b_cons (s_set 5 c__law_take.nd (q_op op_add (q_op op_add (q_op op_mod (qv 4) q_int) (q_op op_mul (qv 3) q_int)) q_int))
      (b_cons (s_set 4 c__law_take.nd (q_op op_mod (q_op op_mul (qv 4) (qv 5)) q_int))
      (b_one (s_ret (q_op op_mod (q_op op_add (q_op op_fdiv (qv 4) q_int) (q_op op_fdiv (qv 4) q_int)) (qv 1)))))))))), ?_⟩
    repeat walk_at "rd"
    refine ite2 (fun hx => ?_) (fun hx => ?_)
    · repeat walk_at "rd"
      exact q _ _ (Int.emod_nonneg _ (by omega)) (Int.emod_lt_of_pos _ k0) ⟨_, m, t, upd_same, m0, m1, t0, by omega⟩ (Keep.upd _ _ _)
    · refine ⟨_, rfl, a, _, _, _, rfl, rfl, SqL.of hH, rfl, _, _, rfl, rfl, _, rfl, a, _, _, _, rfl, rfl, hH, rfl, ?_⟩
      have h2 : upd H a (.lst [.int x, .int m, .int (t + 1)]) a = some (.lst [.int x, .int m, .int (t + 1)]) := upd_same
      repeat walk_at "rd"
      exact q _ _ (Int.emod_nonneg _ (by omega)) (Int.emod_lt_of_pos _ k0) ⟨_, m, _, upd_same, m0, m1, by omega, by omega⟩ (Keep.upd _ _ _)
def spPick (K : PySem.W.Frag) : Sp := fun vs H Q _ => ∃ (a : Addr) (n : Int), Hand H a n ∧ n < 2 ^ 40 ∧
  ((∃ (b : Addr) (xs : List V), vs = [.ref a, .ref b] ∧ b ≠ a ∧ SqL K H b xs ∧ 0 < xs.length ∧ xs.length < 1000 ∧ ∀ v H', v ∈ xs → Hand H' a (n + 1) → Keep a H H' → Q v H') ∨
   (∃ z : Str, vs = [.ref a, .str z] ∧ 0 < z.length ∧ z.length < 1000 ∧ ∀ c H', c ∈ z.cps.toList → Hand H' a (n + 1) → Keep a H H' → Q (.str (one c)) H'))
theorem ok_pick (Y : Ev K mg) : FnOk P w K mg base CX0 2 Y.a__law_pick Y.d__law_pick p__law_pick (spPick K) := by
  have G__law_take : FnOk P w K mg base CX0 1 Y.a__law_take Y.d__law_take p__law_take spTake := ok_take Y
  refine Y._law_pick.fn.okQ c__law_pick (fun vs H Q E h => ?_) (fun cdv A outer s H vs Q E hr h => ?_)
  · obtain ⟨a, n, _, _, ⟨b, xs, rfl, _⟩ | ⟨z, rfl, _⟩⟩ := h <;> rfl
  · obtain ⟨a, n, hH, hn, h⟩ := h
    have hl : ∀ m : Nat, m < 1000 → m ≤ sizeLine := fun m h => Nat.le_of_lt (small1000 (Nat.le_of_lt h))
    rcases h with ⟨b, xs, rfl, hb, hS, x0, x1, q⟩ | ⟨z, rfl, z0, z1, q⟩
    · refine ⟨_, (b_one (s_ret (q_ix ix_seq (qv 1) (q_call G__law_take (hr.mono (by decide)) Y._law_take.mg Y._law_take.kp Y._law_take.b .nil pass0 (a_cons (qv 0) (a_cons (q_callB call_len2 Y.len bt_len (a_cons (qv 1) a_nil)) a_nil)))))), ?_⟩
      refine ⟨_, rfl, _, rfl, _, rfl, .inl ⟨b, xs, rfl, .inl hS, a, _, n, rfl, hH, hn, by omega, by omega, fun d H' h0 h1 hH' kp => ?_⟩⟩
      obtain ⟨v, e, hv⟩ := atI_mem h0 h1
      exact .inl ⟨b, xs, d, v, rfl, rfl, kp.sqL hb hS, e, q v H' hv hH' kp⟩
    · refine ⟨_, (b_one (s_ret (q_ix ix_seq (qv 1) (q_call G__law_take (hr.mono (by decide)) Y._law_take.mg Y._law_take.kp Y._law_take.b .nil pass0 (a_cons (qv 0) (a_cons (q_callB call_len2 Y.len bt_len (a_cons (qv 1) a_nil)) a_nil)))))), ?_⟩
      refine ⟨_, rfl, _, rfl, _, rfl, .inr ⟨z, rfl, hl _ z1, a, _, n, rfl, hH, hn, by omega, by omega, fun d H' h0 h1 hH' kp => ?_⟩⟩
      obtain ⟨c, e, hc⟩ := atI_mem (xs := z.cps.toList) h0 (by simpa [Str.length] using h1)
      exact .inr (.inr ⟨z, d, c, rfl, rfl, hl _ z1, e, q c H' hc hH' kp⟩)
def spHand (K : PySem.W.Frag) : Sp := fun vs H Q _ => ∃ (b : Addr) (ns : List Int) (k : Int), vs = [.ref b, .int k] ∧ SqL K H b (ns.map V.int) ∧ 0 ≤ k ∧ k < 1000 ∧ ∀ a H', H a = none → Hand H' a 0 → Same H H' → Q (.ref a) H'
theorem ok_hand (Y : Ev K mg) : FnOk P w K mg base CX0 1 Y.a__law_hand Y.d__law_hand p__law_hand (spHand K) := by
  refine Y._law_hand.fn.okQ c__law_hand (fun vs H Q E h => ?_) (fun cdv A outer s H vs Q E hr h => ?_)
  · obtain ⟨a, k, n, rfl, _⟩ := h
    rfl
  · obtain ⟨b, ns, k, rfl, hS, k0, k1, q⟩ := h
    refine ⟨_, (b_cons (s_set 2 c__law_hand.nd q_int)
      (b_cons (s_if (t_cmp op_lt (qv 1) (q_callB call_len2 Y.len bt_len (a_cons (qv 0) a_nil))) (b_one (s_set 2 c__law_hand.nd (q_ix ix_list (qv 0) (qv 1)))) b_nil)
      (b_one (s_ret (q_lst (a_cons (q_op op_mul (qv 2) (q_callTy call_int1 Y.int bt_int (a_cons (q_cmp op_ge (qv 2) (q_op op_pow q_int q_int)) a_nil))) (a_cons (q_op op_add (q_op op_add (q_op op_mod (qv 2) q_int) (q_op op_mul q_int (qv 1))) q_int) (a_cons q_int a_nil)))))))), ?_⟩
    refine ⟨_, rfl, _, rfl, .inl ⟨b, _, rfl, .inl hS, _, _, rfl, rfl, _, rfl, ?_⟩⟩
    refine ite2 (fun hx => ?_) (fun hx => ?_)
    · have hx' : k < ((ns.map V.int).length : Int) := of_decide_eq_true hx
      obtain ⟨v, e, hv⟩ := atI_mem k0 hx'
      obtain ⟨c, _, rfl⟩ := List.mem_map.mp hv
      refine ⟨_, rfl, _, rfl, b, _, k, _, rfl, rfl, hS, e, ?_⟩
      repeat walk_at "rd"
      intro p hp
      exact q p _ hp ⟨_, _, _, upd_same, by omega, by omega, by decide, by decide⟩ (fun b' o hb' => by rw [upd_ne (ne_of_none hb' hp)]; exact hb')
    · repeat walk_at "rd"
      intro p hp
      exact q p _ hp ⟨_, _, _, upd_same, by omega, by omega, by decide, by decide⟩ (fun b' o hb' => by rw [upd_ne (ne_of_none hb' hp)]; exact hb')
end
end K62

set_option Elab.async false
set_option linter.all false
set_option maxRecDepth 100000
set_option maxHeartbeats 4000000
namespace K62
open PySem PySem.Spec PyProof.Rows L2 RW
local macro_rules | `(tactic| walk_at "cond") => `(tactic| first | assumption | decide | omega | exact few rfl | exact .inl ⟨by decide, by decide⟩ | exact .inr ⟨by decide, by decide⟩ | exact .inl ⟨by omega, by omega⟩ | exact .inr ⟨by omega, by omega⟩ | exact ⟨by omega, by omega⟩ | exact ⟨by assumption, by assumption⟩ | exact ⟨by decide, by decide, by decide⟩ | exact .inr ⟨by split <;> decide, by split <;> decide⟩)
local macro_rules | `(tactic| walk_at "rd") => `(tactic| first | with_reducible_and_instances refine ⟨_, rfl, ?_⟩ | refine ⟨_, rfl, ?_⟩ | refine ⟨_, _, rfl, rfl, ?_⟩ | refine ⟨_, _, _, _, rfl, rfl, SqL.of (by assumption), rfl, ?_⟩ | refine ⟨_, _, _, _, rfl, rfl, (by assumption), rfl, ?_⟩ | refine .inl ⟨_, rfl, ?_⟩ | refine .inr ⟨_, rfl, ?_⟩ | refine .inl ⟨_, _, rfl, .inl (by assumption), ?_⟩ | refine ⟨(by walk_at "cond"), ?_⟩)
local macro_rules | `(tactic| walk_at "dsp") => `(tactic| repeat' (first | exact dsp_str (by decide) | exact dsp_int | exact dsp_bl | exact dsp_non | exact dsp_neg | exact dspA_nil | exact dsp_dnew | exact dsp_disp rfl | exact dsp_var rfl (by assumption) | refine dspA_cons ?_ ?_ | refine dsp_tup ?_ ?_ | refine dsp_lst' ?_ | refine n_cons ?_ ?_ | exact n_nil | exact v_c | exact v_var rfl | refine v_tup ?_ | refine dspl_lst ?_ ?_ | refine dspl_cat ?_ ?_ ?_ | exact dspl_var rfl (by assumption) (by assumption) | exact Nat.le_of_ble_eq_true rfl))
local macro_rules | `(tactic| walk_at "each") => `(tactic| repeat' (first | exact forall_nil | refine List.forall_mem_append.mpr ⟨?_, ?_⟩ | refine List.forall_mem_cons.mpr ⟨?_, ?_⟩))
section
variable {P : Program} {w : World} {K : PySem.W.Frag} {mg : Str → Option Value} {base : Heap}

def spNames2 : Sp := fun vs H Q _ => ∃ (a : Addr) (n : Int) (m : Nat), vs = [.ref a, .int m] ∧ Hand H a n ∧ n < 2 ^ 39 ∧ m ≤ 13 ∧ ∀ (l : Addr) (xs : List Str) (H' : Hp), H l = none → H' l = some (.lst (xs.map V.str)) → xs.length = m → (∀ x ∈ xs, isNameB x = true) → xs.Nodup → (∀ x ∈ xs, x ≠ "nowhere") → Hand H' a (n + 4) → Keep a H H' → Q (.ref l) H'
theorem ok_names2 (Y : Ev K mg) : FnOk P w K mg base CX0 3 Y.a__law_names Y.d__law_names p__law_names spNames2 := by
  have G__law_take : FnOk P w K mg base CX0 1 Y.a__law_take Y.d__law_take p__law_take spTake := ok_take Y
  have G__law_pick : FnOk P w K mg base CX0 2 Y.a__law_pick Y.d__law_pick p__law_pick (spPick K) := ok_pick Y
  refine Y._law_names.fn.okQ c__law_names (fun vs H Q E h => ?_) (fun cdv A outer s H vs Q E hr h => ?_)
  · obtain ⟨a, n, m, rfl, _⟩ := h; rfl
  · obtain ⟨a, n, m, rfl, hH, hn, m13, q⟩ := h
    refine ⟨_, (b_cons (s_setC 2 c__law_names.nd q_str)
      (b_cons (s_setC 3 c__law_names.nd (q_call G__law_take (hr.mono (by decide)) Y._law_take.mg Y._law_take.kp Y._law_take.b .nil pass0 (a_cons (qv 0) (a_cons q_int a_nil))))
      (b_cons (s_setC 4 c__law_names.nd (q_call G__law_pick (hr.mono (by decide)) Y._law_pick.mg Y._law_pick.kp Y._law_pick.b .nil pass0 (a_cons (qv 0) (a_cons (q_lstC [V.int 1, V.int 3, V.int 5, V.int 7, V.int 9, V.int 11] (by decide +kernel)) a_nil))))
      (b_cons (s_setcomp 5 (src := [none, some 3, some 2, some 4]) o__law_names_1 rfl rfl c__law_names.nd (i_rng1 Y.range (a_cons (qv 1) a_nil)) (fun _ _ _ _ _ => (g_name 0 o__law_names_1.nd)) (fun _ _ _ _ _ => f_nil) (fun _ _ _ _ _ => (q_op op_mul_strN (q_ix ix_str (qc 2) (q_op op_mod (q_op op_add (qc 1) (q_op op_mul (qc 3) (qv 0))) q_int)) (q_op op_add q_int (q_op op_mod (q_op op_add (q_op op_mul (qv 0) (qv 0)) (qc 1)) q_int)))))
      (b_cut (s_if (t_cmp op_eq (q_call G__law_take (hr.mono (by decide)) Y._law_take.mg Y._law_take.kp Y._law_take.b .nil pass0 (a_cons (qv 0) (a_cons q_int a_nil))) q_int) (b_cons (s_set 6 c__law_names.nd (q_lstC [V.str "goal", V.str "to", V.str "by", V.str "houses", V.str "tie", V.str "like", V.str "hand", V.str "keep", V.str "put", V.str "mark", V.str "long", V.str "from", V.str "strike"] (by decide +kernel)))
      (b_cons (s_set 7 c__law_names.nd (q_call G__law_take (hr.mono (by decide)) Y._law_take.mg Y._law_take.kp Y._law_take.b .nil pass0 (a_cons (qv 0) (a_cons q_int a_nil))))
      (b_one (s_for PassesOwn.never rfl (i_rng1 Y.range (a_cons (q_callB (call_min2 rfl) Y.min bt_min (a_cons (qv 1) (a_cons q_int a_nil))) a_nil)) (g_name 8 c__law_names.nd) (b_one (s_asg (q_ix ix_list (qv 6) (q_op op_mod (q_op op_add (qv 7) (q_op op_mul q_int (qv 8))) q_int)) (g_sub (qv 5) (qv 8) set_list))))))) b_nil)
      (b_one (s_ret (qv 5)))))))), ?_⟩
    refine ⟨_, rfl, a, 26, n, rfl, hH, by omega, by decide, by decide, fun f' H1 f0 f26 hH1 k1 => ?_⟩
    obtain ⟨f, rfl⟩ : ∃ f : Nat, f' = (f : Int) := ⟨f'.toNat, by omega⟩
    refine ⟨_, rfl, by decide, fun pl hpl => ⟨a, n + 1, hH1.new hpl, by omega, .inl ⟨pl, _, rfl, hH1.ne hpl, SqL.of upd_same, by decide, by decide, fun v H2 hv hH2 k2 => ?_⟩⟩⟩
    obtain ⟨st, rfl, st0, st11⟩ : ∃ st : Nat, v = .int (st : Int) ∧ st ∈ steps ∧ st ≤ 11 := by
      simp only [List.mem_cons, List.not_mem_nil, or_false] at hv
      rcases hv with rfl | rfl | rfl | rfl | rfl | rfl
      · exact ⟨1, rfl, by decide, by decide⟩
      · exact ⟨3, rfl, by decide, by decide⟩
      · exact ⟨5, rfl, by decide, by decide⟩
      · exact ⟨7, rfl, by decide, by decide⟩
      · exact ⟨9, rfl, by decide, by decide⟩
      · exact ⟨11, rfl, by decide, by decide⟩
    have kp2 : Keep a H H2 := k1.trans ((Keep.new hpl).trans k2)
    refine ⟨_, rfl, m, rfl, by omega, by omega, ?_⟩
    refine comp_by wk_rng (fun l i ys σ' H' => (∃ o, σ' = [o, some (.int (f : Int)), some (.str lettersS), some (.int (st : Int))]) ∧ ys = ((List.range i).map (nmS f st)).map V.str ∧ Hand H' a (n + 1 + 1) ∧ Keep a H2 H') ?_ (fun _ _ _ _ _ _ _ => trivial) ?_ ?_
    · exact fun l hl => ⟨⟨_, rfl⟩, rfl, hH2.new hl, Keep.new hl⟩
    · rintro l i y ys σ' H' hl hi rfl ⟨⟨o, rfl⟩, rfl, hH', k'⟩ hl'
      have hi13 : i < 13 := by have : i < m := by omega
                               omega
      have hr26 : (f + st * i) % 26 < 26 := Nat.mod_lt _ (by decide)
      have ei : ((f : Int) + (st : Int) * (0 + (i : Int))) % 26 = (((f + st * i) % 26 : Nat) : Int) := by rw [Int.zero_add]; push_cast; rfl
      have ec : atI lettersS.cps.toList (((f : Int) + (st : Int) * (0 + (i : Int))) % 26) = some (97 + (f + st * i) % 26) := by
        rw [ei]; exact atI_nat (letters_at _ (List.mem_range.mpr hr26))
      have en : (1 + ((0 + (i : Int)) * (0 + (i : Int)) + (f : Int)) % 8) = ((1 + (i * i + f) % 8 : Nat) : Int) := by rw [Int.zero_add]; push_cast; rfl
      have g8 : (i * i + f) % 8 < 8 := Nat.mod_lt _ (by decide)
      refine ⟨_, rfl, _, rfl, _, rfl, _, rfl, _, _, rfl, rfl, .inl ⟨by omega, by omega⟩, _, _, rfl, rfl, _, _, rfl, rfl, (by decide : (0 : Int) < 26), lettersS, _, _, rfl, rfl, by rw [letters_len]; decide, ec, _, rfl, _, rfl, _, _, rfl, rfl, .inl ⟨by omega, by omega⟩, _, rfl, _, _, rfl, rfl, _, _, rfl, rfl, (by decide : (0 : Int) < 8), _, _, rfl, rfl, one (97 + (f + st * i) % 26), _, rfl, rfl, by rw [en]; omega, by rw [en]; omega, by rw [one_len]; decide, by rw [one_len]; decide, ?_⟩
      have nl := hH2.ne hl
      refine ⟨hl', ?_, ⟨_, rfl⟩, ?_, hH'.updNe nl, k'.updNew hl⟩
      · rw [List.length_map, List.length_map, List.length_range]; exact small1000 (by omega)
      · rw [en, Int.toNat_natCast, List.range_succ, List.map_append, List.map_append]; rfl
    · rintro l ys σ' H3 hl ⟨⟨o, rfl⟩, rfl, hH3, k3⟩ hl'
      have nl := hH2.ne hl
      rw [Int.toNat_natCast] at hl'
      have e0 : (List.range m).map (nmS f st) = (List.range m).map (nameS f st 0 0) := by
        apply List.map_congr_left
        intro k _
        unfold nameS
        rw [if_neg (by omega)]
      have hln : H l = none := by
        cases e : H l with
        | none => rfl
        | some o => exact absurd (kp2 l o nl e) (by rw [hl]; exact fun z => nomatch z)
      refine ⟨fun σ' H' => (∃ o6 o7 o8, σ' = [some (.ref a), some (.int m), some (.str lettersS), some (.int (f : Int)), some (.int (st : Int)), some (.ref l), o6, o7, o8]) ∧ (∃ sp j : Nat, H' l = some (.lst (((List.range m).map (nameS f st sp j)).map V.str)) ∧ sp < 13 ∧ j ≤ 4) ∧ Hand H' a (n + 4) ∧ Keep a H H', ?_, ?_⟩
      · refine ⟨_, rfl, a, 6, n + 1 + 1, rfl, hH3, by omega, by decide, by decide, fun d H4 d0 d6 hH4 k4 => ⟨rfl, _, rfl, ite2 (fun _ => ?_) (fun _ => ?_)⟩⟩
        · have hl4 := k4 _ _ nl hl'
          have kp4 : Keep a H H4 := (kp2.trans k3).trans k4
          refine ⟨by decide, fun pk hpk => ?_⟩
          have npl : pk ≠ l := fun z => by rw [z, hl4] at hpk; cases hpk
          have npa := hH4.ne hpk
          refine ⟨_, rfl, a, 13, n + 1 + 1 + 1, rfl, hH4.new hpk, by omega, by decide, by decide, fun sp' H5 sp0 sp13 hH5 k5 => ?_⟩
          obtain ⟨sp, rfl⟩ : ∃ f : Nat, sp' = (f : Int) := ⟨sp'.toNat, by omega⟩
          refine ⟨_, rfl, _, _, rfl, _, rfl, ?_, ?_, ?_⟩
          · split <;> omega
          · split <;> omega
          have e4 : (if (4 : Int) < (m : Int) then (4 : Int) else (m : Int)).toNat = min 4 m := by split <;> omega
          rw [e4]
          refine for_by wk_rng (fun i σ' H' => (∃ o8, σ' = [some (.ref a), some (.int m), some (.str lettersS), some (.int (f : Int)), some (.int (st : Int)), some (.ref l), some (.ref pk), some (.int (sp : Int)), o8]) ∧ H' l = some (.lst (((List.range m).map (nameS f st sp i)).map V.str)) ∧ Hand H' a (n + 4) ∧ Keep a H H' ∧ H' pk = some (.lst (keptL.map V.str))) ?_ (fun _ _ _ _ => trivial) ?_ ?_
          · refine ⟨⟨_, rfl⟩, ?_, hH5.mono (by omega), kp4.trans ((Keep.new hpk).trans k5), k5 _ _ npa upd_same⟩
            have e0' : (List.range m).map (nmS f st) = (List.range m).map (nameS f st sp 0) := by
              apply List.map_congr_left
              intro k _
              unfold nameS
              rw [if_neg (by omega)]
            rw [← e0']
            exact k5 _ _ nl (by rw [upd_ne (Ne.symm npl)]; exact hl4)
          · rintro i y σ' H6 hi4 rfl ⟨⟨o8, rfl⟩, hz, hH6, k6, hp6⟩
            have ek : ((sp : Int) + 3 * (0 + (i : Int))) % 13 = (((sp + 3 * i) % 13 : Nat) : Int) := by rw [Int.zero_add]; push_cast; rfl
            have ev : atI (keptL.map V.str) (((sp : Int) + 3 * (0 + (i : Int))) % 13) = some (.str (kwS sp i)) := by
              rw [ek]; exact atI_nat (by rw [List.getElem?_map, kept_at]; rfl)
            have hix : ixN (((List.range m).map (nameS f st sp i)).map V.str).length (0 + (i : Int)) = some i := by
              unfold ixN
              rw [if_pos (by omega), if_pos (by rw [List.length_map, List.length_map, List.length_range]; omega)]
              congr 1
              omega
            refine ⟨_, rfl, _, rfl, _, rfl, _, _, rfl, rfl, .inl ⟨by decide, by decide⟩, _, _, rfl, rfl, _, _, rfl, rfl, (by decide : (0 : Int) < 13), pk, _, _, _, rfl, rfl, SqL.of hp6, ev, _, rfl, _, rfl, l, _, _, i, rfl, rfl, hz, hix, ?_⟩
            refine ⟨⟨_, rfl⟩, ?_, hH6.updNe nl, k6.updNew hln, by rw [upd_ne npl]; exact hp6⟩
            rw [upd_same, ← List.map_set, name_set (by omega)]
          · rintro σ' H6 ⟨⟨o8, rfl⟩, hz, hH6, k6, _⟩
            exact ⟨⟨_, _, _, rfl⟩, ⟨sp, min 4 m, hz, by omega, by omega⟩, hH6, k6⟩
        · rw [e0] at hl'
          exact ⟨⟨_, _, _, rfl⟩, ⟨0, 0, k4 _ _ nl hl', by decide, by decide⟩, hH4.mono (by omega), (kp2.trans k3).trans k4⟩
      · rintro σ' H' ⟨⟨o6, o7, o8, rfl⟩, ⟨sp, j, hz, hsp, hj⟩, hH', k'⟩
        refine ⟨_, rfl, q l _ H' hln hz (by rw [List.length_map, List.length_range]) (fun x hx => ?_) (names_nodup (by omega) st0 hsp hj m13) (fun x hx => ?_) hH' k'⟩
        · obtain ⟨k, _, rfl⟩ := List.mem_map.mp hx
          exact name_ok _ _ _ _ _
        · obtain ⟨k, _, rfl⟩ := List.mem_map.mp hx
          exact name_here _ _ _ _ _
end
end K62

set_option Elab.async false
set_option linter.all false
set_option maxRecDepth 100000
set_option maxHeartbeats 4000000
namespace K62
open PySem PySem.Spec PyProof.Rows L2 RW
local macro_rules | `(tactic| walk_at "cond") => `(tactic| first | assumption | decide | omega | exact few rfl | exact .inl ⟨by decide, by decide⟩ | exact .inr ⟨by decide, by decide⟩ | exact .inl ⟨by omega, by omega⟩ | exact .inr ⟨by omega, by omega⟩ | exact ⟨by omega, by omega⟩ | exact ⟨by assumption, by assumption⟩ | exact ⟨by decide, by decide, by decide⟩ | exact .inr ⟨by split <;> decide, by split <;> decide⟩)
local macro_rules | `(tactic| walk_at "rd") => `(tactic| first | with_reducible_and_instances refine ⟨_, rfl, ?_⟩ | refine ⟨_, rfl, ?_⟩ | refine ⟨_, _, rfl, rfl, ?_⟩ | refine ⟨_, _, _, _, rfl, rfl, SqL.of (by assumption), rfl, ?_⟩ | refine ⟨_, _, _, _, rfl, rfl, (by assumption), rfl, ?_⟩ | refine .inl ⟨_, rfl, ?_⟩ | refine .inr ⟨_, rfl, ?_⟩ | refine .inl ⟨_, _, rfl, .inl (by assumption), ?_⟩ | refine ⟨(by walk_at "cond"), ?_⟩)
local macro_rules | `(tactic| walk_at "dsp") => `(tactic| repeat' (first | exact dsp_str (by decide) | exact dsp_int | exact dsp_bl | exact dsp_non | exact dsp_neg | exact dspA_nil | exact dsp_dnew | exact dsp_disp rfl | exact dsp_var rfl (by assumption) | refine dspA_cons ?_ ?_ | refine dsp_tup ?_ ?_ | refine dsp_lst' ?_ | refine n_cons ?_ ?_ | exact n_nil | exact v_c | exact v_var rfl | refine v_tup ?_ | refine dspl_lst ?_ ?_ | refine dspl_cat ?_ ?_ ?_ | exact dspl_var rfl (by assumption) (by assumption) | exact Nat.le_of_ble_eq_true rfl))
local macro_rules | `(tactic| walk_at "each") => `(tactic| repeat' (first | exact forall_nil | refine List.forall_mem_append.mpr ⟨?_, ?_⟩ | refine List.forall_mem_cons.mpr ⟨?_, ?_⟩))
section
variable {P : Program} {w : World} {K : PySem.W.Frag} {mg : Str → Option Value} {base : Heap}
theorem mem_at {α : Type} {P : α → Prop} {ds : List α} (h : ∀ (i : Nat) (d : α), ds[i]? = some d → P d) : ∀ d ∈ ds, P d := fun d hd => by
  obtain ⟨i, hi, e⟩ := List.getElem_of_mem hd
  exact h i d (by rw [List.getElem?_eq_getElem hi, e])
def spKinD : Sp := fun vs H Q _ => ∃ (a h : Addr) (n : Int) (xs : List Str) (more : Nat), vs = [.ref a, .ref h, .int more] ∧ Hand H a n ∧ n < 2 ^ 38 ∧ H h = some (.lst (xs.map V.str)) ∧ h ≠ a ∧ xs.length ≤ 13 ∧ xs.Nodup ∧ (∀ x ∈ xs, isNameB x = true) ∧ more ≤ 8 ∧ (more = 0 ∨ 0 < xs.length) ∧
  ∀ (p : Addr) (us : List V) (rs : List (List Str)) (H' : Hp), H' p = some (.tup us) → TupsAt H' us rs → KinOk rs → rs.length ≤ 20 → Hand H' a (n + 60) → Keep a H H' → Q (.ref p) H'
theorem ok_kinD (Y : Ev K mg) : FnOk P w K mg base CX0 2 Y.a__law_kin Y.d__law_kin p__law_kin spKinD := by
  have G__law_take : FnOk P w K mg base CX0 1 Y.a__law_take Y.d__law_take p__law_take spTake := ok_take Y
  refine Y._law_kin.fn.okQ c__law_kin (fun vs H Q E h => ?_) (fun cdv A outer s H vs Q E hr h => ?_)
  · obtain ⟨a, h, n, xs, more, rfl, _⟩ := h; rfl
  · obtain ⟨a, h, n, xs, more, rfl, hH, hn, hh, nha, x13, nd, hnm, m8, m0, q⟩ := h
    refine ⟨_, (b_cons (s_setcomp 3 (src := [none, some 0]) o__law_kin_1 rfl rfl c__law_kin.nd (i_rng2 Y.range (a_cons q_int (a_cons (q_callB call_len2 Y.len bt_len (a_cons (qv 1) a_nil)) a_nil))) (fun _ _ _ _ _ => (g_name 0 o__law_kin_1.nd)) (fun _ _ _ _ _ => f_nil) (fun _ _ _ _ _ => (q_tup (a_cons (q_call G__law_take (hr.mono (by decide)) Y._law_take.mg Y._law_take.kp Y._law_take.b .nil pass0 (a_cons (qc 1) (a_cons (qv 0) a_nil))) (a_cons (qv 0) a_nil)))))
      (b_cons (s_for PassesOwn.never rfl (i_rng1 Y.range (a_cons (qv 2) a_nil)) (g_name 4 c__law_kin.nd) (b_cons (s_par 5 6 c__law_kin.nd (a_cons (q_call G__law_take (hr.mono (by decide)) Y._law_take.mg Y._law_take.kp Y._law_take.b .nil pass0 (a_cons (qc 0) (a_cons (q_callB call_len2 Y.len bt_len (a_cons (qv 1) a_nil)) a_nil))) (a_cons (q_call G__law_take (hr.mono (by decide)) Y._law_take.mg Y._law_take.kp Y._law_take.b .nil pass0 (a_cons (qc 0) (a_cons (q_callB call_len2 Y.len bt_len (a_cons (qv 1) a_nil)) a_nil))) a_nil)))
      (b_one (s_expr (q_bm PySem.F.plainAttrs_list PySem.F.slot_list_append PySem.F.type_list_append mt_append (qv 3) (a_cons (q_tup (a_cons (q_callB (call_min2 rfl) Y.min bt_min (a_cons (qv 5) (a_cons (qv 6) a_nil))) (a_cons (q_callB (call_max2 rfl) Y.max bt_max (a_cons (qv 5) (a_cons (qv 6) a_nil))) a_nil))) a_nil))))))
      (b_cons (s_set 7 c__law_kin.nd (q_lst a_nil))
      (b_cons (s_for PassesOwn.never rfl (i_enumL Y.enumerate (a_cons (qv 3) a_nil)) (g_tup 2 rfl (gs_cons (g_name 4 c__law_kin.nd) (gs_cons (g_name 8 c__law_kin.nd) gs_nil))) (b_one (s_if (t_w (w_and (t_cmp op_ne (q_ix ix_tup (qv 8) q_int) (q_ix ix_tup (qv 8) q_int)) (w_and1 (t_cmp (op_niD (hu64 hr)) (qv 8) (q_sl sl_list (qv 3) o_none (o_some (qv 4))))))) (b_cons (s_par 9 10 c__law_kin.nd (a_cons (q_ix ix_list (qv 1) (q_ix ix_tup (qv 8) q_int)) (a_cons (q_ix ix_list (qv 1) (q_ix ix_tup (qv 8) q_int)) a_nil)))
      (b_one (s_if (t_cmp op_eq (q_call G__law_take (hr.mono (by decide)) Y._law_take.mg Y._law_take.kp Y._law_take.b .nil pass0 (a_cons (qc 0) (a_cons q_int a_nil))) q_int) (b_one (s_expr (q_bm PySem.F.plainAttrs_list PySem.F.slot_list_append PySem.F.type_list_append mt_append (qv 7) (a_cons (q_tup (a_cons (q_callB (call_min2S rfl) Y.min bt_min (a_cons (qv 9) (a_cons (qv 10) a_nil))) (a_cons (q_callB (call_max2S rfl) Y.max bt_max (a_cons (qv 9) (a_cons (qv 10) a_nil))) (a_cons q_str a_nil)))) a_nil)))) (b_one (s_expr (q_bm PySem.F.plainAttrs_list PySem.F.slot_list_append PySem.F.type_list_append mt_append (qv 7) (a_cons (q_tup (a_cons (qv 9) (a_cons (qv 10) (a_cons q_str a_nil)))) a_nil))))))) b_nil)))
      (b_one (s_ret (q_callTy call_tuple_of Y.tuple bt_tuple (a_cons (q_callB call_sortedTs Y.sorted bt_sorted (a_cons (qv 7) a_nil)) a_nil)))))))), ?_⟩
    refine ⟨_, rfl, .inl ⟨h, _, rfl, .inl (SqL.of hh), 1, _, rfl, ⟨by decide, by decide, by omega, by rw [List.length_map]; omega⟩, ?_⟩⟩
    have eN : (((xs.map V.str).length : Int) - 1).toNat = xs.length - 1 := by rw [List.length_map]; omega
    rw [eN]
    refine comp_drawsP (a := a) (m := n) (c := 1) (Pd := fun i d => ∃ q : Nat × Nat, d = idxD q ∧ (q.1 ≤ q.2 ∧ q.2 < xs.length)) (σr := [some (.ref a)]) wk_rng (fun _ _ => trivial) rfl hH (by omega) (by decide) (fun i x H1 Q1 hi hx hH1 k1 q1 => ?_) (fun lp vs ds H1 hlp hlp1 r1 hdl pd hH1 k1 => ?_)
    · subst hx
      refine ⟨_, rfl, _, rfl, a, 1 + (i : Int), _, rfl, hH1, by omega, by omega, by omega, fun t H2 t0 t1 hH2 k2 => ⟨_, rfl, few rfl, fun p2 hp2 => ?_⟩⟩
      obtain ⟨t', rfl⟩ : ∃ t' : Nat, t = (t' : Int) := ⟨t.toNat, by omega⟩
      refine q1 _ (idxD (t', 1 + i)) _ ?_ ⟨_, rfl, by show t' ≤ 1 + i; omega, by show 1 + i < xs.length; omega⟩ ((hH2.new hp2).mono (by omega)) (k2.trans (Keep.new hp2))
      exact .mk2 upd_same (.int _) (by have := Rep.int (H := upd H2 p2 (.tup [.int (t' : Int), .int (1 + (i : Int))])) (1 + (i : Int)); exact this)
    obtain ⟨ps, rfl, hps⟩ := list_of (mem_at pd)
    have nlp : lp ≠ a := hH.ne hlp
    have nlh : lp ≠ h := fun z => by rw [z, hh] at hlp; cases hlp
    have hh1 := k1 _ _ nha hh
    rw [List.length_map] at hdl
    refine ⟨_, rfl, more, rfl, by omega, by omega, ?_⟩
    rw [Int.toNat_natCast]
    refine for_by wk_rng (fun i σ' H' => (∃ o4 o5 o6 o7 o8 o9 o10, σ' = [some (.ref a), some (.ref h), some (.int more), some (.ref lp), o4, o5, o6, o7, o8, o9, o10]) ∧ (∃ (vs : List V) (ps : List (Nat × Nat)), H' lp = some (.lst vs) ∧ RepL H' vs (ps.map idxD) ∧ (∀ q ∈ ps, q.1 ≤ q.2 ∧ q.2 < xs.length) ∧ ps.length ≤ xs.length - 1 + i) ∧ Hand H' a (n + 13 + 2 * i) ∧ Keep a H H') ?_ (fun _ _ _ _ => trivial) ?_ ?_
    · exact ⟨⟨_, _, _, _, _, _, _, rfl⟩, ⟨vs, ps, hlp1, r1, hps, by omega⟩, hH1.mono (by omega), k1⟩
    · rintro i y σ' H2 hi rfl ⟨⟨o4, o5, o6, o7, o8, o9, o10, rfl⟩, ⟨vs2, ps2, hv2, r2, hp2, l2⟩, hH2, k2⟩
      have hx0 : 0 < xs.length := by omega
      have hh2 := k2 _ _ nha hh
      refine ⟨_, rfl, _, rfl, .inl ⟨h, _, rfl, .inl (SqL.of hh2), a, _, _, rfl, hH2, by omega, by rw [List.length_map]; omega, by rw [List.length_map]; omega, fun t H3 t0 t1 hH3 k3 => ?_⟩⟩
      have hh3 := k3 _ _ nha hh2
      refine ⟨_, rfl, _, rfl, .inl ⟨h, _, rfl, .inl (SqL.of hh3), a, _, _, rfl, hH3, by omega, by rw [List.length_map]; omega, by rw [List.length_map]; omega, fun u H4 u0 u1 hH4 k4 => ⟨_, _, rfl, ?_⟩⟩⟩
      rw [List.length_map] at t1 u1
      obtain ⟨t', rfl⟩ : ∃ t' : Nat, t = (t' : Int) := ⟨t.toNat, by omega⟩
      obtain ⟨u', rfl⟩ : ∃ t' : Nat, u = (t' : Int) := ⟨u.toNat, by omega⟩
      have k24 := k3.trans k4
      have hv4 := k24 _ _ nlp hv2
      refine ⟨_, rfl, .inl ⟨rfl, _, SqL.of hv4⟩, _, rfl, _, rfl, _, _, rfl, _, rfl, _, rfl, _, _, rfl, few rfl, fun p5 hp5 => ?_⟩
      have hq : ∃ q : Nat × Nat, ([V.int (if (u' : Int) < (t' : Int) then (u' : Int) else t'), V.int (if (u' : Int) > (t' : Int) then (u' : Int) else t')] : List V) = [V.int (q.1 : Int), V.int (q.2 : Int)] ∧ q.1 ≤ q.2 ∧ q.2 < xs.length := by
        by_cases hlt : u' < t'
        · refine ⟨(u', t'), ?_, by show u' ≤ t'; omega, by show t' < _; omega⟩
          rw [if_pos (by omega), if_neg (by omega)]
        · by_cases hgt : u' > t'
          · refine ⟨(t', u'), ?_, by show t' ≤ u'; omega, by show u' < _; omega⟩
            rw [if_neg (by omega), if_pos (by omega)]
          · refine ⟨(t', t'), ?_, Nat.le_refl _, by show t' < _; omega⟩
            rw [if_neg (by omega), if_neg (by omega)]
      obtain ⟨q5, e5, hq5⟩ := hq
      rw [e5]
      have hv5 : upd H4 p5 (.tup [V.int (q5.1 : Int), V.int (q5.2 : Int)]) lp = some (.lst vs2) := by rw [upd_ne (ne_of_none hv4 hp5)]; exact hv4
      have r5 : Rep (upd H4 p5 (.tup [V.int (q5.1 : Int), V.int (q5.2 : Int)])) (.ref p5) (idxD q5) := .mk2 upd_same (.int _) (.int _)
      have rl := r2.1
      rw [List.length_map] at rl
      refine ⟨lp, _, _, rfl, rfl, hv5, small1000 (by omega), ⟨_, _, _, _, _, _, _, rfl⟩, ⟨_, ps2 ++ [q5], upd_same, ?_, ?_, ?_⟩, ?_, ?_⟩
      · rw [List.map_append]
        exact RepL.mono (.append ((r2.mono (.keep k24 hH2 hH4)).mono (.new hp5)) (.cons r5 .nil)) (.lset hv5)
      · intro q hq
        rcases List.mem_append.mp hq with hq | hq
        · exact hp2 q hq
        · rw [List.mem_singleton.mp hq]; exact hq5
      · rw [List.length_append, List.length_singleton]; omega
      · exact ((hH4.new hp5).updNe nlp).mono (by push_cast; omega)
      · exact Keep.updNew ((k2.trans k24).trans (Keep.new hp5)) hlp
    rintro σ' H2 ⟨⟨o4, o5, o6, o7, o8, o9, o10, rfl⟩, ⟨vs2, ps2, hv2, r2, hp2, l2⟩, hH2, k2⟩
    have rl := r2.1
    rw [List.length_map] at rl
    refine ⟨few rfl, fun lr hlr => ?_⟩
    have nlr : lr ≠ a := hH2.ne hlr
    have nlrp : lr ≠ lp := fun z => by rw [z, hv2] at hlr; cases hlr
    have S3 := Same.new (o := .lst []) hlr
    have hlrH : H lr = none := by
      cases e : H lr with
      | none => rfl
      | some o => exact absurd (k2 lr o nlr e) (by rw [hlr]; exact fun z => nomatch z)
    refine ⟨_, rfl, lp, vs2, rfl, SqL.of (S3 _ _ hv2), ?_⟩
    refine for_byY (n := vs2.length) (fun i σ' H' => (∃ o4 o5 o6 o8 o9 o10, σ' = [some (.ref a), some (.ref h), some (.int more), some (.ref lp), o4, o5, o6, some (.ref lr), o8, o9, o10]) ∧ H' lp = some (.lst vs2) ∧ RepL H' vs2 (ps2.map idxD) ∧ (∃ (us : List V) (rs : List (List Str)), H' lr = some (.lst us) ∧ TupsAt H' us rs ∧ KD62 xs ps2 i rs) ∧ Hand H' a (n + 30 + i) ∧ Keep a H H') ?_ ?_ ?_ ?_ ?_
    · exact ⟨⟨_, _, _, _, _, _, rfl⟩, S3 _ _ hv2, r2.mono (.of S3), ⟨[], [], upd_same, ⟨rfl, fun i v q e => by cases e⟩, ⟨(fun _ z => nomatch z), List.nodup_nil, Nat.le_refl _, (fun _ z => nomatch z)⟩⟩, (hH2.new hlr).mono (by push_cast; omega), k2.trans (Keep.of S3)⟩
    · rintro i σ' H' hi ⟨_, hv, _⟩
      exact ⟨vs2, vs2[i], SqL.of hv, rfl, by simp [hi]⟩
    · rintro σ' H' ⟨_, hv, _⟩
      exact ⟨vs2, SqL.of hv, rfl, Nat.le_refl _⟩
    · rintro i x σ' H3 H3' hi ⟨⟨o4, o5, o6, o8, o9, o10, rfl⟩, hv3, r3, ⟨us, rs, hu3, T3, kd⟩, hH3, k3⟩ ⟨T, y, rfl, hT, hy, rfl⟩
      have hy := hy vs2 (SqL.of hv3)
      have hi2 : i < ps2.length := by omega
      have eq : ps2[i]? = some ps2[i] := List.getElem?_eq_getElem hi2
      have ry := r3.2 i y (idxD ps2[i]) hy (by rw [List.getElem?_map, eq]; rfl)
      have hqk := hp2 ps2[i] (List.getElem_mem hi2)
      generalize ps2[i] = qk at *
      have S4 := Same.new (o := .tup [.int ((i : Nat) : Int), y]) hT
      refine ⟨T, _, rfl, .inl (.inl upd_same), rfl, _, _, rfl, _, _, rfl, rfl, ?_⟩
      have hv4 := S4 _ _ hv3
      have hu4 := S4 _ _ hu3
      have r4 := r3.mono (.of S4)
      have ry4 := ry.same S4
      have T4 := tups_same T3 S4
      have hH4 := hH3.new (o := .tup [.int ((i : Nat) : Int), y]) hT
      have k4 := k3.trans (Keep.of (a := a) S4)
      generalize (upd H3 T (HO.tup [V.int ((i : Nat) : Int), y])) = H4 at *
      obtain ⟨py, v0, v1, rfl, hpy, ra, rb⟩ := ry4.of2
      cases ra with | int _ =>
      cases rb with | int _ =>
      have ulen : us.length ≤ 25 := by have h1 := T4.1; have h2 := kd.few; omega
      have skip : ∀ (x4 x5 x6 x8 x9 x10 : Option V), ∃ o4 o5 o6 o8 o9 o10 : Option V, [some (V.ref a), some (V.ref h), some (V.int more), some (V.ref lp), x4, x5, x6, some (V.ref lr), x8, x9, x10] = [some (V.ref a), some (V.ref h), some (V.int more), some (V.ref lp), o4, o5, o6, some (V.ref lr), o8, o9, o10] := fun _ _ _ _ _ _ => ⟨_, _, _, _, _, _, rfl⟩
      refine ⟨_, rfl, py, _, 0, _, rfl, rfl, .inl (.inl hpy), at0, _, rfl, py, _, 1, _, rfl, rfl, .inl (.inl hpy), at1, rfl, _, rfl, ?_⟩
      have en : (!decide (V.int (qk.1 : Int) = V.int (qk.2 : Int))) = !decide (qk.1 = qk.2) := by
        by_cases e : qk.1 = qk.2
        · rw [decide_eq_true e, decide_eq_true (by rw [e])]
        · rw [decide_eq_false e, decide_eq_false (fun z => e (by injection z with z; omega))]
      rw [en]
      by_cases e : qk.1 = qk.2
      · rw [decide_eq_true e]
        exact if_f rfl (if_f rfl ⟨skip _ _ _ _ _ _, hv4, r4, ⟨us, rs, hu4, T4, kd.skip⟩, hH4.mono (by push_cast; omega), k4⟩)
      rw [decide_eq_false e]
      refine if_t rfl ⟨_, rfl, _, rfl, _, rfl, _, rfl, lp, _, rfl, SqL.of hv4, fun p5 hp5 => ?_⟩
      have S5 := Same.new (o := .lst (cutV vs2 none (some ((i : Nat) : Int)))) hp5
      rw [cut_take] at S5 ⊢
      have r5 : RepL (upd H4 p5 (.lst (vs2.take i))) (vs2.take i) ((ps2.take i).map idxD) := by rw [List.map_take]; exact (r4.take i).mono (.of S5)
      refine ⟨pyD (idxD qk), ((ps2.take i).map idxD).map pyD, tr_of (ry4.same S5) (idx_ok qk), .inl (tr_list upd_same r5 fun d hd => by obtain ⟨z, _, rfl⟩ := List.mem_map.mp hd; exact idx_ok z), idx_depth qk, _, rfl, ?_⟩
      rw [List.map_map]
      rw [show ((ps2.take i).map (pyD ∘ idxD)) = (ps2.take i).map (fun r => pyD (idxD r)) from rfl, idx_in]
      have hv5 := S5 _ _ hv4
      have hu5 := S5 _ _ hu4
      have r5' := r4.mono (.of S5)
      have T5 := tups_same T4 S5
      have hH5 := hH4.new (o := .lst (vs2.take i)) hp5
      have k5 := k4.trans (Keep.of (a := a) S5)
      have hpy5 := S5 _ _ hpy
      generalize (upd H4 p5 (HO.lst (vs2.take i))) = H5 at *
      by_cases hin : qk ∈ ps2.take i
      · rw [decide_eq_true hin]
        exact if_f rfl ⟨skip _ _ _ _ _ _, hv5, r5', ⟨us, rs, hu5, T5, kd.skip⟩, hH5.mono (by push_cast; omega), k5⟩
      rw [decide_eq_false hin]
      have hh5 := k5 _ _ nha hh
      have lq1 : qk.1 < xs.length := by omega
      have lq2 : qk.2 < xs.length := by omega
      have g1 : atI (xs.map V.str) (qk.1 : Int) = some (.str (at_ xs qk.1)) := atI_nat (by simp [lq1, List.getD])
      have g2 : atI (xs.map V.str) (qk.2 : Int) = some (.str (at_ xs qk.2)) := atI_nat (by simp [lq2, List.getD])
      have n1 := at_name (i := qk.1) hnm (by omega)
      have n2 := at_name (i := qk.2) hnm (by omega)
      have ne12 : at_ xs qk.1 ≠ at_ xs qk.2 := fun z => e (at_inj nd (by omega) (by omega) z)
      refine if_t rfl ⟨_, rfl, _, rfl, py, _, 0, _, rfl, rfl, .inl (.inl hpy5), at0, h, _, _, _, rfl, rfl, SqL.of hh5, g1, _, rfl, _, rfl, py, _, 1, _, rfl, rfl, .inl (.inl hpy5), at1, h, _, _, _, rfl, rfl, SqL.of hh5, g2, _, _, rfl, ?_⟩
      have app : ∀ {H6 H7 : Hp} {p7 : Addr} {x1 x2 w' : Str} {σ' : L2.St}, Hand H6 a (n + 30 + i + 1) → Keep a H5 H6 → H6 p7 = none → H7 = upd H6 p7 (.tup [V.str x1, V.str x2, V.str w']) → rowL [x1, x2, w'] = true → tieL [x1, x2, w'] = pr (at_ xs qk.1) (at_ xs qk.2) →
          (∃ o4 o5 o6 o8 o9 o10, σ' = [some (.ref a), some (.ref h), some (.int more), some (.ref lp), o4, o5, o6, some (.ref lr), o8, o9, o10]) → H7 lr = some (.lst us) ∧ (∃ o4 o5 o6 o8 o9 o10, σ' = [some (.ref a), some (.ref h), some (.int more), some (.ref lp), o4, o5, o6, some (.ref lr), o8, o9, o10]) ∧ (upd H7 lr (.lst (us ++ [V.ref p7]))) lp = some (.lst vs2) ∧ RepL (upd H7 lr (.lst (us ++ [V.ref p7]))) vs2 (ps2.map idxD) ∧
          (∃ (us' : List V) (rs : List (List Str)), (upd H7 lr (.lst (us ++ [V.ref p7]))) lr = some (.lst us') ∧ TupsAt (upd H7 lr (.lst (us ++ [V.ref p7]))) us' rs ∧ KD62 xs ps2 (i + 1) rs) ∧ Hand (upd H7 lr (.lst (us ++ [V.ref p7]))) a (n + 30 + ((i + 1 : Nat) : Int)) ∧ Keep a H (upd H7 lr (.lst (us ++ [V.ref p7]))) := by
        intro H6 H7 p7 x1 x2 w' σ' hH6 k6 hp7 e7 hrow htie hσ
        subst e7
        have hu6 := k6 _ _ nlr hu5
        have S7 := Same.new (o := .tup [V.str x1, V.str x2, V.str w']) hp7
        have hu7 := S7 _ _ hu6
        have m56 : Mono H5 H6 := .keep k6 hH5 hH6
        have T7 : TupsAt (upd H6 p7 (.tup [V.str x1, V.str x2, V.str w'])) us rs := ⟨T5.1, fun j v q e1 e2 => by obtain ⟨b', e3, hb'⟩ := T5.2 j v q e1 e2; exact ⟨b', e3, S7 _ _ (m56.tup _ _ hb')⟩⟩
        have e7 := upd_same (H := H6) (a := p7) (o := .tup [V.str x1, V.str x2, V.str w'])
        have hv7 := S7 _ _ (k6 _ _ nlp hv5)
        refine ⟨hu7, hσ, by rw [upd_ne (Ne.symm nlrp)]; exact hv7, (r5'.mono (m56.trans (.of S7))).mono (.lset hu7), ⟨_, rs ++ [[x1, x2, w']], upd_same, ?_, kd.put nd hp2 eq e hin hrow htie⟩, ((hH6.new hp7).updNe nlr).mono (by push_cast; omega), Keep.updNew ((k5.trans k6).trans (Keep.of S7)) hlrH⟩
        refine ⟨by rw [List.length_append, List.length_append, T7.1]; rfl, fun j v q e1 e2 => ?_⟩
        generalize (upd H6 p7 (HO.tup [V.str x1, V.str x2, V.str w'])) = H7 at *
        have upl : ∀ {b o}, H7 b = some (.tup o) → (upd H7 lr (.lst (us ++ [V.ref p7]))) b = some (.tup o) := fun {b o} h => by rw [upd_ne (fun z => by rw [z, hu7] at h; cases h)]; exact h
        rcases Nat.lt_or_ge j us.length with hj | hj
        · rw [List.getElem?_append_left hj] at e1
          rw [List.getElem?_append_left (by rw [← T7.1]; exact hj)] at e2
          obtain ⟨b', rfl, hb'⟩ := T7.2 j v q e1 e2
          exact ⟨b', rfl, upl hb'⟩
        · have ej : j = us.length := by
            rcases Nat.lt_or_ge j (us ++ [V.ref p7]).length with z | z
            · rw [List.length_append, List.length_singleton] at z; omega
            · rw [List.getElem?_eq_none z] at e1; cases e1
          subst ej
          rw [List.getElem?_append_right (Nat.le_refl _), Nat.sub_self] at e1
          rw [List.getElem?_append_right (by rw [T7.1]; exact Nat.le_refl _), T7.1, Nat.sub_self] at e2
          cases e1
          cases e2
          exact ⟨p7, rfl, upl e7⟩
      refine ⟨_, rfl, a, 4, _, rfl, hH5, by omega, by decide, by decide, fun d H6 d0 d1 hH6 k6 => ⟨rfl, _, rfl, ite2 (fun _ => ?_) (fun _ => ?_)⟩⟩
      · have hu6 := k6 _ _ nlr hu5
        refine ⟨_, rfl, .inl ⟨rfl, _, SqL.of hu6⟩, _, rfl, _, rfl, _, _, rfl, _, rfl, _, rfl, _, _, rfl, few rfl, fun p7 hp7 => ?_⟩
        have A7 := fun σ' hσ => app (σ' := σ') hH6 k6 hp7 rfl (row_equal n1 n2 ne12) (by show pr _ _ = _; exact mm_pr) hσ
        exact ⟨lr, _, _, rfl, rfl, (A7 _ (skip none none none none none none)).1, small1000 (by omega), (A7 _ (skip _ _ _ _ _ _)).2⟩
      · have hu6 := k6 _ _ nlr hu5
        refine ⟨_, rfl, .inl ⟨rfl, _, SqL.of hu6⟩, _, rfl, _, rfl, few rfl, fun p7 hp7 => ?_⟩
        have A7 := fun σ' hσ => app (σ' := σ') hH6 k6 hp7 rfl (row_over n1 n2 ne12) rfl hσ
        exact ⟨lr, _, _, rfl, rfl, (A7 _ (skip none none none none none none)).1, small1000 (by omega), (A7 _ (skip _ _ _ _ _ _)).2⟩
    · rintro σ' H3 ⟨⟨o4, o5, o6, o8, o9, o10, rfl⟩, hv3, r3, ⟨us, rs, hu3, T3, kd⟩, hH3, k3⟩
      have lrs : rs.length ≤ 20 := by have := kd.few; omega
      refine ⟨_, rfl, lr, us, rs, rfl, .inl (SqL.of hu3), T3, fun r hr' => ?_, by omega, fun ls vs' l4 hpm hpw T4 hl4 => ⟨l4, _, rfl, .inl ⟨SqL.of upd_same, fun p5 hp5 => ?_⟩⟩⟩
      · obtain ⟨x1, x2, w', rfl, _⟩ := rowL_form (kd.row r hr')
        exact (by decide : 0 < 3)
      · have S := (Same.new (o := .lst vs') hl4).trans (Same.new (o := .tup vs') hp5)
        refine q p5 vs' ls _ upd_same (tups_same T4 S) (kin_of kd.row kd.nd hpm hpw) (by rw [hpm.length_eq]; exact lrs) ((hH3.same S).mono ?_) (k3.trans (Keep.of S))
        omega
end
end K62

set_option Elab.async false
set_option linter.all false
set_option maxRecDepth 100000
set_option maxHeartbeats 4000000
namespace K62
open PySem PySem.Spec PyProof.Rows L2 RW
local macro_rules | `(tactic| walk_at "cond") => `(tactic| first | assumption | decide | omega | exact few rfl | exact .inl ⟨by decide, by decide⟩ | exact .inr ⟨by decide, by decide⟩ | exact .inl ⟨by omega, by omega⟩ | exact .inr ⟨by omega, by omega⟩ | exact ⟨by omega, by omega⟩ | exact ⟨by assumption, by assumption⟩ | exact ⟨by decide, by decide, by decide⟩ | exact .inr ⟨by split <;> decide, by split <;> decide⟩)
local macro_rules | `(tactic| walk_at "rd") => `(tactic| first | with_reducible_and_instances refine ⟨_, rfl, ?_⟩ | refine ⟨_, rfl, ?_⟩ | refine ⟨_, _, rfl, rfl, ?_⟩ | refine ⟨_, _, _, _, rfl, rfl, SqL.of (by assumption), rfl, ?_⟩ | refine ⟨_, _, _, _, rfl, rfl, (by assumption), rfl, ?_⟩ | refine .inl ⟨_, rfl, ?_⟩ | refine .inr ⟨_, rfl, ?_⟩ | refine .inl ⟨_, _, rfl, .inl (by assumption), ?_⟩ | refine ⟨(by walk_at "cond"), ?_⟩)
local macro_rules | `(tactic| walk_at "dsp") => `(tactic| repeat' (first | exact dsp_str (by decide) | exact dsp_int | exact dsp_bl | exact dsp_non | exact dsp_neg | exact dspA_nil | exact dsp_dnew | exact dsp_disp rfl | exact dsp_var rfl (by assumption) | refine dspA_cons ?_ ?_ | refine dsp_tup ?_ ?_ | refine dsp_lst' ?_ | refine n_cons ?_ ?_ | exact n_nil | exact v_c | exact v_var rfl | refine v_tup ?_ | refine dspl_lst ?_ ?_ | refine dspl_cat ?_ ?_ ?_ | exact dspl_var rfl (by assumption) (by assumption) | exact Nat.le_of_ble_eq_true rfl))
local macro_rules | `(tactic| walk_at "each") => `(tactic| repeat' (first | exact forall_nil | refine List.forall_mem_append.mpr ⟨?_, ?_⟩ | refine List.forall_mem_cons.mpr ⟨?_, ?_⟩))
section
variable {P : Program} {w : World} {K : PySem.W.Frag} {mg : Str → Option Value} {base : Heap}
def gK (d : D) : Prop := kinB d = false ∧ ∀ ds, d = .tup ds → ds.length ≤ 60
def spPut62 : Sp := fun vs H Q _ => ∃ (v u : V) (ds : List D) (e : D) (t : Nat), vs = [v, .int (t : Int), u] ∧ Rep H v (.tup ds) ∧ Rep H u (.tup [e]) ∧ ds.length ≤ 40 ∧ ∀ (x : V) (H' : Hp), Rep H' x (.tup (ds.take t ++ [e] ++ ds.drop (t + 1))) → Same H H' → Q x H'
theorem ok_put62 (Y : Ev K mg) : FnOk P w K mg base CX0 1 Y.a__law_put Y.d__law_put p__law_put spPut62 := by
  refine Y._law_put.fn.okQ c__law_put (fun vs H Q E h => ?_) (fun cdv A outer s H vs Q E hr h => ?_)
  · obtain ⟨v, u, ds, e, t, rfl, _⟩ := h; rfl
  · obtain ⟨v, u, ds, e, t, rfl, hv, hu, hl, q⟩ := h
    refine ⟨_, (b_one (s_ret (q_op op_catA (q_op op_catA (q_sl sl_tupA (qv 0) o_none (o_some (qv 1))) (qv 2)) (q_sl sl_tupA (qv 0) (o_some (q_op op_add (qv 1) q_int)) o_none)))), ?_⟩
    have l1 : (ds.take t).length ≤ 40 := by rw [List.length_take]; omega
    have l2 : (ds.drop (t + 1)).length ≤ 40 := by rw [List.length_drop]; omega
    exact ret_D (dsp_catA (dsp_catA (dsp_takeE (dsp_var rfl hv) rfl) (dsp_var rfl hu) (by rw [List.length_singleton]; omega)) (dsp_dropE1 (dsp_var rfl hv) rfl) (by rw [List.length_append, List.length_singleton]; omega)) fun x H2 s2 r2 => q x H2 r2 s2
theorem dsp_maxS {i j : Nat} {σ : L2.St} {H : Hp} {x y : Str} (hx : σ[i]? = some (some (.str x))) (hy : σ[j]? = some (some (.str y))) (lx : x.length ≤ 1000) (ly : y.length ≤ 1000) : Dsp (tCB (fun xs H Q => ∃ a c, xs = [.str a, .str c] ∧ Q (.str (if ltS a c = true then c else a)) H) (tCons (tVar i) (tCons (tVar j) tNil))) σ H (.str (if ltS x y = true then y else x)) := fun H1 Q s q =>
  ⟨_, hx, _, hy, x, y, rfl, q _ H1 (Same.refl _) (.str _ (by split <;> assumption))⟩
theorem dsp_minS {i j : Nat} {σ : L2.St} {H : Hp} {x y : Str} (hx : σ[i]? = some (some (.str x))) (hy : σ[j]? = some (some (.str y))) (lx : x.length ≤ 1000) (ly : y.length ≤ 1000) : Dsp (tCB (fun xs H Q => ∃ a c, xs = [.str a, .str c] ∧ Q (.str (if ltS c a = true then c else a)) H) (tCons (tVar i) (tCons (tVar j) tNil))) σ H (.str (if ltS y x = true then y else x)) := fun H1 Q s q =>
  ⟨_, hx, _, hy, x, y, rfl, q _ H1 (Same.refl _) (.str _ (by split <;> assumption))⟩
def spBad62 : Sp := fun vs H Q _ => ∃ (v : V) (a b w' : Str), vs = [v] ∧ Rep H v (tD [a, b, w']) ∧ rowL [a, b, w'] = true ∧ ∀ (l : Addr) (us : List V) (H' : Hp), H' l = some (.lst us) → RepL H' us (badRows a b w') → Same H H' → Q (.ref l) H'
theorem ok_bad62 (Y : Ev K mg) : FnOk P w K mg base CX0 1 Y.a__law_bad_rows Y.d__law_bad_rows p__law_bad_rows spBad62 := by
  refine Y._law_bad_rows.fn.okQ c__law_bad_rows (fun vs H Q E h => ?_) (fun cdv A outer s H vs Q E hr h => ?_)
  · obtain ⟨v, a, b, w', rfl, _⟩ := h; rfl
  · obtain ⟨v, a, b, w', rfl, hv, hrow, q⟩ := h
    obtain ⟨p, rfl, hp⟩ := rep_strs2 hv
    obtain ⟨a', b', w2, e, na, nb, hne, hw⟩ := rowL_form hrow
    cases e
    have la := name_short na
    have lb := name_short nb
    have lw : w'.length ≤ 1000 := by rcases hw with ⟨rfl, _⟩ | rfl <;> decide
    refine ⟨_, (b_cons (s_asg (qv 0) (g_tup 3 rfl (gs_cons (g_name 1 c__law_bad_rows.nd) (gs_cons (g_name 2 c__law_bad_rows.nd) (gs_cons (g_name 3 c__law_bad_rows.nd) gs_nil)))))
      (b_cons (s_set 4 c__law_bad_rows.nd (q_dget (hu1 hr) (q_disp (ps_kv q_str q_str (ps_kv q_str q_str ps_nil))) (qv 3)))
      (b_cons (s_set 5 c__law_bad_rows.nd (q_lst (a_cons (q_tup (a_cons (qv 1) (a_cons (qv 2) a_nil))) (a_cons (q_tup (a_cons (qv 1) (a_cons (qv 2) (a_cons (qv 3) (a_cons (qv 3) a_nil))))) (a_cons (q_tup (a_cons (qv 1) (a_cons (qv 1) (a_cons (qv 3) a_nil)))) (a_cons (q_tup (a_cons (qv 1) (a_cons (qv 2) (a_cons q_str a_nil)))) (a_cons (q_tup (a_cons (qv 1) (a_cons (qv 2) (a_cons q_non a_nil)))) a_nil)))))))
      (b_cons (s_set 5 c__law_bad_rows.nd (q_op op_cat (qv 5) (q_lst (a_cons (q_tup (a_cons q_str (a_cons (qv 2) (a_cons (qv 3) a_nil)))) (a_cons (q_tup (a_cons (qv 1) (a_cons q_str (a_cons (qv 3) a_nil)))) (a_cons (q_tup (a_cons (qv 1) (a_cons q_str (a_cons (qv 3) a_nil)))) (a_cons (q_tup (a_cons (qv 1) (a_cons (q_op op_add_str (qv 2) q_str) (a_cons (qv 3) a_nil)))) (a_cons q_non a_nil))))))))
      (b_cons (s_set 5 c__law_bad_rows.nd (q_op op_cat (qv 5) (q_lst (a_cons (q_tup (a_cons q_non (a_cons (qv 2) (a_cons (qv 3) a_nil)))) (a_cons (q_tup (a_cons q_bl (a_cons (qv 2) (a_cons (qv 3) a_nil)))) (a_cons (q_lst (a_cons (qv 1) (a_cons (qv 2) (a_cons (qv 3) a_nil)))) (a_cons (q_tup (a_cons (qv 1) (a_cons (qv 2) (a_cons (q_lst (a_cons (qv 3) a_nil)) a_nil)))) (a_cons (qv 1) (a_cons (q_tup a_nil) a_nil)))))))))
      (b_one (s_ret (q_op op_cat (qv 5) (q_lst (a_cons (q_tup (a_cons (qv 1) (a_cons (q_tup (a_cons (qv 2) a_nil)) (a_cons (qv 3) a_nil)))) (a_cons (q_tup (a_cons (q_callB (call_max2S rfl) Y.max bt_max (a_cons (qv 1) (a_cons (qv 2) a_nil))) (a_cons (q_callB (call_min2S rfl) Y.min bt_min (a_cons (qv 1) (a_cons (qv 2) a_nil))) (a_cons q_str a_nil)))) (a_cons (q_tup (a_cons (qv 1) (a_cons (qv 2) (a_cons (q_bm0 PySem.F.plainAttrs_str PySem.F.slot_str_upper PySem.F.type_str_upper mt_upper (qv 4)) a_nil)))) a_nil)))))))))))), ?_⟩
    refine ⟨_, rfl, p, _, rfl, .inl (.inl hp), rfl, _, _, rfl, _, _, rfl, _, _, rfl, rfl, ?_⟩
    refine fun pd hpd => ⟨upd_same, [(.inr "over", .str "equal"), (.inr "equal", .str "over")], rfl, (by decide : 2 ≤ 15), _, rfl, ?_⟩
    rw [upd_upd]
    have ew : valV (mergeK [] [(Sum.inr "over", V.str "equal"), (Sum.inr "equal", V.str "over")]) (Sum.inr w' : Key) = some (.str (lastW w')) := by
      rcases hw with ⟨rfl, _⟩ | rfl
      · decide +kernel
      · decide +kernel
    refine ⟨pd, .str (lastW w'), rfl, by rw [← ew]; exact DGet.k (k := Sum.inr w') upd_same, ?_⟩
    have S1 := Same.new (o := .dK (mergeK [] [(Sum.inr "over", V.str "equal"), (Sum.inr "equal", V.str "over")])) hpd
    generalize (upd H pd (HO.dK (mergeK [] [(Sum.inr "over", V.str "equal"), (Sum.inr "equal", V.str "over")]))) = H1 at *
    have ra : Rep H1 (.str a) (.str a) := .str a la
    have rb : Rep H1 (.str b) (.str b) := .str b lb
    have rw' : Rep H1 (.str w') (.str w') := .str w' lw
    have lu : (upS (lastW w')).length ≤ 1000 := by
      unfold lastW
      split
      · rw [up_equal]; decide
      · rw [up_over]; decide
    have lbA : (b ++ "A" : Str).length ≤ 1000 := by
      have h8 : b.length ≤ 8 := by
        have := nb
        unfold isNameB at this
        simp only [Bool.and_eq_true, decide_eq_true_eq] at this
        omega
      have : (b ++ "A" : Str).length = b.length + 1 := Array.size_append
      omega
    have lA1 : b.length + (Str.ofString "A").length ≤ sizeLine := Nat.le_of_lt (small1000 (by
      have : (b ++ "A" : Str).length = b.length + (Str.ofString "A").length := Array.size_append
      omega))
    have vA : ∀ {σ : L2.St} {k : Nat} {x : Str}, σ[k]? = some (some (.str x)) → x.length ≤ 1000 → Dsp (tVar k) σ H1 (.str x) := fun h l => dsp_var h (.str _ l)
    dsimp only [gName]
    refine seq_L (ds := [.tup [.str a, .str b], .tup [.str a, .str b, .str w', .str w'], .tup [.str a, .str a, .str w'], .tup [.str a, .str b, .str "under"], .tup [.str a, .str b, .non]]) (by walk_at "dsp") fun l2 vs2 H2 s2 e2 r2 => ?_
    have ra2 := ra.same s2
    have rb2 := rb.same s2
    have rw2 := rw'.same s2
    refine seq_L (ds := [.tup [.str a, .str b], .tup [.str a, .str b, .str w', .str w'], .tup [.str a, .str a, .str w'], .tup [.str a, .str b, .str "under"], .tup [.str a, .str b, .non]] ++ [.tup [.str "if", .str b, .str w'], .tup [.str a, .str "", .str w'], .tup [.str a, .str "abcdefghi", .str w'], .tup [.str a, .str (b ++ "A"), .str w'], .non]) ?_ fun l3 vs3 H3 s3 e3 r3 => ?_
    · refine dspl_cat (dspl_var rfl e2 r2) (dspl_lst (dspA_cons (by walk_at "dsp") (dspA_cons (by walk_at "dsp") (dspA_cons (by walk_at "dsp") (dspA_cons (dsp_tup (dspA_cons (dsp_var rfl ra2) (dspA_cons ?_ (by walk_at "dsp"))) (Nat.le_of_ble_eq_true rfl)) (by walk_at "dsp"))))) (Nat.le_of_ble_eq_true rfl)) (Nat.le_of_ble_eq_true rfl)
      exact fun H1 Q s q => ⟨_, rfl, b, "A", rfl, rfl, lA1, q _ H1 (Same.refl _) (.str _ lbA)⟩
    have ra3 := ra2.same s3
    have rb3 := rb2.same s3
    have rw3 := rw2.same s3
    refine seq_L (ds := ([.tup [.str a, .str b], .tup [.str a, .str b, .str w', .str w'], .tup [.str a, .str a, .str w'], .tup [.str a, .str b, .str "under"], .tup [.str a, .str b, .non]] ++ [.tup [.str "if", .str b, .str w'], .tup [.str a, .str "", .str w'], .tup [.str a, .str "abcdefghi", .str w'], .tup [.str a, .str (b ++ "A"), .str w'], .non]) ++ [.tup [.non, .str b, .str w'], .tup [.bl true, .str b, .str w'], .oth, .tup [.str a, .str b, .oth], .str a, .tup []]) ?_ fun l4 vs4 H4 s4 e4 r4 => ?_
    · exact dspl_cat (dspl_var rfl e3 r3) (dspl_lst (by walk_at "dsp") (Nat.le_of_ble_eq_true rfl)) (Nat.le_of_ble_eq_true rfl)
    have ra4 := ra3.same s4
    have rb4 := rb3.same s4
    have rw4 := rw3.same s4
    refine ret_L (ds := badRows a b w') ?_ fun l5 vs5 H5 s5 e5 r5 => q l5 vs5 H5 e5 r5 (S1.trans (((s2.trans s3).trans s4).trans s5))
    unfold badRows
    refine dspl_cat (dspl_var rfl e4 r4) (dspl_lst (dspA_cons (by walk_at "dsp") (dspA_cons (dsp_tup (dspA_cons (dsp_maxS rfl rfl la lb) (dspA_cons (dsp_minS rfl rfl la lb) (by walk_at "dsp"))) (Nat.le_of_ble_eq_true rfl)) (dspA_cons (dsp_tup (dspA_cons (dsp_var rfl ra4) (dspA_cons (dsp_var rfl rb4) (dspA_cons ?_ (by walk_at "dsp")))) (Nat.le_of_ble_eq_true rfl)) (by walk_at "dsp")))) (Nat.le_of_ble_eq_true rfl)) (Nat.le_of_ble_eq_true rfl)
    exact fun H1 Q s q => ⟨_, rfl, rfl, lastW w', rfl, rfl, lu, q _ H1 (Same.refl _) (.str _ lu)⟩
end
end K62

set_option Elab.async false
set_option linter.all false
set_option maxRecDepth 100000
set_option maxHeartbeats 4000000
namespace K62
open PySem PySem.Spec PyProof.Rows L2 RW
local macro_rules | `(tactic| walk_at "cond") => `(tactic| first | assumption | decide | omega | exact few rfl | exact .inl ⟨by decide, by decide⟩ | exact .inr ⟨by decide, by decide⟩ | exact .inl ⟨by omega, by omega⟩ | exact .inr ⟨by omega, by omega⟩ | exact ⟨by omega, by omega⟩ | exact ⟨by assumption, by assumption⟩ | exact ⟨by decide, by decide, by decide⟩ | exact .inr ⟨by split <;> decide, by split <;> decide⟩)
local macro_rules | `(tactic| walk_at "rd") => `(tactic| first | with_reducible_and_instances refine ⟨_, rfl, ?_⟩ | refine ⟨_, rfl, ?_⟩ | refine ⟨_, _, rfl, rfl, ?_⟩ | refine ⟨_, _, _, _, rfl, rfl, SqL.of (by assumption), rfl, ?_⟩ | refine ⟨_, _, _, _, rfl, rfl, (by assumption), rfl, ?_⟩ | refine .inl ⟨_, rfl, ?_⟩ | refine .inr ⟨_, rfl, ?_⟩ | refine .inl ⟨_, _, rfl, .inl (by assumption), ?_⟩ | refine ⟨(by walk_at "cond"), ?_⟩)
local macro_rules | `(tactic| walk_at "dsp") => `(tactic| repeat' (first | exact dsp_str (by decide) | exact dsp_int | exact dsp_bl | exact dsp_non | exact dsp_neg | exact dspA_nil | exact dsp_dnew | exact dsp_disp rfl | exact dsp_var rfl (by assumption) | refine dspA_cons ?_ ?_ | refine dsp_tup ?_ ?_ | refine dsp_lst' ?_ | refine n_cons ?_ ?_ | exact n_nil | exact v_c | exact v_var rfl | refine v_tup ?_ | refine dspl_lst ?_ ?_ | refine dspl_cat ?_ ?_ ?_ | exact dspl_var rfl (by assumption) (by assumption) | exact Nat.le_of_ble_eq_true rfl))
local macro_rules | `(tactic| walk_at "each") => `(tactic| repeat' (first | exact forall_nil | refine List.forall_mem_append.mpr ⟨?_, ?_⟩ | refine List.forall_mem_cons.mpr ⟨?_, ?_⟩))
section
variable {P : Program} {w : World} {K : PySem.W.Frag} {mg : Str → Option Value} {base : Heap}
theorem gK_len {rs : List (List Str)} {d : D} {n : Nat} (e : d = .tup (rs.map tD)) (h : rs.length ≤ 60) (k : kinB d = false) : gK d := ⟨k, fun ds z => by rw [e] at z; cases z; rw [List.length_map]; exact h⟩
/-- tuple(sorted(kin + (row,))) -/
theorem dx_sorted {i : Nat} {v : V} {te : TE} {σ : L2.St} {H : Hp} {rs : List (List Str)} {r : List Str} (hσ : σ[i]? = some (some v)) (hv : Rep H v (.tup (rs.map tD))) (h : Dsp te σ H (tD r)) (hrs : ∀ q ∈ rs, 0 < q.length ∧ q.length ≤ 1000 ∧ ∀ x ∈ q, x.length ≤ 1000) (hr : 0 < r.length ∧ r.length ≤ 1000 ∧ ∀ x ∈ r, x.length ≤ 1000) (hl : rs.length ≤ 40) :
    DspX (tCB (fun xs H Q => ∃ p ys, xs = [.ref p] ∧ ((SqL K H p ys ∧ ∀ l, H l = none → Q (.ref l) (upd H l (.tup ys))) ∨ (SqT K H p ys ∧ Q (.ref p) H))) (tCons (tCB (rSortTs K) (tCons (tOp (rCatA K) (tVar i) (tTup (tCons te tNil))) tNil)) tNil)) σ H (fun d => ∃ ls : List (List Str), d = .tup (ls.map tD) ∧ ls.Perm (rs ++ [r])) := fun H1 Q s q => by
  refine (dsp_catA (dsp_var hσ hv) (dsp_tup (dspA_cons h dspA_nil) (Nat.le_of_ble_eq_true rfl)) (by rw [List.length_map, List.length_singleton]; omega)) H1 _ s fun u H2 s2 r2 => ?_
  have e2 : rs.map tD ++ [tD r] = (rs ++ [r]).map tD := by rw [List.map_append]; rfl
  rw [e2] at r2
  obtain ⟨p, vs, rfl, hp, rr, _⟩ := r2.ofT
  have hall : ∀ q ∈ rs ++ [r], 0 < q.length ∧ q.length ≤ 1000 ∧ ∀ x ∈ q, x.length ≤ 1000 := List.forall_mem_append.mpr ⟨hrs, fun q hq => by rw [List.mem_singleton.mp hq]; exact hr⟩
  refine ⟨p, vs, rs ++ [r], rfl, .inr (.inl (.inl hp)), tups_rep rr, fun q hq => (hall q hq).1, by rw [List.length_append, List.length_singleton]; omega, fun ls vs' l hpm _ T hl2 => ⟨l, vs', rfl, .inl ⟨SqL.of upd_same, fun p4 hp4 => ?_⟩⟩⟩
  have S := (Same.new (o := .lst vs') hl2).trans (Same.new (o := .tup vs') hp4)
  refine q (.ref p4) (.tup (ls.map tD)) _ (s2.trans S) ?_ ⟨ls, rfl, hpm⟩
  have hll : ls.length ≤ 41 := by rw [hpm.length_eq, List.length_append, List.length_singleton]; omega
  exact .mkL upd_same (by rw [List.length_map]; omega) (rep_tups (tups_same T S) fun q hq => (hall q (hpm.mem_iff.mp hq)).2)
theorem row3 {r : List Str} (h : rowL r = true) : 0 < r.length ∧ r.length ≤ 1000 ∧ ∀ x ∈ r, x.length ≤ 1000 := by
  refine ⟨?_, rowL_short h⟩
  obtain ⟨a, b, w, rfl, _⟩ := rowL_form h
  exact (by decide : 0 < 3)
theorem tie3 {a b : Str} : tieL [b, a, "over"] = pr a b ∧ tieL [a, b, "over"] = pr a b ∧ tieL [if ltS b a = true then b else a, if ltS a b = true then b else a, "equal"] = pr a b := ⟨pr_comm, rfl, mm_pr⟩
def spSpoilt62 : Sp := fun vs H Q _ => ∃ (a pk : Addr) (n : Int) (us : List V) (rs : List (List Str)), vs = [.ref a, .ref pk] ∧ Hand H a n ∧ n < 2 ^ 38 ∧ H pk = some (.tup us) ∧ TupsAt H us rs ∧ KinOk rs ∧ 0 < rs.length ∧ rs.length ≤ 20 ∧ ∀ (l : Addr) (H' : Hp), LP gK H' l 40 → Hand H' a (n + 1) → Keep a H H' → Q (.ref l) H'
theorem ok_spoilt62 (Y : Ev K mg) : FnOk P w K mg base CX0 2 Y.a__law_spoilt Y.d__law_spoilt p__law_spoilt spSpoilt62 := by
  have G__law_take : FnOk P w K mg base CX0 1 Y.a__law_take Y.d__law_take p__law_take spTake := ok_take Y
  have G__law_put : FnOk P w K mg base CX0 1 Y.a__law_put Y.d__law_put p__law_put spPut62 := ok_put62 Y
  have G__law_bad_rows : FnOk P w K mg base CX0 1 Y.a__law_bad_rows Y.d__law_bad_rows p__law_bad_rows spBad62 := ok_bad62 Y
  refine Y._law_spoilt.fn.okQ c__law_spoilt (fun vs H Q E h => ?_) (fun cdv A outer s H vs Q E hr h => ?_)
  · obtain ⟨a, pk, n, us, rs, rfl, _⟩ := h; rfl
  · obtain ⟨a, pk, n, us, rs, rfl, hH, hn, hpk, T, kok, r0, r20, q⟩ := h
    have npk : pk ≠ a := fun z => by obtain ⟨_, _, _, e', _⟩ := hH; rw [z, e'] at hpk; cases hpk
    have ul := T.1
    refine ⟨_, (b_cons (s_setC 2 c__law_spoilt.nd (q_call G__law_take (hr.mono (by decide)) Y._law_take.mg Y._law_take.kp Y._law_take.b .nil pass0 (a_cons (qv 0) (a_cons (q_callB call_len2 Y.len bt_len (a_cons (qc 1) a_nil)) a_nil))))
      (b_cons (s_asg (q_ix ix_tup (qc 1) (qc 2)) (g_tup 3 rfl (gs_cons (g_name 3 c__law_spoilt.nd) (gs_cons (g_name 4 c__law_spoilt.nd) (gs_cons (g_name 5 c__law_spoilt.nd) gs_nil)))))
      (b_cons (s_setcomp 6 (src := [none, some 2, some 1]) o__law_spoilt_1 rfl rfl c__law_spoilt.nd (i_list (q_call G__law_bad_rows (hr.mono (by decide)) Y._law_bad_rows.mg Y._law_bad_rows.kp Y._law_bad_rows.b .nil pass0 (a_cons (q_ix ix_tup (qc 1) (qc 2)) a_nil))) (fun _ _ _ _ _ => (g_name 0 o__law_spoilt_1.nd)) (fun _ _ _ _ _ => f_nil) (fun _ _ _ _ _ => (q_call G__law_put (hr.mono (by decide)) Y._law_put.mg Y._law_put.kp Y._law_put.b .nil pass0 (a_cons (qc 2) (a_cons (qc 1) (a_cons (q_tup (a_cons (qv 0) a_nil)) a_nil))))))
      (b_cons (s_set 6 c__law_spoilt.nd (q_op op_cat (qv 6) (q_lst (a_cons (q_callTy call_tuple_of Y.tuple bt_tuple (a_cons (q_callB call_sortedTs Y.sorted bt_sorted (a_cons (q_op op_catA (qc 1) (q_tup (a_cons (q_ix ix_tup (qc 1) (qc 2)) a_nil))) a_nil)) a_nil)) (a_cons (q_callTy call_list_of Y.list bt_list (a_cons (qc 1) a_nil)) (a_cons (q_op op_catA (qc 1) (q_sl sl_tupA (qc 1) o_none (o_some q_int))) (a_cons (q_op op_catA (qc 1) (q_tup (a_cons q_non a_nil))) a_nil)))))))
      (b_cons (s_set 7 c__law_spoilt.nd (q_lst (a_cons (q_tup (a_cons (qv 4) (a_cons (qv 3) (a_cons q_str a_nil)))) (a_cons (q_tup (a_cons (qv 3) (a_cons (qv 4) (a_cons q_str a_nil)))) (a_cons (q_tup (a_cons (q_callB (call_min2S rfl) Y.min bt_min (a_cons (qv 3) (a_cons (qv 4) a_nil))) (a_cons (q_callB (call_max2S rfl) Y.max bt_max (a_cons (qv 3) (a_cons (qv 4) a_nil))) (a_cons q_str a_nil)))) a_nil)))))
      (b_cons (s_set 6 c__law_spoilt.nd (q_op op_cat (qv 6) (q_comp (src := [none, some 1]) o__law_spoilt_2 rfl rfl (i_list (qv 7)) (fun _ _ _ _ _ => (g_name 0 o__law_spoilt_2.nd)) (fun _ _ _ _ _ => (f_one (t_cmp (op_niD (hu64 hr)) (qv 0) (qc 1)))) (fun _ _ _ _ _ => (q_callTy (call_tuple_ofK (K := K) rfl) Y.tuple bt_tuple (a_cons (q_callB (call_sortedTsK (K := K) rfl) Y.sorted bt_sorted (a_cons (q_op (op_catAK (K := K) rfl) (qc 1) (q_tup (a_cons (qv 0) a_nil))) a_nil)) a_nil))))))
      (b_cons (s_if (t_cmp op_gt (q_callB call_len2 Y.len bt_len (a_cons (qc 1) a_nil)) q_int) (b_one (s_expr (q_bm PySem.F.plainAttrs_list PySem.F.slot_list_append PySem.F.type_list_append mt_append (qv 6) (a_cons (q_rev (qc 1) (q_un un_neg q_int)) a_nil)))) b_nil)
      (b_one (s_ret (qv 6)))))))))), ?_⟩
    refine ⟨_, rfl, _, rfl, .inl ⟨pk, us, rfl, .inr (.inl (.inl hpk)), a, _, n, rfl, hH, by omega, by omega, by omega, fun t' H1 t0 t1 hH1 k1 => ?_⟩⟩
    obtain ⟨t, rfl⟩ : ∃ t : Nat, t' = (t : Int) := ⟨t'.toNat, by omega⟩
    have ht : t < rs.length := by omega
    have m1 : Mono H H1 := .keep k1 hH hH1
    have hpk1 := m1.tup _ _ hpk
    have T1 : TupsAt H1 us rs := ⟨T.1, fun j v q e1 e2 => let ⟨b', e3, hb'⟩ := T.2 j v q e1 e2; ⟨b', e3, m1.tup _ _ hb'⟩⟩
    have eu : us[t]? = some us[t] := List.getElem?_eq_getElem (by omega)
    obtain ⟨pr', ev, hpr⟩ := T1.2 t us[t] rs[t] eu (List.getElem?_eq_getElem ht)
    have hrt := kok.row rs[t] (List.getElem_mem ht)
    have hmem : rs[t] ∈ rs := List.getElem_mem ht
    obtain ⟨x1, x2, w', er, n1, n2, hne, hw⟩ := rowL_form hrt
    rw [er] at hpr hrt hmem
    have ea : atI us (t : Int) = some (.ref pr') := by rw [← ev]; exact atI_nat eu
    refine ⟨_, rfl, _, rfl, pk, us, _, _, rfl, rfl, .inl (.inl hpk1), ea, pr', _, rfl, .inl (.inl hpr), rfl, _, _, rfl, _, _, rfl, _, _, rfl, rfl, ?_⟩
    have lx1 := name_short n1
    have lx2 := name_short n2
    have rall : ∀ q ∈ rs, 0 < q.length ∧ q.length ≤ 1000 ∧ ∀ x ∈ q, x.length ≤ 1000 := fun q hq => row3 (kok.row q hq)
    have rk : Rep H1 (.ref pk) (.tup (rs.map tD)) := .mkL hpk1 (by rw [List.length_map]; omega) (rep_tups T1 fun q hq => (rall q hq).2)
    have rrow : Rep H1 (.ref pr') (tD [x1, x2, w']) := .mkL hpr (Nat.le_of_ble_eq_true rfl) (strs_rep (row3 hrt).2.2)
    refine ⟨_, rfl, _, rfl, pk, us, _, _, rfl, rfl, .inl (.inl hpk1), ea, .ref pr', x1, x2, w', rfl, rrow, hrt, fun l2 us2 H2 e2 r2 s2 => ⟨l2, rfl, ⟨_, SqL.of e2⟩, ?_⟩⟩
    have blen : (badRows x1 x2 w').length = 19 := rfl
    refine comp_P (P := gK) (ds := badRows x1 x2 w') (σr := [some (.int (t : Int)), some (.ref pk)]) (wk_list (K := K)) (fun H' s => SqL.of (s _ _ e2)) r2 (by rw [blen]; decide) rfl (fun x d HA Q1 sA rx hd q1 => q1 true HA (Same.refl _)) (fun x d HA sA rx hd => ?_) fun l3 H3 s3 hl3 L3 => ?_
    · intro HB Q1 sB q1
      refine ⟨_, rfl, _, rfl, _, rfl, few rfl, fun p3 hp3 => ?_⟩
      have S3 := Same.new (o := .tup [x]) hp3
      refine ⟨_, .ref p3, rs.map tD, d, t, rfl, ((rk.same s2).same (sA.trans sB)).same S3, .mk1 upd_same ((rx.same sB).same S3), by rw [List.length_map]; omega, fun u HC rC sC => q1 u _ HC (S3.trans sC) rC ⟨kin_put (bad_rows hrt d hd), fun ds z => ?_⟩⟩
      cases z
      rw [List.length_append, List.length_append, List.length_take, List.length_drop, List.length_map, List.length_singleton]
      omega
    rw [blen] at L3
    have s13 := s2.trans s3
    have rk3 := rk.same s13
    have rrow3 := rrow.same s13
    -- four more
    have pk3 := s13 _ _ hpk1
    refine ⟨_, rfl, lp_lst (P := gK) (n := 4) ?_ (by decide) fun l4 H4 s4 hl4 L4 => LP.cat (L3.same s4) L4 (by decide) fun l5 H5 hl5 s5 L5 => ?_⟩
    · refine dxa_cons (dx_mono (dx_sorted rfl rk3 (?_ : Dsp _ _ _ (tD [x1, x2, w'])) rall (row3 hrt) (by omega)) fun d hd => ?_) (dxa_cons (dx_of (dsp_listO rfl rk3) ⟨rfl, fun ds z => by cases z⟩) (dxa_cons (dx_of (dsp_catA (dsp_var rfl rk3) (dsp_headN (n := 1) rfl rk3) ?_) ?_) (dxa_cons (dx_of (dsp_catA (dsp_var rfl rk3) (dsp_tup (dspA_cons dsp_non dspA_nil) (by decide)) ?_) ?_) dxa_nil)))
      · exact fun HA Q1 sA q1 => ⟨_, rfl, _, rfl, pk, us, _, _, rfl, rfl, .inl (.inl (sA _ _ pk3)), ea, q1 _ HA (Same.refl _) (rrow3.same sA)⟩
      · obtain ⟨ls, rfl, hpm⟩ := hd
        exact gK_len (n := 0) rfl (by rw [hpm.length_eq, List.length_append, List.length_singleton]; omega) (kin_dup hmem hpm)
      · rw [List.length_take, List.length_map]; omega
      · refine ⟨?_, fun ds z => by cases z; rw [List.length_append, List.length_take, List.length_map]; omega⟩
        match rs, r0 with
        | r1 :: rr, _ => exact kin_dup' (List.mem_cons_self)
      · rw [List.length_map, List.length_singleton]; omega
      · exact ⟨kin_bad (d := .non) (by simp) rfl, fun ds z => by cases z; rw [List.length_append, List.length_map, List.length_singleton]; omega⟩
    have s15 := s13.trans (s4.trans s5)
    have rk5 := rk.same s15
    -- rows of the same two
    dsimp only [gName]
    refine seq_L (ds := [tD [x2, x1, "over"], tD [x1, x2, "over"], tD [if ltS x2 x1 = true then x2 else x1, if ltS x1 x2 = true then x2 else x1, "equal"]]) ?_ fun l6 vs6 H6 s6 e6 r6 => ?_
    · have r1 : ∀ {HA : Hp}, Rep HA (.str x1) (.str x1) := .str x1 lx1
      have r2' : ∀ {HA : Hp}, Rep HA (.str x2) (.str x2) := .str x2 lx2
      exact dspl_lst (dspA_cons (dsp_tup (dspA_cons (dsp_var rfl r2') (dspA_cons (dsp_var rfl r1) (by walk_at "dsp"))) (Nat.le_of_ble_eq_true rfl)) (dspA_cons (dsp_tup (dspA_cons (dsp_var rfl r1) (dspA_cons (dsp_var rfl r2') (by walk_at "dsp"))) (Nat.le_of_ble_eq_true rfl)) (dspA_cons (dsp_tup (dspA_cons (dsp_minS rfl rfl lx1 lx2) (dspA_cons (dsp_maxS rfl rfl lx1 lx2) (by walk_at "dsp"))) (Nat.le_of_ble_eq_true rfl)) dspA_nil))) (Nat.le_of_ble_eq_true rfl)
    have rk6 := rk5.same s6
    have L6 := L5.same s6
    refine ⟨_, rfl, _, rfl, l6, rfl, ⟨_, SqL.of e6⟩, ?_⟩
    refine comp_P (P := gK) (σr := [some (.ref pk)]) (wk_list (K := K)) (fun H' s => SqL.of (s _ _ e6)) r6 (Nat.le_of_ble_eq_true rfl) rfl (fun x d HA Q1 sA rx hd q1 => ?_) (fun x d HA sA rx hd => ?_) fun l7 H7 s7 hl7 L7 => ?_
    · have ok3 : ∀ {r : List Str}, rowL r = true → okD (tD r) = true := fun {r} h => by
        obtain ⟨a', b', w2, rfl, ha, hb, _, hw⟩ := rowL_form h
        show okD (.tup [.str a', .str b', .str w2]) = true
        rw [okD, okL, okL, okL, okL, okD, okD, okD, name_strOk ha, name_strOk hb]
        rcases hw with ⟨rfl, _⟩ | rfl <;> decide +kernel
      have hd3 : ∃ r, d = tD r ∧ rowL r = true := by
        simp only [List.mem_cons, List.not_mem_nil, or_false] at hd
        rcases hd with rfl | rfl | rfl
        · exact ⟨_, rfl, row_over n2 n1 (Ne.symm hne)⟩
        · exact ⟨_, rfl, row_over n1 n2 hne⟩
        · exact ⟨_, rfl, row_equal n1 n2 hne⟩
      obtain ⟨r, rfl, hr3⟩ := hd3
      have tk := tr_of (rk6.same sA) (by
        rw [okD]
        exact okL_of fun d hd => by obtain ⟨z, hz, rfl⟩ := List.mem_map.mp hd; exact ok3 (kok.row z hz))
      rw [pyD] at tk
      refine ⟨_, rfl, _, rfl, pyD (tD r), _, tr_of rx (ok3 hr3), .inr tk, ?_, _, rfl, q1 _ HA (Same.refl _)⟩
      obtain ⟨a', b', w2, rfl, _⟩ := rowL_form hr3
      show (pyD (.tup [.str a', .str b', .str w2])).depth ≤ 60
      rw [pyD, pyL, pyL, pyL, pyL, pyD, pyD, pyD, PyData.depth, PyData.depthAll, PyData.depthAll, PyData.depthAll, PyData.depthAll, PyData.depth, PyData.depth, PyData.depth]; decide
    · have hd3 : ∃ r, d = tD r ∧ rowL r = true ∧ tieL r = pr x1 x2 := by
        simp only [List.mem_cons, List.not_mem_nil, or_false] at hd
        rcases hd with rfl | rfl | rfl
        · exact ⟨_, rfl, row_over n2 n1 (Ne.symm hne), tie3.1⟩
        · exact ⟨_, rfl, row_over n1 n2 hne, rfl⟩
        · exact ⟨_, rfl, row_equal n1 n2 hne, tie3.2.2⟩
      obtain ⟨r, rfl, hr3, ht3⟩ := hd3
      refine dx_mono (dx_sorted rfl (rk6.same sA) (dsp_var rfl rx) rall (row3 hr3) (by omega)) fun d hd => ?_
      obtain ⟨ls, rfl, hpm⟩ := hd
      exact gK_len (n := 0) rfl (by rw [hpm.length_eq, List.length_append, List.length_singleton]; omega) (kin_tie hmem (by rw [ht3]; rfl) hpm)
    have L7 : LP gK H7 l7 3 := L7
    refine LP.cat (L6.same s7) L7 (by decide) fun l8 H8 hl8 s8 L8 => ?_
    have L8 : LP gK H8 l8 26 := L8
    have s18 := s15.trans ((s6.trans s7).trans s8)
    have rk8 := rk.same s18
    have pk8 := s18 _ _ hpk1
    have nl8 : l8 ≠ a := (hH1.same (s15.trans (s6.trans s7))).ne hl8
    have hl81 : H1 l8 = none := none_of_same (s15.trans (s6.trans s7)) hl8
    refine ⟨_, rfl, .inl ⟨pk, us, rfl, .inr (.inl (.inl pk8)), _, _, rfl, rfl, _, rfl, ite2 (fun hc => ?_) (fun _ => ?_)⟩⟩
    · have h1 : 1 < rs.length := by have := of_decide_eq_true hc; omega
      obtain ⟨vs8, ds8, e8, r8, n8, p8⟩ := L8
      refine ⟨_, rfl, .inl ⟨rfl, _, SqL.of e8⟩, _, rfl, pk, us, rfl, .inl (.inl pk8), fun p9 hp9 => ?_⟩
      have S9 := Same.new (o := .tup us.reverse) hp9
      have e9 := S9 _ _ e8
      have rk9 : Rep (upd H8 p9 (.tup us.reverse)) (.ref p9) (.tup (rs.map tD).reverse) := by
        obtain ⟨p', vs', e', hp', rr', _⟩ := rk8.ofT
        cases e'
        rw [pk8] at hp'; cases hp'
        refine .mkL upd_same (by rw [List.length_reverse, List.length_map]; omega) ⟨by rw [List.length_reverse, List.length_reverse]; exact rr'.1, fun i v d e1 e2 => ?_⟩
        have hi : i < us.length := by
          rcases Nat.lt_or_ge i us.length with z | z
          · exact z
          · rw [List.getElem?_eq_none (by rw [List.length_reverse]; exact z)] at e1; cases e1
        rw [List.getElem?_reverse hi] at e1
        rw [List.getElem?_reverse (by rw [← rr'.1]; exact hi), ← rr'.1] at e2
        exact (rr'.2 _ v d e1 e2).same S9
      have rl8 := r8.1
      refine ⟨l8, _, _, rfl, rfl, e9, small1000 (by omega), ⟨_, rfl, q l8 _ ⟨_, ds8 ++ [.tup (rs.map tD).reverse], upd_same, ?_, by rw [List.length_append, List.length_singleton]; omega, ?_⟩ ?_ ?_⟩⟩
      · exact RepL.mono (.append (r8.mono (.of S9)) (.cons rk9 .nil)) (.lset e9)
      · intro d hd
        rcases List.mem_append.mp hd with hd | hd
        · exact p8 d hd
        · rw [List.mem_singleton.mp hd]
          exact ⟨kin_rev kok h1, fun ds z => by cases z; rw [List.length_reverse, List.length_map]; omega⟩
      · exact ((hH1.same s18).new hp9).updNe nl8
      · exact k1.trans (Keep.updNew ((Keep.of s18).trans (Keep.of S9)) hl81)
    · exact ⟨_, rfl, q l8 H8 (let ⟨vs, ds, e, r, k, b⟩ := L8; ⟨vs, ds, e, r, Nat.le_trans k (Nat.le_of_ble_eq_true rfl), b⟩) (hH1.same s18) (k1.trans (Keep.of s18))⟩
end
end K62

set_option Elab.async false
set_option linter.all false
set_option maxRecDepth 100000
set_option maxHeartbeats 4000000
namespace K62
open PySem PySem.Spec PyProof.Rows L2 RW
local macro_rules | `(tactic| walk_at "cond") => `(tactic| first | assumption | decide | omega | exact few rfl | exact .inl ⟨by decide, by decide⟩ | exact .inr ⟨by decide, by decide⟩ | exact .inl ⟨by omega, by omega⟩ | exact .inr ⟨by omega, by omega⟩ | exact ⟨by omega, by omega⟩ | exact ⟨by assumption, by assumption⟩ | exact ⟨by decide, by decide, by decide⟩ | exact .inr ⟨by split <;> decide, by split <;> decide⟩)
local macro_rules | `(tactic| walk_at "rd") => `(tactic| first | with_reducible_and_instances refine ⟨_, rfl, ?_⟩ | refine ⟨_, rfl, ?_⟩ | refine ⟨_, _, rfl, rfl, ?_⟩ | refine ⟨_, _, _, _, rfl, rfl, SqL.of (by assumption), rfl, ?_⟩ | refine ⟨_, _, _, _, rfl, rfl, (by assumption), rfl, ?_⟩ | refine .inl ⟨_, rfl, ?_⟩ | refine .inr ⟨_, rfl, ?_⟩ | refine .inl ⟨_, _, rfl, .inl (by assumption), ?_⟩ | refine ⟨(by walk_at "cond"), ?_⟩)
local macro_rules | `(tactic| walk_at "dsp") => `(tactic| repeat' (first | exact dsp_str (by decide) | exact dsp_int | exact dsp_bl | exact dsp_non | exact dsp_neg | exact dspA_nil | exact dsp_dnew | exact dsp_disp rfl | exact dsp_var rfl (by assumption) | refine dspA_cons ?_ ?_ | refine dsp_tup ?_ ?_ | refine dsp_lst' ?_ | refine n_cons ?_ ?_ | exact n_nil | exact v_c | exact v_var rfl | refine v_tup ?_ | refine dspl_lst ?_ ?_ | refine dspl_cat ?_ ?_ ?_ | exact dspl_var rfl (by assumption) (by assumption) | exact Nat.le_of_ble_eq_true rfl))
local macro_rules | `(tactic| walk_at "each") => `(tactic| repeat' (first | exact forall_nil | refine List.forall_mem_append.mpr ⟨?_, ?_⟩ | refine List.forall_mem_cons.mpr ⟨?_, ?_⟩))
section
variable {P : Program} {w : World} {K : PySem.W.Frag} {mg : Str → Option Value} {base : Heap}
theorem tupsApp {H : Hp} {l p : Addr} {ys : List V} {ls : List (List Str)} {q : List Str} (T : TupsAt H ys ls) (hl : H l = some (.lst ys)) (hp : H p = some (.tup (q.map V.str))) : TupsAt (upd H l (.lst (ys ++ [.ref p]))) (ys ++ [.ref p]) (ls ++ [q]) := by
  have upl : ∀ {b o}, H b = some (.tup o) → (upd H l (.lst (ys ++ [V.ref p]))) b = some (.tup o) := fun {b o} h => by rw [upd_ne (fun z => by rw [z, hl] at h; cases h)]; exact h
  refine ⟨by rw [List.length_append, List.length_append, T.1]; rfl, fun j v q' e1 e2 => ?_⟩
  rcases Nat.lt_or_ge j ys.length with hj | hj
  · rw [List.getElem?_append_left hj] at e1
    rw [List.getElem?_append_left (by rw [← T.1]; exact hj)] at e2
    obtain ⟨b', rfl, hb'⟩ := T.2 j v q' e1 e2
    exact ⟨b', rfl, upl hb'⟩
  · have ej : j = ys.length := by
      rcases Nat.lt_or_ge j (ys ++ [V.ref p]).length with z | z
      · rw [List.length_append, List.length_singleton] at z; omega
      · rw [List.getElem?_eq_none z] at e1; cases e1
    subst ej
    rw [List.getElem?_append_right (Nat.le_refl _), Nat.sub_self] at e1
    rw [List.getElem?_append_right (by rw [T.1]; exact Nat.le_refl _), T.1, Nat.sub_self] at e2
    cases e1
    cases e2
    exact ⟨p, rfl, upl hp⟩
theorem ring_zip {xs : List Str} {i : Nat} (h : i < xs.length) : (xs.drop 1 ++ xs.take 1)[i]? = some (at_ xs ((i + 1) % xs.length)) := by
  by_cases e : i + 1 = xs.length
  · rw [List.getElem?_append_right (by rw [List.length_drop]; omega), List.length_drop, e, Nat.mod_self]
    have e2 : i - (xs.length - 1) = 0 := by omega
    rw [e2, List.getElem?_take, if_pos (by omega), List.getElem?_eq_getElem (by omega)]
    simp [List.getD, show 0 < xs.length by omega]
  · rw [List.getElem?_append_left (by rw [List.length_drop]; omega), List.getElem?_drop, Nat.mod_eq_of_lt (by omega), Nat.add_comm 1 i, List.getElem?_eq_getElem (by omega)]
    simp [List.getD, show i + 1 < xs.length by omega]
def spRing62 : Sp := fun vs H Q _ => ∃ (a h : Addr) (n : Int) (xs : List Str), vs = [.ref a, .ref h] ∧ Hand H a n ∧ n < 2 ^ 38 ∧ H h = some (.lst (xs.map V.str)) ∧ h ≠ a ∧ xs.Nodup ∧ (∀ x ∈ xs, isNameB x = true) ∧ 3 ≤ xs.length ∧ xs.length ≤ 13 ∧ ∀ (p : Addr) (us : List V) (rs : List (List Str)) (H' : Hp), H' p = some (.tup us) → TupsAt H' us rs → KinOk rs → rs.length ≤ 20 → Hand H' a (n + 1) → Keep a H H' → Q (.ref p) H'
theorem ok_ring62 (Y : Ev K mg) : FnOk P w K mg base CX0 3 Y.a__law_ring Y.d__law_ring p__law_ring spRing62 := by
  have G__law_pick : FnOk P w K mg base CX0 2 Y.a__law_pick Y.d__law_pick p__law_pick (spPick K) := ok_pick Y
  refine Y._law_ring.fn.okQ c__law_ring (fun vs H Q E h => ?_) (fun cdv A outer s H vs Q E hr h => ?_)
  · obtain ⟨a, h, n, xs, rfl, _⟩ := h; rfl
  · obtain ⟨a, h, n, xs, rfl, hH, hn, hh, nha, nd, hnm, x3, x13, q⟩ := h
    refine ⟨_, (b_cons (s_setcomp 2 (src := [none, none]) o__law_ring_1 rfl rfl c__law_ring.nd (i_zip Y.zip (a_cons (qv 1) (a_cons (q_op op_cat (q_sl sl_list (qv 1) (o_some q_int) o_none) (q_sl sl_list (qv 1) o_none (o_some q_int))) a_nil))) (fun _ _ _ _ _ => (g_tupK (K := K) 2 rfl rfl (gs_cons (g_name 0 o__law_ring_1.nd) (gs_cons (g_name 1 o__law_ring_1.nd) gs_nil)))) (fun _ _ _ _ _ => f_nil) (fun _ _ _ _ _ => (q_tup (a_cons (qv 0) (a_cons (qv 1) (a_cons q_str a_nil))))))
      (b_one (s_ret (q_callTy call_tuple_of Y.tuple bt_tuple (a_cons (q_callB call_sortedTs Y.sorted bt_sorted (a_cons (q_sl sl_list (qv 2) o_none (o_some (q_call G__law_pick (hr.mono (by decide)) Y._law_pick.mg Y._law_pick.kp Y._law_pick.b .nil pass0 (a_cons (qv 0) (a_cons (q_lst (a_cons q_int (a_cons (q_callB call_len2 Y.len bt_len (a_cons (qv 2) a_nil)) a_nil))) a_nil))))) a_nil)) a_nil))))), ?_⟩
    refine ⟨_, rfl, _, rfl, _, rfl, h, _, rfl, SqL.of hh, fun p1 hp1 => ?_⟩
    have S1 := Same.new (o := .lst (cutV (xs.map V.str) (some 1) none)) hp1
    refine ⟨_, rfl, _, rfl, h, _, rfl, SqL.of (S1 _ _ hh), fun p2 hp2 => ?_⟩
    have S2 := Same.new (o := .lst (cutV (xs.map V.str) none (some 1))) hp2
    have e1 : cutV (xs.map V.str) (some 1) none = (xs.drop 1).map V.str := by rw [List.map_drop]; exact cut_drop (m := 1)
    have e2 : cutV (xs.map V.str) none (some 1) = (xs.take 1).map V.str := by rw [List.map_take]; exact cut_take (n := 1)
    have hp1' := S2 _ _ (upd_same (H := H) (a := p1) (o := .lst (cutV (xs.map V.str) (some 1) none)))
    have hp2' := upd_same (H := upd H p1 (.lst (cutV (xs.map V.str) (some 1) none))) (a := p2) (o := .lst (cutV (xs.map V.str) none (some 1)))
    have S12 := S1.trans S2
    generalize (upd (upd H p1 (HO.lst (cutV (xs.map V.str) (some 1) none))) p2 (HO.lst (cutV (xs.map V.str) none (some 1)))) = H2 at *
    rw [e1] at hp1'
    rw [e2] at hp2'
    refine ⟨p1, p2, _, _, rfl, rfl, hp1', hp2', Nat.le_of_lt (small1000 (by rw [List.length_map, List.length_map, List.length_drop, List.length_take]; omega)), fun p3 hp3 => ?_⟩
    rw [← List.map_append]
    have S3 := Same.new (o := .lst ((xs.drop 1 ++ xs.take 1).map V.str)) hp3
    have hp3' := upd_same (H := H2) (a := p3) (o := .lst ((xs.drop 1 ++ xs.take 1).map V.str))
    have hh3 := S3 _ _ (S12 _ _ hh)
    have S13 := S12.trans S3
    have zl : (xs.drop 1 ++ xs.take 1).length = xs.length := by rw [List.length_append, List.length_drop, List.length_take]; omega
    refine ⟨h, p3, false, false, _, _, rfl, hh3, hp3', ?_⟩
    generalize (upd H2 p3 (HO.lst ((xs.drop 1 ++ xs.take 1).map V.str))) = H3 at *
    have eN : min (xs.map V.str).length ((xs.drop 1 ++ xs.take 1).map V.str).length = xs.length := by rw [List.length_map, List.length_map, zl, Nat.min_self]
    rw [eN]
    refine comp_byY (n := xs.length) (fun l i ys σ' H' => (∃ o1 o2, σ' = [o1, o2]) ∧ TupsAt H' ys ((List.range i).map (rgRow xs)) ∧ Same H3 H') ?_ ?_ ?_ ?_ ?_
    · exact fun l hl => ⟨⟨_, _, rfl⟩, ⟨rfl, fun i v q e => by cases e⟩, Same.new hl⟩
    · rintro l i ys σ' H' hl hi ⟨_, _, s'⟩
      refine ⟨_, _, .str (at_ xs i), .str (at_ xs ((i + 1) % xs.length)), s' _ _ hh3, s' _ _ hp3', eN, ?_, ?_⟩
      · rw [List.getElem?_map, List.getElem?_eq_getElem hi]; simp [List.getD, hi]
      · rw [List.getElem?_map, ring_zip hi]; rfl
    · rintro l ys σ' H' hl ⟨_, _, s'⟩
      exact ⟨_, _, s' _ _ hh3, s' _ _ hp3', eN, Nat.le_refl _⟩
    · rintro l i x ys σ' H4 H5 hl hi ⟨⟨o1, o2, rfl⟩, T4, s4⟩ hl4 ⟨Tt, xs', ys', u, v, hx', hy', rfl, hT, hu, hv, rfl⟩
      have ex : xs' = xs.map V.str := SqZ.inj (t := false) hx' (s4 _ _ hh3)
      have ey : ys' = (xs.drop 1 ++ xs.take 1).map V.str := SqZ.inj (t := false) hy' (s4 _ _ hp3')
      subst ex ey
      have hu' : u = .str (at_ xs i) := by
        rw [List.getElem?_map, List.getElem?_eq_getElem hi] at hu
        cases hu
        simp [List.getD, hi]
      have hv' : v = .str (at_ xs ((i + 1) % xs.length)) := by
        rw [List.getElem?_map, ring_zip hi] at hv
        cases hv; rfl
      subst hu' hv'
      have S5 := Same.new (o := .tup [V.str (at_ xs i), V.str (at_ xs ((i + 1) % xs.length))]) hT
      refine ⟨Tt, _, rfl, .inl (.inl upd_same), rfl, _, _, rfl, _, _, rfl, rfl, ?_⟩
      refine ⟨_, rfl, _, rfl, few rfl, fun p6 hp6 => ?_⟩
      have S6 := Same.new (o := .tup [V.str (at_ xs i), V.str (at_ xs ((i + 1) % xs.length)), V.str "over"]) hp6
      have S46 := S5.trans S6
      have hl6 := S46 _ _ hl4
      have T6 := tups_same T4 S46
      have hT4 := T4.1
      rw [List.length_map, List.length_range] at hT4
      refine ⟨hl6, small1000 (by omega), ⟨_, _, rfl⟩, ?_, fun c o e => ?_⟩
      · rw [List.range_succ, List.map_append]
        exact tupsApp T6 hl6 upd_same
      · rw [upd_ne (ne_of_none e hl)]
        exact S46 _ _ (s4 _ _ e)
    · rintro l ys σ' H4 hl ⟨⟨o1, o2, rfl⟩, T4, s4⟩ hl4
      have hyl := T4.1
      rw [List.length_map, List.length_range] at hyl
      have S04 := S13.trans s4
      have hH4 := hH.same S04
      refine ⟨_, rfl, _, rfl, _, rfl, .inl ⟨l, _, rfl, .inl (SqL.of hl4), few rfl, fun pl hpl => ?_⟩⟩
      have S5 := Same.new (o := .lst [V.int 3, V.int (ys.length : Int)]) hpl
      refine ⟨a, n, hH4.new hpl, by omega, .inl ⟨pl, _, rfl, hH4.ne hpl, SqL.of upd_same, (by decide : 0 < 2), (by decide : 2 < 1000), fun v H5 hv hH5 k5 => ?_⟩⟩
      obtain ⟨m, rfl, hm⟩ : ∃ m : Nat, v = .int (m : Int) ∧ m ≤ xs.length := by
        simp only [List.mem_cons, List.not_mem_nil, or_false] at hv
        rcases hv with rfl | rfl
        · exact ⟨3, rfl, x3⟩
        · exact ⟨ys.length, rfl, by omega⟩
      have nl : l ≠ a := (hH.same S13).ne hl
      have hl5 := k5 _ _ nl (S5 _ _ hl4)
      have T5 : TupsAt H5 ys (rgRows xs) := by
        have m5 : Mono H4 H5 := (Mono.of S5).trans (.keep k5 (hH4.new hpl) hH5)
        exact ⟨T4.1, fun j v q e1 e2 => let ⟨b', e3, hb'⟩ := T4.2 j v q e1 e2; ⟨b', e3, m5.tup _ _ hb'⟩⟩
      refine ⟨_, rfl, l, _, rfl, SqL.of hl5, fun p6 hp6 => ?_⟩
      have S6 := Same.new (o := .lst (cutV ys none (some (m : Int)))) hp6
      rw [cut_take] at S6 ⊢
      have T6 := tups_same T5 S6
      have Tm : TupsAt (upd H5 p6 (.lst (ys.take m))) (ys.take m) ((rgRows xs).take m) := by
        refine ⟨by rw [List.length_take, List.length_take, T6.1], fun j v q e1 e2 => ?_⟩
        rw [List.getElem?_take] at e1 e2
        split at e1
        · rename_i hj; rw [if_pos hj] at e2; exact T6.2 j v q e1 e2
        · cases e1
      obtain ⟨rrow, rnd⟩ := ring_rows nd hnm x3
      have rrow' : ∀ r ∈ (rgRows xs).take m, rowL r = true := fun r hr' => rrow r (List.mem_of_mem_take hr')
      have rnd' : (((rgRows xs).take m).map tieL).Nodup := by rw [List.map_take]; exact rnd.sublist (List.take_sublist _ _)
      have rl : ((rgRows xs).take m).length ≤ 13 := by rw [List.length_take]; unfold rgRows; rw [List.length_map, List.length_range]; omega
      refine ⟨p6, _, (rgRows xs).take m, rfl, .inl (SqL.of upd_same), Tm, fun r hr' => (row3 (rrow' r hr')).1, by omega, fun ls vs' l7 hpm hpw T7 hl7 => ⟨l7, _, rfl, .inl ⟨SqL.of upd_same, fun p8 hp8 => ?_⟩⟩⟩
      have S8 := (Same.new (o := .lst vs') hl7).trans (Same.new (o := .tup vs') hp8)
      exact q p8 vs' ls _ upd_same (tups_same T7 S8) (kin_of rrow' rnd' hpm hpw) (by rw [hpm.length_eq]; omega) (hH5.same (S6.trans S8)) (((Keep.of S04).trans ((Keep.of S5).trans k5)).trans (Keep.of (S6.trans S8)))
def odd62 : List D := [.non, .bl true, .int 0, .str "", .str "over", .oth, .oth, .tup [.non], .tup [.tup []], .tup [.str "a", .str "b", .str "over"], .tup [.tup [.tup [.str "a", .str "b", .str "over"]]], .tup [.str "over"]]
theorem odd62_bad : ∀ d ∈ odd62, gK d := by
  have h1 : ∀ d ∈ odd62, kinB d = false := by
    unfold odd62
    walk_at "each" <;> rfl
  have h2 : ∀ d ∈ odd62, ∀ ds, d = .tup ds → ds.length ≤ 60 := by
    unfold odd62
    walk_at "each" <;> (intro ds z; cases z) <;> exact Nat.le_of_ble_eq_true rfl
  exact fun d hd => ⟨h1 d hd, h2 d hd⟩
def spLaw (K : PySem.W.Frag) : Sp := fun vs H Q _ => ∃ (a : Addr) (ns : List Int), vs = [.ref a] ∧ SqL K H a (ns.map V.int) ∧ ns.length ≤ 63 ∧ ∀ H', Q (.bl true) H'
theorem ok_law_of (Y : Ev K mg) {fl : Addr} {fdl : FuncData} (FL : Fun K "law" "law" s_law fl fdl) : FnOk P w K mg base CX0 4 fl fdl p_law (spLaw K) := by
  have G__law_take : FnOk P w K mg base CX0 1 Y.a__law_take Y.d__law_take p__law_take spTake := ok_take Y
  have G__law_pick : FnOk P w K mg base CX0 2 Y.a__law_pick Y.d__law_pick p__law_pick (spPick K) := ok_pick Y
  have G__law_hand : FnOk P w K mg base CX0 1 Y.a__law_hand Y.d__law_hand p__law_hand (spHand K) := ok_hand Y
  have G__law_names : FnOk P w K mg base CX0 3 Y.a__law_names Y.d__law_names p__law_names spNames2 := ok_names2 Y
  have G__law_kin : FnOk P w K mg base CX0 2 Y.a__law_kin Y.d__law_kin p__law_kin spKinD := ok_kinD Y
  have G__law_ring : FnOk P w K mg base CX0 3 Y.a__law_ring Y.d__law_ring p__law_ring spRing62 := ok_ring62 Y
  have G__law_spoilt : FnOk P w K mg base CX0 2 Y.a__law_spoilt Y.d__law_spoilt p__law_spoilt spSpoilt62 := ok_spoilt62 Y
  have G_is_kin : FnOk P w K mg base CX0 3 Y.a_is_kin Y.d_is_kin p_is_kin spKin62 := ok_is_kin Y
  refine FL.okQ c_law (fun vs H Q E h => ?_) (fun cdv A outer s H vs Q E hr h => ?_)
  · obtain ⟨a, ns, rfl, _⟩ := h; rfl
  · obtain ⟨b, ns, rfl, hS, hns, q⟩ := h
    refine ⟨_, (b_cons (s_set 1 c_law.nd (q_lst (a_cons q_non (a_cons q_bl (a_cons q_int (a_cons q_str (a_cons q_str (a_cons (q_lst a_nil) (a_cons q_dnew (a_cons (q_tup (a_cons q_non a_nil)) (a_cons (q_tup (a_cons (q_tup a_nil) a_nil)) (a_cons (q_tup (a_cons q_str (a_cons q_str (a_cons q_str a_nil)))) (a_cons (q_tup (a_cons (q_tup (a_cons (q_tup (a_cons q_str (a_cons q_str (a_cons q_str a_nil)))) a_nil)) a_nil)) (a_cons (q_tup (a_cons q_str a_nil)) a_nil))))))))))))))
      (b_cons (s_for PassesOwn.never rfl (i_rng1 Y.range (a_cons (q_callB (call_max2 rfl) Y.max bt_max (a_cons q_int (a_cons (q_callB (call_min2 rfl) Y.min bt_min (a_cons q_int (a_cons (q_callB call_len2 Y.len bt_len (a_cons (qv 0) a_nil)) a_nil))) a_nil))) a_nil)) (g_name 2 c_law.nd) (b_cons (s_set 3 c_law.nd (q_call G__law_hand (hr.mono (by decide)) Y._law_hand.mg Y._law_hand.kp Y._law_hand.b .nil pass0 (a_cons (qv 0) (a_cons (qv 2) a_nil))))
      (b_cons (s_set 4 c_law.nd (q_call G__law_names (hr.mono (by decide)) Y._law_names.mg Y._law_names.kp Y._law_names.b .nil pass0 (a_cons (qv 3) (a_cons (q_call G__law_pick (hr.mono (by decide)) Y._law_pick.mg Y._law_pick.kp Y._law_pick.b .nil pass0 (a_cons (qv 3) (a_cons (q_lstC [V.int 0, V.int 1, V.int 2, V.int 3, V.int 4, V.int 5, V.int 9, V.int 12] (by decide +kernel)) a_nil))) a_nil))))
      (b_cons (s_set 5 c_law.nd (q_call G__law_kin (hr.mono (by decide)) Y._law_kin.mg Y._law_kin.kp Y._law_kin.b .nil pass0 (a_cons (qv 3) (a_cons (qv 4) (a_cons (q_op op_mul (q_call G__law_take (hr.mono (by decide)) Y._law_take.mg Y._law_take.kp Y._law_take.b .nil pass0 (a_cons (qv 3) (a_cons q_int a_nil))) (q_callTy call_int1 Y.int bt_int (a_cons (q_cmp op_gt (q_callB call_len2 Y.len bt_len (a_cons (qv 4) a_nil)) q_int) a_nil))) a_nil)))))
      (b_cons (s_if (t_w (w_or (t_cmp op_isnotB (q_call G_is_kin (hr.mono (by decide)) Y.is_kin.mg Y.is_kin.kp Y.is_kin.b .nil pass0 (a_cons (qv 5) a_nil)) q_bl) (w_or1 (t_cmp op_isnotB (q_call G_is_kin (hr.mono (by decide)) Y.is_kin.mg Y.is_kin.kp Y.is_kin.b .nil pass0 (a_cons (q_tup a_nil) a_nil)) q_bl)))) (b_one (s_ret q_bl)) b_nil)
      (b_cut (s_if (t_w (w_and (t_cmp op_gt (q_callB call_len2 Y.len bt_len (a_cons (qv 4) a_nil)) q_int) (w_and1 (t_cmp op_isnotB (q_call G_is_kin (hr.mono (by decide)) Y.is_kin.mg Y.is_kin.kp Y.is_kin.b .nil pass0 (a_cons (q_call G__law_ring (hr.mono (by decide)) Y._law_ring.mg Y._law_ring.kp Y._law_ring.b .nil pass0 (a_cons (qv 3) (a_cons (qv 4) a_nil))) a_nil)) q_bl)))) (b_one (s_ret q_bl)) b_nil)
      (b_one (s_for PassesOwn.never rfl (i_list (q_op op_cat (qv 1) (q_if (t_cmp (op_neD (hu64 hr)) (qv 5) (q_tup a_nil)) (q_call G__law_spoilt (hr.mono (by decide)) Y._law_spoilt.mg Y._law_spoilt.kp Y._law_spoilt.b .nil pass0 (a_cons (qv 3) (a_cons (qv 5) a_nil))) (q_lst a_nil)))) (g_name 6 c_law.nd) (b_one (s_if (t_cmp op_isnotB (q_call G_is_kin (hr.mono (by decide)) Y.is_kin.mg Y.is_kin.kp Y.is_kin.b .nil pass0 (a_cons (qv 6) a_nil)) q_bl) (b_one (s_ret q_bl)) b_nil))))))))))
      (b_one (s_ret q_bl)))), ?_⟩
    refine seq_L (ds := odd62) (by unfold odd62; walk_at "dsp") fun l0 vs0 HZ s00 e0 r0 => ?_
    have L0 : LP gK HZ l0 12 := ⟨vs0, odd62, e0, r0, Nat.le_of_ble_eq_true rfl, odd62_bad⟩
    have hSO := s00.seq hS
    refine ⟨_, rfl, .inl ⟨b, _, rfl, .inl hSO, _, _, rfl, _, _, rfl, _, rfl, ?_, ?_, ?_⟩⟩
    · split <;> (try split) <;> omega
    · rw [List.length_map]
      split <;> (try split) <;> omega
    refine for_by wk_rng (fun i σ' H' => (∃ o2 o3 o4 o5 o6, σ' = [some (.ref b), some (.ref l0), o2, o3, o4, o5, o6]) ∧ Same HZ H') ⟨⟨_, _, _, _, _, rfl⟩, Same.refl HZ⟩ (fun _ _ _ _ => trivial) ?_ ?_
    · rintro i y σ' H0 hi rfl ⟨⟨o2, o3, o4, o5, o6, rfl⟩, s0⟩
      have hi' : i < 1000 := by
        refine Nat.lt_of_lt_of_le hi ?_
        rw [List.length_map]
        split <;> (try split) <;> omega
      refine ⟨_, rfl, _, rfl, b, ns, _, rfl, s0.seq hSO, by omega, by omega, fun a H1 ha hH1 s1 => ?_⟩
      have n0a : l0 ≠ a := ne_of_none (s0 _ _ e0) ha
      refine ⟨_, rfl, _, rfl, by decide, fun pl hpl => ⟨a, 0, hH1.new hpl, by decide, .inl ⟨pl, _, rfl, hH1.ne hpl, SqL.of upd_same, by decide, by decide, fun v H2 hv hH2 k2 => ?_⟩⟩⟩
      obtain ⟨m, rfl, m12⟩ : ∃ m : Nat, v = .int (m : Int) ∧ m ≤ 12 := by
        simp only [List.mem_cons, List.not_mem_nil, or_false] at hv
        rcases hv with rfl | rfl | rfl | rfl | rfl | rfl | rfl | rfl
        · exact ⟨0, rfl, by decide⟩
        · exact ⟨1, rfl, by decide⟩
        · exact ⟨2, rfl, by decide⟩
        · exact ⟨3, rfl, by decide⟩
        · exact ⟨4, rfl, by decide⟩
        · exact ⟨5, rfl, by decide⟩
        · exact ⟨9, rfl, by decide⟩
        · exact ⟨12, rfl, by decide⟩
      have k12 : Keep a H1 H2 := (Keep.new hpl).trans k2
      refine ⟨a, _, m, rfl, hH2, by decide, by omega, fun lh xs H3 hlh hl3 hlen hxn hxd hxw hH3 k3 => ?_⟩
      have nlh : lh ≠ a := hH2.ne hlh
      refine ⟨_, rfl, _, rfl, _, rfl, a, 9, _, rfl, hH3, by decide, by decide, by decide, fun t' H4 t0 t9 hH4 k4 => ?_⟩
      obtain ⟨t, rfl⟩ : ∃ t : Nat, t' = (t : Int) := ⟨t'.toNat, by omega⟩
      have hl4 := k4 _ _ nlh hl3
      refine ⟨_, rfl, .inl ⟨lh, _, rfl, .inl (SqL.of hl4), _, _, rfl, rfl, .inr ⟨_, rfl, _, _, rfl, rfl, ?_⟩⟩⟩
      refine ⟨.inl ⟨by omega, by omega⟩, ?_⟩
      obtain ⟨more, em, m8, m0⟩ : ∃ more : Nat, (t : Int) * (if decide ((1 : Int) < ((xs.map V.str).length : Int)) = true then (1 : Int) else 0) = (more : Int) ∧ more ≤ 8 ∧ (more = 0 ∨ 0 < xs.length) := by
        split
        · rename_i hc
          have := of_decide_eq_true hc
          rw [List.length_map] at this
          exact ⟨t, by omega, by omega, .inr (by omega)⟩
        · exact ⟨0, by omega, by omega, .inl rfl⟩
      refine ⟨a, lh, _, xs, more, (by rw [← em]; rfl), hH4, by decide, hl4, nlh, by omega, hxd, hxn, m8, m0, fun pk us rs H5 hpk T5 kok r20 hH5 k5 => ?_⟩
      have rk : Rep H5 (.ref pk) (.tup (rs.map tD)) := .mkL hpk (by rw [List.length_map]; omega) (rep_tups T5 fun q hq => rowL_short (kok.row q hq))
      refine ⟨_, rfl, _, _, rfl, rk, (fun ds z => by cases z; rw [List.length_map]; omega), fun H6 s6 => ?_⟩
      rw [kok.ok]
      refine ⟨_, _, rfl, rfl, _, rfl, if_f rfl ⟨few rfl, fun p7 hp7 => ⟨.ref p7, .tup [], rfl, .mkL upd_same (by decide) .nil, (fun ds z => by cases z; exact Nat.zero_le _), fun H8 s8 => ?_⟩⟩⟩
      refine ⟨_, _, rfl, rfl, _, rfl, if_f rfl ?_⟩
      have S7 := Same.new (o := .tup ([] : List V)) hp7
      have s58 := (s6.trans S7).trans s8
      have hH8 := hH5.same s58
      have k18 : Keep a H1 H8 := (((k12.trans k3).trans k4).trans k5).trans (Keep.of s58)
      have hl8 := s58 _ _ (k5 _ _ nlh hl4)
      have T8 := tups_same T5 s58
      have hpk8 := s58 _ _ hpk
      refine ⟨fun σ' H' => σ' = [some (V.ref b), some (.ref l0), some (.int (0 + (i : Int))), some (.ref a), some (.ref lh), some (.ref pk), o6] ∧ Hand H' a 500 ∧ Keep a H1 H' ∧ H' pk = some (.tup us) ∧ TupsAt H' us rs, ?_, ?_⟩
      · refine ⟨_, rfl, .inl ⟨lh, _, rfl, .inl (SqL.of hl8), _, _, rfl, rfl, _, rfl, ite2 (fun hc => ?_) (fun _ => if_f rfl ⟨rfl, hH8.mono (by decide), k18, hpk8, T8⟩)⟩⟩
        have h3 : 3 ≤ xs.length := by have := of_decide_eq_true hc; rw [List.length_map] at this; omega
        refine ⟨_, rfl, _, rfl, a, lh, _, xs, rfl, hH8, by decide, hl8, nlh, hxd, hxn, h3, by omega, fun pg ug rg H9 hpg T9 kg g20 hH9 k9 => ?_⟩
        have rg9 : Rep H9 (.ref pg) (.tup (rg.map tD)) := .mkL hpg (by rw [List.length_map]; omega) (rep_tups T9 fun q hq => rowL_short (kg.row q hq))
        refine ⟨_, _, rfl, rg9, (fun ds z => by cases z; rw [List.length_map]; omega), fun HA sA => ?_⟩
        rw [kg.ok]
        have m89 : Mono H8 HA := (Mono.keep k9 hH8 hH9).trans (.of sA)
        exact ⟨_, _, rfl, rfl, _, rfl, if_f rfl ⟨rfl, (hH9.same sA).mono (by decide), (k18.trans k9).trans (Keep.of sA), m89.tup _ _ hpk8, T8.1, fun j v q e1 e2 => let ⟨b', e3, hb'⟩ := T8.2 j v q e1 e2; ⟨b', e3, m89.tup _ _ hb'⟩⟩⟩
      rintro σ' HB ⟨rfl, hHB, kB, hpkB, TB⟩
      have L0B : LP gK HB l0 12 := by
        obtain ⟨vs, ds, e, r, k, z⟩ := (L0.same s0).same s1
        exact ⟨vs, ds, kB _ _ n0a e, r.mono (.keep kB hH1 hHB), k, z⟩
      have rkB : Rep HB (.ref pk) (.tup (rs.map tD)) := .mkL hpkB (by rw [List.length_map]; omega) (rep_tups TB fun q hq => rowL_short (kok.row q hq))
      have loop : ∀ (lf : Addr) (Hf : Hp) (c : Nat) (Dd : Ends), LP gK Hf lf c → Keep a H1 Hf → c ≤ 100 → (∀ σ' H', ((∃ o2 o3 o4 o5 o6, σ' = [some (V.ref b), some (V.ref l0), o2, o3, o4, o5, o6]) ∧ Same HZ H') → Dd.nx σ' H') → ForGo (gName 6) (tIfS (tTest (tOp (fun x y H Q => ∃ i j, x = V.bl i ∧ y = V.bl j ∧ Q (V.bl (i != j)) H) (tCall spKin62 [] E0 (tCons (tVar 6) tNil)) (tC (V.bl false)))) (tRet (tC (V.bl false))) tNext) Dd [some (V.ref b), some (.ref l0), some (.int (0 + (i : Int))), some (.ref a), some (.ref lh), some (.ref pk), o6] (Itl K lf) Hf := by
        intro lf Hf c Dd Lf kf hc hD
        obtain ⟨vsf, dsf, ef, rf, nf, pf⟩ := Lf
        refine for_by (wk_list (K := K) (a := lf) (xs := vsf)) (fun j σ' H' => (∃ o6', σ' = [some (V.ref b), some (.ref l0), some (.int (0 + (i : Int))), some (.ref a), some (.ref lh), some (.ref pk), o6']) ∧ Same Hf H') ⟨⟨_, rfl⟩, Same.refl Hf⟩ (fun j σ' H' z => SqL.of (z.2 _ _ ef)) ?_ ?_
        · rintro j y σ' HC hj hy ⟨⟨o6', rfl⟩, sC⟩
          obtain ⟨d, hd, rd⟩ := rf.get hy
          obtain ⟨hk, hl⟩ := pf d (List.mem_of_getElem? hd)
          refine ⟨_, rfl, y, d, rfl, rd.same sC, hl, fun HD sD => ?_⟩
          rw [hk]
          exact ⟨_, _, rfl, rfl, _, rfl, if_f rfl ⟨⟨_, rfl⟩, sC.trans sD⟩⟩
        · rintro σ' HC ⟨⟨o6', rfl⟩, sC⟩
          refine hD _ HC ⟨⟨_, _, _, _, _, rfl⟩, fun c o e => ?_⟩
          exact sC _ _ (kf c o (ne_of_none (s0 c o e) ha) (s1 c o (s0 c o e)))
      refine ⟨_, rfl, _, rfl, few rfl, fun pe hpe => ?_⟩
      have Se := Same.new (o := .tup ([] : List V)) hpe
      have okk : okD (.tup (rs.map tD)) = true := by
        rw [okD]
        refine okL_of fun d hd => ?_
        obtain ⟨z, hz, rfl⟩ := List.mem_map.mp hd
        obtain ⟨a', b', w2, rfl, ha', hb', _, hw⟩ := rowL_form (kok.row z hz)
        show okD (.tup [.str a', .str b', .str w2]) = true
        rw [okD, okL, okL, okL, okL, okD, okD, okD, name_strOk ha', name_strOk hb']
        rcases hw with ⟨rfl, _⟩ | rfl <;> decide +kernel
      have tk := tr_of (rkB.same Se) okk
      rw [pyD] at tk
      refine ⟨_, _, tk, tr_tup0 upd_same, Nat.le_trans (Nat.min_le_right _ _) depth0, _, rfl, ?_⟩
      rw [tup_eqv0]
      have hHe := hHB.same Se
      have ke := kB.trans (Keep.of (a := a) Se)
      have hpke := Se _ _ hpkB
      have Te := tups_same TB Se
      have L0e := L0B.same Se
      generalize (upd HB pe (HO.tup ([] : List V))) = HE at *
      by_cases hz : rs = []
      · subst hz
        refine if_f (by rw [decide_eq_true (show List.map tD [] = [] from rfl)]; rfl) ⟨few rfl, fun p9 hp9 => ?_⟩
        have S9 := Same.new (o := .lst ([] : List V)) hp9
        refine LP.cat (L0e.same S9) (⟨[], [], upd_same, RepL.nil, Nat.le_refl 0, fun _ z => nomatch z⟩ : LP gK _ p9 0) (by decide) fun l9 H9 hl9 s9 L9 => ?_
        exact ⟨l9, rfl, let ⟨vs, _, e, _⟩ := L9; ⟨vs, SqL.of e⟩, loop l9 H9 _ _ L9 ((ke.trans (Keep.of S9)).trans (Keep.of s9)) (by decide) fun σ' H' z => z⟩
      · have rpos : 0 < rs.length := List.length_pos_iff.mpr hz
        have hne : (rs.map tD) ≠ [] := fun z => hz (List.map_eq_nil_iff.mp z)
        refine if_t (by rw [decide_eq_false hne]; rfl) ⟨_, rfl, _, rfl, a, pk, _, us, rs, rfl, hHe, by decide, hpke, Te, kok, rpos, r20, fun l9 H9 L9 hH9 k9 => ?_⟩
        have L09 : LP gK H9 l0 12 := by
          obtain ⟨vs, ds, e, r, k, z⟩ := L0e
          exact ⟨vs, ds, k9 _ _ n0a e, r.mono (.keep k9 hHe hH9), k, z⟩
        refine LP.cat L09 L9 (by decide) fun lA HA hlA sA LA => ?_
        exact ⟨lA, rfl, let ⟨vs, _, e, _⟩ := LA; ⟨vs, SqL.of e⟩, loop lA HA _ _ LA ((ke.trans k9).trans (Keep.of sA)) (by decide) fun σ' H' z => z⟩
    · rintro σ' H4 _
      exact q H4
end
end K62

set_option Elab.async false
set_option linter.all false
set_option maxRecDepth 100000
set_option maxHeartbeats 4000000
namespace K62
open PySem PySem.Spec PyProof.Rows L2 RW
theorem walk {l : PySem.W.OpenLaw} {q : Program} {loose : List Str} {XP : (Str → Option Value) → Heap → Prop} {YP : World → Heap → Prop} {d : DefRec} {K : Params → PySem.W.Frag} (hn : l.most = some 63) (hdf : d.params.defaults = [])
    (hY : ∀ (w : World) (h : Heap), YP w h → (K w.params).In h)
    (F : ∀ (w : World) (mg : Str → Option Value) (fa : Addr) (h : Heap), (K w.params).In h → h.Ns mainGlobals mg → mg d.name = some (.ref fa) →
      ∃ fd : FuncData, (∀ (s : Shared) (u : Value), BindsTo s fd ⟨[u], []⟩ [("_law_script", u)]) ∧ ∀ base : Heap, (K w.params).In base → base.Ns mainGlobals mg → FnOk l.prog w (K w.params) mg base CX0 4 fa fd ["_law_script"] (spLaw (K w.params))) :
    PySem.W.WalkO q loose XP YP l.row.toRowW d [] (fun f vs => PySem.call f vs) :=
  L2.walk_of (n := 63) (k := 4) (x := "_law_script") (CX := fun _ => CX0) (sp := fun w => spLaw (K w.params)) hn (by decide) hdf ⟨rfl, by decide, by decide, rfl⟩ hY F (fun _ _ a ns hl _ hS => ⟨a, ns, rfl, hS, hl, fun _ => rfl⟩) fun _ _ _ _ _ z => z

theorem all_mk {l : PySem.W.OpenLaw} {w : World} {K : PySem.W.Frag} {h : Heap} {mg : Str → Option Value} {fa : Addr} (X : K.In h) (G : h.Ns mainGlobals mg) (hfa : mg "law" = some (.ref fa))
    {f1 : Addr} {od1 an1 : Option Addr} {sl1 : Array (Option Value)} {oc1 kV1 dc1 pm1 cd1 ct1 : Value}
    (a1 : PySem.W.nsIn K mainGlobals "is_name" = some (some (.ref f1))) (l1 : K.lookup f1 = some ⟨oc1, od1, .func (PySem.W.fnOf "is_name" "is_name" (defArgs s_is_name) (defBody s_is_name) (defScope s_is_name) .none kV1 dc1 pm1 an1 cd1 ct1), sl1⟩) (c1 : PySem.W.codeIn K cd1 "is_name" = true) (k1 : PySem.W.keepIn K (.ref f1) = true)
    {f2 : Addr} {od2 an2 : Option Addr} {sl2 : Array (Option Value)} {oc2 kV2 dc2 pm2 cd2 ct2 : Value}
    (a2 : PySem.W.nsIn K mainGlobals "is_row" = some (some (.ref f2))) (l2 : K.lookup f2 = some ⟨oc2, od2, .func (PySem.W.fnOf "is_row" "is_row" (defArgs s_is_row) (defBody s_is_row) (defScope s_is_row) .none kV2 dc2 pm2 an2 cd2 ct2), sl2⟩) (c2 : PySem.W.codeIn K cd2 "is_row" = true) (k2 : PySem.W.keepIn K (.ref f2) = true)
    {f3 : Addr} {od3 an3 : Option Addr} {sl3 : Array (Option Value)} {oc3 kV3 dc3 pm3 cd3 ct3 : Value}
    (a3 : PySem.W.nsIn K mainGlobals "is_rising" = some (some (.ref f3))) (l3 : K.lookup f3 = some ⟨oc3, od3, .func (PySem.W.fnOf "is_rising" "is_rising" (defArgs s_is_rising) (defBody s_is_rising) (defScope s_is_rising) .none kV3 dc3 pm3 an3 cd3 ct3), sl3⟩) (c3 : PySem.W.codeIn K cd3 "is_rising" = true) (k3 : PySem.W.keepIn K (.ref f3) = true)
    {f4 : Addr} {od4 an4 : Option Addr} {sl4 : Array (Option Value)} {oc4 kV4 dc4 pm4 cd4 ct4 : Value}
    (a4 : PySem.W.nsIn K mainGlobals "is_kin_row" = some (some (.ref f4))) (l4 : K.lookup f4 = some ⟨oc4, od4, .func (PySem.W.fnOf "is_kin_row" "is_kin_row" (defArgs s_is_kin_row) (defBody s_is_kin_row) (defScope s_is_kin_row) .none kV4 dc4 pm4 an4 cd4 ct4), sl4⟩) (c4 : PySem.W.codeIn K cd4 "is_kin_row" = true) (k4 : PySem.W.keepIn K (.ref f4) = true)
    {f5 : Addr} {od5 an5 : Option Addr} {sl5 : Array (Option Value)} {oc5 kV5 dc5 pm5 cd5 ct5 : Value}
    (a5 : PySem.W.nsIn K mainGlobals "ties_of" = some (some (.ref f5))) (l5 : K.lookup f5 = some ⟨oc5, od5, .func (PySem.W.fnOf "ties_of" "ties_of" (defArgs s_ties_of) (defBody s_ties_of) (defScope s_ties_of) .none kV5 dc5 pm5 an5 cd5 ct5), sl5⟩) (c5 : PySem.W.codeIn K cd5 "ties_of" = true) (k5 : PySem.W.keepIn K (.ref f5) = true)
    {f6 : Addr} {od6 an6 : Option Addr} {sl6 : Array (Option Value)} {oc6 kV6 dc6 pm6 cd6 ct6 : Value}
    (a6 : PySem.W.nsIn K mainGlobals "is_kin" = some (some (.ref f6))) (l6 : K.lookup f6 = some ⟨oc6, od6, .func (PySem.W.fnOf "is_kin" "is_kin" (defArgs s_is_kin) (defBody s_is_kin) (defScope s_is_kin) .none kV6 dc6 pm6 an6 cd6 ct6), sl6⟩) (c6 : PySem.W.codeIn K cd6 "is_kin" = true) (k6 : PySem.W.keepIn K (.ref f6) = true)
    {f7 : Addr} {od7 an7 : Option Addr} {sl7 : Array (Option Value)} {oc7 kV7 dc7 pm7 cd7 ct7 : Value}
    (a7 : PySem.W.nsIn K mainGlobals "_law_hand" = some (some (.ref f7))) (l7 : K.lookup f7 = some ⟨oc7, od7, .func (PySem.W.fnOf "_law_hand" "_law_hand" (defArgs s__law_hand) (defBody s__law_hand) (defScope s__law_hand) .none kV7 dc7 pm7 an7 cd7 ct7), sl7⟩) (c7 : PySem.W.codeIn K cd7 "_law_hand" = true) (k7 : PySem.W.keepIn K (.ref f7) = true)
    {f8 : Addr} {od8 an8 : Option Addr} {sl8 : Array (Option Value)} {oc8 kV8 dc8 pm8 cd8 ct8 : Value}
    (a8 : PySem.W.nsIn K mainGlobals "_law_take" = some (some (.ref f8))) (l8 : K.lookup f8 = some ⟨oc8, od8, .func (PySem.W.fnOf "_law_take" "_law_take" (defArgs s__law_take) (defBody s__law_take) (defScope s__law_take) .none kV8 dc8 pm8 an8 cd8 ct8), sl8⟩) (c8 : PySem.W.codeIn K cd8 "_law_take" = true) (k8 : PySem.W.keepIn K (.ref f8) = true)
    {f9 : Addr} {od9 an9 : Option Addr} {sl9 : Array (Option Value)} {oc9 kV9 dc9 pm9 cd9 ct9 : Value}
    (a9 : PySem.W.nsIn K mainGlobals "_law_pick" = some (some (.ref f9))) (l9 : K.lookup f9 = some ⟨oc9, od9, .func (PySem.W.fnOf "_law_pick" "_law_pick" (defArgs s__law_pick) (defBody s__law_pick) (defScope s__law_pick) .none kV9 dc9 pm9 an9 cd9 ct9), sl9⟩) (c9 : PySem.W.codeIn K cd9 "_law_pick" = true) (k9 : PySem.W.keepIn K (.ref f9) = true)
    {f10 : Addr} {od10 an10 : Option Addr} {sl10 : Array (Option Value)} {oc10 kV10 dc10 pm10 cd10 ct10 : Value}
    (a10 : PySem.W.nsIn K mainGlobals "_law_names" = some (some (.ref f10))) (l10 : K.lookup f10 = some ⟨oc10, od10, .func (PySem.W.fnOf "_law_names" "_law_names" (defArgs s__law_names) (defBody s__law_names) (defScope s__law_names) .none kV10 dc10 pm10 an10 cd10 ct10), sl10⟩) (c10 : PySem.W.codeIn K cd10 "_law_names" = true) (k10 : PySem.W.keepIn K (.ref f10) = true)
    {f11 : Addr} {od11 an11 : Option Addr} {sl11 : Array (Option Value)} {oc11 kV11 dc11 pm11 cd11 ct11 : Value}
    (a11 : PySem.W.nsIn K mainGlobals "_law_kin" = some (some (.ref f11))) (l11 : K.lookup f11 = some ⟨oc11, od11, .func (PySem.W.fnOf "_law_kin" "_law_kin" (defArgs s__law_kin) (defBody s__law_kin) (defScope s__law_kin) .none kV11 dc11 pm11 an11 cd11 ct11), sl11⟩) (c11 : PySem.W.codeIn K cd11 "_law_kin" = true) (k11 : PySem.W.keepIn K (.ref f11) = true)
    {f12 : Addr} {od12 an12 : Option Addr} {sl12 : Array (Option Value)} {oc12 kV12 dc12 pm12 cd12 ct12 : Value}
    (a12 : PySem.W.nsIn K mainGlobals "_law_put" = some (some (.ref f12))) (l12 : K.lookup f12 = some ⟨oc12, od12, .func (PySem.W.fnOf "_law_put" "_law_put" (defArgs s__law_put) (defBody s__law_put) (defScope s__law_put) .none kV12 dc12 pm12 an12 cd12 ct12), sl12⟩) (c12 : PySem.W.codeIn K cd12 "_law_put" = true) (k12 : PySem.W.keepIn K (.ref f12) = true)
    {f13 : Addr} {od13 an13 : Option Addr} {sl13 : Array (Option Value)} {oc13 kV13 dc13 pm13 cd13 ct13 : Value}
    (a13 : PySem.W.nsIn K mainGlobals "_law_bad_rows" = some (some (.ref f13))) (l13 : K.lookup f13 = some ⟨oc13, od13, .func (PySem.W.fnOf "_law_bad_rows" "_law_bad_rows" (defArgs s__law_bad_rows) (defBody s__law_bad_rows) (defScope s__law_bad_rows) .none kV13 dc13 pm13 an13 cd13 ct13), sl13⟩) (c13 : PySem.W.codeIn K cd13 "_law_bad_rows" = true) (k13 : PySem.W.keepIn K (.ref f13) = true)
    {f14 : Addr} {od14 an14 : Option Addr} {sl14 : Array (Option Value)} {oc14 kV14 dc14 pm14 cd14 ct14 : Value}
    (a14 : PySem.W.nsIn K mainGlobals "_law_spoilt" = some (some (.ref f14))) (l14 : K.lookup f14 = some ⟨oc14, od14, .func (PySem.W.fnOf "_law_spoilt" "_law_spoilt" (defArgs s__law_spoilt) (defBody s__law_spoilt) (defScope s__law_spoilt) .none kV14 dc14 pm14 an14 cd14 ct14), sl14⟩) (c14 : PySem.W.codeIn K cd14 "_law_spoilt" = true) (k14 : PySem.W.keepIn K (.ref f14) = true)
    {f15 : Addr} {od15 an15 : Option Addr} {sl15 : Array (Option Value)} {oc15 kV15 dc15 pm15 cd15 ct15 : Value}
    (a15 : PySem.W.nsIn K mainGlobals "_law_ring" = some (some (.ref f15))) (l15 : K.lookup f15 = some ⟨oc15, od15, .func (PySem.W.fnOf "_law_ring" "_law_ring" (defArgs s__law_ring) (defBody s__law_ring) (defScope s__law_ring) .none kV15 dc15 pm15 an15 cd15 ct15), sl15⟩) (c15 : PySem.W.codeIn K cd15 "_law_ring" = true) (k15 : PySem.W.keepIn K (.ref f15) = true)
    {f16 : Addr} {od16 an16 : Option Addr} {sl16 : Array (Option Value)} {oc16 kV16 dc16 pm16 cd16 ct16 : Value}
    (a16 : PySem.W.nsIn K mainGlobals "law" = some (some (.ref f16))) (l16 : K.lookup f16 = some ⟨oc16, od16, .func (PySem.W.fnOf "law" "law" (defArgs s_law) (defBody s_law) (defScope s_law) .none kV16 dc16 pm16 an16 cd16 ct16), sl16⟩) (c16 : PySem.W.codeIn K cd16 "law" = true) (k16 : PySem.W.keepIn K (.ref f16) = true)
    {tk_LONGEST : Tok} (g_LONGEST : PySem.W.nsIn K mainGlobals "LONGEST" = some (some (.int 8 tk_LONGEST)))
    {aT_TAKEN : Addr} {odT_TAKEN : Option Addr} {slT_TAKEN : Array (Option Value)} {nT_TAKEN : Nat} {t0_TAKEN t1_TAKEN t2_TAKEN t3_TAKEN : Tok} (g_TAKEN : PySem.W.nsIn K mainGlobals "TAKEN" = some (some (.ref aT_TAKEN))) (l_TAKEN : K.lookup aT_TAKEN = some ⟨.type "tuple", odT_TAKEN, .seq #[.str "if" t0_TAKEN, .str "and" t1_TAKEN, .str "not" t2_TAKEN, .str "never" t3_TAKEN] nT_TAKEN, slT_TAKEN⟩)
    (z_isinstance : PySem.W.nsIn K mainGlobals "isinstance" = some none)
    (z_str : PySem.W.nsIn K mainGlobals "str" = some none)
    (z_len : PySem.W.nsIn K mainGlobals "len" = some none)
    (z_all : PySem.W.nsIn K mainGlobals "all" = some none)
    (z_int : PySem.W.nsIn K mainGlobals "int" = some none)
    (z_tuple : PySem.W.nsIn K mainGlobals "tuple" = some none)
    (z_range : PySem.W.nsIn K mainGlobals "range" = some none)
    (z_max : PySem.W.nsIn K mainGlobals "max" = some none)
    (z_min : PySem.W.nsIn K mainGlobals "min" = some none)
    (z_sorted : PySem.W.nsIn K mainGlobals "sorted" = some none)
    (z_list : PySem.W.nsIn K mainGlobals "list" = some none)
    (z_enumerate : PySem.W.nsIn K mainGlobals "enumerate" = some none)
    (z_zip : PySem.W.nsIn K mainGlobals "zip" = some none)
    : ∃ fd : FuncData, (∀ (s : Shared) (v : Value), BindsTo s fd ⟨[v], []⟩ [("_law_script", v)]) ∧ ∀ base : Heap, K.In base → base.Ns mainGlobals mg → FnOk l.prog w K mg base CX0 4 fa fd ["_law_script"] (spLaw K) := by
  have e := hfa.symm.trans (PySem.W.mg_of X G a16)
  cases e
  have F1 := fun_mk (st := s_is_name) l1 c1 k1
  have F2 := fun_mk (st := s_is_row) l2 c2 k2
  have F3 := fun_mk (st := s_is_rising) l3 c3 k3
  have F4 := fun_mk (st := s_is_kin_row) l4 c4 k4
  have F5 := fun_mk (st := s_ties_of) l5 c5 k5
  have F6 := fun_mk (st := s_is_kin) l6 c6 k6
  have F7 := fun_mk (st := s__law_hand) l7 c7 k7
  have F8 := fun_mk (st := s__law_take) l8 c8 k8
  have F9 := fun_mk (st := s__law_pick) l9 c9 k9
  have F10 := fun_mk (st := s__law_names) l10 c10 k10
  have F11 := fun_mk (st := s__law_kin) l11 c11 k11
  have F12 := fun_mk (st := s__law_put) l12 c12 k12
  have F13 := fun_mk (st := s__law_bad_rows) l13 c13 k13
  have F14 := fun_mk (st := s__law_spoilt) l14 c14 k14
  have F15 := fun_mk (st := s__law_ring) l15 c15 k15
  have F16 := fun_mk (st := s_law) l16 c16 k16
  have b1 := F1.binds (ps := p_is_name) fun _ _ _ _ _ _ us hl => match us, hl with | [_], _ => rfl
  have b2 := F2.binds (ps := p_is_row) fun _ _ _ _ _ _ us hl => match us, hl with | [_, _, _], _ => rfl
  have b3 := F3.binds (ps := p_is_rising) fun _ _ _ _ _ _ us hl => match us, hl with | [_], _ => rfl
  have b4 := F4.binds (ps := p_is_kin_row) fun _ _ _ _ _ _ us hl => match us, hl with | [_], _ => rfl
  have b5 := F5.binds (ps := p_ties_of) fun _ _ _ _ _ _ us hl => match us, hl with | [_], _ => rfl
  have b6 := F6.binds (ps := p_is_kin) fun _ _ _ _ _ _ us hl => match us, hl with | [_], _ => rfl
  have b7 := F7.binds (ps := p__law_hand) fun _ _ _ _ _ _ us hl => match us, hl with | [_, _], _ => rfl
  have b8 := F8.binds (ps := p__law_take) fun _ _ _ _ _ _ us hl => match us, hl with | [_, _], _ => rfl
  have b9 := F9.binds (ps := p__law_pick) fun _ _ _ _ _ _ us hl => match us, hl with | [_, _], _ => rfl
  have b10 := F10.binds (ps := p__law_names) fun _ _ _ _ _ _ us hl => match us, hl with | [_, _], _ => rfl
  have b11 := F11.binds (ps := p__law_kin) fun _ _ _ _ _ _ us hl => match us, hl with | [_, _, _], _ => rfl
  have b12 := F12.binds (ps := p__law_put) fun _ _ _ _ _ _ us hl => match us, hl with | [_, _, _], _ => rfl
  have b13 := F13.binds (ps := p__law_bad_rows) fun _ _ _ _ _ _ us hl => match us, hl with | [_], _ => rfl
  have b14 := F14.binds (ps := p__law_spoilt) fun _ _ _ _ _ _ us hl => match us, hl with | [_, _], _ => rfl
  have b15 := F15.binds (ps := p__law_ring) fun _ _ _ _ _ _ us hl => match us, hl with | [_, _], _ => rfl
  have b16 := F16.binds (ps := p_law) fun _ _ _ _ _ _ us hl => match us, hl with | [_], _ => rfl
  have Y : Ev K mg := {
    a_is_name := f1, d_is_name := _, is_name := ⟨F1, b1, PySem.W.mg_of X G a1, k1⟩,
    a_is_row := f2, d_is_row := _, is_row := ⟨F2, b2, PySem.W.mg_of X G a2, k2⟩,
    a_is_rising := f3, d_is_rising := _, is_rising := ⟨F3, b3, PySem.W.mg_of X G a3, k3⟩,
    a_is_kin_row := f4, d_is_kin_row := _, is_kin_row := ⟨F4, b4, PySem.W.mg_of X G a4, k4⟩,
    a_ties_of := f5, d_ties_of := _, ties_of := ⟨F5, b5, PySem.W.mg_of X G a5, k5⟩,
    a_is_kin := f6, d_is_kin := _, is_kin := ⟨F6, b6, PySem.W.mg_of X G a6, k6⟩,
    a__law_hand := f7, d__law_hand := _, _law_hand := ⟨F7, b7, PySem.W.mg_of X G a7, k7⟩,
    a__law_take := f8, d__law_take := _, _law_take := ⟨F8, b8, PySem.W.mg_of X G a8, k8⟩,
    a__law_pick := f9, d__law_pick := _, _law_pick := ⟨F9, b9, PySem.W.mg_of X G a9, k9⟩,
    a__law_names := f10, d__law_names := _, _law_names := ⟨F10, b10, PySem.W.mg_of X G a10, k10⟩,
    a__law_kin := f11, d__law_kin := _, _law_kin := ⟨F11, b11, PySem.W.mg_of X G a11, k11⟩,
    a__law_put := f12, d__law_put := _, _law_put := ⟨F12, b12, PySem.W.mg_of X G a12, k12⟩,
    a__law_bad_rows := f13, d__law_bad_rows := _, _law_bad_rows := ⟨F13, b13, PySem.W.mg_of X G a13, k13⟩,
    a__law_spoilt := f14, d__law_spoilt := _, _law_spoilt := ⟨F14, b14, PySem.W.mg_of X G a14, k14⟩,
    a__law_ring := f15, d__law_ring := _, _law_ring := ⟨F15, b15, PySem.W.mg_of X G a15, k15⟩,
    a_law := fa, d_law := _, law := ⟨F16, b16, PySem.W.mg_of X G a16, k16⟩,
    v_LONGEST := _, m_LONGEST := PySem.W.mg_of X G g_LONGEST, r_LONGEST := ⟨tk_LONGEST, rfl⟩,
    a_TAKEN := _, m_TAKEN := PySem.W.mg_of X G g_TAKEN, t_TAKEN := fun H => .inr ⟨_, _, nT_TAKEN, l_TAKEN, rfl, rfl, by show 4 ≤ sizeLine; decide, (.cons ⟨t0_TAKEN, rfl⟩ (.cons ⟨t1_TAKEN, rfl⟩ (.cons ⟨t2_TAKEN, rfl⟩ (.cons ⟨t3_TAKEN, rfl⟩ .nil))))⟩,
    isinstance := PySem.W.mg_none_of X G z_isinstance,
    str := PySem.W.mg_none_of X G z_str,
    len := PySem.W.mg_none_of X G z_len,
    all := PySem.W.mg_none_of X G z_all,
    int := PySem.W.mg_none_of X G z_int,
    tuple := PySem.W.mg_none_of X G z_tuple,
    range := PySem.W.mg_none_of X G z_range,
    max := PySem.W.mg_none_of X G z_max,
    min := PySem.W.mg_none_of X G z_min,
    sorted := PySem.W.mg_none_of X G z_sorted,
    list := PySem.W.mg_none_of X G z_list,
    enumerate := PySem.W.mg_none_of X G z_enumerate,
    zip := PySem.W.mg_none_of X G z_zip }
  exact ⟨PySem.W.fnOf "law" "law" (defArgs s_law) (defBody s_law) (defScope s_law) .none kV16 dc16 pm16 an16 cd16 ct16, fun s v => .of_eq rfl, fun base _ _ => ok_law_of Y F16⟩
end K62
open PySem PySem.W PyProof.Rows
set_option maxRecDepth 100000 in
set_option maxHeartbeats 0 in
theorem PySem.Challenge.cw_restways_k62_kin_or_none_holds : PySem.Challenge.rw_restways_k62_kin_or_none.Holds := by
  w_on; o_law; k_head; (case hw => w_witness2)
  k_fill
  refine K62.walk (l := PySem.Challenge.rw_restways_k62_kin_or_none) rfl rfl (fun w h Y => PySem.W.kIn_of Y) ?F
  case F =>
    intro w mg fa h KX G hmg
    refine' K62.all_mk KX G hmg ?a1 ?l1 ?c1 ?k1 ?a2 ?l2 ?c2 ?k2 ?a3 ?l3 ?c3 ?k3 ?a4 ?l4 ?c4 ?k4 ?a5 ?l5 ?c5 ?k5 ?a6 ?l6 ?c6 ?k6 ?a7 ?l7 ?c7 ?k7 ?a8 ?l8 ?c8 ?k8 ?a9 ?l9 ?c9 ?k9 ?a10 ?l10 ?c10 ?k10 ?a11 ?l11 ?c11 ?k11 ?a12 ?l12 ?c12 ?k12 ?a13 ?l13 ?c13 ?k13 ?a14 ?l14 ?c14 ?k14 ?a15 ?l15 ?c15 ?k15 ?a16 ?l16 ?c16 ?k16 ?g_LONGEST ?g_TAKEN ?l_TAKEN ?z_isinstance ?z_str ?z_len ?z_all ?z_int ?z_tuple ?z_range ?z_max ?z_min ?z_sorted ?z_list ?z_enumerate ?z_zip
    (case a1 => k_is)
    (case l1 => k_is)
    (case c1 => k_is)
    (case k1 => k_is)
    (case a2 => k_is)
    (case l2 => k_is)
    (case c2 => k_is)
    (case k2 => k_is)
    (case a3 => k_is)
    (case l3 => k_is)
    (case c3 => k_is)
    (case k3 => k_is)
    (case a4 => k_is)
    (case l4 => k_is)
    (case c4 => k_is)
    (case k4 => k_is)
    (case a5 => k_is)
    (case l5 => k_is)
    (case c5 => k_is)
    (case k5 => k_is)
    (case a6 => k_is)
    (case l6 => k_is)
    (case c6 => k_is)
    (case k6 => k_is)
    (case a7 => k_is)
    (case l7 => k_is)
    (case c7 => k_is)
    (case k7 => k_is)
    (case a8 => k_is)
    (case l8 => k_is)
    (case c8 => k_is)
    (case k8 => k_is)
    (case a9 => k_is)
    (case l9 => k_is)
    (case c9 => k_is)
    (case k9 => k_is)
    (case a10 => k_is)
    (case l10 => k_is)
    (case c10 => k_is)
    (case k10 => k_is)
    (case a11 => k_is)
    (case l11 => k_is)
    (case c11 => k_is)
    (case k11 => k_is)
    (case a12 => k_is)
    (case l12 => k_is)
    (case c12 => k_is)
    (case k12 => k_is)
    (case a13 => k_is)
    (case l13 => k_is)
    (case c13 => k_is)
    (case k13 => k_is)
    (case a14 => k_is)
    (case l14 => k_is)
    (case c14 => k_is)
    (case k14 => k_is)
    (case a15 => k_is)
    (case l15 => k_is)
    (case c15 => k_is)
    (case k15 => k_is)
    (case a16 => k_is)
    (case l16 => k_is)
    (case c16 => k_is)
    (case k16 => k_is)
    (case g_LONGEST => k_is)
    (case g_TAKEN => k_is)
    (case l_TAKEN => k_is)
    (case z_isinstance => k_is)
    (case z_str => k_is)
    (case z_len => k_is)
    (case z_all => k_is)
    (case z_int => k_is)
    (case z_tuple => k_is)
    (case z_range => k_is)
    (case z_max => k_is)
    (case z_min => k_is)
    (case z_sorted => k_is)
    (case z_list => k_is)
    (case z_enumerate => k_is)
    (case z_zip => k_is)
