import PyProof.Rows.All
import Wide.All
import OpenK.AllK
import Wide.FinOn
import Lean
import PyProof.EqAt
import PyProof.EqKinds
import PyProof.TupleCall
import PyProof.NeKinds
import PySem.Challenge.RW_wellroads_k06_whole_errands
set_option Elab.async false
set_option linter.all false
set_option maxRecDepth 100000
set_option maxHeartbeats 4000000
/-! THE HAND LAYER, for ints, bools, texts, own classes, LISTS and tuples (index, slices, in, append, pop ..), calls, loops. Paste it whole ahead of your own text; what your proof does not reach may be deleted. -/
namespace L2
open PySem PySem.Spec PyProof.Rows

/-- a key: an int or a str -/
abbrev Key := Sum Int Str
def keyIs : Key → Value → Bool
  | .inl k, v => Value.isInt k v
  | .inr x, v => Value.isStrOf x v
def keyH (w : World) : Key → Int
  | .inl k => hashInt k
  | .inr x => hashStr w x
theorem keyIs_shape : ∀ {k : Key} {v : Value}, keyIs k v = true → (∃ i t, k = Sum.inl i ∧ v = Value.int i t) ∨ (∃ x t, k = Sum.inr x ∧ v = Value.str x t)
  | .inl i, v, h => by
    obtain ⟨t, e⟩ := Value.isInt_shape (k := i) (v := v) h
    exact .inl ⟨i, t, rfl, e⟩
  | .inr x, v, h => by
    obtain ⟨t, e⟩ := Value.isStrOf_shape (x := x) (v := v) h
    exact .inr ⟨x, t, rfl, e⟩
theorem keyIs_int (i : Int) (t : Tok) : keyIs (.inl i) (.int i t) = true := by simp [keyIs, Value.isInt]
theorem keyIs_str (x : Str) (t : Tok) : keyIs (.inr x) (.str x t) = true := by simp [keyIs, Value.isStrOf]
theorem key_ll (a b : Int) : decide ((Sum.inl a : Key) = Sum.inl b) = (a == b) := by
  by_cases e : a = b
  · subst e; simp
  · have h : ¬ (Sum.inl a : Key) = Sum.inl b := fun q => e (Sum.inl.inj q)
    rw [decide_eq_false h]
    exact (beq_eq_false_iff_ne.mpr e).symm
theorem key_rr (a b : Str) : decide ((Sum.inr a : Key) = Sum.inr b) = decide (a = b) := by
  by_cases e : a = b
  · subst e; simp
  · have h : ¬ (Sum.inr a : Key) = Sum.inr b := fun q => e (Sum.inr.inj q)
    rw [decide_eq_false h, decide_eq_false e]
theorem key_lr (a : Int) (b : Str) : decide ((Sum.inl a : Key) = Sum.inr b) = false := decide_eq_false (fun q => nomatch q)
theorem key_rl (a : Str) (b : Int) : decide ((Sum.inr a : Key) = Sum.inl b) = false := decide_eq_false (fun q => nomatch q)

def mixKind (prog : Program) (w : World) : PySem.KeyKind prog w Key where
  is := keyIs
  hash := keyH w
  inj := fun v a b ha hb => by
    rcases keyIs_shape ha with ⟨i, t, rfl, rfl⟩ | ⟨x, t, rfl, rfl⟩
    · rcases keyIs_shape hb with ⟨j, u, rfl, e⟩ | ⟨y, u, rfl, e⟩
      · injection e with e1 _; rw [e1]
      · exact nomatch e
    · rcases keyIs_shape hb with ⟨j, u, rfl, e⟩ | ⟨y, u, rfl, e⟩
      · exact nomatch e
      · injection e with e1 _; rw [e1]
  byValue := fun k v h => by
    rcases keyIs_shape h with ⟨i, t, rfl, rfl⟩ | ⟨x, t, rfl, rfl⟩ <;> rfl
  pyHash := fun hv h => by
    rcases keyIs_shape hv with ⟨i, t, rfl, rfl⟩ | ⟨x, t, rfl, rfl⟩
    · exact wpAny_pyHash_int h
    · exact wpAny_pyHash_str h
  eqBool := fun hu hv h => by
    rcases keyIs_shape hu with ⟨i, t, rfl, rfl⟩ | ⟨x, t, rfl, rfl⟩
    · rcases keyIs_shape hv with ⟨j, u, rfl, rfl⟩ | ⟨y, u, rfl, rfl⟩
      · rw [key_ll] at h; exact wpAny_eqBool_int h
      · rw [key_lr] at h; exact SeqAt.EqAt.int_str i t y u _ _ _ _ h
    · rcases keyIs_shape hv with ⟨j, u, rfl, rfl⟩ | ⟨y, u, rfl, rfl⟩
      · rw [key_rl] at h; exact SeqAt.EqAt.str_int x t j u _ _ _ _ h
      · rw [key_rr] at h; exact wpAny_eqBool_str h
  «strs» := fun k x t v h => by
    rcases keyIs_shape h with ⟨i, u, rfl, e⟩ | ⟨y, u, rfl, e⟩
    · exact nomatch e
    · injection e with e1 _
      subst e1
      cases v <;> rfl

theorem mixKind_int (prog : Program) (w : World) (i : Int) (t : Tok) : (mixKind prog w).is (.inl i) (.int i t) = true := keyIs_int i t
theorem mixKind_str (prog : Program) (w : World) (x : Str) (t : Tok) : (mixKind prog w).is (.inr x) (.str x t) = true := keyIs_str x t
end L2

namespace L2
open PySem PySem.Spec PyProof.Rows

/-- a value, without the heap -/
inductive V where
  | non | bl (b : Bool) | int (i : Int) | str (x : Str) | byt (b : Array UInt8) | flt (b : UInt64) | ref (a : Addr) | ty (n : String)
  deriving DecidableEq

def RelV : V → Value → Prop
  | .non, u => u = Value.none
  | .bl b, u => u = Value.bool b
  | .int i, u => ∃ t, u = Value.int i t
  | .str x, u => ∃ t, u = Value.str x t
  | .byt b, u => ∃ t, u = Value.bytes b t
  | .flt b, u => ∃ t, u = Value.float b t
  | .ref a, u => u = Value.ref a
  | .ty n, u => u = Value.type n

abbrev Vals : List V → List Value → Prop := Paired RelV
theorem Vals.length {xs : List V} {us : List Value} (r : Vals xs us) : xs.length = us.length := Paired.length r
theorem Vals.get : ∀ {xs : List V} {us : List Value} {i : Nat} {x : V}, Vals xs us → xs[i]? = some x → ∃ u, us[i]? = some u ∧ RelV x u
  | _, _, _, _, .nil, e => by simp at e
  | _, _, 0, _, .cons r _, e => by simp at e; subst e; exact ⟨_, rfl, r⟩
  | _, _, i + 1, x, .cons _ t, e => by
    obtain ⟨u, h1, h2⟩ := Vals.get (i := i) (x := x) t (by simpa using e)
    exact ⟨u, by simpa using h1, h2⟩
theorem Vals.set {x : V} {u : Value} (r : RelV x u) : ∀ {xs : List V} {us : List Value} (i : Nat), Vals xs us → Vals (xs.set i x) (us.set i u)
  | _, _, _, .nil => .nil
  | _, _, 0, .cons _ t => .cons r t
  | _, _, i + 1, .cons q t => .cons q (Vals.set r i t)
theorem Vals.append : ∀ {xs ys : List V} {us ws : List Value}, Vals xs us → Vals ys ws → Vals (xs ++ ys) (us ++ ws)
  | _, _, _, _, .nil, s => s
  | _, _, _, _, .cons r t, s => .cons r (Vals.append t s)
theorem Vals.take : ∀ {xs : List V} {us : List Value} (n : Nat), Vals xs us → Vals (xs.take n) (us.take n)
  | _, _, 0, _ => .nil
  | _, _, _ + 1, .nil => .nil
  | _, _, n + 1, .cons r t => .cons r (Vals.take n t)
theorem Vals.drop : ∀ {xs : List V} {us : List Value} (n : Nat), Vals xs us → Vals (xs.drop n) (us.drop n)
  | _, _, 0, r => r
  | _, _, _ + 1, .nil => .nil
  | _, _, n + 1, .cons _ t => Vals.drop n t
def RelO : Option V → Option Value → Prop
  | some v, some u => RelV v u
  | none, none => True
  | _, _ => False
def KV {κ : Type} : List (κ × V) → List (κ × Value) → Prop := Paired fun (p : κ × V) (q : κ × Value) => p.1 = q.1 ∧ RelV p.2 q.2

/-- a key of a dict (00_mix): an int or a text -/
def kV : Key → V
  | .inl i => .int i
  | .inr x => .str x

/-- what stands at a tracked address -/
inductive HO where
  /-- a list -/
  | lst (xs : List V)
  /-- a tuple (never changes) -/
  | tup (xs : List V)
  /-- a dict whose keys are ints and texts; one whose keys are tuples of ints and texts (the empty one is both) -/
  | dK (kvs : List (Key × V)) | dT (kvs : List (List Key × V))
  /-- a set of ints: its members, its size -/
  | set (S : Int → Bool) (n : Nat)
  /-- an instance of the class at C, its dict at dx, its attributes -/
  | ins (C dx : Addr) (fs : List (Str × V))
  /-- the dict of the instance at x -/
  | own (x : Addr)
  /-- the dict of an exception -/
  | xd (fs : List (Str × V))
  /-- a bound method, f of x -/
  | met (f x : Addr)
  /-- a range object lo, lo + 1, .. below hi -/
  | rng (lo hi : Int)
  /-- a thing that is known to the object (the script; a dict while a loop walks it): read, never written while it is so -/
  | frz (o : Obj) (u : HO)
  /-- a code object's table -/
  | tbl (ps : Array Value)
  /-- any other thing, by what is true of its one object (a def of one's own: SetO a S n := HO.ext fun h => ..) -/
  | ext (φ : Heap → Prop)

abbrev Hp := Addr → Option HO
def upd (H : Hp) (a : Addr) (o : HO) : Hp := fun b => if b = a then some o else H b
theorem upd_same {H : Hp} {a : Addr} {o : HO} : upd H a o a = some o := by unfold upd; rw [if_pos rfl]
theorem upd_ne {H : Hp} {a b : Addr} {o : HO} (h : b ≠ a) : upd H a o b = H b := by unfold upd; rw [if_neg h]
theorem upd_upd {H : Hp} {a : Addr} {o u : HO} : upd (upd H a o) a u = upd H a u := by
  funext b; unfold upd; split <;> rfl
/-- two objects of different content stand apart -/
theorem ne_of {H : Hp} {a b : Addr} {o u : HO} (h : H a = some o) (h' : H b = some u) (d : o ≠ u) : a ≠ b := by
  intro e; subst e; rw [h] at h'; exact d (Option.some.inj h')
theorem ne_of_none {H : Hp} {a b : Addr} {o : HO} (h : H a = some o) (h' : H b = none) : a ≠ b := by
  intro e; subst e; rw [h] at h'; cases h'

section
variable (P : Program) (w : World)
def ObjOk (H : Hp) (h : Heap) (a : Addr) : HO → Prop
  | .lst xs => xs.length ≤ sizeLine ∧ ∃ (its : List Value) (n : Nat), Vals xs its ∧ h.get? a = some { cls := .type "list", data := .seq its.toArray n }
  | .tup xs => xs.length ≤ sizeLine ∧ ∃ its : List Value, Vals xs its ∧ IsTup h a its.toArray
  | .dK kvs => kvs.length ≤ sizeLine ∧ (a == sysModules) = false ∧ ∃ vs, KV kvs vs ∧ h.DictOf (mixKind P w) a vs
  | .dT kvs => kvs.length ≤ sizeLine ∧ (a == sysModules) = false ∧ ∃ xs : List (List Key × Addr × Value),
      Paired (fun (p : List Key × V) (q : List Key × Addr × Value) => p.1 = q.1 ∧ H q.2.1 = some (.tup (p.1.map kV)) ∧ RelV p.2 q.2.2) kvs xs ∧
      ∃ o es ep, h.get? a = some o ∧ o.ExactDict ∧ o.data = .dict es ep ∧ es.toList = xs.map (entryOfKey (tupleKind (mixKind P w))) ∧ (xs.map (·.1)).Nodup
  | .set S n => h.SetOf (intKind P w) a S n
  | .ins C dx fs => H dx = some (.own a) ∧ fs.length ≤ 1000 ∧ dx ≠ a ∧ h.get? a = some (PySem.W.instObj C dx) ∧
      ∃ mA, h.Ns1 dx mA ∧ (∀ f, RelO (fs.lookup f) (mA f)) ∧ PySem.Within mA (fs.map (·.1))
  | .own _ => ∃ o, h.get? a = some o
  | .xd fs => ∃ mA, h.Ns1 a mA ∧ ∀ f, RelO (fs.lookup f) (mA f)
  | .rng lo hi => ∃ t u v, h.get? a = some { cls := .type "range", data := .fields #[.int lo t, .int hi u, .int 1 v] }
  | .frz o u => h.get? a = some o ∧ ObjOk H h a u
  | .tbl ps => h.get? a = some { cls := .none, data := .fields ps }
  | .met f x => h.get? a = some (PySem.W.methodObj (.ref f) (.ref x))
  | .ext φ => φ h ∧ (∃ o, h.get? a = some o) ∧ ∀ h1 h2 : Heap, φ h1 → (∀ o, h1.get? a = some o → h2.get? a = some o) → φ h2
/-- the abstract heap is held -/
def HOk (H : Hp) (h : Heap) : Prop := ∀ a o, H a = some o → ObjOk P w H h a o
end

section
variable {P : Program} {w : World} {H H' : Hp} {h h' : Heap} {a : Addr} {o : HO}
theorem ObjOk.lt (x : ObjOk P w H h a o) : a < h.objs.size := by
  cases o with
  | lst xs => obtain ⟨_, _, _, _, e⟩ := x; exact Heap.lt_size e
  | tup xs => obtain ⟨_, _, _, p⟩ := x; exact p.lt
  | dK kvs => obtain ⟨_, _, _, _, o, _, _, e, _⟩ := x; exact Heap.lt_size e
  | dT kvs => obtain ⟨_, _, _, _, o, _, _, e, _⟩ := x; exact Heap.lt_size e
  | set S n => obtain ⟨o, _, _, _, e, _⟩ := x; exact Heap.lt_size e
  | ins C dx fs => obtain ⟨_, _, _, e, _⟩ := x; exact Heap.lt_size e
  | own y => obtain ⟨_, e⟩ := x; exact Heap.lt_size e
  | xd fs => obtain ⟨_, ⟨_, _, _, e, _⟩, _⟩ := x; exact Heap.lt_size e
  | rng lo hi => obtain ⟨_, _, _, e⟩ := x; exact Heap.lt_size e
  | frz ob u => obtain ⟨e, _⟩ := x; exact Heap.lt_size e
  | tbl ps => exact Heap.lt_size (show h.get? a = some _ from x)
  | met f y => exact Heap.lt_size (show h.get? a = some _ from x)
  | ext φ => obtain ⟨_, ⟨_, e⟩, _⟩ := x; exact Heap.lt_size e
theorem Paired.mapP {α β : Type} {F G : α → β → Prop} : ∀ {l₁ : List α} {l₂ : List β}, Paired F l₁ l₂ → (∀ a b, F a b → G a b) → Paired G l₁ l₂
  | _, _, .nil, _ => .nil
  | _, _, .cons r t, f => .cons (f _ _ r) (Paired.mapP t f)
/-- what an object's description leans on: its own object, its own dict, the tuples -/
theorem ObjOk.stay (x : ObjOk P w H h a o) (k : ∀ b u, (b = a ∨ H b = some (.own a)) → h.get? b = some u → h'.get? b = some u)
    (ho : ∀ b, H b = some (.own a) → H' b = some (.own a)) (ht : ∀ b xs, H b = some (.tup xs) → H' b = some (.tup xs)) : ObjOk P w H' h' a o := by
  induction o with
  | lst xs => obtain ⟨z, its, n, r, e⟩ := x; exact ⟨z, its, n, r, k _ _ (.inl rfl) e⟩
  | tup xs => obtain ⟨z, its, r, ob, e, c⟩ := x; exact ⟨z, its, r, ob, k _ _ (.inl rfl) e, c⟩
  | dK kvs => obtain ⟨z, y, vs, r, ob, es, ep, e, c⟩ := x; exact ⟨z, y, vs, r, ob, es, ep, k _ _ (.inl rfl) e, c⟩
  | dT kvs =>
    obtain ⟨z, y, xs, r, ob, es, ep, e, c⟩ := x
    exact ⟨z, y, xs, Paired.mapP r fun p q z => ⟨z.1, ht _ _ z.2.1, z.2.2⟩, ob, es, ep, k _ _ (.inl rfl) e, c⟩
  | set S n => obtain ⟨ob, es, ep, t, e, c⟩ := x; exact ⟨ob, es, ep, t, k _ _ (.inl rfl) e, c⟩
  | ins C dx fs =>
    obtain ⟨d, z, ne, e, mA, ⟨od, es, ep, e2, c⟩, r⟩ := x
    exact ⟨ho _ d, z, ne, k _ _ (.inl rfl) e, mA, ⟨od, es, ep, k _ _ (.inr d) e2, c⟩, r⟩
  | own y => obtain ⟨ob, e⟩ := x; exact ⟨ob, k _ _ (.inl rfl) e⟩
  | xd fs => obtain ⟨mA, ⟨od, es, ep, e, c⟩, r⟩ := x; exact ⟨mA, ⟨od, es, ep, k _ _ (.inl rfl) e, c⟩, r⟩
  | rng lo hi => obtain ⟨t, u, v, e⟩ := x; exact ⟨t, u, v, k _ _ (.inl rfl) e⟩
  | frz ob u ih => obtain ⟨e, q⟩ := x; exact ⟨k _ _ (.inl rfl) e, ih q⟩
  | tbl ps =>
    have e : h.get? a = some { cls := .none, data := .fields ps } := x
    show h'.get? a = some { cls := .none, data := .fields ps }
    exact k a _ (.inl rfl) e
  | met f y =>
    have e : h.get? a = some (PySem.W.methodObj (.ref f) (.ref y)) := x
    show h'.get? a = some (PySem.W.methodObj (.ref f) (.ref y))
    exact k a _ (.inl rfl) e
  | ext φ => obtain ⟨p, ⟨o, e⟩, st⟩ := x; exact ⟨st _ _ p fun o q => k _ _ (.inl rfl) q, ⟨o, k _ _ (.inl rfl) e⟩, st⟩
theorem HOk.lt (x : HOk P w H h) (e : H a = some o) : a < h.objs.size := (x a o e).lt
theorem HOk.fresh (x : HOk P w H h) (e : h.objs.size ≤ a) : H a = none := by
  cases q : H a with
  | none => rfl
  | some u => exact absurd (Nat.lt_of_lt_of_le (x.lt q) e) (Nat.lt_irrefl _)
/-- every object of the heap is kept -/
theorem HOk.kept (x : HOk P w H h) (k : ∀ b u, h.get? b = some u → h'.get? b = some u) : HOk P w H h' := fun a o e =>
  (x a o e).stay (fun b u _ q => k b u q) (fun _ q => q) fun _ _ q => q
/-- a new object is laid and tracked -/
theorem HOk.laid (x : HOk P w H h) (k : ∀ b u, h.get? b = some u → h'.get? b = some u) (hp : h.objs.size ≤ a) (new : ObjOk P w (upd H a o) h' a o) : HOk P w (upd H a o) h' := fun b u e => by
  have hn := x.fresh hp
  by_cases hb : b = a
  · subst hb; rw [upd_same] at e; cases e; exact new
  · rw [upd_ne hb] at e
    exact (x b u e).stay (fun c v _ q => k c v q) (fun c q => by rw [upd_ne (ne_of_none q hn)]; exact q) fun c xs q => by rw [upd_ne (ne_of_none q hn)]; exact q
end

/-- what may be read as u: it is u, or a known u -/
def Rd (H : Hp) (a : Addr) (u : HO) : Prop := H a = some u ∨ ∃ o, H a = some (.frz o u)
theorem Rd.ok {P : Program} {w : World} {H : Hp} {h : Heap} {a : Addr} {u : HO} (r : Rd H a u) (x : HOk P w H h) : ObjOk P w H h a u := by
  rcases r with r | ⟨o, r⟩
  · exact x a u r
  · obtain ⟨_, q⟩ := x a _ r
    exact q
/-- what may be written -/
def Mut : Option HO → Prop
  | some (.lst _) => True
  | some (.dK _) => True
  | some (.dT _) => True
  | some (.set _ _) => True
  | some (.ins _ _ _) => True
  | some (.ext _) => True
  | _ => False
section
variable {P : Program} {w : World} {H : Hp} {h h' : Heap} {x e : Addr} {o' : HO}
/-- the object at e is changed: x itself, or the dict of the instance x -/
theorem HOk.write (ok : HOk P w H h) (mu : Mut (H x)) (he : e = x ∨ H e = some (.own x)) (k : ∀ b u, b ≠ e → h.get? b = some u → h'.get? b = some u) (heo : ∃ u, h'.get? e = some u)
    (new : ObjOk P w (upd H x o') h' x o') : HOk P w (upd H x o') h' := fun b u q => by
  have nown : ∀ c y, H c = some (.own y) → c ≠ x := fun c y r z => by subst z; rw [r] at mu; exact mu
  have ntup : ∀ c xs, H c = some (.tup xs) → c ≠ x := fun c xs r z => by subst z; rw [r] at mu; exact mu
  by_cases hb : b = x
  · subst hb; rw [upd_same] at q; cases q; exact new
  · rw [upd_ne hb] at q
    by_cases hbe : b = e
    · have q' : H b = some (.own x) := by
        rcases he with z | z
        · exact absurd (hbe.trans z) hb
        · rw [hbe]; exact z
      rw [q] at q'; cases q'
      obtain ⟨v, hv⟩ := heo
      exact ⟨v, by rw [hbe]; exact hv⟩
    · refine (ok b u q).stay (fun c v hc r => k c v ?_ r) (fun c r => by rw [upd_ne (nown c b r)]; exact r) fun c xs r => by rw [upd_ne (ntup c xs r)]; exact r
      rcases hc with rfl | hc
      · exact hbe
      · rintro rfl
        rcases he with z | z
        · exact nown c b hc z
        · rw [hc] at z; cases z; exact hb rfl
end

/-! ### kept unless tracked; of the frames at fs (the callers') the slots may change (an exception that passes writes there); of the records at ex (iterators) nothing is said -/
structure Un (fs ex : List Addr) (H H' : Hp) (h h' : Heap) : Prop where
  keep : ∀ b o, h.get? b = some o → H b = none → b ∉ fs → b ∉ ex → h'.get? b = some o
  slot : ∀ b o, h.get? b = some o → H b = none → b ∈ fs → b ∉ ex → ∃ sl, h'.get? b = some { o with slots := sl }
  free : ∀ b o, h.get? b = some o → H b = none → b ∉ ex → H' b = none
  there : ∀ b o, h.get? b = some o → b ∉ ex → ∃ o', h'.get? b = some o'
  tups : ∀ b xs, H b = some (.tup xs) → H' b = some (.tup xs)
  frzs : ∀ b o u, H b = some (.frz o u) → H' b = some (.frz o u)
  tbls : ∀ b ps, H b = some (.tbl ps) → ∃ more, H' b = some (.tbl (ps ++ more))
section
variable {fs fs' ex ex' : List Addr} {H H1 H2 : Hp} {h h1 h2 h' : Heap} {a x e : Addr} {o : HO}
theorem Un.any (u : Un fs ex H H1 h h1) {b : Addr} {ob : Obj} (q : h.get? b = some ob) (n : H b = none) (hx : b ∉ ex) : ∃ sl, h1.get? b = some { ob with slots := sl } := by
  by_cases hb : b ∈ fs
  · exact u.slot b ob q n hb hx
  · exact ⟨ob.slots, u.keep b ob q n hb hx⟩
theorem Un.kept (k : ∀ b u, h.get? b = some u → h'.get? b = some u) : Un fs ex H H h h' :=
  ⟨fun b ob q _ _ _ => k b ob q, fun b ob q _ _ _ => ⟨ob.slots, k b ob q⟩, fun _ _ _ n _ => n, fun b ob q _ => ⟨ob, k b ob q⟩, fun _ _ q => q, fun _ _ _ q => q, fun _ ps q => ⟨#[], by rw [q]; simp⟩⟩
theorem Un.refl : Un fs ex H H h h := Un.kept fun _ _ q => q
theorem Un.laid (k : ∀ b u, h.get? b = some u → h'.get? b = some u) (hp : h.objs.size ≤ a) (hn : H a = none) : Un fs ex H (upd H a o) h h' where
  keep := fun b u q _ _ _ => k b u q
  slot := fun b u q _ _ _ => ⟨u.slots, k b u q⟩
  free := fun b u q n _ => by rw [upd_ne (Nat.ne_of_lt (Nat.lt_of_lt_of_le (Heap.lt_size q) hp))]; exact n
  there := fun b u q _ => ⟨u, k b u q⟩
  tups := fun b xs q => by rw [upd_ne (ne_of_none q hn)]; exact q
  frzs := fun b u xs q => by rw [upd_ne (ne_of_none q hn)]; exact q
  tbls := fun b ps q => ⟨#[], by rw [upd_ne (ne_of_none q hn), q]; simp⟩
theorem Un.write (mu : Mut (H x)) (he : e = x ∨ H e = some (.own x)) (k : ∀ b u, b ≠ e → h.get? b = some u → h'.get? b = some u) (heo : ∃ u, h'.get? e = some u) : Un fs ex H (upd H x o) h h' := by
  have hx : ∀ b, H b = none → b ≠ x := fun b n z => by subst z; rw [n] at mu; exact mu
  have hb : ∀ b, H b = none → b ≠ e := fun b n z => by
    subst z
    rcases he with r | r
    · exact hx b n r
    · rw [n] at r; cases r
  have hm : ∀ b u, H b = some u → ¬ Mut (some u) → b ≠ x := fun b u q nm z => by subst z; rw [q] at mu; exact nm mu
  refine ⟨fun b u q n _ _ => k b u (hb b n) q, fun b u q n _ _ => ⟨u.slots, k b u (hb b n) q⟩, fun b u q n _ => by rw [upd_ne (hx b n)]; exact n, fun b u q _ => ?_,
    fun b xs q => by rw [upd_ne (hm b _ q fun z => z)]; exact q, fun b u xs q => by rw [upd_ne (hm b _ q fun z => z)]; exact q, fun b ps q => ⟨#[], by rw [upd_ne (hm b _ q fun z => z), q]; simp⟩⟩
  by_cases hbe : b = e
  · subst hbe; exact heo
  · exact ⟨u, k b u hbe q⟩
end

/-! ### the heap without what is tracked -/
def trk (h : Heap) (H : Hp) : List Addr := (List.range h.objs.size).filter fun a => (H a).isSome
def hidT (h : Heap) (H : Hp) : Heap := PySem.W.hideAll h (trk h H)
theorem hidT_size (h : Heap) (H : Hp) : (hidT h H).objs.size = h.objs.size := PySem.W.hideAll_size _ _
theorem hidT_get {h : Heap} {H : Hp} {b : Addr} {o : Obj} (e : h.get? b = some o) (n : H b = none) : (hidT h H).get? b = some o :=
  PySem.W.hideAll_get _ e fun hm => by
    have q : (H b).isSome = true := (List.mem_filter.mp hm).2
    rw [n] at q; simp at q
theorem of_hidT {h : Heap} {H : Hp} {b : Addr} {o : Obj} (e : (hidT h H).get? b = some o) : h.get? b = some o ∧ H b = none := by
  have e' : h.get? b = some o := PySem.W.of_hideAll (trk h H) e
  refine ⟨e', ?_⟩
  cases q : H b with
  | none => rfl
  | some x =>
    have hm : b ∈ trk h H := List.mem_filter.mpr ⟨List.mem_range.mpr (Heap.lt_size e'), by simp [q]⟩
    have z : (hidT h H).get? b = none := PySem.W.hideAll_none (trk h H) hm
    rw [z] at e; cases e

/-! ### OpenK's ledger, filled with every new object but one -/
def allNews (g h : Heap) (L : Addr) : List (Addr × Obj) := (List.range h.objs.size).filterMap fun a => if a = L ∨ (g.get? a).isSome = true then none else (h.get? a).map fun o => (a, o)
def rest (g h : Heap) (L d : Addr) : List (Addr × Obj) := (allNews g h L).filter fun p => decide (p.1 ≠ d)
end L2

namespace L2
open PySem PySem.Spec PyProof.Rows

/-- the module's facts, over the base: the heap at the law's entry without what is tracked there -/
structure Mod (K : PySem.W.Frag) (mg : Str → Option Value) (base : Heap) : Prop where
  kin : K.In base
  glob : base.Ns mainGlobals mg
  blt : ∃ mb, base.Ns builtinsNs mb ∧ ∀ x : Str, x ≠ "__name__" → mb x = bootBuiltins x
  nolimit : base.NoLimit

/-- the context: a def's body (or a comprehension's block) running. base: fixed through the whole law; s₀, H₀: the entry; outer: the frames whose slots others may change (a def's callers); stack: all frames that run;
   ex: iterators that were made ahead of the entry and are walked here (a comprehension's); fn: the names whose cells were made at the entry (a def: all; a comprehension's block: its own); calm: not within an except suite; pn: pins that every state bears; xe: what is wanted of an exception that leaves the code -/
structure Cx where
  prog : Program
  w : World
  K : PySem.W.Frag
  mg : Str → Option Value
  base : Heap
  A : Around
  N : List Str
  s₀ : Shared
  H₀ : Hp
  env : Env
  outer : List Env
  stack : List Env
  ex : List Addr
  fn : Str → Bool
  calm : Bool
  pn : List (Addr × Obj)
  xe : Value → Shared → Prop
/-- the callers' frames -/
def frs (l : List Env) : List Addr := l.filterMap (·.frame)
abbrev Cx.fs (X : Cx) : List Addr := frs X.outer

def Vis (sc : Scope) (x : Str) : Prop := sc.names.lookup x = some .local ∨ sc.names.lookup x = some .cell ∨ sc.names.lookup x = some .free
def Loc (sc : Scope) (x : Str) : Prop := sc.names.lookup x = some .local ∨ sc.names.lookup x = some .cell
def Look (env : Env) (h : Heap) (m : Str → Option Value) (x : Str) (u : Value) : Prop :=
  (env.kindOf x = some .local ∧ m x = some u) ∨ ((env.kindOf x = some .cell ∨ env.kindOf x = some .free) ∧ ∃ c, env.cells.lookup x = some c ∧ h.IsCell c (some u))

structure Cx.Ok (X : Cx) : Prop where
  mod : Mod X.K X.mg X.base
  kind : X.env.scope.kind = .function
  glob : X.env.globals = mainGlobals
  blt : X.env.builtins = builtinsNs
  above : X.s₀.heap.objs.size ≤ X.env.locals
  inj : ∀ x y c, X.env.cells.lookup x = some c → X.env.cells.lookup y = some c → x = y
  has : ∀ x, (X.env.kindOf x = some .cell ∨ X.env.kindOf x = some .free) → ∃ c, X.env.cells.lookup x = some c
  cab : ∀ x c, X.fn x = true → X.env.cells.lookup x = some c → X.s₀.heap.objs.size ≤ c
  hd : X.calm = true → X.A.handled = none
  frames : X.A.frames = some X.stack
  stk : X.stack = X.outer ∨ (X.stack = X.env :: X.outer ∧ X.env.frame = some X.env.locals)
  exf : ∀ b ∈ X.ex, b ≠ X.env.locals ∧ ∀ x c, X.env.cells.lookup x = some c → c ≠ b
  bs : ∀ b o, X.base.get? b = some o → X.s₀.heap.get? b = some o ∧ X.H₀ b = none
  bsz : X.base.objs.size ≤ X.s₀.heap.objs.size
  noex : ∀ b o, X.base.get? b = some o → b ∉ X.ex
  exfs : ∀ b ∈ X.ex, b ∉ X.fs
  funs : X.s₀.heap.FunFrames X.base X.outer
  frf : ∀ b ∈ X.fs, X.H₀ b = none

structure Inv (X : Cx) (pins : List (Addr × Obj)) (σ : List (Option V)) (H : Hp) (s : Shared) : Prop where
  ok : X.Ok
  os : s.os = X.s₀.os
  bare : AllBare s.gens
  base : Un X.fs X.ex X.H₀ H X.s₀.heap s.heap
  loc : ∃ m, s.heap.Ns X.env.locals m ∧ ∀ (i : Nat) (x : Str) (v : V), X.N[i]? = some x → σ[i]? = some (some v) → Vis X.env.scope x → ∃ u, RelV v u ∧ Look X.env s.heap m x u
  cell : ∀ x c, X.env.cells.lookup x = some c → ∃ v, s.heap.IsCell c v
  free : H X.env.locals = none
  freeC : ∀ x c, X.env.cells.lookup x = some c → H c = none
  pin : ∀ p ∈ X.pn ++ pins, s.heap.get? p.1 = some p.2 ∧ H p.1 = none ∧ p.1 ≠ X.env.locals ∧ p.1 ∉ X.fs ∧ ∀ v, p.2.data ≠ .cell v
  hok : HOk X.prog X.w H s.heap
  len : σ.length = X.N.length

section
variable {X : Cx} {pins : List (Addr × Obj)} {σ : List (Option V)} {H H' : Hp} {s : Shared} {h' : Heap}

theorem Cx.Ok.nofr (ok : X.Ok) {b : Addr} {o : Obj} (e : X.base.get? b = some o) : b ∉ X.fs := fun hb => by
  have := (ok.funs.mem hb).1
  rw [e] at this; cases this
theorem Inv.bs (I : Inv X pins σ H s) : ∀ b o, X.base.get? b = some o → s.heap.get? b = some o ∧ H b = none := fun b o e =>
  ⟨I.base.keep b o (I.ok.bs b o e).1 (I.ok.bs b o e).2 (I.ok.nofr e) (I.ok.noex b o e), I.base.free b o (I.ok.bs b o e).1 (I.ok.bs b o e).2 (I.ok.noex b o e)⟩
theorem Inv.bk (I : Inv X pins σ H s) : ∀ b o, X.base.get? b = some o → s.heap.get? b = some o := fun b o e => (I.bs b o e).1
theorem Inv.mod (I : Inv X pins σ H s) : Mod X.K X.mg X.base := I.ok.mod
theorem Inv.kIn (I : Inv X pins σ H s) : X.K.In s.heap := I.ok.mod.kin.keeps I.bk
theorem Inv.lt (I : Inv X pins σ H s) : X.env.locals < s.heap.objs.size := let ⟨_, hn, _⟩ := I.loc; hn.lt
theorem Inv.sz (I : Inv X pins σ H s) : X.s₀.heap.objs.size ≤ s.heap.objs.size := Nat.le_trans I.ok.above (Nat.le_of_lt I.lt)
theorem Inv.nofs (I : Inv X pins σ H s) {a : Addr} (h : s.heap.objs.size ≤ a) : a ∉ X.fs := fun hb => by
  obtain ⟨_, o, ho, _⟩ := I.ok.funs.mem hb
  exact absurd (Nat.lt_of_lt_of_le (Heap.lt_size ho) (Nat.le_trans I.sz h)) (Nat.lt_irrefl _)
theorem Inv.cne (I : Inv X pins σ H s) : ∀ x c, X.env.cells.lookup x = some c → c ≠ X.env.locals := fun x c e z => by
  obtain ⟨v, o, ho, hd⟩ := I.cell x c e
  obtain ⟨m, ⟨o', es, ep, ho', hd', _⟩, _⟩ := I.loc
  rw [z, ho'] at ho; cases ho; rw [hd'] at hd; cases hd
theorem Inv.funs (I : Inv X pins σ H s) : s.heap.FunFrames X.base X.outer := by
  have all : ∀ (l : List Env), (∀ b ∈ frs l, b ∈ X.fs) → X.s₀.heap.FunFrames X.base l → s.heap.FunFrames X.base l := by
    intro l
    induction l with
    | nil => intro _ _; trivial
    | cons env r ih =>
      intro hs hl
      obtain ⟨hk, ⟨L, o, hf, hn, ho, hd⟩, hr⟩ := hl
      have hL : L ∈ X.fs := hs L (by unfold frs; rw [List.filterMap_cons, hf]; exact List.mem_cons_self)
      obtain ⟨sl, e⟩ := I.base.slot L o ho (I.ok.frf L hL) hL fun z => I.ok.exfs L z hL
      exact ⟨hk, ⟨L, _, hf, hn, e, hd⟩, ih (fun b hb => hs b (by unfold frs; rw [List.filterMap_cons, hf]; exact List.mem_cons_of_mem _ hb)) hr⟩
  exact all X.outer (fun _ hb => hb) I.ok.funs

/-- the frames that run, for a call -/
theorem Inv.stack (I : Inv X pins σ H s) : s.heap.FunFrames X.base X.stack := by
  rcases I.ok.stk with e | ⟨e, hf⟩
  · rw [e]; exact I.funs
  · rw [e]
    obtain ⟨m, hn, _⟩ := I.loc
    refine .cons (by rw [I.ok.kind]; decide) hf hn ?_ I.funs
    exact Heap.get?_none_of_le (Nat.le_trans I.ok.bsz I.ok.above)
theorem Inv.stkSub (I : Inv X pins σ H s) : ∀ b ∈ frs X.stack, b ∈ X.env.locals :: X.fs := fun b hb => by
  rcases I.ok.stk with e | ⟨e, hf⟩
  · rw [e] at hb; exact List.mem_cons_of_mem _ hb
  · rw [e] at hb
    unfold frs at hb
    rw [List.filterMap_cons, hf] at hb
    exact hb
theorem Inv.stkFree (I : Inv X pins σ H s) : ∀ b ∈ frs X.stack, H b = none := fun b hb => by
  rcases List.mem_cons.mp (I.stkSub b hb) with e | hb
  · rw [e]; exact I.free
  · obtain ⟨_, o, ho, _⟩ := I.ok.funs.mem hb
    exact I.base.free b o ho (I.ok.frf b hb) fun z => I.ok.exfs b z hb

/-- THE STEP: the untracked objects but the frame and the records at ch are kept (the callers' frames up to slots), the frame's map is kept, the new abstract heap is held -/
theorem Inv.step {g' : Array GenState} {t' : Nat} {d' : Drawn} {ch : List Addr} (I : Inv X pins σ H s)
    (hch : ∀ b ∈ ch, (b ∈ X.ex ∨ X.s₀.heap.objs.size ≤ b) ∧ b ≠ X.env.locals ∧ (∀ x c, X.env.cells.lookup x = some c → c ≠ b) ∧ ∀ p ∈ X.pn ++ pins, p.1 ≠ b)
    (keep : ∀ b o, b ≠ X.env.locals → b ∉ X.fs → b ∉ ch → s.heap.get? b = some o → H b = none → h'.get? b = some o)
    (slot : ∀ b o, b ≠ X.env.locals → b ∈ X.fs → b ∉ ch → s.heap.get? b = some o → H b = none → ∃ sl, h'.get? b = some { o with slots := sl }) (free : ∀ b o, b ∉ ch → s.heap.get? b = some o → H b = none → H' b = none)
    (there : ∀ b o, b ∉ ch → s.heap.get? b = some o → ∃ o', h'.get? b = some o')
    (tups : ∀ b xs, H b = some (.tup xs) → H' b = some (.tup xs)) (frzs : ∀ b o u, H b = some (.frz o u) → H' b = some (.frz o u)) (tbls : ∀ b ps, H b = some (.tbl ps) → ∃ more, H' b = some (.tbl (ps ++ more)))
    (ns : ∀ m, s.heap.Ns X.env.locals m → h'.Ns X.env.locals m) (hok : HOk X.prog X.w H' h') (hg : AllBare g') :
    Inv X pins σ H' { s with heap := h', gens := g', drawn := d', toks := t' } := by
  have neL : ∀ b o, X.s₀.heap.get? b = some o → b ≠ X.env.locals := fun b o e => Nat.ne_of_lt (Nat.lt_of_lt_of_le (Heap.lt_size e) I.ok.above)
  have neC : ∀ b o, X.s₀.heap.get? b = some o → b ∉ X.ex → b ∉ ch := fun b o e hx hb => by
    rcases (hch b hb).1 with z | z
    · exact hx z
    · exact absurd (Nat.lt_of_lt_of_le (Heap.lt_size e) z) (Nat.lt_irrefl _)
  have cellK : ∀ x c, X.env.cells.lookup x = some c → ∀ v, s.heap.IsCell c v → h'.IsCell c v := fun x c e v ⟨o, ho, hd⟩ => by
    have nch : c ∉ ch := fun z => (hch c z).2.2.1 x c e rfl
    by_cases hc : c ∈ X.fs
    · obtain ⟨sl, q⟩ := slot c o (I.cne x c e) hc nch ho (I.freeC x c e)
      exact ⟨_, q, hd⟩
    · exact ⟨o, keep c o (I.cne x c e) hc nch ho (I.freeC x c e), hd⟩
  refine ⟨I.ok, I.os, hg, ⟨fun b o e n hb hx => ?_, fun b o e n hb hx => ?_, fun b o e n hx => ?_, fun b o e hx => ?_, fun b xs e => tups b xs (I.base.tups b xs e), fun b o xs e => frzs b o xs (I.base.frzs b o xs e), fun b ps e => ?_⟩, ?_, fun x c e => ?_, ?_, fun x c e => ?_, fun p hp => ?_, hok, I.len⟩
  · exact keep b o (neL b o e) hb (neC b o e hx) (I.base.keep b o e n hb hx) (I.base.free b o e n hx)
  · obtain ⟨sl, e1⟩ := I.base.slot b o e n hb hx
    obtain ⟨sl', e2⟩ := slot b _ (neL b o e) hb (neC b o e hx) e1 (I.base.free b o e n hx)
    exact ⟨sl', e2⟩
  · obtain ⟨o', e1⟩ := I.base.there b o e hx
    exact free b o' (neC b o e hx) e1 (I.base.free b o e n hx)
  · obtain ⟨o', e1⟩ := I.base.there b o e hx
    exact there b o' (neC b o e hx) e1
  · obtain ⟨m1, e1⟩ := I.base.tbls b ps e
    obtain ⟨m2, e2⟩ := tbls b _ e1
    exact ⟨m1 ++ m2, by rw [e2, Array.append_assoc]⟩
  · obtain ⟨m, hn, hl⟩ := I.loc
    refine ⟨m, ns m hn, fun i x v e1 e2 e3 => ?_⟩
    obtain ⟨u, r, l⟩ := hl i x v e1 e2 e3
    refine ⟨u, r, ?_⟩
    rcases l with l | ⟨k, c, e, z⟩
    · exact .inl l
    · exact .inr ⟨k, c, e, cellK x c e _ z⟩
  · obtain ⟨v, z⟩ := I.cell x c e
    exact ⟨v, cellK x c e v z⟩
  · obtain ⟨m, ⟨o, _, _, ho, _⟩, _⟩ := I.loc
    exact free _ o (fun z => (hch _ z).2.1 rfl) ho I.free
  · obtain ⟨v, o, ho, hd⟩ := I.cell x c e
    exact free c o (fun z => (hch c z).2.2.1 x c e rfl) ho (I.freeC x c e)
  · obtain ⟨e, n, ne, nf, d⟩ := I.pin p hp
    have nch : p.1 ∉ ch := fun z => (hch p.1 z).2.2.2 p hp rfl
    exact ⟨keep p.1 p.2 ne nf nch e n, free p.1 p.2 nch e n, ne, nf, d⟩
/-- .. where the frame's own object is kept too -/
theorem Inv.un {t' : Nat} (I : Inv X pins σ H s) (u : Un X.fs [] H H' s.heap h') (hok : HOk X.prog X.w H' h') : Inv X pins σ H' { s with heap := h', toks := t' } := by
  obtain ⟨m, ⟨o, es, ep, ho, r⟩, _⟩ := id I.loc
  obtain ⟨sl, hL⟩ := u.any ho I.free (by simp)
  exact I.step (g' := s.gens) (d' := s.drawn) (ch := []) (fun _ z => nomatch z) (fun b o _ hb _ e n => u.keep b o e n hb (by simp)) (fun b o _ hb _ e n => u.slot b o e n hb (by simp)) (fun b o _ e n => u.free b o e n (by simp)) (fun b o _ e => u.there b o e (by simp)) u.tups u.frzs u.tbls (fun m' hm => by
    obtain ⟨o', es', ep', ho', r'⟩ := hm
    rw [ho] at ho'; cases ho'
    exact ⟨_, es', ep', hL, r'⟩) hok I.bare
/-- behind a call (or a comprehension's block): the slots of this frame may have changed too, the records at ch may have turned -/
theorem Inv.call {g' : Array GenState} {t' : Nat} {d' : Drawn} {ch : List Addr} (I : Inv X pins σ H s) (u : Un (frs X.stack) ch H H' s.heap h') (hok : HOk X.prog X.w H' h') (hg : AllBare g')
    (hch : ∀ b ∈ ch, (b ∈ X.ex ∨ X.s₀.heap.objs.size ≤ b) ∧ b ≠ X.env.locals ∧ (∀ x c, X.env.cells.lookup x = some c → c ≠ b) ∧ ∀ p ∈ X.pn ++ pins, p.1 ≠ b) :
    Inv X pins σ H' { s with heap := h', gens := g', drawn := d', toks := t' } := by
  obtain ⟨m, ⟨o, es, ep, ho, r⟩, _⟩ := id I.loc
  obtain ⟨sl, hL⟩ := u.any ho I.free fun z => (hch _ z).2.1 rfl
  exact I.step (ch := ch) hch (fun b o hL hb hc e n => u.keep b o e n (fun z => (List.mem_cons.mp (I.stkSub b z)).elim hL hb) hc) (fun b o _ _ hc e n => u.any e n hc) (fun b o hc e n => u.free b o e n hc) (fun b o hc e => u.there b o e hc) u.tups u.frzs u.tbls (fun m' hm => by
    obtain ⟨o', es', ep', ho', r'⟩ := hm
    rw [ho] at ho'; cases ho'
    exact ⟨_, es', ep', hL, r'⟩) hok hg
/-- an untracked record of ours (an iterator) has turned -/
theorem Inv.turned {t' : Nat} {it : Addr} (I : Inv X pins σ H s) (k : ∀ b o, b ≠ it → s.heap.get? b = some o → h'.get? b = some o) (hn : H it = none) (hL : it ≠ X.env.locals)
    (h1 : it ∈ X.ex ∨ X.s₀.heap.objs.size ≤ it) (h2 : ∀ x c, X.env.cells.lookup x = some c → c ≠ it) (h3 : ∀ p ∈ X.pn ++ pins, p.1 ≠ it) : Inv X pins σ H { s with heap := h', toks := t' } := by
  have nit : ∀ b u, H b = some u → b ≠ it := fun b u e z => by rw [z, hn] at e; cases e
  refine I.step (g' := s.gens) (d' := s.drawn) (ch := [it]) (fun b hb => ?_) (fun b o _ _ hc e _ => k b o (fun z => hc (by simp [z])) e) (fun b o _ _ hc e _ => ⟨o.slots, k b o (fun z => hc (by simp [z])) e⟩) (fun _ _ _ _ n => n)
    (fun b o hc e => ⟨o, k b o (fun z => hc (by simp [z])) e⟩) (fun _ _ e => e) (fun _ _ _ e => e) (fun b ps e => ⟨#[], by rw [e]; simp⟩) (fun m hm => ?_) (fun b u e => ?_) I.bare
  · have e : b = it := by simpa using hb
    subst e
    exact ⟨h1, hL, h2, h3⟩
  · obtain ⟨o, es, ep, ho, r⟩ := hm
    exact ⟨o, es, ep, k _ o (Ne.symm hL) ho, r⟩
  · refine (I.hok b u e).stay (fun c v hc q => k c v ?_ q) (fun _ q => q) fun _ _ q => q
    rcases hc with z | z
    · rw [z]; exact nit b u e
    · exact nit c _ z
theorem Inv.tok (I : Inv X pins σ H s) (t : Nat) : Inv X pins σ H { s with toks := t } := I.un (h' := s.heap) (t' := t) Un.refl I.hok
/-- all objects kept -/
theorem Inv.kept {t' : Nat} (I : Inv X pins σ H s) (k : ∀ b u, s.heap.get? b = some u → h'.get? b = some u) : Inv X pins σ H { s with heap := h', toks := t' } := I.un (Un.kept k) (I.hok.kept k)
/-- a new object laid and tracked -/
theorem Inv.laid {a : Addr} {o : HO} {t' : Nat} (I : Inv X pins σ H s) (k : ∀ b u, s.heap.get? b = some u → h'.get? b = some u) (hp : s.heap.objs.size ≤ a) (new : ObjOk X.prog X.w (upd H a o) h' a o) :
    Inv X pins σ (upd H a o) { s with heap := h', toks := t' } := I.un (Un.laid k hp (I.hok.fresh hp)) (I.hok.laid k hp new)
/-- an object written -/
theorem Inv.write {x e : Addr} {o : HO} {t' : Nat} (I : Inv X pins σ H s) (mu : Mut (H x)) (he : e = x ∨ H e = some (.own x)) (k : ∀ b u, b ≠ e → s.heap.get? b = some u → h'.get? b = some u) (heo : ∃ u, h'.get? e = some u)
    (new : ObjOk X.prog X.w (upd H x o) h' x o) : Inv X pins σ (upd H x o) { s with heap := h', toks := t' } := I.un (Un.write mu he k heo) (I.hok.write mu he k heo new)
theorem Inv.pins_of {pins' : List (Addr × Obj)} (I : Inv X pins σ H s) (h : ∀ p ∈ pins', s.heap.get? p.1 = some p.2 ∧ H p.1 = none ∧ p.1 ≠ X.env.locals ∧ p.1 ∉ X.fs ∧ ∀ v, p.2.data ≠ .cell v) : Inv X pins' σ H s :=
  ⟨I.ok, I.os, I.bare, I.base, I.loc, I.cell, I.free, I.freeC, fun p hp => (List.mem_append.mp hp).elim (fun z => I.pin p (List.mem_append_left _ z)) (h p), I.hok, I.len⟩

theorem nodup_ix {N : List Str} (hN : N.Nodup) {i j : Nat} {x : Str} (a : N[i]? = some x) (b : N[j]? = some x) : i = j := by
  obtain ⟨h1, e1⟩ := List.getElem?_eq_some_iff.mp a
  obtain ⟨h2, e2⟩ := List.getElem?_eq_some_iff.mp b
  exact (List.getElem_inj hN).mp (e1.trans e2.symm)

/-- a name is stored; what changed -/
theorem store_ok2 {M : Model} {A : Around} {E : Value → Shared → Prop} {i : Nat} {x : Str} {v : V} {u : Value} {Q : Unit → Shared → Prop} (I : Inv X pins σ H s) (hN : X.N.Nodup) (hi : X.N[i]? = some x) (hx : Loc X.env.scope x) (r : RelV v u)
    (h : ∀ s', Inv X pins (σ.set i (some v)) H s' → (∃ a, Heap.SameBut a s.heap s'.heap ∧ (a = X.env.locals ∨ X.env.cells.lookup x = some a)) → Q () s') (hf : X.fn x = true ∨ X.env.scope.names.lookup x = some .local := by first | exact .inl rfl | exact .inr rfl | assumption) : wpAny M A (storeName X.env x u) Q E s := by
  obtain ⟨m, hn, hl⟩ := id I.loc
  have hcls : (X.env.scope.kind == .class || (X.env.scope.kind == .module && X.env.locals != X.env.globals)) = false := by rw [I.ok.kind]; rfl
  have hiσ : i < σ.length := by rw [I.len]; exact (List.getElem?_eq_some_iff.mp hi).1
  have cne := I.cne
  have tracked : ∀ {a : Addr} {h' : Heap}, (∃ o, s.heap.get? a = some o ∧ H a = none) → Heap.SameBut a s.heap h' → HOk X.prog X.w H h' := fun {a h'} ha hs b ob e => by
    obtain ⟨_, _, hfree⟩ := ha
    refine (I.hok b ob e).stay (fun c w' hc q => (hs.2 c ?_).trans q) (fun _ q => q) fun _ _ q => q
    rintro rfl
    rcases hc with rfl | hc
    · rw [hfree] at e; cases e
    · rw [hfree] at hc; cases hc
  rcases hx with hk | hk
  · refine wpAny_storeName_local hk hn (fun h' hn' hs => ?_) hcls
    obtain ⟨oL, _, _, hoL, _⟩ := id hn
    refine h _ ⟨I.ok, I.os, I.bare, ⟨fun b o e n hb hx => ?_, fun b o e n hb hx => ?_, I.base.free, fun b o e hx => ?_, I.base.tups, I.base.frzs, I.base.tbls⟩, ⟨_, hn', fun j y v' e1 e2 e3 => ?_⟩, fun y c e => ?_, I.free, I.freeC, fun p hp => ?_, tracked ⟨oL, hoL, I.free⟩ hs, by simpa using I.len⟩ ⟨_, hs, .inl rfl⟩
    · exact (hs.2 b (Nat.ne_of_lt (Nat.lt_of_lt_of_le (Heap.lt_size e) I.ok.above))).trans (I.base.keep b o e n hb hx)
    · obtain ⟨sl, e1⟩ := I.base.slot b o e n hb hx
      exact ⟨sl, (hs.2 b (Nat.ne_of_lt (Nat.lt_of_lt_of_le (Heap.lt_size e) I.ok.above))).trans e1⟩
    · obtain ⟨o', e1⟩ := I.base.there b o e hx
      exact ⟨o', (hs.2 b (Nat.ne_of_lt (Nat.lt_of_lt_of_le (Heap.lt_size e) I.ok.above))).trans e1⟩
    · by_cases hj : j = i
      · subst hj
        rw [hi] at e1; cases e1
        rw [List.getElem?_set_self hiσ] at e2
        cases e2
        exact ⟨u, r, .inl ⟨hk, by simp⟩⟩
      · rw [List.getElem?_set_ne (Ne.symm hj)] at e2
        obtain ⟨u', r', q⟩ := hl j y v' e1 e2 e3
        refine ⟨u', r', ?_⟩
        rcases q with ⟨k, e⟩ | ⟨k, c, e, z⟩
        · refine .inl ⟨k, ?_⟩
          have : y ≠ x := fun e => hj (nodup_ix hN e1 (e ▸ hi))
          simp [this, e]
        · exact .inr ⟨k, c, e, z.sameBut hs (cne y c e)⟩
    · obtain ⟨w', z⟩ := I.cell y c e
      exact ⟨w', z.sameBut hs (cne y c e)⟩
    · obtain ⟨e, n, ne, nf, d⟩ := I.pin p hp
      exact ⟨(hs.2 p.1 ne).trans e, n, ne, nf, d⟩
  · have hfn : X.fn x = true := by
      rcases hf with z | z
      · exact z
      · rw [z] at hk; cases hk
    obtain ⟨c, hc⟩ := I.ok.has x (.inl hk)
    obtain ⟨w', z⟩ := I.cell x c hc
    refine wpAny_storeName_cell I.ok.kind hk hc z (fun h' hc' hs => ?_)
    obtain ⟨oc, hoc, hocd⟩ := id z
    refine h { s with heap := h' } ⟨I.ok, I.os, I.bare, ⟨fun b o e n hb hx => ?_, fun b o e n hb hx => ?_, I.base.free, fun b o e hx => ?_, I.base.tups, I.base.frzs, I.base.tbls⟩, ⟨m, hn.sameBut hs (Ne.symm (cne x c hc)), fun j y v' e1 e2 e3 => ?_⟩, fun y c' e => ?_, I.free, I.freeC, fun p hp => ?_, tracked ⟨oc, hoc, I.freeC x c hc⟩ hs, by simpa using I.len⟩ ⟨c, hs, .inr hc⟩
    · exact (hs.2 b (Nat.ne_of_lt (Nat.lt_of_lt_of_le (Heap.lt_size e) (I.ok.cab x c hfn hc)))).trans (I.base.keep b o e n hb hx)
    · obtain ⟨sl, e1⟩ := I.base.slot b o e n hb hx
      exact ⟨sl, (hs.2 b (Nat.ne_of_lt (Nat.lt_of_lt_of_le (Heap.lt_size e) (I.ok.cab x c hfn hc)))).trans e1⟩
    · obtain ⟨o', e1⟩ := I.base.there b o e hx
      exact ⟨o', (hs.2 b (Nat.ne_of_lt (Nat.lt_of_lt_of_le (Heap.lt_size e) (I.ok.cab x c hfn hc)))).trans e1⟩
    · by_cases hj : j = i
      · subst hj
        rw [hi] at e1; cases e1
        rw [List.getElem?_set_self hiσ] at e2
        cases e2
        exact ⟨u, r, .inr ⟨.inl hk, c, hc, hc'⟩⟩
      · rw [List.getElem?_set_ne (Ne.symm hj)] at e2
        obtain ⟨u', r', q⟩ := hl j y v' e1 e2 e3
        refine ⟨u', r', ?_⟩
        rcases q with q | ⟨k, c', e, z'⟩
        · exact .inl q
        · refine .inr ⟨k, c', e, z'.sameBut hs ?_⟩
          rintro rfl
          exact hj (nodup_ix hN e1 (I.ok.inj _ _ _ e hc ▸ hi))
    · by_cases hcc : c' = c
      · subst hcc; exact ⟨_, hc'⟩
      · obtain ⟨w2, z2⟩ := I.cell y c' e
        exact ⟨w2, z2.sameBut hs hcc⟩
    · obtain ⟨e, n, ne, nf, d⟩ := I.pin p hp
      refine ⟨(hs.2 p.1 ?_).trans e, n, ne, nf, d⟩
      intro q
      rw [q, hoc] at e
      have q' : oc = p.2 := Option.some.inj e
      exact d w' (by rw [← q']; exact hocd)
theorem store_ok {M : Model} {A : Around} {E : Value → Shared → Prop} {i : Nat} {x : Str} {v : V} {u : Value} {Q : Unit → Shared → Prop} (I : Inv X pins σ H s) (hN : X.N.Nodup) (hi : X.N[i]? = some x) (hx : Loc X.env.scope x) (r : RelV v u)
    (h : ∀ s', Inv X pins (σ.set i (some v)) H s' → Q () s') (hf : X.fn x = true ∨ X.env.scope.names.lookup x = some .local := by first | exact .inl rfl | exact .inr rfl | assumption) : wpAny M A (storeName X.env x u) Q E s :=
  store_ok2 I hN hi hx r (fun s' I' _ => h s' I') hf
/-- behind a call or a block, the state as it is -/
theorem Inv.call' {s' : Shared} {ch : List Addr} (I : Inv X pins σ H s) (ho : s'.os = s.os) (u : Un (frs X.stack) ch H H' s.heap s'.heap) (hok : HOk X.prog X.w H' s'.heap) (hg : AllBare s'.gens)
    (hch : ∀ b ∈ ch, (b ∈ X.ex ∨ X.s₀.heap.objs.size ≤ b) ∧ b ≠ X.env.locals ∧ (∀ x c, X.env.cells.lookup x = some c → c ≠ b) ∧ ∀ p ∈ X.pn ++ pins, p.1 ≠ b) : Inv X pins σ H' s' := by
  obtain ⟨h', g', d', t', o'⟩ := s'
  have e : o' = s.os := ho
  subst e
  exact I.call (g' := g') (t' := t') (d' := d') u hok hg hch
end

/-! ### the judgements -/
/-- an exception: its class, its own dict's address (where it has one), the abstract heap behind it -/
abbrev XK := Value → Option Addr → Hp → Prop
abbrev St := List (Option V)
abbrev VK := V → Hp → Prop
/-- an expression's reading; a test's; an argument list's -/
abbrev TE := St → Hp → VK → Prop
abbrev TT := St → Hp → (Bool → Hp → Prop) → Prop
abbrev TA := St → Hp → (List V → Hp → Prop) → Prop
/-- what is wanted behind a statement -/
structure Ends where
  nx : St → Hp → Prop
  rt : VK
  bk : St → Hp → Prop := fun _ _ => False
  ct : St → Hp → Prop := fun _ _ => False
abbrev TS := Ends → St → Hp → Prop

def EP (X : Cx) (pins : List (Addr × Obj)) (σ : St) (Q : VK) (u : Value) (s' : Shared) : Prop := ∃ v H', Inv X pins σ H' s' ∧ RelV v u ∧ Q v H'
def TP (X : Cx) (pins : List (Addr × Obj)) (σ : St) (Q : Bool → Hp → Prop) (b : Bool) (s' : Shared) : Prop := ∃ H', Inv X pins σ H' s' ∧ Q b H'
def AP (X : Cx) (pins : List (Addr × Obj)) (σ : St) (Q : List V → Hp → Prop) (us : List Value) (s' : Shared) : Prop := ∃ vs H', Inv X pins σ H' s' ∧ Vals vs us ∧ Q vs H'
def SP (X : Cx) (pins : List (Addr × Obj)) (D : Ends) (f : Flow) (s' : Shared) : Prop :=
  match f with
  | .next => ∃ σ' H', Inv X pins σ' H' s' ∧ D.nx σ' H'
  | .brk => ∃ σ' H', Inv X pins σ' H' s' ∧ D.bk σ' H'
  | .cont => ∃ σ' H', Inv X pins σ' H' s' ∧ D.ct σ' H'
  | .ret u => ∃ v σ' H', Inv X pins σ' H' s' ∧ RelV v u ∧ D.rt v H'

def PE (X : Cx) (e : Expr) (t : TE) : Prop :=
  ∀ (pins : List (Addr × Obj)) (s : Shared) (σ : St) (H : Hp) (Q : VK), Inv X pins σ H s → t σ H Q → wpAny (model X.prog X.w) X.A (eval e X.env) (EP X pins σ Q) X.xe s
def PT (X : Cx) (e : Expr) (t : TT) : Prop :=
  ∀ (pins : List (Addr × Obj)) (s : Shared) (σ : St) (H : Hp) (Q : Bool → Hp → Prop), Inv X pins σ H s → t σ H Q → wpAny (model X.prog X.w) X.A (isTrue e X.env (eval e X.env)) (TP X pins σ Q) X.xe s
/-- a test whatever its 'whole' is (and, or) -/
def PW (X : Cx) (e : Expr) (t : TT) : Prop :=
  ∀ (whole : Sem Value) (pins : List (Addr × Obj)) (s : Shared) (σ : St) (H : Hp) (Q : Bool → Hp → Prop), Inv X pins σ H s → t σ H Q → wpAny (model X.prog X.w) X.A (isTrue e X.env whole) (TP X pins σ Q) X.xe s
theorem PW.pt {X : Cx} {e : Expr} {t : TT} (h : PW X e t) : PT X e t := h _
/-- an argument list (no star), from the left -/
def PA (X : Cx) (es : List Expr) (t : TA) : Prop :=
  ∀ (pos : Pos) (pins : List (Addr × Obj)) (s : Shared) (σ : St) (H : Hp) (Q : List V → Hp → Prop), Inv X pins σ H s → t σ H Q → wpAny (model X.prog X.w) X.A (spliced (backTo pos (starEach es X.env))) (AP X pins σ Q) X.xe s
def PS (X : Cx) (st : Stmt) (t : TS) : Prop :=
  ∀ (pins : List (Addr × Obj)) (s : Shared) (σ : St) (H : Hp) (D : Ends), Inv X pins σ H s → t D σ H → wpAny (model X.prog X.w) X.A (exec st X.env) (SP X pins D) X.xe s
def PSs (X : Cx) (st : List Stmt) (t : TS) : Prop :=
  ∀ (pins : List (Addr × Obj)) (s : Shared) (σ : St) (H : Hp) (D : Ends), Inv X pins σ H s → t D σ H → wpAny (model X.prog X.w) X.A (execs st X.env) (SP X pins D) X.xe s
/-- weaken the end -/
theorem thn {α : Type} {t : Sem α} {Q Q' : α → Shared → Prop} {M : Model} {A : Around} {E : Value → Shared → Prop} {s : Shared} (h : wpAny M A t Q E s) (hQ : ∀ a s, Q a s → Q' a s) : wpAny M A t Q' E s := wpAny_mono h hQ fun _ _ x => x
end L2

namespace L2
open PySem PySem.Spec PyProof.Rows
section
variable {X : Cx}

/-- two expressions in a row -/
theorem bin {a b : Expr} {ta tb : TE} (ha : PE X a ta) (hb : PE X b tb) {pins : List (Addr × Obj)} {s : Shared} {σ : St} {H : Hp} {R : V → V → Hp → Prop} (I : Inv X pins σ H s) (h : ta σ H fun x H1 => tb σ H1 fun y H2 => R x y H2)
    {α : Type} {Q : α → Shared → Prop} {f : Value → Value → Sem α}
    (hf : ∀ v u s2 x y H2, Inv X pins σ H2 s2 → RelV x v → RelV y u → R x y H2 → wpAny (model X.prog X.w) X.A (f v u) Q X.xe s2) :
    wpAny (model X.prog X.w) X.A (eval a X.env) (fun v s₁ => wpAny (model X.prog X.w) X.A (eval b X.env) (fun u s₂ => wpAny (model X.prog X.w) X.A (f v u) Q X.xe s₂) X.xe s₁) X.xe s := by
  refine thn (ha pins s σ H _ I h) fun v s1 ⟨x, H1, I1, r1, q1⟩ => ?_
  refine thn (hb pins s1 σ H1 _ I1 q1) fun u s2 ⟨y, H2, I2, r2, q2⟩ => ?_
  exact hf v u s2 x y H2 I2 r1 r2 q2

/-! ### names and constants -/
def tVar (i : Nat) : TE := fun σ H Q => ∃ v, σ[i]? = some (some v) ∧ Q v H
def tC (v : V) : TE := fun _ H Q => Q v H
theorem pe_var {i : Nat} {x : Str} {pos : Pos} (hN : X.N[i]? = some x) (hv : Vis X.env.scope x) (hd : (x == ("__debug__" : Str)) = false := by decide) (hcd : (x == ("__classdict__" : Str)) = false := by decide) : PE X (.Name x pos) (tVar i) := by
  intro pins s σ H Q I h
  obtain ⟨v, e, h⟩ := h
  obtain ⟨m, hn, hl⟩ := I.loc
  obtain ⟨u, r, l⟩ := hl i x v hN e hv
  have fin : EP X pins σ Q u s := ⟨v, H, I, r, h⟩
  rcases l with ⟨hk, hm⟩ | ⟨hk, c, hc, hcell⟩
  · exact wpAny_Name (wpAny_loadName_local I.ok.kind hk hn hm fin) hd
  · rcases hk with hk | hk
    · exact wpAny_Name (wpAny_loadName_cell I.ok.kind hk hc hcell fin) hd
    · exact wpAny_Name (wpAny_loadName_free I.ok.kind hk hc hcell fin hcd) hd
theorem pe_int {i j pos} : PE X (.Constant (.int i) j pos) (tC (.int i)) := fun _ _ _ H _ I h => wpAny_Constant_int ⟨.int i, H, I.tok _, ⟨_, rfl⟩, h⟩
theorem pe_bl {b j pos} : PE X (.Constant (.bool b) j pos) (tC (.bl b)) := fun _ _ _ H _ I h => Constant_bool ⟨.bl b, H, I, rfl, h⟩
theorem pe_non {j pos} : PE X (.Constant .none j pos) (tC .non) := fun _ _ _ H _ I h => Constant_none ⟨.non, H, I, rfl, h⟩
/-- a global name of the def -/
def Gl (X : Cx) (x : Str) : Prop := X.env.kindOf x = some .globalImplicit
theorem ld_glob {E : Value → Shared → Prop} {pins : List (Addr × Obj)} {s : Shared} {σ : St} {H : Hp} {x : Str} {u : Value} {pos : Pos} {Q : Value → Shared → Prop} (I : Inv X pins σ H s) (hg : Gl X x) (hm : X.mg x = some u) (h : Q u s)
    (hd : (x == ("__debug__" : Str)) = false := by decide) : wpAny (model X.prog X.w) X.A (eval (.Name x pos) X.env) Q E s :=
  Calls.Name_function_global I.ok.kind hg (Calls.loadGlobal_global (by rw [I.ok.glob]; exact I.mod.glob.keeps I.bk) hm h) hd
theorem ld_blt {E : Value → Shared → Prop} {pins : List (Addr × Obj)} {s : Shared} {σ : St} {H : Hp} {x : Str} {u : Value} {pos : Pos} {Q : Value → Shared → Prop} (I : Inv X pins σ H s) (hg : Gl X x) (hm : X.mg x = none) (hv : bootBuiltins x = some u) (h : Q u s)
    (hn : x ≠ "__name__" := by decide) (hd : (x == ("__debug__" : Str)) = false := by decide) : wpAny (model X.prog X.w) X.A (eval (.Name x pos) X.env) Q E s := by
  obtain ⟨mb, h1, h2⟩ := I.mod.blt
  exact Calls.Name_function_global I.ok.kind hg (Calls.loadGlobal_builtin (by rw [I.ok.glob]; exact I.mod.glob.keeps I.bk) hm (by rw [I.ok.blt]; exact h1.keeps I.bk) ((h2 x hn).trans hv) h) hd
/-- a module's constant, a class, a function, as a value -/
theorem pe_glob {x : Str} {v : V} {u : Value} {pos : Pos} (hg : Gl X x) (hm : X.mg x = some u) (r : RelV v u) (hd : (x == ("__debug__" : Str)) = false := by decide) : PE X (.Name x pos) (tC v) :=
  fun _ _ _ H _ I h => ld_glob I hg hm ⟨v, H, I, r, h⟩ hd
theorem pe_bltn {x : Str} {v : V} {u : Value} {pos : Pos} (hg : Gl X x) (hm : X.mg x = none) (hv : bootBuiltins x = some u) (r : RelV v u) (hn : x ≠ "__name__" := by decide) (hd : (x == ("__debug__" : Str)) = false := by decide) : PE X (.Name x pos) (tC v) :=
  fun _ _ _ H _ I h => ld_blt I hg hm hv ⟨v, H, I, r, h⟩ hn hd

/-! ### arithmetic -/
/-- two ints -/
def t2I (ta tb : TE) (k : Int → Int → Hp → Prop) : St → Hp → Prop := fun σ H => ta σ H fun x H1 => tb σ H1 fun y H2 => ∃ i j, x = .int i ∧ y = .int j ∧ k i j H2
def tAdd (ta tb : TE) : TE := fun σ H Q => t2I ta tb (fun i j H2 => Q (.int (i + j)) H2) σ H
def tSub (ta tb : TE) : TE := fun σ H Q => t2I ta tb (fun i j H2 => Q (.int (i - j)) H2) σ H
/-- the left factor below 2^64 -/
def tMul (ta tb : TE) : TE := fun σ H Q => t2I ta tb (fun i j H2 => (-(2 ^ 64) < i ∧ i < 2 ^ 64) ∧ Q (.int (i * j)) H2) σ H
variable {a b : Expr} {ta tb : TE} {pos : Pos}
/-! ### comparisons -/
def PC (X : Cx) (op : CmpOp) (a b : Expr) (t : TE) : Prop :=
  ∀ (pins : List (Addr × Obj)) (s : Shared) (σ : St) (H : Hp) (Q : VK), Inv X pins σ H s → t σ H Q →
    wpAny (model X.prog X.w) X.A (eval a X.env) (fun v s₁ => wpAny (model X.prog X.w) X.A (eval b X.env) (fun u s₂ => wpAny (model X.prog X.w) X.A (compareOp op v u) (EP X pins σ Q) X.xe s₂) X.xe s₁) X.xe s
theorem nobehind (b : Expr) {op : CmpOp} (h : op ≠ .In) (h2 : op ≠ .NotIn) : behindInMarks op b = false := by
  have e1 : (op == CmpOp.In) = false := by cases op <;> first | rfl | exact absurd rfl h
  have e2 : (op == CmpOp.NotIn) = false := by cases op <;> first | rfl | exact absurd rfl h2
  cases b <;> simp [behindInMarks, e1, e2]
def tCmp (p : Int → Int → Bool) (ta tb : TE) : TE := fun σ H Q => t2I ta tb (fun i j H2 => Q (.bl (p i j)) H2) σ H
abbrev tLt : TE → TE → TE := tCmp fun i j => decide (i < j)
abbrev tLe : TE → TE → TE := tCmp fun i j => decide (i ≤ j)
abbrev tGt : TE → TE → TE := tCmp fun i j => decide (j < i)
abbrev tGe : TE → TE → TE := tCmp fun i j => decide (j ≤ i)
abbrev tEqI : TE → TE → TE := tCmp fun i j => decide (i = j)
abbrev tNeI : TE → TE → TE := tCmp fun i j => !decide (i = j)
/-- is None -/
def tIsN (ta : TE) : TE := fun σ H Q => ta σ H fun x H1 => Q (.bl (decide (x = .non))) H1
def tNotN (ta : TE) : TE := fun σ H Q => ta σ H fun x H1 => Q (.bl (!decide (x = .non))) H1
theorem RelV.none_iff {x : V} {v : Value} (r : RelV x v) : (v == Value.none) = decide (x = .non) := by
  cases x with
  | non => cases r; rfl
  | bl _ => cases r; rfl
  | int _ => obtain ⟨t, rfl⟩ := r; rfl
  | str _ => obtain ⟨t, rfl⟩ := r; rfl
  | byt _ => obtain ⟨t, rfl⟩ := r; rfl
  | flt _ => obtain ⟨t, rfl⟩ := r; rfl
  | ref _ => cases r; rfl
  | ty _ => cases r; rfl
theorem pc_isN {j pos'} (ha : PE X a ta) : PC X .Is a (.Constant .none j pos') (tIsN ta) := by
  intro pins s σ H Q I h
  refine thn (ha pins s σ H _ I h) fun v s1 ⟨x, H1, I1, r1, q1⟩ => ?_
  exact Constant_none (is_none_gen ⟨.bl _, H1, I1, by rw [r1.none_iff]; rfl, q1⟩)
/-- a comparison as a value, as a test -/
def tB (t : TE) : TT := fun σ H Q => t σ H fun x H1 => ∃ c, x = .bl c ∧ Q c H1
theorem pt_cmp {op : CmpOp} {t : TE} (h : PC X op a b t) (h1 : behindInMarks op b = false := by first | exact nobehind _ (by decide) (by decide) | rfl) : PT X (.Compare a [op] [b] pos) (tB t) := by
  intro pins s σ H Q I hw
  refine wpAny_isTrue_Compare1 (thn (h pins s σ H _ I hw) fun v s1 h1 => thn h1 fun u s2 h2 => thn h2 fun c s3 ⟨x, H1, I1, r1, q1⟩ => ?_) h1
  obtain ⟨d, rfl, q⟩ := q1
  cases r1
  exact wpAny_truthy_bool ⟨H1, I1, q⟩
/-- an expression whose value is a bool, as a test -/
theorem pt_val {e : Expr} {t : TE} (h : PE X e t) (he : ∀ whole, isTrue e X.env whole = (do let v ← whole; standAt e.pos; holding [v] (truthy v)) := by intro _; rfl) : PT X e (tB t) := by
  intro pins s σ H Q I hw
  refine isTrue_plain (thn (h pins s σ H _ I hw) fun v s1 ⟨x, H1, I1, r1, q1⟩ => ?_) (he _)
  obtain ⟨d, rfl, q⟩ := q1
  cases r1
  exact wpAny_truthy_bool ⟨H1, I1, q⟩

/-! ### and, or, not -/
variable {tA tB' : TT} {rest : List Expr}
def tAnd (t u : TT) : TT := fun σ H Q => t σ H fun c H1 => if c = true then u σ H1 Q else Q false H1
def tOr (t u : TT) : TT := fun σ H Q => t σ H fun c H1 => if c = true then Q true H1 else u σ H1 Q
def tNot (t : TT) : TT := fun σ H Q => t σ H fun c H1 => Q (!c) H1
theorem pw_and1 (ha : PT X a tA) : PW X (.BoolOp .And [a] pos) tA := by
  intro wh pins s σ H Q I h
  refine isTrue_and (thn (ha pins s σ H Q I h) fun c s1 e => ?_)
  cases c with
  | true => exact isTrue_and_nil e
  | false => exact e
theorem pw_or1 (ha : PT X a tA) : PW X (.BoolOp .Or [a] pos) tA := by
  intro wh pins s σ H Q I h
  refine isTrue_or (thn (ha pins s σ H Q I h) fun c s1 e => ?_)
  cases c with
  | false => exact isTrue_or_nil e
  | true => exact e
theorem pw_and (ha : PT X a tA) (hb : PW X (.BoolOp .And (b :: rest) pos) tB') : PW X (.BoolOp .And (a :: b :: rest) pos) (tAnd tA tB') := by
  intro wh pins s σ H Q I h
  refine isTrue_and (thn (ha pins s σ H _ I h) fun c s1 ⟨H1, I1, q1⟩ => ?_)
  cases c with
  | true => exact hb wh pins s1 σ H1 Q I1 q1
  | false => exact ⟨H1, I1, q1⟩
theorem pw_or (ha : PT X a tA) (hb : PW X (.BoolOp .Or (b :: rest) pos) tB') : PW X (.BoolOp .Or (a :: b :: rest) pos) (tOr tA tB') := by
  intro wh pins s σ H Q I h
  refine isTrue_or (thn (ha pins s σ H _ I h) fun c s1 ⟨H1, I1, q1⟩ => ?_)
  cases c with
  | true => exact ⟨H1, I1, q1⟩
  | false => exact hb wh pins s1 σ H1 Q I1 q1
theorem pt_not (ha : PT X a tA) : PT X (.UnaryOp .Not a pos) (tNot tA) := by
  intro pins s σ H Q I h
  exact isTrue_not (ha pins s σ H (fun c H1 => Q (!c) H1) I h)
/-- .. as values (bools) -/
def tAndV (ta tb : TE) : TE := fun σ H Q => ta σ H fun x H1 => ∃ c, x = .bl c ∧ if c = true then tb σ H1 Q else Q (.bl false) H1
def tOrV (ta tb : TE) : TE := fun σ H Q => ta σ H fun x H1 => ∃ c, x = .bl c ∧ if c = true then Q (.bl true) H1 else tb σ H1 Q
def tNotV (ta : TE) : TE := fun σ H Q => ta σ H fun x H1 => ∃ c, x = .bl c ∧ Q (.bl (!c)) H1
theorem pe_one {op} {t : TE} (h : PE X a t) : PE X (.BoolOp op [a] pos) t := fun pins s σ H Q I hw => BoolOp_one (h pins s σ H Q I hw)
theorem pe_and (ha : PE X a ta) (hb : PE X (.BoolOp .And (b :: rest) pos) tb) : PE X (.BoolOp .And (a :: b :: rest) pos) (tAndV ta tb) := by
  intro pins s σ H Q I h
  refine BoolOp_and (thn (ha pins s σ H _ I h) fun v s1 ⟨x, H1, I1, r1, q1⟩ => ?_)
  obtain ⟨c, rfl, q1⟩ := q1
  cases r1
  refine wpAny_truthy_bool ?_
  cases c with
  | true => exact hb pins s1 σ H1 Q I1 q1
  | false => exact ⟨.bl false, H1, I1, rfl, q1⟩
theorem pe_not (ha : PE X a ta) : PE X (.UnaryOp .Not a pos) (tNotV ta) := by
  intro pins s σ H Q I h
  refine UnaryOp_ (thn (ha pins s σ H _ I h) fun v s1 ⟨x, H1, I1, r1, q1⟩ => ?_)
  obtain ⟨c, rfl, q1⟩ := q1
  cases r1
  exact not_of (wpAny_truthy_bool ⟨.bl (!c), H1, I1, rfl, q1⟩)
/-- a if t else b -/
def tIf (t : TT) (ta tb : TE) : TE := fun σ H Q => t σ H fun c H1 => if c = true then ta σ H1 Q else tb σ H1 Q
end
end L2

namespace L2
open PySem PySem.Spec PyProof.Rows

/-! ### a list, a tuple that is read: tracked, frozen, or an object of the module -/
def SqL (K : PySem.W.Frag) (H : Hp) (a : Addr) (xs : List V) : Prop :=
  Rd H a (.lst xs) ∨
    ∃ (o : Obj) (its : Array Value) (n : Nat), K.lookup a = some o ∧ o.cls = .type "list" ∧ o.dict = none ∧ o.data = .seq its n ∧ its.size ≤ sizeLine ∧ Vals xs its.toList
def SqT (K : PySem.W.Frag) (H : Hp) (a : Addr) (xs : List V) : Prop :=
  Rd H a (.tup xs) ∨
    ∃ (o : Obj) (its : Array Value) (n : Nat), K.lookup a = some o ∧ o.cls = .type "tuple" ∧ o.data = .seq its n ∧ its.size ≤ sizeLine ∧ Vals xs its.toList
def absV : Value → Option V
  | .none => some .non
  | .bool b => some (.bl b)
  | .int i _ => some (.int i)
  | .str x _ => some (.str x)
  | .bytes b _ => some (.byt b)
  | .float b _ => some (.flt b)
  | .ref a => some (.ref a)
  | .type n => some (.ty n)
  | _ => none
theorem RelV.abs {x : V} {u : Value} (r : RelV x u) : absV u = some x := by
  cases x with
  | non => cases r; rfl
  | bl _ => cases r; rfl
  | int _ => obtain ⟨t, rfl⟩ := r; rfl
  | str _ => obtain ⟨t, rfl⟩ := r; rfl
  | byt _ => obtain ⟨t, rfl⟩ := r; rfl
  | flt _ => obtain ⟨t, rfl⟩ := r; rfl
  | ref _ => cases r; rfl
  | ty _ => cases r; rfl
theorem RelV.inj {x y : V} {u : Value} (r : RelV x u) (q : RelV y u) : x = y := Option.some.inj (r.abs.symm.trans q.abs)
theorem Vals.inj : ∀ {xs ys : List V} {us : List Value}, Vals xs us → Vals ys us → xs = ys
  | _, _, _, .nil, .nil => rfl
  | _, _, _, .cons r t, .cons r' t' => by rw [r.inj r', Vals.inj t t']
section
variable {X : Cx} {pins : List (Addr × Obj)} {σ : St} {H : Hp} {s : Shared} {a : Addr} {xs ys : List V}
theorem SqL.of {K : PySem.W.Frag} (h : H a = some (.lst xs)) : SqL K H a xs := .inl (.inl h)
theorem SqT.of {K : PySem.W.Frag} (h : H a = some (.tup xs)) : SqT K H a xs := .inl (.inl h)
theorem Inv.list (I : Inv X pins σ H s) (h : SqL X.K H a xs) : ∃ its : List Value, Vals xs its ∧ PlainL s.heap a its.toArray ∧ xs.length ≤ sizeLine := by
  rcases h with h | ⟨o, its, n, hk, hc, hd, hs, hz, r⟩
  · obtain ⟨z, its, n, r, e⟩ := h.ok I.hok
    exact ⟨its, r, ⟨_, n, e, rfl, rfl, rfl⟩, z⟩
  · refine ⟨its.toList, r, ⟨o, n, I.kIn a o hk, hc, hd, by simpa using hs⟩, ?_⟩
    have e := r.length
    simp only [Array.length_toList] at e
    omega
theorem Inv.tuple (I : Inv X pins σ H s) (h : SqT X.K H a xs) : ∃ its : List Value, Vals xs its ∧ IsTup s.heap a its.toArray ∧ xs.length ≤ sizeLine := by
  rcases h with h | ⟨o, its, n, hk, hc, hs, hz, r⟩
  · obtain ⟨z, its, r, p⟩ := h.ok I.hok
    exact ⟨its, r, p, z⟩
  · refine ⟨its.toList, r, ⟨o, I.kIn a o hk, hc, n, by simpa using hs⟩, ?_⟩
    have e := r.length
    simp only [Array.length_toList] at e
    omega
theorem Inv.list_inj (I : Inv X pins σ H s) (h : SqL X.K H a xs) (h' : SqL X.K H a ys) : xs = ys := by
  obtain ⟨its, r, ⟨o, n, e, _, _, d⟩, _⟩ := I.list h
  obtain ⟨its', r', ⟨o', n', e', _, _, d'⟩, _⟩ := I.list h'
  rw [e] at e'; cases e'
  rw [d] at d'
  injection d' with d1 _
  have : its = its' := by simpa using congrArg Array.toList d1
  subst this
  exact r.inj r'
theorem Inv.tuple_inj (I : Inv X pins σ H s) (h : SqT X.K H a xs) (h' : SqT X.K H a ys) : xs = ys := by
  obtain ⟨its, r, ⟨o, e, _, n, d⟩, _⟩ := I.tuple h
  obtain ⟨its', r', ⟨o', e', _, n', d'⟩, _⟩ := I.tuple h'
  rw [e] at e'; cases e'
  rw [d] at d'
  injection d' with d1 _
  have : its = its' := by simpa using congrArg Array.toList d1
  subst this
  exact r.inj r'
end

/-! ### another wish about exceptions -/
abbrev Cx.wish (X : Cx) (E : Value → Shared → Prop) : Cx := { X with xe := E }
/-- no exception leaves -/
abbrev Cx.nox (X : Cx) : Cx := X.wish fun _ _ => False
theorem Cx.Ok.wish {X : Cx} (ok : X.Ok) (E : Value → Shared → Prop) : (X.wish E).Ok :=
  ⟨ok.mod, ok.kind, ok.glob, ok.blt, ok.above, ok.inj, ok.has, ok.cab, ok.hd, ok.frames, ok.stk, ok.exf, ok.bs, ok.bsz, ok.noex, ok.exfs, ok.funs, ok.frf⟩
theorem Cx.Ok.unwish {X : Cx} {E : Value → Shared → Prop} (ok : (X.wish E).Ok) : X.Ok :=
  ⟨ok.mod, ok.kind, ok.glob, ok.blt, ok.above, ok.inj, ok.has, ok.cab, ok.hd, ok.frames, ok.stk, ok.exf, ok.bs, ok.bsz, ok.noex, ok.exfs, ok.funs, ok.frf⟩
section
variable {X : Cx} {pins : List (Addr × Obj)} {σ : St} {H : Hp} {s : Shared} {E : Value → Shared → Prop}
theorem Inv.wish (I : Inv X pins σ H s) (E : Value → Shared → Prop) : Inv (X.wish E) pins σ H s := ⟨I.ok.wish E, I.os, I.bare, I.base, I.loc, I.cell, I.free, I.freeC, I.pin, I.hok, I.len⟩
theorem Inv.unwish (I : Inv (X.wish E) pins σ H s) : Inv X pins σ H s := ⟨I.ok.unwish, I.os, I.bare, I.base, I.loc, I.cell, I.free, I.freeC, I.pin, I.hok, I.len⟩
theorem SP.unwish {D : Ends} {f : Flow} {s' : Shared} (h : SP (X.wish E) pins D f s') : SP X pins D f s' := by
  cases f with
  | next => obtain ⟨σ', H', I, q⟩ := h; exact ⟨σ', H', I.unwish, q⟩
  | brk => obtain ⟨σ', H', I, q⟩ := h; exact ⟨σ', H', I.unwish, q⟩
  | cont => obtain ⟨σ', H', I, q⟩ := h; exact ⟨σ', H', I.unwish, q⟩
  | ret u => obtain ⟨v, σ', H', I, r, q⟩ := h; exact ⟨v, σ', H', I.unwish, r, q⟩
theorem PSs.nox {st : List Stmt} {t : TS} (h : PSs X.nox st t) : PSs X st t := fun pins s σ H D I hw =>
  wpAny_mono (h pins s σ H D (I.wish _) hw) (fun _ _ q => q.unwish) fun _ _ z => False.elim z
end

/-! ### blocks and small statements -/
section
variable {X : Cx} {st : Stmt} {rest : List Stmt} {t u : TS} {e : Expr} {te : TE} {pos : Pos}
def tNext : TS := fun D σ H => D.nx σ H
def tSeq (t u : TS) : TS := fun D σ H => t { D with nx := u D } σ H
theorem pss_nil : PSs X [] tNext := fun _ _ σ H _ I h => wpAny_execs_nil ⟨σ, H, I, h⟩
theorem pss_cons (h1 : PS X st t) (h2 : PSs X rest u) : PSs X (st :: rest) (tSeq t u) := by
  intro pins s σ H D I h
  refine wpAny_execs_cons (thn (h1 pins s σ H { D with nx := u D } I h) fun f s1 q => ?_)
  cases f with
  | next =>
    obtain ⟨σ', H', I', q⟩ := q
    exact h2 pins s1 σ' H' D I' q
  | ret v => exact q
  | brk => exact q
  | cont => exact q
theorem pss_one (h1 : PS X st t) : PSs X [st] t := by
  intro pins s σ H D I h
  refine wpAny_execs_cons (thn (h1 pins s σ H D I h) fun f s1 q => ?_)
  cases f with
  | next => exact wpAny_execs_nil q
  | ret v => exact q
  | brk => exact q
  | cont => exact q
def tBreak : TS := fun D σ H => D.bk σ H
def tCont : TS := fun D σ H => D.ct σ H
/-- in a def's body nothing is shown -/
theorem Inv.quiet {pins : List (Addr × Obj)} {σ : St} {H : Hp} {s : Shared} (I : Inv X pins σ H s) : interactive X.env = false := by simp [interactive, I.ok.kind]
/-- an expression whose value is dropped -/
def tDrop (te : TE) : TS := fun D σ H => te σ H fun _ H1 => D.nx σ H1
theorem ps_expr (he : PE X e te) (hs : swapsWith e none pos.line X.env = pure false := by rfl) : PS X (.Expr e pos) (tDrop te) := by
  intro pins s σ H D I h
  exact wpAny_Expr_any (thn (he pins s σ H _ I h) fun v s1 ⟨x, H1, I1, r1, q1⟩ => ⟨σ, H1, I1, q1⟩) I.quiet hs
def tRet (te : TE) : TS := fun D σ H => te σ H D.rt
theorem ps_ret (he : PE X e te) : PS X (.Return (some e) pos) (tRet te) := by
  intro pins s σ H D I h
  exact wpAny_Return_some (thn (he pins s σ H _ I h) fun v s1 ⟨x, H1, I1, r1, q1⟩ => ⟨x, σ, H1, I1, r1, q1⟩)
def tRetN : TS := fun D _ H => D.rt .non H
def tIfS (c : TT) (t u : TS) : TS := fun D σ H => c σ H fun b H1 => if b = true then t D σ H1 else u D σ H1
theorem ps_if {c : Expr} {a b : List Stmt} {tc : TT} (hc : PT X c tc) (ha : PSs X a t) (hb : PSs X b u) : PS X (.If c a b pos) (tIfS tc t u) := by
  intro pins s σ H D I h
  refine wpAny_If (thn (hc pins s σ H _ I h) fun d s1 ⟨H1, I1, q1⟩ => ?_)
  cases d with
  | true => exact ha pins s1 σ H1 D I1 q1
  | false => exact hb pins s1 σ H1 D I1 q1
/-- code that the proof never comes to -/
def tNever : TS := fun _ _ _ => False
theorem ps_never : PS X st tNever := fun _ _ _ _ _ _ h => h.elim
end

/-! ### targets -/
abbrev TG := V → St → Hp → (St → Hp → Prop) → Prop
abbrev TGs := List V → St → Hp → (St → Hp → Prop) → Prop
def PG (X : Cx) (target : Expr) (t : TG) : Prop :=
  ∀ (pins : List (Addr × Obj)) (s : Shared) (σ : St) (H : Hp) (v : V) (u : Value) (Q : St → Hp → Prop), Inv X pins σ H s → RelV v u → t v σ H Q →
    wpAny (model X.prog X.w) X.A (assign target X.env u) (fun _ s' => ∃ σ' H', Inv X pins σ' H' s' ∧ Q σ' H') X.xe s
/-- several targets, one after another -/
def PGs (X : Cx) (ts : List Expr) (t : TGs) : Prop :=
  ∀ (pins : List (Addr × Obj)) (s : Shared) (σ : St) (H : Hp) (vs : List V) (us : List Value) (Q : St → Hp → Prop), Inv X pins σ H s → Vals vs us → t vs σ H Q →
    wpAny (model X.prog X.w) X.A (assignInOrder ((assignEach ts X.env).map (·.2)) us) (fun _ s' => ∃ σ' H', Inv X pins σ' H' s' ∧ Q σ' H') X.xe s
/-- o[i] = v, by values -/
abbrev TSet := V → V → V → Hp → (Hp → Prop) → Prop
def PSet (X : Cx) (t : TSet) : Prop :=
  ∀ (pins : List (Addr × Obj)) (s : Shared) (σ : St) (H : Hp) (o i v : V) (ov iv u : Value) (Q : Hp → Prop), Inv X pins σ H s → RelV o ov → RelV i iv → RelV v u → t o i v H Q →
    wpAny (model X.prog X.w) X.A (setItem ov iv u) (fun _ s' => ∃ H', Inv X pins σ H' s' ∧ Q H') X.xe s
/-- a op= b, by values -/
abbrev TIp := V → V → Hp → VK → Prop
def PIp (X : Cx) (op : Operator) (t : TIp) : Prop :=
  ∀ (pins : List (Addr × Obj)) (s : Shared) (σ : St) (H : Hp) (x y : V) (v u : Value) (Q : VK), Inv X pins σ H s → RelV x v → RelV y u → t x y H Q →
    wpAny (model X.prog X.w) X.A (inplaceOp op v u) (EP X pins σ Q) X.xe s
section
variable {X : Cx} {pos : Pos}
def gName (i : Nat) : TG := fun v σ H Q => Q (σ.set i (some v)) H
theorem pg_name {i : Nat} {x : Str} (hN : X.N.Nodup) (hi : X.N[i]? = some x) (hx : Loc X.env.scope x) (hf : X.fn x = true ∨ X.env.scope.names.lookup x = some .local := by first | exact .inl rfl | exact .inr rfl | assumption) : PG X (.Name x pos) (gName i) := by
  intro pins s σ H v u Q I r h
  exact wpAny_assign_Name (store_ok I hN hi hx r (fun s' I' => ⟨_, H, I', h⟩) hf)
def gNil : TGs := fun vs σ H Q => vs = [] ∧ Q σ H
def gCons (t : TG) (u : TGs) : TGs := fun vs σ H Q => ∃ v r, vs = v :: r ∧ t v σ H fun σ' H' => u r σ' H' Q
theorem pgs_nil : PGs X [] gNil := by
  intro pins s σ H vs us Q I r h
  obtain ⟨e, h⟩ := h
  subst e
  cases r
  exact assignInOrder_nil ⟨σ, H, I, h⟩
theorem pgs_cons {e : Expr} {es : List Expr} {t : TG} {u : TGs} (h1 : PG X e t) (h2 : PGs X es u)
    (hs : (assignEach (e :: es) X.env).map (·.2) = assign e X.env :: (assignEach es X.env).map (·.2) := by rfl) : PGs X (e :: es) (gCons t u) := by
  intro pins s σ H vs us Q I r h
  obtain ⟨v, vr, e1, h⟩ := h
  subst e1
  cases r with
  | cons r rr =>
    rw [hs]
    refine assignInOrder_cons (thn (h1 pins s σ H _ _ _ I r h) fun _ s1 ⟨σ1, H1, I1, q1⟩ => ?_)
    exact h2 pins s1 σ1 H1 _ _ Q I1 rr q1
/-- (a, b, ..) = a tuple of that length -/
def gTup (K : PySem.W.Frag) (n : Nat) (t : TGs) : TG := fun v σ H Q => ∃ a xs, v = .ref a ∧ SqT K H a xs ∧ xs.length = n ∧ t xs σ H Q
theorem pg_tup {es : List Expr} {k : Nat} {t : TGs} {n : Nat} (hc : X.calm = true) (h : PGs X es t)
    (hn : (assignEach es X.env).length = n := by rfl) (hst : (assignEach es X.env).findIdx? (·.1) = none := by rfl) : PG X (.Tuple es k pos) (gTup X.K n t) := by
  intro pins s σ H v u Q I r hw
  obtain ⟨a, xs, e1, hq, hl, hw⟩ := hw
  subst e1
  cases r
  obtain ⟨its, rv, ht, hz⟩ := I.tuple hq
  refine assign_Tuple_tuple (I.ok.hd hc) ht (by simp [hn, ← hl, rv.length]) hst fun h' hx => ?_
  have I1 : Inv X pins σ H { s with heap := h' } := I.kept (t' := s.toks) fun b o e => hx b o (Nat.ne_of_lt (Heap.lt_size e)) e
  exact h pins _ σ H xs _ Q I1 (by simpa using rv) hw
/-- o[i] = .. -/
def gSub (to ti : TE) (t : TSet) : TG := fun v σ H Q => to σ H fun o H1 => ti σ H1 fun i H2 => t o i v H2 fun H3 => Q σ H3
theorem pg_sub {o i : Expr} {to ti : TE} {t : TSet} (ho : PE X o to) (hi : PE X i ti) (hs : PSet X t)
    (ha : ∀ v, assign (.Subscript o i pos) X.env v = (do
      let ov ← holding [v] (eval o X.env)
      let iv ← holding [v, ov] (eval i X.env)
      standAt pos
      holding [v, ov, iv] (setItem ov iv v)
      release [v, ov, iv] []) := by intro _; rfl) : PG X (.Subscript o i pos) (gSub to ti t) := by
  intro pins s σ H v u Q I r h
  rw [ha]
  refine wpAny_bind (wpAny_holding (thn (ho pins s σ H _ I h) fun ov s1 ⟨x, H1, I1, r1, q1⟩ => ?_))
  refine wpAny_bind (wpAny_holding (thn (hi pins s1 σ H1 _ I1 q1) fun iv s2 ⟨y, H2, I2, r2, q2⟩ => ?_))
  refine wpAny_bind (wpAny_standAt (wpAny_bind (wpAny_holding (thn (hs pins s2 σ H2 x y v ov iv u _ I2 r1 r2 r q2) fun _ s3 ⟨H3, I3, q3⟩ => ?_))))
  exact wpAny_release ⟨σ, H3, I3, q3⟩
/-- target = value -/
def tAsg (te : TE) (g : TG) : TS := fun D σ H => te σ H fun x H1 => g x σ H1 D.nx
theorem ps_asg {tg e : Expr} {te : TE} {g : TG} (he : PE X e te) (hg : PG X tg g) (hs : swapsWithSole [tg] e pos.line X.env = pure false := by rfl) (hw : swappedStores [tg] e X.env = pure none := by rfl)
    (h1 : (assignEach [tg] X.env).map (·.2) = [assign tg X.env] := by rfl) : PS X (.Assign [tg] e pos) (tAsg te g) := by
  intro pins s σ H D I h
  refine wpAny_Assign_stores (thn (he pins s σ H _ I h) fun v s1 ⟨x, H1, I1, r1, q1⟩ => ?_) hs hw
  rw [h1]
  exact thn (hg pins s1 σ H1 x v _ I1 r1 q1) fun _ s2 q => q
/-- name = value -/
theorem ps_set {i : Nat} {x : Str} {e : Expr} {te : TE} {pos' : Pos} (hN : X.N.Nodup) (hi : X.N[i]? = some x) (hx : Loc X.env.scope x) (he : PE X e te) (hs : swapsWith e (some (.Name x pos')) pos.line X.env = pure false := by rfl) (hf : X.fn x = true ∨ X.env.scope.names.lookup x = some .local := by first | exact .inl rfl | exact .inr rfl | assumption) :
    PS X (.Assign [.Name x pos'] e pos) (tAsg te (gName i)) := by
  intro pins s σ H D I h
  refine wpAny_Assign_Name (thn (he pins s σ H _ I h) fun v s1 ⟨y, H1, I1, r1, q1⟩ => ?_) hs
  exact store_ok I1 hN hi hx r1 (fun s2 I2 => ⟨_, H1, I2, q1⟩) hf
/-- a, b = x, y with plain local names: stored from the right; the pair itself is not tracked (the opening rows as in PyProof/Rows/TupAssign.lean:23) -/
def tPar (i j : Nat) (ta : TA) : TS := fun D σ H => ta σ H fun vs H1 => ∃ v w, vs = [v, w] ∧ D.nx ((σ.set i (some v)).set j (some w)) H1
/-- name op= e -/
def tAug (i : Nat) (te : TE) (ti : TIp) : TS := fun D σ H => ∃ x, σ[i]? = some (some x) ∧ te σ H fun y H1 => ti x y H1 fun z H2 => D.nx (σ.set i (some z)) H2
theorem ps_aug {i : Nat} {x : Str} {e : Expr} {te : TE} {op : Operator} {ti : TIp} {pos' : Pos} (hN : X.N.Nodup) (hi : X.N[i]? = some x) (hx : Loc X.env.scope x) (he : PE X e te) (ho : PIp X op ti) (hf : X.fn x = true ∨ X.env.scope.names.lookup x = some .local := by first | exact .inl rfl | exact .inr rfl | assumption) :
    PS X (.AugAssign (.Name x pos') op e pos) (tAug i te ti) := by
  intro pins s σ H D I h
  obtain ⟨v, e1, h⟩ := h
  obtain ⟨m, hn, hl⟩ := I.loc
  have vis : Vis X.env.scope x := by rcases hx with k | k; exact .inl k; exact .inr (.inl k)
  obtain ⟨u, r, l⟩ := hl i x v hi e1 vis
  refine wpAny_AugAssign_Name ?_
  have go : wpAny (model X.prog X.w) X.A (eval e X.env) (fun w s₂ => wpAny (model X.prog X.w) X.A (inplaceOp op u w) (fun r s₃ => wpAny (model X.prog X.w) X.A (storeName X.env x r) (fun _ => SP X pins D .next) X.xe s₃) X.xe s₂) X.xe s := by
    refine thn (he pins s σ H _ I h) fun w s1 ⟨y, H1, I1, r1, q1⟩ => ?_
    refine thn (ho pins s1 σ H1 v y u w _ I1 r r1 q1) fun z s2 ⟨zv, H2, I2, r2, q2⟩ => ?_
    exact store_ok I2 hN hi hx r2 (fun s3 I3 => ⟨_, H2, I3, q2⟩) hf
  rcases l with ⟨hk, hm⟩ | ⟨hk, c, hc, hcell⟩
  · exact wpAny_loadName_local I.ok.kind hk hn hm go
  · rcases hk with hk | hk
    · exact wpAny_loadName_cell I.ok.kind hk hc hcell go
    · rcases hx with k | k
      · have : X.env.scope.names.lookup x = some .free := hk
        rw [k] at this; cases this
      · have : X.env.scope.names.lookup x = some .free := hk
        rw [k] at this; cases this
/-- o[i] op= e -/
def tAugS (to ti te : TE) (tget : V → V → Hp → VK → Prop) (tip : TIp) (tset : TSet) : TS := fun D σ H => to σ H fun o H1 => ti σ H1 fun i H2 => tget o i H2 fun x H3 => te σ H3 fun y H4 => tip x y H4 fun z H5 => tset o i z H5 fun H6 => D.nx σ H6
/-- o[i], by values -/
def PGet (X : Cx) (t : V → V → Hp → VK → Prop) : Prop :=
  ∀ (pins : List (Addr × Obj)) (s : Shared) (σ : St) (H : Hp) (o i : V) (ov iv : Value) (Q : VK), Inv X pins σ H s → RelV o ov → RelV i iv → t o i H Q →
    wpAny (model X.prog X.w) X.A (getItem ov iv) (EP X pins σ Q) X.xe s
theorem ps_augS {o i e : Expr} {to ti te : TE} {tget : V → V → Hp → VK → Prop} {tip : TIp} {tset : TSet} {op : Operator} {tpos : Pos} (ho : PE X o to) (hi : PE X i ti) (hg : PGet X tget) (he : PE X e te) (hp : PIp X op tip) (hs : PSet X tset)
    (ha : ∀ ov iv new, augStore i ov iv new = (do holding [new, ov, iv] (setItem ov iv new); release [new, ov, iv] []; pure .next) := by intros; rfl) : PS X (.AugAssign (.Subscript o i tpos) op e pos) (tAugS to ti te tget tip tset) := by
  intro pins s σ H D I h
  refine wpAny_AugAssign_SubscriptAny (thn (ho pins s σ H _ I h) fun ov s1 ⟨x1, H1, I1, r1, q1⟩ => ?_) ha
  refine thn (hi pins s1 σ H1 _ I1 q1) fun iv s2 ⟨x2, H2, I2, r2, q2⟩ => ?_
  refine thn (hg pins s2 σ H2 x1 x2 ov iv _ I2 r1 r2 q2) fun old s3 ⟨x3, H3, I3, r3, q3⟩ => ?_
  refine thn (he pins s3 σ H3 _ I3 q3) fun v s4 ⟨x4, H4, I4, r4, q4⟩ => ?_
  refine thn (hp pins s4 σ H4 x3 x4 old v _ I4 r3 r4 q4) fun new s5 ⟨x5, H5, I5, r5, q5⟩ => ?_
  exact thn (hs pins s5 σ H5 x1 x2 x5 ov iv new _ I5 r1 r2 r5 q5) fun _ s6 ⟨H6, I6, q6⟩ => ⟨σ, H6, I6, q6⟩
/-- ints -/
def ipI (f : Int → Int → Int) : TIp := fun x y H Q => ∃ i j, x = .int i ∧ y = .int j ∧ Q (.int (f i j)) H
theorem ip_add : PIp X .Add (ipI fun i j => i + j) := by
  intro pins s σ H x y v u Q I r1 r2 h
  obtain ⟨i, j, e1, e2, q⟩ := h
  subst e1; subst e2
  obtain ⟨t, rfl⟩ := r1
  obtain ⟨t', rfl⟩ := r2
  exact iadd_int ⟨.int _, H, I.tok _, ⟨_, rfl⟩, q⟩
end

/-! ### while -/
section
variable {X : Cx} {pos : Pos}
/-- the invariant W with its measure -/
def tWhile (c : TT) (tb : TS) : TS := fun D σ H => ∃ W : Nat → St → Hp → Prop, (∃ m, W m σ H) ∧ ∀ m σ H, W m σ H →
  c σ H fun b H1 => if b = true then ∃ N : St → Hp → Prop, (∀ σ' H', N σ' H' → ∃ m', m' < m ∧ W m' σ' H') ∧ tb { D with nx := N, ct := N, bk := D.nx } σ H1 else D.nx σ H1
theorem ps_while {c : Expr} {body : List Stmt} {tc : TT} {tb : TS} (hp : PassesOwn (model X.prog X.w) X.A X.env X.xe) (hc : PT X c tc) (hb : PSs X body tb) : PS X (.While c body [] pos) (tWhile tc tb) := by
  intro pins s σ H D I h
  obtain ⟨W, ⟨m0, w0⟩, turn⟩ := h
  refine wpAny_While (codeAny_whileLoop (fun n s' => ∃ σ' H', Inv X pins σ' H' s' ∧ W n σ' H') ?_ m0 ⟨σ, H, I, w0⟩)
  rintro n s1 ⟨σ1, H1, I1, w1⟩
  refine wpAny_passesOwn hp (thn (hc pins s1 σ1 H1 _ I1 (turn n σ1 H1 w1)) fun b s2 ⟨H2, I2, q2⟩ => ?_)
  cases b with
  | true =>
    obtain ⟨N, hN, q2⟩ := q2
    rw [if_pos rfl]
    refine wpAny_passesOwn hp (thn (hb pins s2 σ1 H2 _ I2 q2) fun f s3 q3 => ?_)
    cases f with
    | next =>
      obtain ⟨σ3, H3, I3, n3⟩ := q3
      obtain ⟨m', hm, w3⟩ := hN σ3 H3 n3
      exact ⟨m', hm, σ3, H3, I3, w3⟩
    | cont =>
      obtain ⟨σ3, H3, I3, n3⟩ := q3
      obtain ⟨m', hm, w3⟩ := hN σ3 H3 n3
      exact ⟨m', hm, σ3, H3, I3, w3⟩
    | brk => exact q3
    | ret v => exact q3
  | false =>
    rw [if_neg Bool.false_ne_true]
    exact wpAny_execs_nil ⟨σ1, H2, I2, q2⟩
end

/-! ### what a loop or a comprehension walks -/
/-- at turn i: it yields x (the heap may grow), or it stops -/
structure It where
  go : Nat → Hp → Prop
  yld : Nat → Hp → V → Hp → Prop
  stop : Nat → Hp → Prop
/-- the iterator's own objects may turn: they are not the frame's, not pinned, younger than the entry (or a comprehension's own) -/
def FpOk (X : Cx) (pins : List (Addr × Obj)) (H : Hp) (b : Addr) : Prop :=
  H b = none ∧ b ≠ X.env.locals ∧ b ∉ X.fs ∧ (b ∈ X.ex ∨ X.s₀.heap.objs.size ≤ b) ∧ (∀ x c, X.env.cells.lookup x = some c → c ≠ b) ∧ ∀ p ∈ X.pn ++ pins, p.1 ≠ b
theorem Inv.fpOk {X : Cx} {pins : List (Addr × Obj)} {σ : St} {H H' : Hp} {s : Shared} {b : Addr} (I : Inv X pins σ H s) (hb : s.heap.objs.size ≤ b) (hn : H' b = none) : FpOk X pins H' b := by
  refine ⟨hn, Nat.ne_of_gt (Nat.lt_of_lt_of_le I.lt hb), I.nofs hb, .inr (Nat.le_trans I.sz hb), fun x c e z => ?_, fun p hp z => ?_⟩
  · obtain ⟨v, q⟩ := I.cell x c e
    exact absurd (Nat.lt_of_lt_of_le q.lt (by rw [z]; exact hb)) (Nat.lt_irrefl _)
  · exact absurd (Nat.lt_of_lt_of_le (Heap.lt_size (I.pin p hp).1) (by rw [z]; exact hb)) (Nat.lt_irrefl _)
structure Turn (P : Program) (w : World) (K : PySem.W.Frag) (tg : Expr) (J : It) (fp : List Addr) (it : Addr) (tn : Nat → Heap → Prop) : Prop where
  mem : it ∈ fp
  obj : ∀ i h, tn i h → ∀ b ∈ fp, ∃ o, h.get? b = some o ∧ ∀ v, o.data ≠ .cell v
  keep : ∀ i h h', tn i h → (∀ b ∈ fp, ∀ o, h.get? b = some o → h'.get? b = some o) → tn i h'
  item : ∀ (X : Cx), X.prog = P → X.w = w → X.K = K → X.calm = true → ∀ (i : Nat) (pins : List (Addr × Obj)) (s : Shared) (σ : St) (H : Hp) (E : Value → Shared → Prop), Inv X pins σ H s → (∀ b ∈ fp, FpOk X pins H b) → tn i s.heap → J.go i H →
    wpAny (model P w) X.A (pyNext (.ref it)) (fun r s1 => ∃ u, r = some u ∧
      wpAny (model P w) X.A (letOwnedTupleGo tg (.ref it) u) (fun _ s2 => ∃ x H', Inv X pins σ H' s2 ∧ RelV x u ∧ J.yld i H x H' ∧ tn (i + 1) s2.heap ∧ ∀ b ∈ fp, H' b = none) E s1) E s
  done : ∀ (X : Cx), X.prog = P → X.w = w → X.K = K → X.calm = true → ∀ (i : Nat) (pins : List (Addr × Obj)) (s : Shared) (σ : St) (H : Hp) (E : Value → Shared → Prop), Inv X pins σ H s → (∀ b ∈ fp, FpOk X pins H b) → tn i s.heap → J.stop i H →
    wpAny (model P w) X.A (pyNext (.ref it)) (fun r s1 => r = none ∧ Inv X pins σ H s1) E s
  self : ∀ (A : Around) (i : Nat) (s : Shared) (Q : Value → Shared → Prop) (E : Value → Shared → Prop), tn i s.heap → Q (.ref it) s → wpAny (model P w) A (pyIter (.ref it)) Q E s
abbrev TI := St → Hp → (It → Hp → Prop) → Prop
/-- an iterator has come -/
def PIE (X : Cx) (pins : List (Addr × Obj)) (σ : St) (tg : Expr) (R : It → Hp → Prop) (itv : Value) (s2 : Shared) : Prop :=
  ∃ (it : Addr) (fp : List Addr) (tn : Nat → Heap → Prop) (J : It) (H' : Hp), itv = .ref it ∧ Inv X pins σ H' s2 ∧ Turn X.prog X.w X.K tg J fp it tn ∧ tn 0 s2.heap ∧ (∀ b ∈ fp, FpOk X pins H' b) ∧ R J H'
def PI (X : Cx) (tg iter : Expr) (wi : TI) : Prop :=
  ∀ (pins : List (Addr × Obj)) (s : Shared) (σ : St) (H : Hp) (R : It → Hp → Prop), Inv X pins σ H s → wi σ H R →
    wpAny (model X.prog X.w) X.A (eval iter X.env) (fun v s1 => wpAny (model X.prog X.w) X.A (pyIter v) (PIE X pins σ tg R) X.xe s1) X.xe s

/-- the step ahead of the store is nothing for an iterator that keeps no tuple -/
theorem go_of {M : Model} {A : Around} {E : Value → Shared → Prop} {s : Shared} {tg : Expr} {it : Addr} {u : Value} {o : Obj} {n : String} {vs : Array Value} {Q : Unit → Shared → Prop} (ho : s.heap.get? it = some o) (hc : o.cls = .type n) (hd : o.data = .fields vs)
    (hn : ["enumerate", "zip", "dict_itemiterator", "dict_reverseitemiterator", "odict_iterator", "itertools.zip_longest", "itertools.pairwise"].contains n = false) (hQ : Q () s) : wpAny M A (letOwnedTupleGo tg (.ref it) u) Q E s := by
  unfold letOwnedTupleGo
  cases tg <;> first
    | exact wpAny_pure hQ
    | (cases u <;> first
        | exact wpAny_pure hQ
        | (refine wpAny_bind (wpAny_load ho ?_)
           rw [hc, hd]
           show wpAny M A (if (["enumerate", "zip", "dict_itemiterator", "dict_reverseitemiterator", "odict_iterator", "itertools.zip_longest", "itertools.pairwise"].contains n && vs[0]? == some (rawInt _)) = true then _ else _) Q E s
           rw [if_neg (by intro h; rw [hn, Bool.false_and] at h; cases h)]
           exact wpAny_pure hQ))

/-- the list at a, as it stands at each turn (a loop may append to it) -/
def Itl (K : PySem.W.Frag) (a : Addr) : It :=
  ⟨fun i H => ∃ xs x, SqL K H a xs ∧ xs[i]? = some x, fun i H x H' => H' = H ∧ ∀ xs, SqL K H a xs → xs[i]? = some x, fun i H => ∃ xs, SqL K H a xs ∧ xs.length ≤ i⟩
def Itt (K : PySem.W.Frag) (a : Addr) : It :=
  ⟨fun i H => ∃ xs x, SqT K H a xs ∧ xs[i]? = some x, fun i H x H' => H' = H ∧ ∀ xs, SqT K H a xs → xs[i]? = some x, fun i H => ∃ xs, SqT K H a xs ∧ xs.length ≤ i⟩
/-- lo, lo + 1, .. (n of them) -/
def Itr (lo : Int) (n : Nat) : It := ⟨fun i _ => i < n, fun i H x H' => H' = H ∧ x = .int (lo + i), fun i _ => n ≤ i⟩
theorem turn_list {P : Program} {w : World} {K : PySem.W.Frag} {tg : Expr} (a it : Addr) : Turn P w K tg (Itl K a) [it] it (fun i h => h.IsListIter it a i) where
  mem := by simp
  obj := fun i h st b hb => by
    have e : b = it := by simpa using hb
    subst e
    obtain ⟨o, e, c, d⟩ := st
    exact ⟨o, e, fun v z => by rw [d] at z; cases z⟩
  keep := fun i h h' st k => st.at fun o e => k it (by simp) o e
  item := by
    intro X hP hw hK hc i pins s σ H E I hf st hg
    subst hP hw hK
    obtain ⟨xs, x, hq, hx⟩ := hg
    obtain ⟨its, rv, p, hz⟩ := I.list hq
    obtain ⟨u, hu, ru⟩ := rv.get hx
    obtain ⟨f0, f1, f2, f3, f4, f5⟩ := hf it (by simp)
    refine wpAny_pyNext_list_item st p.isList (x := u) (by simpa using hu) fun h' st' sb => ?_
    have I1 : Inv X pins σ H { s with heap := h' } := I.turned (t' := s.toks) (fun b o hb e => (sb.2 b hb).trans e) f0 f1 f3 f4 f5
    obtain ⟨o, e, c, d⟩ := id st'
    exact ⟨u, rfl, go_of (s := { s with heap := h' }) e c d (by decide) ⟨x, H, I1, ru, ⟨rfl, fun ys hy => by rw [I.list_inj hy hq]; exact hx⟩, st', fun b hb => (hf b hb).1⟩⟩
  done := by
    intro X hP hw hK hc i pins s σ H E I hf st hg
    subst hP hw hK
    obtain ⟨xs, hq, hx⟩ := hg
    obtain ⟨its, rv, p, hz⟩ := I.list hq
    obtain ⟨f0, f1, f2, f3, f4, f5⟩ := hf it (by simp)
    have hl := rv.length
    exact wpAny_pyNext_list_end (I.ok.hd hc) st p.isList (by simp; omega) fun h' eb => ⟨rfl, I.turned (t' := s.toks) (fun b o hb e => eb b o hb e) f0 f1 f3 f4 f5⟩
  self := fun _ _ _ _ _ st h => wpAny_pyIter_listiter st h
theorem turn_tuple {P : Program} {w : World} {K : PySem.W.Frag} {tg : Expr} (a it : Addr) : Turn P w K tg (Itt K a) [it] it (fun i h => h.IsTupleIter it a i) where
  mem := by simp
  obj := fun i h st b hb => by
    have e : b = it := by simpa using hb
    subst e
    obtain ⟨o, e, c, d⟩ := st
    exact ⟨o, e, fun v z => by rw [d] at z; cases z⟩
  keep := fun i h h' st k => st.at fun o e => k it (by simp) o e
  item := by
    intro X hP hw hK hc i pins s σ H E I hf st hg
    subst hP hw hK
    obtain ⟨xs, x, hq, hx⟩ := hg
    obtain ⟨its, rv, p, hz⟩ := I.tuple hq
    obtain ⟨u, hu, ru⟩ := rv.get hx
    obtain ⟨f0, f1, f2, f3, f4, f5⟩ := hf it (by simp)
    refine wpAny_pyNext_tuple_item st (show s.heap.IsTuple a its.toArray from p) (x := u) (by simpa using hu) fun h' st' sb => ?_
    have I1 : Inv X pins σ H { s with heap := h' } := I.turned (t' := s.toks) (fun b o hb e => (sb.2 b hb).trans e) f0 f1 f3 f4 f5
    obtain ⟨o, e, c, d⟩ := id st'
    exact ⟨u, rfl, go_of (s := { s with heap := h' }) e c d (by decide) ⟨x, H, I1, ru, ⟨rfl, fun ys hy => by rw [I.tuple_inj hy hq]; exact hx⟩, st', fun b hb => (hf b hb).1⟩⟩
  done := by
    intro X hP hw hK hc i pins s σ H E I hf st hg
    subst hP hw hK
    obtain ⟨xs, hq, hx⟩ := hg
    obtain ⟨its, rv, p, hz⟩ := I.tuple hq
    obtain ⟨f0, f1, f2, f3, f4, f5⟩ := hf it (by simp)
    have hl := rv.length
    exact wpAny_pyNext_tuple_end (I.ok.hd hc) st (show s.heap.IsTuple a its.toArray from p) (by simp; omega) fun h' eb => ⟨rfl, I.turned (t' := s.toks) (fun b o hb e => eb b o hb e) f0 f1 f3 f4 f5⟩
  self := fun _ _ _ _ _ st h => wpAny_pyIter_tupleiter st h
theorem turn_range {P : Program} {w : World} {K : PySem.W.Frag} {tg : Expr} (it : Addr) (lo : Int) (n : Nat) : Turn P w K tg (Itr lo n) [it] it (fun i h => IsRangeIter h it (lo + (i : Nat) * 1) ((n : Int) - (i : Nat)) 1) where
  mem := by simp
  obj := fun i h st b hb => by
    have e : b = it := by simpa using hb
    subst e
    exact ⟨_, st, fun v z => by
      have z' : Data.fields _ = Data.cell v := z
      cases z'⟩
  keep := fun i h h' st k => k it (by simp) _ st
  item := by
    intro X hP hw hK hc i pins s σ H E I hf st hg
    subst hP hw hK
    obtain ⟨f0, f1, f2, f3, f4, f5⟩ := hf it (by simp)
    have W := Walks.range (prog := X.prog) (w := X.w) (I.ok.hd hc) it lo 1 n
    refine W.item i s _ _ hg st fun v h' tk hv st' kk => ?_
    obtain ⟨t, rfl⟩ := hv
    have I1 : Inv X pins σ H { s with heap := h', toks := tk } := I.turned (fun b o hb e => kk b o (by simpa using hb) e) f0 f1 f3 f4 f5
    refine ⟨_, rfl, go_of (s := { s with heap := h', toks := tk }) (n := "range_iterator") st' rfl rfl (by decide) ⟨.int (lo + i), H, I1, ⟨t, ?_⟩, ⟨rfl, rfl⟩, st', fun b hb => (hf b hb).1⟩⟩
    rw [Int.mul_one]
  done := by
    intro X hP hw hK hc i pins s σ H E I hf st hg
    subst hP hw hK
    obtain ⟨f0, f1, f2, f3, f4, f5⟩ := hf it (by simp)
    exact wpAny_pyNext_range_end (I.ok.hd hc) st (by have : n ≤ i := hg; omega) fun h' eb => ⟨rfl, I.turned (t' := s.toks) (fun b o hb e => eb b o hb e) f0 f1 f3 f4 f5⟩
  self := fun _ _ _ _ _ st h => wpAny_pyIter_rangeiter st h
end L2

namespace L2
open PySem PySem.Spec PyProof.Rows
section
variable {X : Cx} {tg : Expr}
def iList (K : PySem.W.Frag) (tl : TE) : TI := fun σ H R => tl σ H fun x H1 => ∃ a, x = .ref a ∧ (∃ xs, SqL K H1 a xs) ∧ R (Itl K a) H1
def iTup (K : PySem.W.Frag) (tl : TE) : TI := fun σ H R => tl σ H fun x H1 => ∃ a, x = .ref a ∧ (∃ xs, SqT K H1 a xs) ∧ R (Itt K a) H1
theorem pi_list {l : Expr} {tl : TE} (hl : PE X l tl) : PI X tg l (iList X.K tl) := by
  intro pins s σ H R I h
  refine thn (hl pins s σ H _ I h) fun v s1 ⟨x, H1, I1, r1, q1⟩ => ?_
  obtain ⟨a, e, ⟨xs, hq⟩, q⟩ := q1
  subst e
  cases r1
  obtain ⟨its, rv, p, hz⟩ := I1.list hq
  refine wpAny_pyIter_list p.isList ?_
  refine ⟨s1.heap.objs.size, [s1.heap.objs.size], _, _, H1, rfl, I1.kept (t' := s1.toks) fun b o e => Heap.get?_push_of_some _ e, turn_list a _, ⟨_, Heap.get?_push_size _ rfl, rfl, rfl⟩, fun b hb => ?_, q⟩
  have e : b = s1.heap.objs.size := by simpa using hb
  subst e
  exact I1.fpOk (Nat.le_refl _) (I1.hok.fresh (Nat.le_refl _))
theorem pi_tup {l : Expr} {tl : TE} (hl : PE X l tl) : PI X tg l (iTup X.K tl) := by
  intro pins s σ H R I h
  refine thn (hl pins s σ H _ I h) fun v s1 ⟨x, H1, I1, r1, q1⟩ => ?_
  obtain ⟨a, e, ⟨xs, hq⟩, q⟩ := q1
  subst e
  cases r1
  obtain ⟨its, rv, p, hz⟩ := I1.tuple hq
  refine wpAny_pyIter_tuple (show s1.heap.IsTuple a its.toArray from p) ?_
  refine ⟨s1.heap.objs.size, [s1.heap.objs.size], _, _, H1, rfl, I1.kept (t' := s1.toks) fun b o e => Heap.get?_push_of_some _ e, turn_tuple a _, ⟨_, Heap.get?_push_size _ rfl, rfl, rfl⟩, fun b hb => ?_, q⟩
  have e : b = s1.heap.objs.size := by simpa using hb
  subst e
  exact I1.fpOk (Nat.le_refl _) (I1.hok.fresh (Nat.le_refl _))
/-- a range object just made, walked -/
theorem range_it {pins : List (Addr × Obj)} {σ : St} {H : Hp} {s : Shared} {R : It → Hp → Prop} {E : Value → Shared → Prop} {lo hi : Int} {t u v : Tok} {tk : Nat} (I : Inv X pins σ H s) (h1 : -(2 ^ 62) ≤ lo) (h2 : lo < 2 ^ 62) (h3 : -(2 ^ 62) ≤ hi) (h4 : hi < 2 ^ 62)
    (q : R (Itr lo (hi - lo).toNat) H) : wpAny (model X.prog X.w) X.A (pyIter (.ref s.heap.objs.size)) (PIE X pins σ tg R) E { s with heap := s.heap.push { cls := .type "range", data := .fields #[.int lo t, .int hi u, .int 1 v] }, toks := tk } := by
  refine wpAny_pyIter_range (IsRange.new ..) (small_one h1 h2 h3 h4) ?_
  have I1 : Inv X pins σ H { s with heap := s.heap.push { cls := .type "range", data := .fields #[.int lo t, .int hi u, .int 1 v] }, toks := tk } := I.kept fun b o e => Heap.get?_push_of_some _ e
  refine ⟨(s.heap.push { cls := .type "range", data := .fields #[.int lo t, .int hi u, .int 1 v] }).objs.size, [(s.heap.push { cls := .type "range", data := .fields #[.int lo t, .int hi u, .int 1 v] }).objs.size], _, _, H, rfl,
    I1.kept (t' := tk) fun b o e => Heap.get?_push_of_some _ e, turn_range _ lo (hi - lo).toNat, ?_, fun b hb => ?_, q⟩
  · have e1 : lo + ((0 : Nat) : Int) * 1 = lo := by simp
    have e2 : (((hi - lo).toNat : Nat) : Int) - ((0 : Nat) : Int) = Builtin.Range.rangeSize lo hi 1 := by rw [rangeSize_one]; split <;> omega
    show IsRangeIter _ _ (lo + ((0 : Nat) : Int) * 1) ((((hi - lo).toNat : Nat) : Int) - ((0 : Nat) : Int)) 1
    rw [e1, e2]
    exact Heap.get?_push_size _ rfl
  · have e : b = (s.heap.push { cls := .type "range", data := .fields #[.int lo t, .int hi u, .int 1 v] }).objs.size := by simpa using hb
    subst e
    exact I1.fpOk (Nat.le_refl _) (I1.hok.fresh (Nat.le_refl _))
def iRng1 (ta : TA) : TI := fun σ H R => ta σ H fun vs H1 => ∃ j : Int, vs = [.int j] ∧ -(2 ^ 62) ≤ j ∧ j < 2 ^ 62 ∧ R (Itr 0 j.toNat) H1
def iRng2 (ta : TA) : TI := fun σ H R => ta σ H fun vs H1 => ∃ i j : Int, vs = [.int i, .int j] ∧ (-(2 ^ 62) ≤ i ∧ i < 2 ^ 62 ∧ -(2 ^ 62) ≤ j ∧ j < 2 ^ 62) ∧ R (Itr i (j - i).toNat) H1
theorem pi_range1 {a : Expr} {ta : TA} {p pos : Pos} (hg : Gl X "range") (hm : X.mg "range" = none) (ha : PA X [a] ta) (hs : starEach [a] X.env = [(false, eval a X.env)] := by rfl) : PI X tg (.Call (.Name "range" p) [a] [] pos) (iRng1 ta) := by
  intro pins s σ H R I h
  refine Call_ (ld_blt I hg hm boot_range (PyProof.Rows.callWith_type1 (thn (ha pos pins s σ H _ I h) fun us s1 ⟨vs, H1, I1, r1, q1⟩ => ?_) hs rfl))
  obtain ⟨j, e, q1, q2, q⟩ := q1
  subst e
  cases r1 with
  | cons r rr =>
    cases rr
    obtain ⟨t, rfl⟩ := r
    exact call_range_1 (range_it I1 (by omega) (by omega) q1 q2 (by simpa using q))
theorem pi_range2 {a b : Expr} {ta : TA} {p pos : Pos} (hg : Gl X "range") (hm : X.mg "range" = none) (ha : PA X [a, b] ta) (hs : starEach [a, b] X.env = [(false, eval a X.env), (false, eval b X.env)] := by rfl) (hs2 : starEach [b] X.env = [(false, eval b X.env)] := by rfl) :
    PI X tg (.Call (.Name "range" p) [a, b] [] pos) (iRng2 ta) := by
  intro pins s σ H R I h
  refine Call_ (ld_blt I hg hm boot_range (PyProof.Rows.callWith_type1 (thn (ha pos pins s σ H _ I h) fun us s1 ⟨vs, H1, I1, r1, q1⟩ => ?_) (by rw [hs, hs2]) (by rw [hs2]; rfl)))
  obtain ⟨i, j, e, ⟨q1, q2, q3, q4⟩, q⟩ := q1
  subst e
  cases r1 with
  | cons r rr =>
    cases rr with
    | cons r' rr =>
      cases rr
      obtain ⟨t, rfl⟩ := r
      obtain ⟨t', rfl⟩ := r'
      exact call_range_2 (range_it I1 q1 q2 q3 q4 q)

/-! ### for -/
/-- W: the invariant by the turn and a measure; N: what the body is to reach -/
def tFor (wi : TI) (g : TG) (tb : TS) : TS := fun D σ H => wi σ H fun J H1 => ∃ W : Nat → Nat → St → Hp → Prop, (∃ m, W 0 m σ H1) ∧ ∀ i m σ H, W i m σ H →
  (J.stop i H ∧ D.nx σ H) ∨ (J.go i H ∧ ∃ N : St → Hp → Prop, (∀ σ' H', N σ' H' → ∃ m', m' < m ∧ W (i + 1) m' σ' H') ∧ ∀ x H', J.yld i H x H' → g x σ H' fun σ2 H2 => tb { D with nx := N, ct := N, bk := D.nx } σ2 H2)
/-- the records at fp as they stand -/
def pinsAt (fp : List Addr) (h : Heap) : List (Addr × Obj) := fp.filterMap fun b => (h.get? b).map fun o => (b, o)
theorem mem_pinsAt {fp : List Addr} {h : Heap} {b : Addr} {o : Obj} (hb : b ∈ fp) (e : h.get? b = some o) : (b, o) ∈ pinsAt fp h := List.mem_filterMap.mpr ⟨b, hb, by rw [e]; rfl⟩
theorem of_pinsAt {fp : List Addr} {h : Heap} {p : Addr × Obj} (hp : p ∈ pinsAt fp h) : p.1 ∈ fp ∧ h.get? p.1 = some p.2 := by
  obtain ⟨b, hb, e⟩ := List.mem_filterMap.mp hp
  cases q : h.get? b with
  | none => rw [q] at e; cases e
  | some o =>
    rw [q] at e
    have e' : (b, o) = p := Option.some.inj e
    subst e'
    exact ⟨hb, q⟩
theorem Inv.pinned {pins : List (Addr × Obj)} {σ : St} {H : Hp} {s : Shared} {fp : List Addr} (I : Inv X pins σ H s) (hf : ∀ b ∈ fp, FpOk X pins H b) (ho : ∀ b ∈ fp, ∃ o, s.heap.get? b = some o ∧ ∀ v, o.data ≠ .cell v) : Inv X (pins ++ pinsAt fp s.heap) σ H s :=
  I.pins_of fun p hp => (List.mem_append.mp hp).elim (fun z => I.pin p (List.mem_append_right _ z)) fun z => by
    obtain ⟨hb, e⟩ := of_pinsAt z
    obtain ⟨f0, f1, f2, _⟩ := hf p.1 hb
    obtain ⟨o, e', d⟩ := ho p.1 hb
    rw [e] at e'; cases e'
    exact ⟨e, f0, f1, f2, d⟩
theorem Inv.unpinned {pins pl : List (Addr × Obj)} {σ : St} {H : Hp} {s : Shared} (I : Inv X (pins ++ pl) σ H s) : Inv X pins σ H s := I.pins_of fun p hp => I.pin p (List.mem_append_right _ (List.mem_append_left _ hp))
theorem ps_for {iter : Expr} {body : List Stmt} {wi : TI} {g : TG} {tb : TS} {pos : Pos} (hp : PassesOwn (model X.prog X.w) X.A X.env X.xe) (hc : X.calm = true) (hi : PI X tg iter wi) (hg : PG X tg g) (hb : PSs X body tb)
    (hs : ∀ x, foldedSetIterable iter X.env x = pure x := by intro _; rfl) : PS X (.For tg iter body [] pos) (tFor wi g tb) := by
  intro pins s σ H D I h
  refine wpAny_For (thn (hi pins s σ H _ I h) fun v s1 h1 => thn h1 fun itv s2 h2 => ?_) hs
  obtain ⟨it, fp, tn, J, H2, e, I2, T, st2, f2, W, ⟨m0, w0⟩, turn⟩ := h2
  subst e
  -- what stays true of the iterator's objects through the loop
  have stat : ∀ {H' : Hp}, (∀ b ∈ fp, H' b = none) → ∀ b ∈ fp, FpOk X pins H' b := fun hn b hb => ⟨hn b hb, (f2 b hb).2⟩
  refine codeAny_forLoop_any (fun n s' => ∃ i σ' H', Inv X pins σ' H' s' ∧ tn i s'.heap ∧ (∀ b ∈ fp, H' b = none) ∧ W i n σ' H') ?_ m0 ⟨0, σ, H2, I2, st2, fun b hb => (f2 b hb).1, w0⟩
  rintro n s3 ⟨i, σ3, H3, I3, st3, fr3, w3⟩
  rcases turn i n σ3 H3 w3 with ⟨stop, qn⟩ | ⟨go, N, hN, step⟩
  · refine wpAny_passesOwn hp (thn (T.done X rfl rfl rfl hc i pins s3 σ3 H3 X.xe I3 (stat fr3) st3 stop) fun r s4 ⟨hr, I4⟩ => ?_)
    subst hr
    exact wpAny_execs_nil ⟨σ3, H3, I4, qn⟩
  · refine wpAny_passesOwn hp (thn (T.item X rfl rfl rfl hc i pins s3 σ3 H3 X.xe I3 (stat fr3) st3 go) fun r s4 ⟨u, hr, h4⟩ => ?_)
    subst hr
    refine wpAny_passesOwn hp (thn h4 fun _ s5 ⟨x, H5, I5, r5, y5, st5, fr5⟩ => ?_)
    have I5' := I5.pinned (stat fr5) (T.obj _ _ st5)
    refine wpAny_passesOwn hp (thn (hg _ s5 σ3 H5 x u _ I5' r5 (step x H5 y5)) fun _ s6 ⟨σ6, H6, I6, q6⟩ => ?_)
    refine wpAny_passesOwn hp (thn (hb _ s6 σ6 H6 _ I6 q6) fun f s7 q7 => ?_)
    have again : ∀ {σ7 : St} {H7 : Hp}, Inv X (pins ++ pinsAt fp s5.heap) σ7 H7 s7 → N σ7 H7 → ∃ m, m < n ∧ ∃ i σ' H', Inv X pins σ' H' s7 ∧ tn i s7.heap ∧ (∀ b ∈ fp, H' b = none) ∧ W i m σ' H' := fun {σ7 H7} I7 n7 => by
      obtain ⟨m', hm, w7⟩ := hN σ7 H7 n7
      refine ⟨m', hm, i + 1, σ7, H7, I7.unpinned, T.keep _ _ _ st5 fun b hb o e => (I7.pin (b, o) (List.mem_append_right _ (List.mem_append_right _ (mem_pinsAt hb e)))).1, fun b hb => ?_, w7⟩
      obtain ⟨o, e, d⟩ := T.obj _ _ st5 b hb
      exact (I7.pin (b, o) (List.mem_append_right _ (List.mem_append_right _ (mem_pinsAt hb e)))).2.1
    cases f with
    | next => obtain ⟨σ7, H7, I7, n7⟩ := q7; exact again I7 n7
    | cont => obtain ⟨σ7, H7, I7, n7⟩ := q7; exact again I7 n7
    | brk => obtain ⟨σ7, H7, I7, q7⟩ := q7; exact ⟨σ7, H7, I7.unpinned, q7⟩
    | ret v => obtain ⟨x7, σ7, H7, I7, r7, q7⟩ := q7; exact ⟨x7, σ7, H7, I7.unpinned, r7, q7⟩
end

/-! ### the forms one uses -/
/-- over a list that the body leaves as it is -/
theorem for_list {K : PySem.W.Frag} {a : Addr} {xs : List V} {g : TG} {tb : TS} {D : Ends} {σ : St} {H : Hp} (Pv : Nat → St → Hp → Prop) (h0 : Pv 0 σ H) (hl : ∀ i σ H, i ≤ xs.length → Pv i σ H → SqL K H a xs)
    (hs : ∀ i x σ H, xs[i]? = some x → Pv i σ H → g x σ H fun σ2 H2 => tb { D with nx := Pv (i + 1), ct := Pv (i + 1), bk := D.nx } σ2 H2) (hd : ∀ σ H, Pv xs.length σ H → D.nx σ H) :
    ∃ W : Nat → Nat → St → Hp → Prop, (∃ m, W 0 m σ H) ∧ ∀ i m σ H, W i m σ H →
      ((Itl K a).stop i H ∧ D.nx σ H) ∨ ((Itl K a).go i H ∧ ∃ N : St → Hp → Prop, (∀ σ' H', N σ' H' → ∃ m', m' < m ∧ W (i + 1) m' σ' H') ∧ ∀ x H', (Itl K a).yld i H x H' → g x σ H' fun σ2 H2 => tb { D with nx := N, ct := N, bk := D.nx } σ2 H2) := by
  refine ⟨fun i m σ H => m = xs.length - i ∧ i ≤ xs.length ∧ Pv i σ H, ⟨xs.length, by simp, Nat.zero_le _, h0⟩, ?_⟩
  rintro i m σ H ⟨rfl, hi, p⟩
  have q := hl i σ H hi p
  by_cases hlt : i < xs.length
  · refine .inr ⟨⟨xs, xs[i], q, by simp [hlt]⟩, Pv (i + 1), fun σ' H' p' => ⟨xs.length - (i + 1), by omega, rfl, hlt, p'⟩, fun x H' y => ?_⟩
    obtain ⟨e, y⟩ := y
    subst e
    exact hs i x σ _ (y xs q) p
  · have e : i = xs.length := by omega
    subst e
    exact .inl ⟨⟨xs, q, Nat.le_refl _⟩, hd σ H p⟩
theorem for_tup {K : PySem.W.Frag} {a : Addr} {xs : List V} {g : TG} {tb : TS} {D : Ends} {σ : St} {H : Hp} (Pv : Nat → St → Hp → Prop) (h0 : Pv 0 σ H) (hl : ∀ i σ H, i ≤ xs.length → Pv i σ H → SqT K H a xs)
    (hs : ∀ i x σ H, xs[i]? = some x → Pv i σ H → g x σ H fun σ2 H2 => tb { D with nx := Pv (i + 1), ct := Pv (i + 1), bk := D.nx } σ2 H2) (hd : ∀ σ H, Pv xs.length σ H → D.nx σ H) :
    ∃ W : Nat → Nat → St → Hp → Prop, (∃ m, W 0 m σ H) ∧ ∀ i m σ H, W i m σ H →
      ((Itt K a).stop i H ∧ D.nx σ H) ∨ ((Itt K a).go i H ∧ ∃ N : St → Hp → Prop, (∀ σ' H', N σ' H' → ∃ m', m' < m ∧ W (i + 1) m' σ' H') ∧ ∀ x H', (Itt K a).yld i H x H' → g x σ H' fun σ2 H2 => tb { D with nx := N, ct := N, bk := D.nx } σ2 H2) := by
  refine ⟨fun i m σ H => m = xs.length - i ∧ i ≤ xs.length ∧ Pv i σ H, ⟨xs.length, by simp, Nat.zero_le _, h0⟩, ?_⟩
  rintro i m σ H ⟨rfl, hi, p⟩
  have q := hl i σ H hi p
  by_cases hlt : i < xs.length
  · refine .inr ⟨⟨xs, xs[i], q, by simp [hlt]⟩, Pv (i + 1), fun σ' H' p' => ⟨xs.length - (i + 1), by omega, rfl, hlt, p'⟩, fun x H' y => ?_⟩
    obtain ⟨e, y⟩ := y
    subst e
    exact hs i x σ _ (y xs q) p
  · have e : i = xs.length := by omega
    subst e
    exact .inl ⟨⟨xs, q, Nat.le_refl _⟩, hd σ H p⟩
theorem for_range {lo : Int} {n : Nat} {g : TG} {tb : TS} {D : Ends} {σ : St} {H : Hp} (Pv : Nat → St → Hp → Prop) (h0 : Pv 0 σ H)
    (hs : ∀ i σ H, i < n → Pv i σ H → g (.int (lo + i)) σ H fun σ2 H2 => tb { D with nx := Pv (i + 1), ct := Pv (i + 1), bk := D.nx } σ2 H2) (hd : ∀ σ H, Pv n σ H → D.nx σ H) :
    ∃ W : Nat → Nat → St → Hp → Prop, (∃ m, W 0 m σ H) ∧ ∀ i m σ H, W i m σ H →
      ((Itr lo n).stop i H ∧ D.nx σ H) ∨ ((Itr lo n).go i H ∧ ∃ N : St → Hp → Prop, (∀ σ' H', N σ' H' → ∃ m', m' < m ∧ W (i + 1) m' σ' H') ∧ ∀ x H', (Itr lo n).yld i H x H' → g x σ H' fun σ2 H2 => tb { D with nx := N, ct := N, bk := D.nx } σ2 H2) := by
  refine ⟨fun i m σ H => m = n - i ∧ i ≤ n ∧ Pv i σ H, ⟨n, by simp, Nat.zero_le _, h0⟩, ?_⟩
  rintro i m σ H ⟨rfl, hi, p⟩
  by_cases hlt : i < n
  · refine .inr ⟨hlt, Pv (i + 1), fun σ' H' p' => ⟨n - (i + 1), by omega, rfl, hlt, p'⟩, fun x H' y => ?_⟩
    obtain ⟨e, y⟩ := y
    subst e y
    exact hs i σ _ hlt p
  · have e : i = n := by omega
    subst e
    exact .inl ⟨Nat.le_refl _, hd σ H p⟩
end L2

namespace L2
open PySem PySem.Spec PyProof.Rows

abbrev R2 := V → V → Hp → VK → Prop
/-- a two-place operation on values: f is binaryOp op, inplaceOp op or compareOp op -/
def OpR (X : Cx) (f : Value → Value → Sem Value) (r : R2) : Prop :=
  ∀ (pins : List (Addr × Obj)) (s : Shared) (σ : St) (H : Hp) (x y : V) (v u : Value) (Q : VK), Inv X pins σ H s → RelV x v → RelV y u → r x y H Q →
    wpAny (model X.prog X.w) X.A (f v u) (EP X pins σ Q) X.xe s
/-- a one-place operation -/
def UnR (X : Cx) (f : Value → Sem Value) (r : V → Hp → VK → Prop) : Prop :=
  ∀ (pins : List (Addr × Obj)) (s : Shared) (σ : St) (H : Hp) (x : V) (v : Value) (Q : VK), Inv X pins σ H s → RelV x v → r x H Q →
    wpAny (model X.prog X.w) X.A (f v) (EP X pins σ Q) X.xe s
/-- a call of a value that is known (a builtin, a type) with values -/
def CallR (X : Cx) (f : Value) (r : List V → Hp → VK → Prop) : Prop :=
  ∀ (pins : List (Addr × Obj)) (s : Shared) (σ : St) (H : Hp) (xs : List V) (us : List Value) (Q : VK), Inv X pins σ H s → Vals xs us → r xs H Q →
    wpAny (model X.prog X.w) X.A (call f us) (EP X pins σ Q) X.xe s
/-- a value's truth -/
def TruR (X : Cx) (r : V → Hp → (Bool → Hp → Prop) → Prop) : Prop :=
  ∀ (pins : List (Addr × Obj)) (s : Shared) (σ : St) (H : Hp) (x : V) (v : Value) (Q : Bool → Hp → Prop), Inv X pins σ H s → RelV x v → r x H Q →
    wpAny (model X.prog X.w) X.A (truthy v) (TP X pins σ Q) X.xe s

def tOp (r : R2) (ta tb : TE) : TE := fun σ H Q => ta σ H fun x H1 => tb σ H1 fun y H2 => r x y H2 Q
def tUn (r : V → Hp → VK → Prop) (ta : TE) : TE := fun σ H Q => ta σ H fun x H1 => r x H1 Q
/-- ints in, under C, and a value out -/
def rI (C : Int → Int → Prop) (g : Int → Int → V) : R2 := fun x y H Q => ∃ i j, x = .int i ∧ y = .int j ∧ C i j ∧ Q (g i j) H
def rI0 (g : Int → Int → V) : R2 := fun x y H Q => ∃ i j, x = .int i ∧ y = .int j ∧ Q (g i j) H
def rU (g : Int → V) : V → Hp → VK → Prop := fun x H Q => ∃ i, x = .int i ∧ Q (g i) H

section
variable {X : Cx} {a b c : Expr} {ta tb tc : TE} {pos : Pos}

theorem binT (ha : PE X a ta) (hb : PE X b tb) {pins : List (Addr × Obj)} {s : Shared} {σ : St} {H : Hp} {R : V → V → Hp → Prop} (I : Inv X pins σ H s)
    (h : ta σ H fun x H1 => tb σ H1 fun y H2 => R x y H2) {Q : Value → Shared → Prop} {f : Value → Value → Sem Value}
    (hf : ∀ v u s2 x y H2, Inv X pins σ H2 s2 → RelV x v → RelV y u → R x y H2 → wpAny (model X.prog X.w) X.A (f v u) Q X.xe s2) :
    wpAny (model X.prog X.w) X.A (eval a X.env) (fun v s₁ => wpAny (model X.prog X.w) X.A (eval b X.env) (fun u s₂ => wpAny (model X.prog X.w) X.A (f v u) Q X.xe s₂) X.xe s₁) X.xe s := by
  refine thn (ha pins s σ H _ I h) fun v s1 ⟨x, H1, I1, r1, q1⟩ => ?_
  refine thn (hb pins s1 σ H1 _ I1 q1) fun u s2 ⟨y, H2, I2, r2, q2⟩ => ?_
  exact hf v u s2 x y H2 I2 r1 r2 q2

theorem pe_op {op : Operator} {r : R2} (ho : OpR X (binaryOp op) r) (ha : PE X a ta) (hb : PE X b tb) : PE X (.BinOp a op b pos) (tOp r ta tb) := by
  intro pins s σ H Q I h
  exact wpAny_BinOp (binT ha hb I h fun v u s2 x y H2 I2 rx ry q => ho pins s2 σ H2 x y v u Q I2 rx ry q)
theorem pe_un {op : UnaryOp} {r : V → Hp → VK → Prop} (ho : UnR X (unaryOp op) r) (ha : PE X a ta) : PE X (.UnaryOp op a pos) (tUn r ta) := by
  intro pins s σ H Q I h
  exact UnaryOp_ (thn (ha pins s σ H _ I h) fun v s1 ⟨x, H1, I1, r1, q1⟩ => ho pins s1 σ H1 x v Q I1 r1 q1)
/-! ### ints -/
theorem opI {f : Value → Value → Sem Value} {C : Int → Int → Prop} {g : Int → Int → Int}
    (rule : ∀ (i j : Int) (t u : Tok) (s : Shared) (Q : Value → Shared → Prop) (E : Value → Shared → Prop), C i j → Q (.int (g i j) s.toks) { s with toks := s.toks + 1 } → wpAny (model X.prog X.w) X.A (f (.int i t) (.int j u)) Q E s) :
    OpR X f (rI C fun i j => .int (g i j)) := by
  intro pins s σ H x y v u Q I rx ry h
  obtain ⟨i, j, rfl, rfl, hc, q⟩ := h
  obtain ⟨t, rfl⟩ := rx
  obtain ⟨t', rfl⟩ := ry
  exact rule i j t t' s _ _ hc ⟨.int (g i j), H, I.tok _, ⟨_, rfl⟩, q⟩
theorem opI0 {f : Value → Value → Sem Value} {g : Int → Int → Int}
    (rule : ∀ (i j : Int) (t u : Tok) (s : Shared) (Q : Value → Shared → Prop) (E : Value → Shared → Prop), Q (.int (g i j) s.toks) { s with toks := s.toks + 1 } → wpAny (model X.prog X.w) X.A (f (.int i t) (.int j u)) Q E s) :
    OpR X f (rI0 fun i j => .int (g i j)) := by
  intro pins s σ H x y v u Q I rx ry h
  obtain ⟨i, j, rfl, rfl, q⟩ := h
  obtain ⟨t, rfl⟩ := rx
  obtain ⟨t', rfl⟩ := ry
  exact rule i j t t' s _ _ ⟨.int (g i j), H, I.tok _, ⟨_, rfl⟩, q⟩
theorem opB0 {f : Value → Value → Sem Value} {g : Int → Int → Bool}
    (rule : ∀ (i j : Int) (t u : Tok) (s : Shared) (Q : Value → Shared → Prop) (E : Value → Shared → Prop), Q (.bool (g i j)) s → wpAny (model X.prog X.w) X.A (f (.int i t) (.int j u)) Q E s) :
    OpR X f (rI0 fun i j => .bl (g i j)) := by
  intro pins s σ H x y v u Q I rx ry h
  obtain ⟨i, j, rfl, rfl, q⟩ := h
  obtain ⟨t, rfl⟩ := rx
  obtain ⟨t', rfl⟩ := ry
  exact rule i j t t' s _ _ ⟨.bl (g i j), H, I, rfl, q⟩

def CDiv (i j : Int) : Prop := 0 < j ∧ j < 1073741824
def CDivN (i j : Int) : Prop := j ≠ 0 ∧ j.natAbs < 1073741824
def CPow (i j : Int) : Prop := 0 ≤ j ∧ j ≤ 1000000 ∧ i.natAbs < 2 ^ 64
def CMul (i j : Int) : Prop := (-(2 ^ 64) < i ∧ i < 2 ^ 64) ∨ (-(2 ^ 64) < j ∧ j < 2 ^ 64)
theorem CMul.ok {i j : Int} (h : CMul i j) : IntMulOk i j := by
  rcases h with ⟨h1, h2⟩ | ⟨h1, h2⟩
  · exact .of_left (intBits_le_64 h1 h2)
  · exact .of_right (intBits_le_64 h1 h2)
theorem op_add : OpR X (binaryOp .Add) (rI0 fun i j => .int (i + j)) := opI0 fun _ _ _ _ _ _ _ q => add_int q
theorem op_sub : OpR X (binaryOp .Sub) (rI0 fun i j => .int (i - j)) := opI0 fun _ _ _ _ _ _ _ q => sub_int q
theorem op_mul : OpR X (binaryOp .Mult) (rI CMul fun i j => .int (i * j)) := opI fun _ _ _ _ _ _ _ hc q => mul_int q hc.ok
/-- // by a positive divisor -/
theorem op_fdiv : OpR X (binaryOp .FloorDiv) (rI CDiv fun i j => .int (i / j)) := opI fun i j _ _ _ _ _ hc q => by
  have h1 : (0 : Int) < j := hc.1
  have h2 : j < 1073741824 := hc.2
  exact floordiv_int (by omega) (by rw [Int.fdiv_eq_ediv_of_nonneg i (by omega)]; exact q) (.inl (PyProof.noPylong_small (by omega)))
/-- % by a positive divisor of any size -/
theorem op_mod : OpR X (binaryOp .Mod) (rI (fun _ j => 0 < j) fun i j => .int (i % j)) := opI fun i j _ _ _ _ _ hc q => by
  have h1 : (0 : Int) < j := hc
  exact mod_int' (by omega) (by rw [Int.fmod_eq_emod_of_nonneg i (by omega)]; exact q)
theorem unI {f : Value → Sem Value} {g : Int → Int}
    (rule : ∀ (i : Int) (t : Tok) (s : Shared) (Q : Value → Shared → Prop) (E : Value → Shared → Prop), Q (.int (g i) s.toks) { s with toks := s.toks + 1 } → wpAny (model X.prog X.w) X.A (f (.int i t)) Q E s) :
    UnR X f (rU fun i => .int (g i)) := by
  intro pins s σ H x v Q I rx h
  obtain ⟨i, rfl, q⟩ := h
  obtain ⟨t, rfl⟩ := rx
  exact rule i t s _ _ ⟨.int (g i), H, I.tok _, ⟨_, rfl⟩, q⟩
theorem un_neg : UnR X (unaryOp .USub) (rU fun i => .int (-i)) := unI fun _ _ _ _ _ q => neg_int q
/-! ### bools among ints: n += (a < b) -/
end

/-! ### comparisons -/
/-- the scalars that == tells apart as data does -/
def scal : V → V → Bool
  | .non, .non => true | .non, .int _ => true | .int _, .non => true | .non, .bl _ => true | .bl _, .non => true | .non, .str _ => true | .str _, .non => true
  | .int _, .int _ => true | .bl _, .bl _ => true | .str _, .str _ => true | .byt _, .byt _ => true
  | .int _, .str _ => true | .str _, .int _ => true | .bl _, .str _ => true | .str _, .bl _ => true
  | _, _ => false
def rEq : R2 := fun x y H Q => scal x y = true ∧ Q (.bl (decide (x = y))) H
def rNe : R2 := fun x y H Q => scal x y = true ∧ Q (.bl (!decide (x = y))) H

theorem dec_int {i j : Int} : decide (V.int i = V.int j) = (i == j) := by
  rw [Bool.eq_iff_iff]
  simp
theorem dec_bl {i j : Bool} : decide (V.bl i = V.bl j) = (i == j) := by
  rw [Bool.eq_iff_iff]
  simp
theorem dec_str {i j : Str} : decide (V.str i = V.str j) = (i == j) := by
  rw [Bool.eq_iff_iff]
  simp
theorem dec_byt {i j : Array UInt8} : decide (V.byt i = V.byt j) = (i.toList == j.toList) := by
  rw [Bool.eq_iff_iff]
  cases i
  cases j
  simp

section
variable {X : Cx} {a b c : Expr} {ta tb tc : TE} {pos : Pos}
theorem fin_bl {pins : List (Addr × Obj)} {σ : St} {H : Hp} {s : Shared} {Q : VK} {k k' : Bool} (I : Inv X pins σ H s) (q : Q (.bl k) H) (e : k = k') : EP X pins σ Q (.bool k') s := by
  subst e
  exact ⟨.bl k, H, I, rfl, q⟩
theorem op_eq : OpR X (compareOp .Eq) rEq := by
  intro pins s σ H x y v u Q I rx ry h
  obtain ⟨hs, q⟩ := h
  cases x with
  | non =>
    cases rx
    cases y with
    | non => cases ry; exact PySem.EqNone.eq_none_none (fin_bl I q (by simp))
    | bl j => cases ry; exact PySem.EqNone.eq_none_bool (fin_bl I q (by simp))
    | int j => obtain ⟨t', rfl⟩ := ry; exact PySem.EqNone.eq_none_int (fin_bl I q (by simp))
    | str j => obtain ⟨t', rfl⟩ := ry; exact PySem.EqNone.eq_none_str (fin_bl I q (by simp))
    | _ => exact absurd (show false = true from hs) Bool.false_ne_true
  | bl i =>
    cases rx
    cases y with
    | non => cases ry; exact PySem.EqNone.eq_bool_none (fin_bl I q (by simp))
    | bl j => cases ry; exact eq_bool (fin_bl I q dec_bl)
    | str j => obtain ⟨t', rfl⟩ := ry; exact PySem.EqMixed.eq_bool_str (fin_bl I q (by simp))
    | _ => exact absurd (show false = true from hs) Bool.false_ne_true
  | int i =>
    obtain ⟨t, rfl⟩ := rx
    cases y with
    | non => cases ry; exact PySem.EqNone.eq_int_none (fin_bl I q (by simp))
    | int j => obtain ⟨t', rfl⟩ := ry; exact eq_int (fin_bl I q dec_int)
    | str j => obtain ⟨t', rfl⟩ := ry; exact PySem.EqMixed.eq_int_str (fin_bl I q (by simp))
    | _ => exact absurd (show false = true from hs) Bool.false_ne_true
  | str i =>
    obtain ⟨t, rfl⟩ := rx
    cases y with
    | non => cases ry; exact PySem.EqNone.eq_str_none (fin_bl I q (by simp))
    | bl j => cases ry; exact PySem.EqMixed.eq_str_bool (fin_bl I q (by simp))
    | int j => obtain ⟨t', rfl⟩ := ry; exact PySem.EqMixed.eq_str_int (fin_bl I q (by simp))
    | str j => obtain ⟨t', rfl⟩ := ry; exact eq_str (fin_bl I q dec_str)
    | _ => exact absurd (show false = true from hs) Bool.false_ne_true
  | byt i =>
    obtain ⟨t, rfl⟩ := rx
    cases y with
    | byt j => obtain ⟨t', rfl⟩ := ry; exact PySem.W.eq_bytes (fin_bl I q dec_byt)
    | _ => exact absurd (show false = true from hs) Bool.false_ne_true
  | _ => cases y <;> exact absurd (show false = true from hs) Bool.false_ne_true
theorem op_ne : OpR X (compareOp .NotEq) rNe := by
  intro pins s σ H x y v u Q I rx ry h
  obtain ⟨hs, q⟩ := h
  cases x with
  | non =>
    cases rx
    cases y with
    | non => cases ry; exact PySem.EqNone.ne_none_none (fin_bl I q (by simp))
    | bl j => cases ry; exact PySem.EqNone.ne_none_bool (fin_bl I q (by simp))
    | int j => obtain ⟨t', rfl⟩ := ry; exact PySem.EqNone.ne_none_int (fin_bl I q (by simp))
    | str j => obtain ⟨t', rfl⟩ := ry; exact PySem.EqNone.ne_none_str (fin_bl I q (by simp))
    | _ => exact absurd (show false = true from hs) Bool.false_ne_true
  | bl i =>
    cases rx
    cases y with
    | non => cases ry; exact PySem.EqNone.ne_bool_none (fin_bl I q (by simp))
    | bl j => cases ry; exact ne_bool (fin_bl I q (congrArg not dec_bl))
    | str j => obtain ⟨t', rfl⟩ := ry; exact PySem.EqMixed.ne_bool_str (fin_bl I q (by simp))
    | _ => exact absurd (show false = true from hs) Bool.false_ne_true
  | int i =>
    obtain ⟨t, rfl⟩ := rx
    cases y with
    | non => cases ry; exact PySem.EqNone.ne_int_none (fin_bl I q (by simp))
    | int j => obtain ⟨t', rfl⟩ := ry; exact ne_int (fin_bl I q (congrArg not dec_int))
    | str j => obtain ⟨t', rfl⟩ := ry; exact PySem.EqMixed.ne_int_str (fin_bl I q (by simp))
    | _ => exact absurd (show false = true from hs) Bool.false_ne_true
  | str i =>
    obtain ⟨t, rfl⟩ := rx
    cases y with
    | non => cases ry; exact PySem.EqNone.ne_str_none (fin_bl I q (by simp))
    | bl j => cases ry; exact PySem.EqMixed.ne_str_bool (fin_bl I q (by simp))
    | int j => obtain ⟨t', rfl⟩ := ry; exact PySem.EqMixed.ne_str_int (fin_bl I q (by simp))
    | str j => obtain ⟨t', rfl⟩ := ry; exact ne_str (fin_bl I q (congrArg not dec_str))
    | _ => exact absurd (show false = true from hs) Bool.false_ne_true
  | byt i =>
    obtain ⟨t, rfl⟩ := rx
    cases y with
    | byt j => obtain ⟨t', rfl⟩ := ry; exact PySem.W.ne_bytes (fin_bl I q (congrArg not dec_byt))
    | _ => exact absurd (show false = true from hs) Bool.false_ne_true
  | _ => cases y <;> exact absurd (show false = true from hs) Bool.false_ne_true

theorem op_lt : OpR X (compareOp .Lt) (rI0 fun i j => .bl (decide (i < j))) := opB0 fun _ _ _ _ _ _ _ q => lt_int q
theorem op_le : OpR X (compareOp .LtE) (rI0 fun i j => .bl (decide (i ≤ j))) := opB0 fun _ _ _ _ _ _ _ q => le_int q
theorem op_gt : OpR X (compareOp .Gt) (rI0 fun i j => .bl (decide (j < i))) := opB0 fun _ _ _ _ _ _ _ q => gt_int q
/-- is, is not of two objects that are tracked lists or instances -/
def isObj : HO → Bool
  | .lst _ => true
  | .ins _ _ _ => true
  | _ => false
theorem nomark (b : Expr) {op : CmpOp} (h : op ≠ .In := by decide) (h2 : op ≠ .NotIn := by decide) : behindInMarks op b = false := by
  have e1 : (op == CmpOp.In) = false := by cases op <;> first | rfl | exact absurd rfl h
  have e2 : (op == CmpOp.NotIn) = false := by cases op <;> first | rfl | exact absurd rfl h2
  cases b <;> simp [behindInMarks, e1, e2]
/-- a comparison as a value; hm: nomark b, or (for in, not in) by with_unfolding_all rfl -/
theorem pe_cmpR {op : CmpOp} {r : R2} (ho : OpR X (compareOp op) r) (ha : PE X a ta) (hb : PE X b tb) (hm : behindInMarks op b = false) : PE X (.Compare a [op] [b] pos) (tOp r ta tb) := by
  intro pins s σ H Q I h
  exact wpAny_Compare1 (binT ha hb I h fun v u s2 x y H2 I2 rx ry q => ho pins s2 σ H2 x y v u Q I2 rx ry q) hm
/-- a reading of a value as a test -/
def tTest (t : TE) : TT := fun σ H Q => t σ H fun x H' => ∃ k, x = .bl k ∧ Q k H'
theorem pt_cmpR {op : CmpOp} {r : R2} (ho : OpR X (compareOp op) r) (ha : PE X a ta) (hb : PE X b tb) (hm : behindInMarks op b = false) : PT X (.Compare a [op] [b] pos) (tTest (tOp r ta tb)) := by
  intro pins s σ H Q I h
  refine wpAny_isTrue_Compare1 (thn (ha pins s σ H _ I h) fun v s1 ⟨x, H1, I1, r1, q1⟩ => thn (hb pins s1 σ H1 _ I1 q1) fun u s2 ⟨y, H2, I2, r2, q2⟩ =>
    thn (ho pins s2 σ H2 x y v u _ I2 r1 r2 q2) fun c s3 ⟨z, H3, I3, r3, k, e, q3⟩ => ?_) hm
  subst e
  cases r3
  exact wpAny_truthy_bool ⟨H3, I3, q3⟩
/-- a op1 b op2 c -/
def tChain (r r' : R2) (ta tb tc : TE) : TE := fun σ H Q => ta σ H fun x H1 => tb σ H1 fun y H2 => r x y H2 fun z H3 => ∃ k, z = .bl k ∧
  (if k = true then tc σ H3 fun w' H4 => r' y w' H4 Q else Q (.bl false) H3)
theorem pe_chain {op op' : CmpOp} {r r' : R2} (ho : OpR X (compareOp op) r) (ho' : OpR X (compareOp op') r') (ha : PE X a ta) (hb : PE X b tb) (hc : PE X c tc)
    (hm : lastMarks [op, op'] [b, c] = false := by with_unfolding_all rfl) : PE X (.Compare a [op, op'] [b, c] pos) (tChain r r' ta tb tc) := by
  intro pins s σ H Q I h
  refine Compare_chain (thn (ha pins s σ H _ I h) fun v s1 ⟨x, H1, I1, r1, q1⟩ => chain_link (thn (hb pins s1 σ H1 _ I1 q1) fun u s2 ⟨y, H2, I2, r2, q2⟩ =>
    thn (ho pins s2 σ H2 x y v u _ I2 r1 r2 q2) fun d s3 ⟨z, H3, I3, r3, k, e, q3⟩ => ?_)) hm
  subst e
  cases r3
  refine wpAny_truthy_bool ?_
  cases k with
  | false => exact ite_ff ⟨.bl false, H3, I3, rfl, q3⟩
  | true => exact ite_tt (chain_last (thn (hc pins s3 σ H3 _ I3 q3) fun w' s4 ⟨z', H4, I4, r4, q4⟩ => ho' pins s4 σ H4 y z' u w' Q I4 r2 r4 q4))
/-! ### truth -/
/-- a value's truth by the abstract heap -/
def TruV (K : PySem.W.Frag) (x : V) (H : Hp) (k : Bool) : Prop :=
  match x with
  | .non => k = false
  | .bl b => k = b
  | .int i => k = (i != 0)
  | .str y => y.length ≤ sizeLine ∧ k = ((y.length : Int) != 0)
  | .byt y => y.size ≤ sizeLine ∧ k = ((y.size : Int) != 0)
  | .ref p => (∃ xs, SqL K H p xs ∧ k = !xs.isEmpty) ∨ (∃ xs, SqT K H p xs ∧ k = !xs.isEmpty) ∨ ∃ kvs, H p = some (.dK kvs) ∧ k = !kvs.isEmpty
  | _ => False
theorem isEmpty_kv {κ : Type} {kvs : List (κ × V)} {vs : List (κ × Value)} (r : KV kvs vs) : (!vs.isEmpty) = !kvs.isEmpty := by
  cases r <;> rfl
theorem isEmpty_of {xs : List V} {its : List Value} (r : Vals xs its) : (!its.toArray.isEmpty) = !xs.isEmpty := by
  cases r <;> simp
theorem line63 : (sizeLine : Nat) < 2 ^ 63 := by rw [sizeLine_eq]; decide
theorem tru_ok : TruR X (fun x H Q => ∃ k, TruV X.K x H k ∧ Q k H) := by
  intro pins s σ H x v Q I rx h
  obtain ⟨k, e, q⟩ := h
  have hl := line63
  have hs : sizeLine = 16777216 := sizeLine_eq
  cases x with
  | non =>
    cases rx
    have e' : k = false := e
    subst e'
    exact truthy_none ⟨H, I, q⟩
  | bl b =>
    cases rx
    have e' : k = b := e
    subst e'
    exact wpAny_truthy_bool ⟨H, I, q⟩
  | int i =>
    obtain ⟨t, rfl⟩ := rx
    have e' : k = (i != 0) := e
    subst e'
    exact PySem.P.truthy_int ⟨H, I, q⟩
  | str y =>
    obtain ⟨t, rfl⟩ := rx
    obtain ⟨hy, e'⟩ : y.length ≤ sizeLine ∧ k = ((y.length : Int) != 0) := e
    subst e'
    exact PySem.P.truthy_str (by omega) ⟨H, I.tok _, q⟩
  | byt y =>
    obtain ⟨t, rfl⟩ := rx
    obtain ⟨hy, e'⟩ : y.size ≤ sizeLine ∧ k = ((y.size : Int) != 0) := e
    subst e'
    exact PySem.W.truthy_bytes (by omega) ⟨H, I.tok _, q⟩
  | ref p =>
    cases rx
    have e' : (∃ xs, SqL X.K H p xs ∧ k = !xs.isEmpty) ∨ (∃ xs, SqT X.K H p xs ∧ k = !xs.isEmpty) ∨ ∃ kvs, H p = some (.dK kvs) ∧ k = !kvs.isEmpty := e
    rcases e' with ⟨xs, hx, e'⟩ | ⟨xs, hx, e'⟩ | ⟨kvs, hx, e'⟩
    · subst e'
      obtain ⟨its, r, pl, hz⟩ := I.list hx
      have hlen := r.length
      exact wpAny_truthy_list pl.isList (by simp only [List.size_toArray]; omega) ⟨H, I.tok _, by rw [isEmpty_of r]; exact q⟩
    · subst e'
      obtain ⟨its, r, pl, hz⟩ := I.tuple hx
      have hlen := r.length
      exact truthy_tuple pl (by simp only [List.size_toArray]; omega) ⟨H, I.tok _, by rw [isEmpty_of r]; exact q⟩
    · subst e'
      obtain ⟨hz, hS, vs, r, m⟩ : kvs.length ≤ sizeLine ∧ (p == sysModules) = false ∧ ∃ vs, KV kvs vs ∧ s.heap.DictOf (mixKind X.prog X.w) p vs := I.hok p _ hx
      have hlen : kvs.length = vs.length := Paired.length r
      exact wpAny_truthy_dict hS m (by omega) ⟨H, I.tok _, by rw [isEmpty_kv r]; exact q⟩
  | _ => exact (show False from e).elim
/-- any expression whose test is its value's truth (a name, a call, a subscript, a field ..: he by fun _ => rfl) -/
theorem pt_truth (ha : PE X a ta) (he : ∀ whole, isTrue a X.env whole = (do let v ← whole; standAt a.pos; holding [v] (truthy v))) :
    PT X a (fun σ H Q => ta σ H fun x H' => ∃ k, TruV X.K x H' k ∧ Q k H') := by
  intro pins s σ H Q I h
  exact isTrue_plain (thn (ha pins s σ H _ I h) fun v s1 ⟨x, H1, I1, r1, q1⟩ => tru_ok pins s1 σ H1 x v Q I1 r1 q1) (he _)

/-! ### strs and bytes -/
def PlainIxT (b : Expr) : Prop := ∀ o i, subscripted b false o i = operate [o, i] (getItem o i)
/-! ### scalar builtins, by CallR -/
theorem vals1 {x : V} {us : List Value} (r : Vals [x] us) : ∃ u, us = [u] ∧ RelV x u := by
  cases r with
  | cons r1 r2 => cases r2; exact ⟨_, rfl, r1⟩
theorem vals2 {x y : V} {us : List Value} (r : Vals [x, y] us) : ∃ u w', us = [u, w'] ∧ RelV x u ∧ RelV y w' := by
  cases r with
  | cons r1 r2 =>
    cases r2 with
    | cons r3 r4 => cases r4; exact ⟨_, _, rfl, r1, r3⟩
theorem call_max2 (hc : X.calm = true) : CallR X (.builtin "max") (fun xs H Q => ∃ i j, xs = [.int i, .int j] ∧ Q (.int (if j > i then j else i)) H) := by
  intro pins s σ H xs us Q I r h
  obtain ⟨i, j, rfl, q⟩ := h
  obtain ⟨u, w', rfl, ⟨t, rfl⟩, ⟨t', rfl⟩⟩ := vals2 r
  refine max_two_ints (I.ok.hd hc) fun h' tk k => ⟨_, H, I.kept k, ?_, q⟩
  by_cases hj : j > i
  · rw [if_pos hj, if_pos hj]; exact ⟨_, rfl⟩
  · rw [if_neg hj, if_neg hj]; exact ⟨_, rfl⟩
theorem call_min2 (hc : X.calm = true) : CallR X (.builtin "min") (fun xs H Q => ∃ i j, xs = [.int i, .int j] ∧ Q (.int (if j < i then j else i)) H) := by
  intro pins s σ H xs us Q I r h
  obtain ⟨i, j, rfl, q⟩ := h
  obtain ⟨u, w', rfl, ⟨t, rfl⟩, ⟨t', rfl⟩⟩ := vals2 r
  refine min_two_ints (I.ok.hd hc) fun h' tk k => ⟨_, H, I.kept k, ?_, q⟩
  by_cases hj : j < i
  · rw [if_pos hj, if_pos hj]; exact ⟨_, rfl⟩
  · rw [if_neg hj, if_neg hj]; exact ⟨_, rfl⟩
theorem call_int1 : CallR X (.type "int") (fun xs H Q => (∃ i, xs = [.int i] ∧ Q (.int i) H) ∨ ∃ k, xs = [.bl k] ∧ Q (.int (if k then 1 else 0)) H) := by
  intro pins s σ H xs us Q I r h
  rcases h with ⟨i, rfl, q⟩ | ⟨k, rfl, q⟩
  · obtain ⟨u, rfl, t, rfl⟩ := vals1 r
    exact call_int_int ⟨.int i, H, I, ⟨_, rfl⟩, q⟩
  · obtain ⟨u, rfl, r1⟩ := vals1 r
    cases r1
    exact call_int_bool ⟨.int (if k then 1 else 0), H, I.tok _, ⟨_, rfl⟩, q⟩
/-- len of a str, a bytes, a list, a tuple -/
def LenV (K : PySem.W.Frag) (x : V) (H : Hp) (n : Nat) : Prop :=
  match x with
  | .str y => y.length ≤ sizeLine ∧ n = y.length
  | .byt y => y.size ≤ sizeLine ∧ n = y.size
  | .ref p => (∃ xs, SqL K H p xs ∧ n = xs.length) ∨ ∃ xs, SqT K H p xs ∧ n = xs.length
  | _ => False
end
end L2

namespace L2
open PySem PySem.Spec PyProof.Rows

/-! ### an instance, its attributes a map -/
structure ObjM (h : Heap) (x dx C : Addr) (mA : Str → Option Value) : Prop where
  obj : h.get? x = some (PySem.W.instObj C dx)
  ns : h.Ns1 dx mA
  ne : dx ≠ x

theorem lookIn_ns {h : Heap} {dx : Addr} {mA : Str → Option Value} (n : h.Ns1 dx mA) : ∃ od, h.get? dx = some od ∧ ∀ name, PySem.W.lookIn name od = some (mA name) := by
  obtain ⟨o, es, ep, ho, hd, hk, _, hm⟩ := n
  refine ⟨o, ho, fun name => ?_⟩
  have e := hm name
  unfold nsFind findBy at e
  rw [← Array.find?_toList] at e
  unfold PySem.W.lookIn
  rw [hd]
  dsimp only
  split
  · rename_i y q
    rw [q] at e
    exact congrArg some e
  · rename_i q
    rw [q] at e
    have a : es.toList.any (·.refKey) = false := by
      rw [List.any_eq_false]
      intro y hy
      obtain ⟨z, t, hkey⟩ := hk y (Array.mem_toList_iff.mp hy)
      simp [DictEntry.refKey, hkey]
    have a' : ¬ es.toList.any (·.refKey) = true := by rw [a]; exact Bool.false_ne_true
    rw [if_neg a']
    exact congrArg some e

theorem ObjM.look {h : Heap} {x dx C : Addr} {mA : Str → Option Value} (I : ObjM h x dx C mA) : ∃ od, PySem.W.InstAt h x (PySem.W.instObj C dx) C (some od) ∧ ∀ name, PySem.W.lookIn name od = some (mA name) :=
  let ⟨od, ho, hl⟩ := lookIn_ns I.ns
  ⟨od, ⟨I.obj, rfl, rfl, ho⟩, hl⟩

section
variable {prog : Program} {w : World} {A : Around} {E : Value → Shared → Prop} {s : Shared} {K : PySem.W.Frag} {x dx C f : Addr} {mA : Str → Option Value} {name : Str} {v : Value}

theorem get_map {expr : Bool} {Q : Value → Shared → Prop} (X : K.In s.heap) (I : ObjM s.heap x dx C mA) (hg : PySem.W.plainGet K C name = true) (hh : PySem.W.hasDictIn K C = true)
    (ha : PySem.W.findIn K (.ref C) name = some none) (hv : mA name = some v) (hv' : PySem.W.handedIn v = true) (h : Q v { s with toks := s.toks + 1 }) :
    wpAny (model prog w) A (getAttr (.ref x) name expr) Q E s := by
  obtain ⟨od, J, hl⟩ := I.look
  exact PySem.W.get_value X J (PySem.W.plainGet_of hg).1 (PySem.W.findObj_own hh ha rfl (by rw [hl, hv])) hv' h

theorem get_meth {pl : Sem Bool} {Q : Value × List Value → Shared → Prop} (X : K.In s.heap) (I : ObjM s.heap x dx C mA) (hg : PySem.W.plainGet K C name = true)
    (hf : PySem.W.findIn K (.ref C) name = some (some (.ref f))) (ht : PySem.W.isFn K (.ref f) = true) (hv : mA name = none) (h : Q (.ref f, [.ref x]) s) :
    wpAny (model prog w) A (getMethod (.ref x) name pl) Q E s := by
  obtain ⟨od, J, hl⟩ := I.look
  exact PySem.W.method_fn X J (PySem.W.plainGet_of hg).1 (PySem.W.plainGet_of hg).2 hf (beq_iff_eq.mp ht) (by show (PySem.W.lookIn name od).map (·.isSome) = some false; rw [hl, hv]; rfl) h

theorem set_map {ns : List Str} {Q : Unit → Shared → Prop} (X : K.In s.heap) (I : ObjM s.heap x dx C mA)
    (hs : PySem.W.findIn K (.ref C) "__setattr__" = some (some (.builtin "object.__setattr__"))) (hp : PySem.W.plainOver K C = true) (ht : PySem.W.takerIn K C name = some none) (hh : PySem.W.hasDictIn K C = true)
    (hw : PySem.Within mA ns) (hsz : ns.length ≤ sizeLine)
    (h : ∀ h', ObjM h' x dx C (fun y => if y = name then some v else mA y) → Heap.SameBut dx s.heap h' → Q () { s with heap := h', toks := s.toks + 2 }) :
    wpAny (model prog w) A (setAttr (.ref x) name v) Q E s := by
  obtain ⟨od, J, hl⟩ := I.look
  refine PySem.W.set_plain X J hs (PySem.W.osa_open (s := { s with toks := s.toks + 1 }) (r := none) X J hp ht fun b => ?_)
  obtain ⟨cd, hc, hd'⟩ := PySem.W.any_some hh
  have hx : s.heap.get? x = some ⟨.ref C, some dx, .plain, #[]⟩ := I.obj
  refine wpAny_bind (wpAny_pure (wpAny_bind (wpAny_bind (wpAny_loadPart hx (wpAny_bind (PySem.W.Looks.here (s := { s with toks := s.toks + 1 }) (PySem.W.looks_clsIn X hc) ?_))))))
  rw [hd']
  refine wpAny_pure (a := some dx) (wpAny_bind (wpAny_pure (wpAny_bind ?_)))
  refine wpAny_nsSet1 (s := { s with toks := s.toks + 1 }) I.ns fun h' hn2 hs2 => ?_
  obtain ⟨oD, esD, epD, hoD, hdD, hcD⟩ := hn2.count (PySem.Within.cons name v hw)
  refine wpAny_bind (wpAny_lookBehind hoD (by rw [hdD]; exact pastItsLine_dict (Nat.le_trans hcD (by rw [List.length_cons]; omega))) ?_)
  exact wpAny_pure (h _ ⟨(hs2.2 _ (Ne.symm I.ne)).trans I.obj, hn2, I.ne⟩ hs2)

/-- C(..): the dict at the heap's end, the instance behind it; then its __init__ -/
theorem make_map {R : Result → Shared → Prop} {vs : List Value} {kw : List (Str × Value)} (X : K.In s.heap) (hm : PySem.W.makesIn K C = true)
    (hi : PySem.W.findIn K (.ref C) "__init__" = some (some (.ref f))) (hf : PySem.W.typeIn K (.ref f) = some (.type "function"))
    (h : codeAny (model prog w) (A.under (.builtin "type.__call__" ⟨.ref C :: vs, kw⟩)) (.call (.ref f) ⟨.ref (s.heap.objs.size + 1) :: vs, kw⟩) (PySem.W.InitBack (s.heap.objs.size + 1) R)
      { s with heap := (s.heap.push PySem.W.emptyDict).push (PySem.W.instObj C s.heap.objs.size) }) :
    codeAny (model prog w) A (.call (.ref C) ⟨vs, kw⟩) R s := by
  obtain ⟨hh, g, d, t, os⟩ := s
  exact PySem.W.make_core (PySem.W.makes_of X hm) (PySem.W.looks_findIn X hi) (fun self => PySem.W.bind_fn X self hf) (.inl rfl) h
end

/-! ### the attributes as a list of pairs -/
def putF (f : Str) (v : V) : List (Str × V) → List (Str × V)
  | [] => [(f, v)]
  | (g, x) :: r => if g = f then (g, v) :: r else (g, x) :: putF f v r
theorem lookup_putF (f g : Str) (v : V) : ∀ fs : List (Str × V), (putF f v fs).lookup g = if g = f then some v else fs.lookup g
  | [] => by
    show List.lookup g [(f, v)] = _
    by_cases h : g = f
    · have hb : (g == f) = true := beq_iff_eq.mpr h
      simp only [List.lookup, hb, if_pos h]
    · have hb : (g == f) = false := beq_eq_false_iff_ne.mpr h
      simp only [List.lookup, hb, if_neg h]
  | (k, x) :: r => by
    have ih := lookup_putF f g v r
    rw [show putF f v ((k, x) :: r) = (if k = f then (k, v) :: r else (k, x) :: putF f v r) from rfl]
    by_cases hk : k = f
    · rw [if_pos hk]
      by_cases h : g = k
      · have hb : (g == k) = true := beq_iff_eq.mpr h
        simp only [List.lookup, hb, if_pos (h.trans hk)]
      · have hb : (g == k) = false := beq_eq_false_iff_ne.mpr h
        simp only [List.lookup, hb, if_neg (fun e : g = f => h (e.trans hk.symm))]
    · rw [if_neg hk]
      by_cases h : g = k
      · have hb : (g == k) = true := beq_iff_eq.mpr h
        simp only [List.lookup, hb, if_neg (fun e : g = f => hk (h.symm.trans e))]
      · have hb : (g == k) = false := beq_eq_false_iff_ne.mpr h
        simp only [List.lookup, hb]
        exact ih
theorem keys_putF (f : Str) (v : V) : ∀ fs : List (Str × V), f ∈ (putF f v fs).map (·.1) ∧ ∀ g, g ∈ fs.map (·.1) → g ∈ (putF f v fs).map (·.1)
  | [] => ⟨by simp [putF], fun g h => by simp at h⟩
  | (k, x) :: r => by
    obtain ⟨i1, i2⟩ := keys_putF f v r
    rw [show putF f v ((k, x) :: r) = (if k = f then (k, v) :: r else (k, x) :: putF f v r) from rfl]
    by_cases hk : k = f
    · rw [if_pos hk]
      subst hk
      exact ⟨by simp, fun g h => by simpa using h⟩
    · rw [if_neg hk]
      refine ⟨?_, fun g h => ?_⟩
      · rw [List.map_cons]
        exact List.mem_cons_of_mem _ i1
      · rw [List.map_cons] at h ⊢
        rcases List.mem_cons.mp h with e | e
        · exact List.mem_cons.mpr (.inl e)
        · exact List.mem_cons_of_mem _ (i2 g e)
theorem length_putF (f : Str) (v : V) : ∀ fs : List (Str × V), (putF f v fs).length ≤ fs.length + 1
  | [] => by simp [putF]
  | (k, x) :: r => by
    have ih := length_putF f v r
    rw [show putF f v ((k, x) :: r) = (if k = f then (k, v) :: r else (k, x) :: putF f v r) from rfl]
    by_cases hk : k = f
    · rw [if_pos hk, List.length_cons, List.length_cons]; omega
    · rw [if_neg hk, List.length_cons, List.length_cons]; omega

theorem RelO.some_of {v : V} {o : Option Value} (r : RelO (some v) o) : ∃ u, o = some u ∧ RelV v u := by
  cases o with
  | none => exact (show False from r).elim
  | some u => exact ⟨u, rfl, r⟩
theorem RelO.none_of {o : Option Value} (r : RelO none o) : o = none := by
  cases o with
  | none => rfl
  | some u => exact (show False from r).elim
theorem handed_of {v : V} {u : Value} (r : RelV v u) : PySem.W.handedIn u = true := by
  cases v with
  | non => cases (show u = Value.none from r); rfl
  | bl b => cases (show u = Value.bool b from r); rfl
  | int i => obtain ⟨t, e⟩ := (show ∃ t, u = Value.int i t from r); cases e; rfl
  | str x => obtain ⟨t, e⟩ := (show ∃ t, u = Value.str x t from r); cases e; rfl
  | byt b => obtain ⟨t, e⟩ := (show ∃ t, u = Value.bytes b t from r); cases e; rfl
  | flt b => obtain ⟨t, e⟩ := (show ∃ t, u = Value.float b t from r); cases e; rfl
  | ref a => cases (show u = Value.ref a from r); rfl
  | ty n => cases (show u = Value.type n from r); rfl

section
variable {P : Program} {w : World} {H H' : Hp} {h h' : Heap} {a C dx : Addr} {fs fs' : List (Str × V)}
theorem ins_get (hok : HOk P w H h) (e : H a = some (.ins C dx fs)) : ∃ mA, ObjM h a dx C mA ∧ (∀ f, RelO (fs.lookup f) (mA f)) ∧ PySem.Within mA (fs.map (·.1)) ∧ fs.length ≤ 1000 ∧ H dx = some (.own a) := by
  obtain ⟨d, z, ne, ob, mA, n, r, q⟩ := (show ObjOk P w H h a (.ins C dx fs) from hok a _ e)
  exact ⟨mA, ⟨ob, n, ne⟩, r, q, z, d⟩
end

/-! ### what of the text a class must have -/
structure Cls (K : PySem.W.Frag) (C : Addr) : Prop where
  pg : PySem.W.plainGet K C Str.empty = true
  hd : PySem.W.hasDictIn K C = true
  po : PySem.W.plainOver K C = true
  sa : PySem.W.findIn K (.ref C) "__setattr__" = some (some (.builtin "object.__setattr__"))
theorem Cls.get {K : PySem.W.Frag} {C : Addr} (c : Cls K C) (f : Str) : PySem.W.plainGet K C f = true := c.pg
/-- no class of it has the name -/
def NoAttr (K : PySem.W.Frag) (C : Addr) (f : Str) : Prop := PySem.W.findIn K (.ref C) f = some none
theorem NoAttr.taker {K : PySem.W.Frag} {C : Addr} {f : Str} (n : NoAttr K C f) : PySem.W.takerIn K C f = some none := by
  unfold PySem.W.takerIn
  rw [show PySem.W.findIn K (.ref C) f = some none from n]
  rfl
/-- a constant of the class -/
structure Con (K : PySem.W.Frag) (C : Addr) (f : Str) (v : V) (u : Value) : Prop where
  at_ : PySem.W.findIn K (.ref C) f = some (some u)
  rel : RelV v u
  get : PySem.W.specialIn K u "__get__" = some none
  cp : PySem.W.copiedNames.contains f = false
/-- a method: a plain def of the class or of one above it -/
structure Meth (K : PySem.W.Frag) (C : Addr) (m : Str) (f : Addr) : Prop where
  at_ : PySem.W.findIn K (.ref C) m = some (some (.ref f))
  fn : PySem.W.isFn K (.ref f) = true
  kp : PySem.W.keepIn K (.ref f) = true

section
variable {X : Cx} {pins : List (Addr × Obj)} {σ : St} {H : Hp} {s : Shared} {a C dx : Addr} {fs : List (Str × V)} {f : Str} {v : V} {A : Around} {E : Value → Shared → Prop}

theorem getattr_ok {b : Bool} {Q : Value → Shared → Prop} (I : Inv X pins σ H s) (e : H a = some (.ins C dx fs)) (c : Cls X.K C) (n : NoAttr X.K C f) (l : fs.lookup f = some v)
    (h : ∀ u s', Inv X pins σ H s' → RelV v u → Q u s') : wpAny (model X.prog X.w) A (getAttr (.ref a) f b) Q E s := by
  obtain ⟨mA, O, r, _, _, _⟩ := ins_get I.hok e
  obtain ⟨u, hu, ru⟩ := RelO.some_of (v := v) (o := mA f) (by rw [← l]; exact r f)
  exact get_map I.kIn O (c.get f) c.hd n hu (handed_of ru) (h u _ (I.tok _) ru)

theorem getmeth_ok {m : Str} {g : Addr} {pl : Sem Bool} {Q : Value × List Value → Shared → Prop} (I : Inv X pins σ H s) (e : H a = some (.ins C dx fs)) (c : Cls X.K C) (k : Meth X.K C m g) (l : fs.lookup m = none)
    (h : Q (.ref g, [.ref a]) s) : wpAny (model X.prog X.w) A (getMethod (.ref a) m pl) Q E s := by
  obtain ⟨mA, O, r, _, _, _⟩ := ins_get I.hok e
  have hn : mA m = none := RelO.none_of (by rw [← l]; exact r m)
  exact get_meth I.kIn O (c.get m) k.at_ k.fn hn h

theorem setattr_ok {y : V} {u : Value} {Q : Unit → Shared → Prop} (I : Inv X pins σ H s) (e : H a = some (.ins C dx fs)) (c : Cls X.K C) (n : NoAttr X.K C f) (hl : fs.length < 1000) (ry : RelV y u)
    (h : ∀ s', Inv X pins σ (upd H a (.ins C dx (putF f y fs))) s' → Q () s') : wpAny (model X.prog X.w) A (setAttr (.ref a) f u) Q E s := by
  obtain ⟨mA, O, r, wi, _, ho⟩ := ins_get I.hok e
  have hz : (fs.map (·.1)).length ≤ sizeLine := by rw [List.length_map, sizeLine_eq]; omega
  refine set_map I.kIn O c.sa c.po n.taker c.hd wi hz fun h' O' sb => h _ ?_
  have hd : ∃ o, h'.get? dx = some o := let ⟨o, _, _, e', _⟩ := O'.ns; ⟨o, e'⟩
  refine I.write (x := a) (e := dx) (by rw [e]; exact True.intro) (.inr ho) (fun b q hb z => (sb.2 b hb).trans z) hd ?_
  refine ⟨by rw [upd_ne O.ne]; exact ho, ?_, O.ne, O'.obj, _, O'.ns, fun g => ?_, fun g hg => ?_⟩
  · have := length_putF f y fs; omega
  · show RelO ((putF f y fs).lookup g) (if g = f then some u else mA g)
    rw [lookup_putF]
    by_cases q : g = f
    · rw [if_pos q, if_pos q]; exact ry
    · rw [if_neg q, if_neg q]; exact r g
  · by_cases q : g = f
    · rw [q]; exact (keys_putF f y fs).1
    · refine (keys_putF f y fs).2 g (wi g fun z => hg ?_)
      show (if g = f then some u else mA g) = none
      rw [if_neg q]; exact z

/-- a new instance, tracked, without attributes -/
theorem Inv.made (I : Inv X pins σ H s) : Inv X pins σ (upd (upd H s.heap.objs.size (.own (s.heap.objs.size + 1))) (s.heap.objs.size + 1) (.ins C s.heap.objs.size []))
    { s with heap := (s.heap.push PySem.W.emptyDict).push (PySem.W.instObj C s.heap.objs.size) } := by
  have e1 : (s.heap.push PySem.W.emptyDict).get? s.heap.objs.size = some PySem.W.emptyDict := Heap.get?_push_size s.heap rfl
  have e2 : ((s.heap.push PySem.W.emptyDict).push (PySem.W.instObj C s.heap.objs.size)).get? (s.heap.objs.size + 1) = some (PySem.W.instObj C s.heap.objs.size) := by
    have := Heap.get?_push_size (s.heap.push PySem.W.emptyDict) (o := PySem.W.instObj C s.heap.objs.size) rfl
    rwa [Heap.size_push] at this
  have e3 : (s.heap.push PySem.W.emptyDict).Ns s.heap.objs.size (fun _ => none) := ⟨PySem.W.emptyDict, #[], _, e1, rfl, (fun e he => absurd he (by simp)), fun _ => rfl⟩
  have I1 := I.laid (a := s.heap.objs.size) (o := .own (s.heap.objs.size + 1)) (h' := s.heap.push PySem.W.emptyDict) (t' := s.toks) (fun b u q => Heap.get?_push_of_some _ q) (Nat.le_refl _) ⟨_, e1⟩
  refine I1.laid (a := s.heap.objs.size + 1) (o := .ins C s.heap.objs.size []) (t' := s.toks) (fun b u q => Heap.get?_push_of_some _ q) (Nat.le_of_eq (Heap.size_push _ _)) ?_
  have ne : s.heap.objs.size ≠ s.heap.objs.size + 1 := Nat.ne_of_lt (Nat.lt_succ_self _)
  refine ⟨by rw [upd_ne ne, upd_same], Nat.zero_le _, ne, e2, fun _ => none, (Heap.Ns1.of_empty e3).at fun o q => Heap.get?_push_of_some _ q, fun _ => True.intro, fun y hy => absurd rfl hy⟩

/-- e.f where nothing but the object is asked: through attributeBase (super) and the last hold -/
theorem attr_of {prog : Program} {w : World} {env : Env} {e : Expr} {f : Str} {pos : Pos} {s : Shared} {Q : Value → Shared → Prop} (hb : attributeBase e f env (eval e env) = eval e env)
    (h : wpAny (model prog w) A (eval e env) (fun o s₁ => wpAny (model prog w) A (getAttr o f true) Q E s₁) E s) : wpAny (model prog w) A (eval (.Attribute e f pos) env) Q E s :=
  Attribute_any_ h (by rw [arm_eval_Attribute, hb])
end

/-! ### readings and rules -/
/-- e.f, an attribute of the instance -/
def tFld (K : PySem.W.Frag) (ta : TE) (f : Str) : TE := fun σ H Q => ta σ H fun x H1 => ∃ a C dx fs v, x = .ref a ∧ H1 a = some (.ins C dx fs) ∧ Cls K C ∧ NoAttr K C f ∧ fs.lookup f = some v ∧ Q v H1
/-- e.f, a constant of the class -/
def tCon (K : PySem.W.Frag) (ta : TE) (f : Str) : TE := fun σ H Q => ta σ H fun x H1 => ∃ a C dx fs v u, x = .ref a ∧ H1 a = some (.ins C dx fs) ∧ Cls K C ∧ Con K C f v u ∧ fs.lookup f = none ∧ Q v H1
/-- e.f = value -/
def sFld (K : PySem.W.Frag) (ta tv : TE) (f : Str) : TS := fun D σ H => tv σ H fun y H1 => ta σ H1 fun x H2 => ∃ a C dx fs, x = .ref a ∧ H2 a = some (.ins C dx fs) ∧ Cls K C ∧ NoAttr K C f ∧ fs.length < 1000 ∧
  D.nx σ (upd H2 a (.ins C dx (putF f y fs)))
/-- an augmented operator on two values -/
def InOp (X : Cx) (op : Operator) (rd : V → V → Hp → VK → Prop) : Prop :=
  ∀ (pins : List (Addr × Obj)) (s : Shared) (σ : St) (H : Hp) (x y : V) (u v : Value) (Q : VK), Inv X pins σ H s → RelV x u → RelV y v → rd x y H Q → wpAny (model X.prog X.w) X.A (inplaceOp op u v) (EP X pins σ Q) X.xe s
/-- e.f op= value -/
def sFldAug (K : PySem.W.Frag) (ta tv : TE) (rd : V → V → Hp → VK → Prop) (f : Str) : TS := fun D σ H => ta σ H fun x H1 => ∃ a C dx fs v, x = .ref a ∧ H1 a = some (.ins C dx fs) ∧ Cls K C ∧ NoAttr K C f ∧ fs.lookup f = some v ∧
  tv σ H1 fun y H2 => rd v y H2 fun z H3 => ∃ dx' fs', H3 a = some (.ins C dx' fs') ∧ fs'.length < 1000 ∧ D.nx σ (upd H3 a (.ins C dx' (putF f z fs')))

section
variable {X : Cx} {o e value : Expr} {f : Str} {pos pos' tpos : Pos} {ta tv : TE}
theorem pe_fld (he : PE X e ta) (hb : attributeBase e f X.env (eval e X.env) = eval e X.env) : PE X (.Attribute e f pos) (tFld X.K ta f) := by
  intro pins s σ H Q I h
  refine attr_of hb (thn (he pins s σ H _ I h) fun u s1 ⟨x, H1, I1, rx, a, C, dx, fs, v, ex, ea, c, n, l, q⟩ => ?_)
  subst ex
  obtain rfl : u = Value.ref a := rx
  exact getattr_ok I1 ea c n l fun u' s2 I2 ru => ⟨v, H1, I2, ru, q⟩
theorem ps_fld (ha : PE X o ta) (hv : PE X value tv) (hs : swapsWith value (some (.Attribute o f pos')) pos.line X.env = pure false) : PS X (.Assign [.Attribute o f pos'] value pos) (sFld X.K ta tv f) := by
  intro pins s σ H D I h
  refine plainObj_wpAny_Assign_Attribute (thn (hv pins s σ H _ I h) fun u s1 ⟨y, H1, I1, ry, q⟩ => thn (ha pins s1 σ H1 _ I1 q) fun ov s2 ⟨x, H2, I2, rx, a, C, dx, fs, ex, ea, c, n, l, q2⟩ => ?_) hs
  subst ex
  obtain rfl : ov = Value.ref a := rx
  exact setattr_ok I2 ea c n l ry fun s3 I3 => ⟨σ, _, I3, q2⟩
def rAdd : V → V → Hp → VK → Prop := fun x y H Q => ∃ i j, x = .int i ∧ y = .int j ∧ Q (.int (i + j)) H
def rSub : V → V → Hp → VK → Prop := fun x y H Q => ∃ i j, x = .int i ∧ y = .int j ∧ Q (.int (i - j)) H
/-- what is between an instance and its method: the tree of a method call -/
theorem methcall_of {pl : Sem Bool} {m : Str} {apos : Pos} {args : List Expr} {pins : List (Addr × Obj)} {s : Shared} {σ : St} {H : Hp} {Q : Value → Shared → Prop} {te : TE} (he : PE X e te) (I : Inv X pins σ H s)
    (h : te σ H fun x H1 => ∃ a C dx fs g, x = .ref a ∧ H1 a = some (.ins C dx fs) ∧ Cls X.K C ∧ Meth X.K C m g ∧ fs.lookup m = none ∧
      ∀ s1, Inv X pins σ H1 s1 → wpAny (model X.prog X.w) X.A (callWith pos (.ref g) [.ref a] (backTo pos (starEach args X.env)) (backToKw pos (keywordEach [] X.env))) Q X.xe s1)
    (ht : eval (.Call (.Attribute e m apos) args [] pos) X.env = (do
      let ov ← eval e X.env
      standAt apos.atName
      let (f, first) ← holding [ov] (getMethod ov m pl)
      callWith pos f first (backTo pos (starEach args X.env)) (backToKw pos (keywordEach [] X.env)))) :
    wpAny (model X.prog X.w) X.A (eval (.Call (.Attribute e m apos) args [] pos) X.env) Q X.xe s := by
  refine PySem.W.methodCall_KW (pl := pl) (thn (he pins s σ H _ I h) fun u s1 ⟨x, H1, I1, rx, a, C, dx, fs, g, ex, ea, c, k, l, q⟩ => ?_) ht
  subst ex
  obtain rfl : u = Value.ref a := rx
  exact getmeth_ok I1 ea c k l (q s1 I1)
end

/-! ### isinstance -/
section
variable {X : Cx} {pins : List (Addr × Obj)} {σ : St} {H : Hp} {s : Shared} {A : Around} {E : Value → Shared → Prop} {Q : Value → Shared → Prop} {c : Value} {b : Bool}
/-- the type of a value, as the fragment's deciders take it; for an instance its class -/
inductive TyOf (K : PySem.W.Frag) (H : Hp) : V → Value → Prop where
  | non : TyOf K H .non (.type "NoneType")
  | bl (x : Bool) : TyOf K H (.bl x) (.type "bool")
  | int (i : Int) : TyOf K H (.int i) (.type "int")
  | str (x : Str) : TyOf K H (.str x) (.type "str")
  | flt (x : UInt64) : TyOf K H (.flt x) (.type "float")
  | lst {a : Addr} {xs : List V} (e : H a = some (.lst xs)) : TyOf K H (.ref a) (.type "list")
  | frz {a : Addr} {o : Obj} {xs : List V} (e : H a = some (.frz o (.lst xs))) : TyOf K H (.ref a) (.type "list")
  | tup {a : Addr} {xs : List V} (e : H a = some (.tup xs)) : TyOf K H (.ref a) (.type "tuple")
  | dK {a : Addr} {kvs : List (Key × V)} (e : H a = some (.dK kvs)) : TyOf K H (.ref a) (.type "dict")
  | dT {a : Addr} {kvs : List (List Key × V)} (e : H a = some (.dT kvs)) : TyOf K H (.ref a) (.type "dict")
  | ins {a C dx : Addr} {fs : List (Str × V)} (e : H a = some (.ins C dx fs)) (cl : Cls K C) (ha : PySem.W.findIn K (.ref C) "__class__" = some (some (.builtin "object.__class__")))
      (hn : PySem.W.specialIn K (.builtin "object.__class__") "__get__" = some (some (.builtin "getset_descriptor.__get__"))) (htk : PySem.W.takesIn K (.builtin "object.__class__") = some true)
      (hm : PySem.W.mroIn K C (.type "object") = some true) : TyOf K H (.ref a) (.ref C)
/-- isinstance(x, c) for one class c, a built-in or an own one: kitOne's answer -/
theorem isinst_ok {x : V} {u t : Value} (I : Inv X pins σ H s) (rx : RelV x u) (ty : TyOf X.K H x t) (e : PySem.W.kitOne X.K t c = some b) (h : ∀ tk, Q (.bool b) { s with toks := tk }) :
    wpAny (model X.prog X.w) A (call (.builtin "isinstance") [u, c]) Q E s := by
  cases ty with
  | non => cases (show u = Value.none from rx); exact PySem.W.kia_one PySem.W.kitx_none I.kIn True.intro e (fun z => nomatch z) h
  | bl y => cases (show u = Value.bool y from rx); exact PySem.W.kia_one PySem.W.kitx_bool I.kIn True.intro e (fun z => nomatch z) h
  | int i => obtain ⟨t, q⟩ := (show ∃ t, u = Value.int i t from rx); cases q; exact PySem.W.kia_one PySem.W.kitx_int I.kIn True.intro e (fun z => nomatch z) h
  | str y => obtain ⟨t, q⟩ := (show ∃ t, u = Value.str y t from rx); cases q; exact PySem.W.kia_one PySem.W.kitx_str I.kIn True.intro e (fun z => nomatch z) h
  | flt y => obtain ⟨t, q⟩ := (show ∃ t, u = Value.float y t from rx); cases q; exact PySem.W.kia_one PySem.W.kitx_float I.kIn True.intro e (fun z => nomatch z) h
  | @lst a xs ea =>
    cases (show u = Value.ref a from rx)
    obtain ⟨_, _, n, _, h1⟩ := (show ObjOk X.prog X.w H s.heap a (.lst xs) from I.hok a _ ea)
    exact PySem.W.kia_one PySem.W.kitx_list I.kIn ⟨_, h1, rfl⟩ e (fun z => nomatch z) h
  | @frz a ob xs ea =>
    cases (show u = Value.ref a from rx)
    obtain ⟨_, _, _, n, _, h1⟩ := (show ObjOk X.prog X.w H s.heap a (.frz ob (.lst xs)) from I.hok a _ ea)
    exact PySem.W.kia_one PySem.W.kitx_list I.kIn ⟨_, h1, rfl⟩ e (fun z => nomatch z) h
  | @tup a xs ea =>
    cases (show u = Value.ref a from rx)
    obtain ⟨_, _, _, p⟩ := (show ObjOk X.prog X.w H s.heap a (.tup xs) from I.hok a _ ea)
    obtain ⟨o, h1, h2, _⟩ := p
    exact PySem.W.kia_one PySem.W.kitx_tuple I.kIn ⟨o, h1, h2⟩ e (fun z => nomatch z) h
  | @dK a kvs ea =>
    cases (show u = Value.ref a from rx)
    obtain ⟨_, _, vs, _, p⟩ := (show ObjOk X.prog X.w H s.heap a (.dK kvs) from I.hok a _ ea)
    obtain ⟨o, es, ep, h1, h2, _⟩ := p
    exact PySem.W.kia_one PySem.W.kitx_dict I.kIn ⟨o, h1, h2.1⟩ e (fun z => nomatch z) h
  | @dT a kvs ea =>
    cases (show u = Value.ref a from rx)
    obtain ⟨_, _, xs, _, o, es, ep, h1, h2, _⟩ := (show ObjOk X.prog X.w H s.heap a (.dT kvs) from I.hok a _ ea)
    exact PySem.W.kia_one PySem.W.kitx_dict I.kIn ⟨o, h1, h2.1⟩ e (fun z => nomatch z) h
  | @ins a C dx fs ea cl ha hn htk hm =>
    cases (show u = Value.ref a from rx)
    obtain ⟨mA, O, _⟩ := ins_get I.hok ea
    obtain ⟨od, J, _⟩ := O.look
    exact PySem.W.kia_one (PySem.W.kitx_own (cl.get _) cl.hd ha hn htk hm) I.kIn J e (fun z => nomatch z) h
end
end L2

namespace L2
open PySem PySem.Spec PyProof.Rows

/-! ### room -/
structure Room (k : Nat) (A : Around) : Prop where
  hd : A.handled = none
  dp : A.depth + 3 * k + 5 < recursionLimit
  un : A.units + 16 * k + 200 < cLine
theorem Room.mono {j k : Nat} {A : Around} (r : Room k A) (h : j ≤ k) : Room j A := ⟨r.hd, by have := r.dp; omega, by have := r.un; omega⟩
theorem Room.deeper {k : Nat} {A : Around} (r : Room (k + 1) A) (env : Env) : Room k (A.deeper env) :=
  ⟨r.hd, by have := r.dp; show A.depth + 1 + 3 * k + 5 < _; omega, by have := r.un; show A.units + 3 + 16 * k + 200 < _; omega⟩
theorem make_depth {A : Around} {C : Addr} {us : List Value} {kw : List (Str × Value)} : (A.under (.builtin "type.__call__" ⟨.ref C :: us, kw⟩)).depth = A.depth + 1 := by
  first | rfl | simp [Around.under, Code.weight, Code.isCreation, Code.isGuard, Code.isCaller, Code.frames, Code.isFrame, guardIds]
theorem make_units {A : Around} {C : Addr} {us : List Value} {kw : List (Str × Value)} : (A.under (.builtin "type.__call__" ⟨.ref C :: us, kw⟩)).units = A.units + 1 := by
  first | rfl | simp [Around.under, Code.cUnits, Code.frames, Code.isFrame]
theorem Room.make {k : Nat} {A : Around} (r : Room (k + 1) A) (C : Addr) (us : List Value) (kw : List (Str × Value)) : Room k (A.under (.builtin "type.__call__" ⟨.ref C :: us, kw⟩)) :=
  ⟨r.hd, by have := r.dp; rw [make_depth]; omega, by have := r.un; rw [make_units]; omega⟩
theorem Room.depth {k : Nat} {A : Around} (r : Room k A) : A.depth < recursionLimit := by have := r.dp; omega
theorem Room.units {k : Nat} {A : Around} (r : Room k A) : A.units + 64 < cLine := by have := r.un; omega
/-! ### argument lists and displays -/
def tNil : TA := fun _ H Q => Q [] H
def tCons (ta : TE) (tr : TA) : TA := fun σ H Q => ta σ H fun x H1 => tr σ H1 fun xs H2 => Q (x :: xs) H2
section
variable {X : Cx} {e : Expr} {es : List Expr} {te : TE} {t : TA} {pos : Pos}
theorem pa_nil : PA X [] tNil := fun _ _ _ _ H Q I h => Calls.spliced_nil ⟨[], H, I, .nil, h⟩
theorem pa_cons (ha : PE X e te) (hr : PA X es t) (hs : starEach (e :: es) X.env = (false, eval e X.env) :: starEach es X.env := by rfl) : PA X (e :: es) (tCons te t) := by
  intro pos pins s σ H Q I h
  rw [hs]
  show wpAny _ _ (spliced ((false, eval e X.env) :: backTo pos (starEach es X.env))) _ _ s
  refine Calls.spliced_cons (thn (ha pins s σ H _ I h) fun u s1 ⟨x, H1, I1, r1, q1⟩ => ?_)
  exact thn (hr pos pins s1 σ H1 _ I1 q1) fun us s2 ⟨xs, H2, I2, r2, q2⟩ => ⟨x :: xs, H2, I2, .cons r1 r2, q2⟩

/-- a tuple, a list of written items -/
def tTup (t : TA) : TE := fun σ H Q => t σ H fun xs H1 => xs.length ≤ sizeLine ∧ ∀ p, H1 p = none → Q (.ref p) (upd H1 p (.tup xs))
def tLst (t : TA) : TE := fun σ H Q => t σ H fun xs H1 => xs.length ≤ sizeLine ∧ ∀ p, H1 p = none → Q (.ref p) (upd H1 p (.lst xs))
theorem pe_tup {x1} (h : PA X es t) : PE X (.Tuple es x1 pos) (tTup t) := by
  intro pins s σ H Q I hq
  refine wpAny_Tuple_spliced (thn (h pos pins s σ H _ I hq) fun us s1 ⟨xs, H1, I1, r, z, q⟩ => ⟨by rw [← r.length]; exact z, ?_⟩)
  have hf : H1 s1.heap.objs.size = none := I1.hok.fresh (Nat.le_refl _)
  refine ⟨.ref s1.heap.objs.size, upd H1 s1.heap.objs.size (.tup xs), I1.laid (t' := s1.toks) (fun b u e => Heap.get?_push_of_some _ e) (Nat.le_refl _) ?_, rfl, q _ hf⟩
  exact ⟨z, us, r, ⟨_, Heap.get?_push_size _ rfl, rfl, _, rfl⟩⟩
theorem pe_lst (h : PA X es t) : PE X (.List es pos) (tLst t) := by
  intro pins s σ H Q I hq
  refine wpAny_List_spliced (thn (h pos pins s σ H _ I hq) fun us s1 ⟨xs, H1, I1, r, z, q⟩ => ⟨by rw [← r.length]; exact z, ?_⟩)
  have hf : H1 s1.heap.objs.size = none := I1.hok.fresh (Nat.le_refl _)
  refine ⟨.ref s1.heap.objs.size, upd H1 s1.heap.objs.size (.lst xs), I1.laid (t' := s1.toks) (fun b u e => Heap.get?_push_of_some _ e) (Nat.le_refl _) ?_, rfl, q _ hf⟩
  exact ⟨z, us, 0, r, Heap.get?_push_size _ rfl⟩
end

/-! ### what a def promises -/
/-- a def's promise: the bound arguments in the parameters' order, the heap, the wanted end, the wanted exception -/
abbrev Sp := List V → Hp → VK → XK → Prop
/-- how an exception lies behind a call (file 08 gives it): the callers' frames, abstract heap and state ahead of the call, the wish, the exception, the state -/
abbrev CXT := List Env → Hp → Shared → XK → Value → Shared → Prop

/-- the state at a call -/
structure Env0 (P : Program) (w : World) (K : PySem.W.Frag) (mg : Str → Option Value) (base : Heap) (A : Around) (outer : List Env) (s : Shared) (H : Hp) : Prop where
  frames : A.frames = some outer
  mod : Mod K mg base
  bs : ∀ b o, base.get? b = some o → s.heap.get? b = some o ∧ H b = none
  bsz : base.objs.size ≤ s.heap.objs.size
  funs : s.heap.FunFrames base outer
  frf : ∀ b ∈ frs outer, H b = none
  hok : HOk P w H s.heap
  bare : AllBare s.gens
/-- a call's end -/
def CE (outer : List Env) (P : Program) (w : World) (H : Hp) (s : Shared) (Q : VK) (u : Value) (s' : Shared) : Prop :=
  ∃ v H', s'.os = s.os ∧ AllBare s'.gens ∧ Un (frs outer) [] H H' s.heap s'.heap ∧ HOk P w H' s'.heap ∧ RelV v u ∧ Q v H'
def CR (CX : CXT) (outer : List Env) (P : Program) (w : World) (H : Hp) (s : Shared) (Q : VK) (E : XK) (r : Result) (s' : Shared) : Prop :=
  match r with
  | .ok (.ret u) => CE outer P w H s Q u s'
  | .ok _ => False
  | .error e => CX outer H s E e s'
structure FnOk (P : Program) (w : World) (K : PySem.W.Frag) (mg : Str → Option Value) (base : Heap) (CX : CXT) (k : Nat) (f : Addr) (fd : FuncData) (ps : List Str) (sp : Sp) : Prop where
  len : ∀ vs H Q E, sp vs H Q E → vs.length = ps.length
  run : ∀ (A : Around) (outer : List Env) (s : Shared) (H : Hp) (args : Args) (us : List Value) (vs : List V) (Q : VK) (E : XK), Room k A → Env0 P w K mg base A outer s H → BindsTo s fd args (ps.zip us) → Vals vs us → sp vs H Q E →
    codeAny (model P w) A (.call (.ref f) args) (CR CX outer P w H s Q E) s
theorem Env0.make {P : Program} {w : World} {K : PySem.W.Frag} {mg : Str → Option Value} {base : Heap} {A : Around} {outer : List Env} {s : Shared} {H : Hp} (e : Env0 P w K mg base A outer s H) (C : Addr) (us : List Value) (kw : List (Str × Value)) :
    Env0 P w K mg base (A.under (.builtin "type.__call__" ⟨.ref C :: us, kw⟩)) outer s H := ⟨by first | exact e.frames | (simpa [Around.under, Code.envs, Code.isFrame, pushEnvs] using e.frames), e.mod, e.bs, e.bsz, e.funs, e.frf, e.hok, e.bare⟩
section
variable {X : Cx} {pins : List (Addr × Obj)} {σ : St} {H : Hp} {s s' : Shared}
/-- from a body: what a callee wants -/
theorem Inv.env0 (I : Inv X pins σ H s) : Env0 X.prog X.w X.K X.mg X.base X.A X.stack s H :=
  ⟨I.ok.frames, I.ok.mod, I.bs, Nat.le_trans I.ok.bsz I.sz, I.stack, I.stkFree, I.hok, I.bare⟩
/-- behind a call -/
theorem Inv.after {Q : VK} {u : Value} (I : Inv X pins σ H s) (h : CE X.stack X.prog X.w H s Q u s') : EP X pins σ Q u s' := by
  obtain ⟨v, H', os, bare, un, hok, r, q⟩ := h
  obtain ⟨hh, g, d, t, os'⟩ := s'
  obtain rfl : os' = s.os := os
  exact ⟨v, H', I.call (h' := hh) (g' := g) (d' := d) (t' := t) (ch := []) un hok bare (fun b z => absurd z (by simp)), r, q⟩
end

/-! ### calls -/
/-- f(..): the written arguments, then the defaults dvs; E: what is wanted of an exception -/
def tCall (sp : Sp) (dvs : List V) (E : XK) (t : TA) : TE := fun σ H Q => t σ H fun vs H1 => sp (vs ++ dvs) H1 Q E
/-- o.m(..) of an instance of the class at C -/
def tMeth (C : Addr) (m : Str) (sp : Sp) (dvs : List V) (E : XK) (ta : TE) (t : TA) : TE := fun σ H Q => ta σ H fun x H1 => ∃ a dx fs, x = .ref a ∧ H1 a = some (.ins C dx fs) ∧ fs.lookup m = none ∧
  t σ H1 fun vs H2 => sp (x :: (vs ++ dvs)) H2 Q E
/-- C(..): a new instance and its dict, then __init__ -/
def tMake (C : Addr) (sp : Sp) (dvs : List V) (E : XK) (t : TA) : TE := fun σ H Q => t σ H fun vs H1 => ∀ x dx, H1 x = none → H1 dx = none → dx ≠ x →
  sp (.ref x :: (vs ++ dvs)) (upd (upd H1 dx (.own x)) x (.ins C dx [])) (fun v H2 => v = .non ∧ Q (.ref x) H2) E

/-- how the parameters are bound: us the positional arguments, kw the keywords' values by name, ds the defaults that fill up -/
def Binds (K : PySem.W.Frag) (fd : FuncData) (ps : List Str) (ds : List Value) : Prop :=
  ∀ (s : Shared) (us : List Value), K.In s.heap → (us ++ ds).length = ps.length → BindsTo s fd ⟨us, []⟩ (ps.zip (us ++ ds))
/-- every parameter is given -/
theorem Binds.all {K : PySem.W.Frag} {fd : FuncData} {ps : List Str} (h : ∀ us : List Value, us.length = ps.length → bindArgs fd ⟨us, []⟩ = pure (ps.zip us)) : Binds K fd ps [] := fun s us _ hl => by
  rw [List.append_nil] at hl ⊢
  exact .of_eq (h us hl)

/-- an exception of a callee reaches what this body wants of exceptions -/
def Passes (CX : CXT) (X : Cx) (E : XK) : Prop := ∀ (pins : List (Addr × Obj)) (σ : St) (H : Hp) (s : Shared) (e : Value) (s' : Shared), Inv X pins σ H s → CX X.stack H s E e s' → X.xe e s'

section
variable {X : Cx} {CX : CXT} {k : Nat} {f C : Addr} {fd : FuncData} {ps : List Str} {sp : Sp} {dvs : List V} {ds : List Value} {E : XK} {x m : Str} {p pos apos : Pos} {e o : Expr} {es : List Expr} {ta : TE} {t : TA}

/-- the callee runs -/
theorem run_fn {pins : List (Addr × Obj)} {σ : St} {H : Hp} {s : Shared} {Q : VK} {us : List Value} {vs : List V} (F : FnOk X.prog X.w X.K X.mg X.base CX k f fd ps sp) (hr : Room k X.A) (hb : Binds X.K fd ps ds) (hd : Vals dvs ds) (hx : Passes CX X E)
    (I : Inv X pins σ H s) (r : Vals vs us) (h : sp (vs ++ dvs) H Q E) : wpAny (model X.prog X.w) X.A (call (.ref f) us) (EP X pins σ Q) X.xe s := by
  have r2 : Vals (vs ++ dvs) (us ++ ds) := r.append hd
  have hl : (us ++ ds).length = ps.length := by rw [← r2.length]; exact F.len _ _ _ _ h
  refine wpAny_call (codeAny_mono (F.run X.A X.stack s H ⟨us, []⟩ (us ++ ds) (vs ++ dvs) Q E hr I.env0 (hb s us I.kIn hl) r2 h) fun r s' hq => ?_)
  cases r with
  | error e => exact hx pins σ H s e s' I hq
  | ok fl =>
    cases fl with
    | ret u => exact I.after hq
    | next => exact False.elim hq
    | brk => exact False.elim hq
    | cont => exact False.elim hq

theorem pe_call (F : FnOk X.prog X.w X.K X.mg X.base CX k f fd ps sp) (hr : Room k X.A) (hg : Gl X x) (hm : X.mg x = some (.ref f)) (hk : PySem.W.keepIn X.K (.ref f) = true) (hb : Binds X.K fd ps ds) (hd : Vals dvs ds) (hx : Passes CX X E)
    (ha : PA X (e :: es) t) (hdb : (x == ("__debug__" : Str)) = false := by decide) (he : starEach (e :: es) X.env = (false, eval e X.env) :: starEach es X.env := by rfl) (hpl : (backTo pos (starEach es X.env)).any (·.1) = false := by rfl) :
    PE X (.Call (.Name x p) (e :: es) [] pos) (tCall sp dvs E t) := by
  intro pins s σ H Q I h
  refine wpAny_Call_Name_kw (ld_glob I hg hm ?_ hdb)
  refine PySem.W.callWith_K (h₀ := X.base) I.ok.mod.kin hk (thn (ha pos pins s σ H _ I h) fun us s1 ⟨vs, H1, I1, r, q⟩ => ⟨I1.kIn, ?_⟩) he hpl
  exact run_fn F hr hb hd hx I1 r q
/-- o.m() -/
theorem pe_meth0 {pl : Sem Bool} (he : PE X o ta) (c : Cls X.K C) (hm : Meth X.K C m f) (F : FnOk X.prog X.w X.K X.mg X.base CX k f fd ps sp) (hr : Room k X.A) (hb : Binds X.K fd ps ds) (hd : Vals dvs ds) (hx : Passes CX X E)
    (ht : eval (.Call (.Attribute o m apos) [] [] pos) X.env = (do
      let ov ← eval o X.env
      standAt apos.atName
      let (f, first) ← holding [ov] (getMethod ov m pl)
      callWith pos f first (backTo pos (starEach [] X.env)) (backToKw pos (keywordEach [] X.env))) := by rfl) :
    PE X (.Call (.Attribute o m apos) [] [] pos) (tMeth C m sp dvs E ta tNil) := by
  intro pins s σ H Q I h
  refine PySem.W.methodCall_KW (pl := pl) (thn (he pins s σ H _ I h) fun u s1 ⟨x, H1, I1, rx, a, dx, fs, ex, ea, l, q⟩ => ?_) ht
  subst ex
  obtain rfl : u = Value.ref a := rx
  refine getmeth_ok I1 ea c hm l ?_
  exact PySem.W.callWith_K0 (first := [.ref a]) I1.kIn hm.kp (run_fn (us := [.ref a]) (vs := [.ref a]) F hr hb hd hx I1 (.cons rfl .nil) q)

/-- what a class must have to be made -/
structure Mk (K : PySem.W.Frag) (C f : Addr) : Prop where
  makes : PySem.W.makesIn K C = true
  init : PySem.W.findIn K (.ref C) "__init__" = some (some (.ref f))
  fn : PySem.W.isFn K (.ref f) = true
  kp : PySem.W.keepIn K (.ref C) = true

theorem run_make {pins : List (Addr × Obj)} {σ : St} {H : Hp} {s : Shared} {Q : VK} {us : List Value} {vs : List V} (M : Mk X.K C f) (F : FnOk X.prog X.w X.K X.mg X.base CX k f fd ps sp) (hr : Room (k + 1) X.A) (hb : Binds X.K fd ps ds) (hd : Vals dvs ds)
    (hx : Passes CX X E) (I : Inv X pins σ H s) (r : Vals vs us)
    (h : ∀ x dx, H x = none → H dx = none → dx ≠ x → sp (.ref x :: (vs ++ dvs)) (upd (upd H dx (.own x)) x (.ins C dx [])) (fun v H2 => v = .non ∧ Q (.ref x) H2) E) :
    wpAny (model X.prog X.w) X.A (call (.ref C) us) (EP X pins σ Q) X.xe s := by
  have hq := h (s.heap.objs.size + 1) s.heap.objs.size (I.hok.fresh (Nat.le_succ _)) (I.hok.fresh (Nat.le_refl _)) (Nat.ne_of_lt (Nat.lt_succ_self _))
  have I2 := Inv.made (C := C) I
  have r2 : Vals (V.ref (s.heap.objs.size + 1) :: (vs ++ dvs)) (Value.ref (s.heap.objs.size + 1) :: (us ++ ds)) := .cons rfl (r.append hd)
  have hl : (Value.ref (s.heap.objs.size + 1) :: us ++ ds).length = ps.length := by
    have e := r2.length
    rw [F.len _ _ _ _ hq] at e
    exact e.symm
  refine wpAny_call (make_map (f := f) I.kIn M.makes M.init (beq_iff_eq.mp M.fn) (codeAny_mono (F.run _ X.stack _ _ ⟨Value.ref (s.heap.objs.size + 1) :: us, []⟩ (Value.ref (s.heap.objs.size + 1) :: (us ++ ds)) _ _ E (hr.make C us [])
    (I2.env0.make C us []) (hb _ (Value.ref (s.heap.objs.size + 1) :: us) I2.kIn hl) r2 hq) fun r s' hq' => ?_))
  cases r with
  | error e => exact hx pins σ _ _ e s' I2 hq'
  | ok fl =>
    cases fl with
    | ret u =>
      obtain ⟨v, H', I3, rv, ev, q3⟩ := I2.after hq'
      subst ev
      exact ⟨rv, ⟨V.ref (s.heap.objs.size + 1), H', I3, rfl, q3⟩⟩
    | next => exact False.elim hq'
    | brk => exact False.elim hq'
    | cont => exact False.elim hq'
theorem pe_make (M : Mk X.K C f) (F : FnOk X.prog X.w X.K X.mg X.base CX k f fd ps sp) (hr : Room (k + 1) X.A) (hg : Gl X x) (hm : X.mg x = some (.ref C)) (hb : Binds X.K fd ps ds) (hd : Vals dvs ds) (hx : Passes CX X E)
    (ha : PA X (e :: es) t) (hdb : (x == ("__debug__" : Str)) = false := by decide) (he : starEach (e :: es) X.env = (false, eval e X.env) :: starEach es X.env := by rfl) (hpl : (backTo pos (starEach es X.env)).any (·.1) = false := by rfl) :
    PE X (.Call (.Name x p) (e :: es) [] pos) (tMake C sp dvs E t) := by
  intro pins s σ H Q I h
  refine wpAny_Call_Name_kw (ld_glob I hg hm ?_ hdb)
  refine PySem.W.callWith_K (h₀ := X.base) I.ok.mod.kin M.kp (thn (ha pos pins s σ H _ I h) fun us s1 ⟨vs, H1, I1, r, q⟩ => ⟨I1.kIn, ?_⟩) he hpl
  exact run_make M F hr hb hd hx I1 r q
end

/-! ### keywords -/
/-- the values of the keywords, from the left -/
def PK (X : Cx) (kws : List Keyword) (t : TA) : Prop :=
  ∀ (pos : Pos) (pins : List (Addr × Obj)) (s : Shared) (σ : St) (H : Hp) (Q : List V → Hp → Prop), Inv X pins σ H s → t σ H Q → wpAny (model X.prog X.w) X.A (evalAll ((backToKw pos (keywordEach kws X.env)).map (·.2))) (AP X pins σ Q) X.xe s
section
variable {X : Cx} {CX : CXT} {k : Nat} {f C : Addr} {fd : FuncData} {ps ks : List Str} {sp : Sp} {E : XK} {x m : Str} {p pos apos kpos : Pos} {e o : Expr} {es : List Expr} {kws : List Keyword} {te ta : TE} {t tk : TA} {nm : Option Str}
/-- how a call with keywords binds: g puts the positional values us and the keywords' values ws (names ks) in the parameters' order, defaults among them -/
structure KBinds (K : PySem.W.Frag) (fd : FuncData) (ps ks : List Str) (g : List Value → List Value → List Value) (gV : List V → List V → List V) : Prop where
  to : ∀ (s : Shared) (us ws : List Value), K.In s.heap → (g us ws).length = ps.length → BindsTo s fd ⟨us, ks.zip ws⟩ (ps.zip (g us ws))
  rel : ∀ {vs : List V} {us : List Value} {zs : List V} {ws : List Value}, Vals vs us → Vals zs ws → Vals (gV vs zs) (g us ws)
def tCallK (sp : Sp) (gV : List V → List V → List V) (E : XK) (t tk : TA) : TE := fun σ H Q => t σ H fun vs H1 => tk σ H1 fun zs H2 => sp (gV vs zs) H2 Q E
variable {g : List Value → List Value → List Value} {gV : List V → List V → List V}
end

/-! ### a def's body keeps its promise -/
/-- names: the parameters first -/
structure FnScope (N P : List Str) (sc : Scope) : Prop where
  kind : sc.kind = .function
  co : sc.isCoroutine = false
  gen : sc.isGenerator = false
  nd : N.Nodup
  pre : N.take P.length = P
  par : ∀ x ∈ P, sc.names.lookup x = some .local ∨ sc.names.lookup x = some .cell
  nofree : ∀ y ∈ sc.names, y.2 ≠ .free

theorem bindL_out {kindOf : Str → Option NameKind} {x : Str} : ∀ {binds : List (Str × Value)} {m : Str → Option Value}, (∀ v, (x, v) ∉ binds) → bindL kindOf binds m x = m x
  | [], _, _ => rfl
  | (n, v) :: r, m, h => by
    unfold bindL
    rw [bindL_out fun w hw => h w (List.mem_cons_of_mem _ hw)]
    split
    · have : x ≠ n := by rintro rfl; exact h v List.mem_cons_self
      simp [this]
    · rfl
theorem bindC_out {kindOf : Str → Option NameKind} {x : Str} : ∀ {binds : List (Str × Value)} {m : Str → Option Value}, (∀ v, (x, v) ∉ binds) → bindC kindOf binds m x = m x
  | [], _, _ => rfl
  | (n, v) :: r, m, h => by
    unfold bindC
    rw [bindC_out fun w hw => h w (List.mem_cons_of_mem _ hw)]
    split
    · rfl
    · have : x ≠ n := by rintro rfl; exact h v List.mem_cons_self
      simp [this]
theorem bindL_get {kindOf : Str → Option NameKind} {x : Str} {v : Value} : ∀ {P : List Str} {vs : List Value} {i : Nat} {m : Str → Option Value}, P.Nodup → P[i]? = some x → vs[i]? = some v → kindOf x = some .local →
    bindL kindOf (P.zip vs) m x = some v
  | [], _, _, _, _, h, _, _ => by simp at h
  | _ :: _, [], _, _, _, _, h, _ => by simp at h
  | p :: P, w :: vs, 0, m, nd, h1, h2, hk => by
    simp at h1 h2; subst h1; subst h2
    show bindL kindOf ((p, w) :: P.zip vs) m p = _
    unfold bindL
    rw [bindL_out fun v hv => (List.nodup_cons.mp nd).1 (List.of_mem_zip hv).1, if_pos hk]
    simp
  | p :: P, w :: vs, i + 1, m, nd, h1, h2, hk => by
    show bindL kindOf ((p, w) :: P.zip vs) m x = _
    unfold bindL
    exact bindL_get (i := i) (List.nodup_cons.mp nd).2 (by simpa using h1) (by simpa using h2) hk
theorem bindC_get {kindOf : Str → Option NameKind} {x : Str} {v : Value} : ∀ {P : List Str} {vs : List Value} {i : Nat} {m : Str → Option Value}, P.Nodup → P[i]? = some x → vs[i]? = some v → kindOf x ≠ some .local →
    bindC kindOf (P.zip vs) m x = some v
  | [], _, _, _, _, h, _, _ => by simp at h
  | _ :: _, [], _, _, _, _, h, _ => by simp at h
  | p :: P, w :: vs, 0, m, nd, h1, h2, hk => by
    simp at h1 h2; subst h1; subst h2
    show bindC kindOf ((p, w) :: P.zip vs) m p = _
    unfold bindC
    rw [bindC_out fun v hv => (List.nodup_cons.mp nd).1 (List.of_mem_zip hv).1, if_neg hk]
    simp
  | p :: P, w :: vs, i + 1, m, nd, h1, h2, hk => by
    show bindC kindOf ((p, w) :: P.zip vs) m x = _
    unfold bindC
    exact bindC_get (i := i) (List.nodup_cons.mp nd).2 (by simpa using h1) (by simpa using h2) hk

/-- the names' values at the entry -/
def start (N : List Str) (vs : List V) : St := vs.map some ++ List.replicate (N.length - vs.length) none

/-- the context of a def's body, at its entry; an exception leaves the frame, then lies as CX says -/
def cxOf (CX : CXT) (P : Program) (w : World) (K : PySem.W.Frag) (mg : Str → Option Value) (base : Heap) (N : List Str) (qual : Str) (scope : Scope) (f : Addr) (cd : Value) (A : Around) (outer : List Env) (s : Shared) (H : Hp) (E : XK) : Cx where
  prog := P
  w := w
  K := K
  mg := mg
  base := base
  A := A.deeper (envOfC qual scope s.heap.objs.size f cd)
  N := N
  s₀ := s
  H₀ := H
  env := envOfC qual scope s.heap.objs.size f cd
  outer := outer
  stack := envOfC qual scope s.heap.objs.size f cd :: outer
  ex := []
  calm := true
  fn := fun _ => true
  pn := []
  xe := fun e s' => wpAny (model P w) (A.deeper (envOfC qual scope s.heap.objs.size f cd)) (leaving (envOfC qual scope s.heap.objs.size f cd) e) (fun _ s'' => CX outer H s E e s'') (fun e' s'' => CX outer H s E e' s'') s'

theorem cell_has {sc : Scope} {n : Nat} {x : Str} (h : sc.names.lookup x = some .cell) : ∃ c, (cellsFrom n sc.names []).lookup x = some c := by
  have q := PySem.W.cellsFrom_some sc.names n [] (.inl h)
  exact Option.isSome_iff_exists.mp q

theorem inv_start {CX : CXT} {P : Program} {w : World} {K : PySem.W.Frag} {mg : Str → Option Value} {base : Heap} {N ps : List Str} {qual : Str} {scope : Scope} {f : Addr} {cd : Value} {A : Around} {outer : List Env} {s s1 : Shared} {H : Hp} {E : XK} {us : List Value} {vs : List V}
    (S : FnScope N ps scope) (hd : A.handled = none) (e0 : Env0 P w K mg base A outer s H) (hl : vs.length = ps.length) (r : Vals vs us)
    (x : InCallC s s.heap.objs.size (bindL (envOfC qual scope s.heap.objs.size f cd).kindOf (ps.zip us) fun _ => none) (cellsFrom (s.heap.objs.size + 1) scope.names []) (bindC (envOfC qual scope s.heap.objs.size f cd).kindOf (ps.zip us) fun _ => none) s1) :
    Inv (cxOf CX P w K mg base N qual scope f cd A outer s H E) [] (start N vs) H s1 := by
  have hpl : ps.length ≤ N.length := by have := congrArg List.length S.pre; rw [List.length_take] at this; omega
  obtain ⟨h1, tk, rfl, hk⟩ := x.done
  have noA : ∀ b : Addr, b ∉ (cxOf CX P w K mg base N qual scope f cd A outer s H E).ex := fun b z => absurd (show b ∈ ([] : List Addr) from z) (by simp)
  refine ⟨⟨e0.mod, S.kind, rfl, rfl, Nat.le_refl _, fun y z c h1 h2 => ?_, fun y hy => ?_, fun y c _ h => ?_, fun _ => hd, Around.frames_deeper e0.frames, .inr ⟨rfl, rfl⟩, fun b z => absurd z (noA b), e0.bs, e0.bsz, fun b _ _ => noA b, fun b z => absurd z (noA b), e0.funs, e0.frf⟩,
    rfl, e0.bare, Un.kept hk, ⟨_, x.toInCall.ns, fun i y v h1 h2 h3 => ?_⟩, fun y c h => ⟨_, x.cell y c h⟩, e0.hok.fresh (Nat.le_refl _), fun y c h => ?_, fun p hp => absurd (show p ∈ ([] : List (Addr × Obj)) from hp) (by simp), e0.hok.kept hk, ?_⟩
  · exact name_of_addr x.apart (PySem.mem_of_lookup h1) (PySem.mem_of_lookup h2)
  · have hy : scope.names.lookup y = some .cell ∨ scope.names.lookup y = some .free := hy
    rcases hy with hy | hy
    · exact cell_has hy
    · exact absurd rfl (S.nofree _ (PySem.mem_of_lookup hy))
  · exact Nat.le_of_lt (x.above y c (PySem.mem_of_lookup h))
  · have hi : i < vs.length := by
      unfold start at h2
      by_cases hi : i < vs.length
      · exact hi
      · rw [List.getElem?_append_right (by simpa using hi)] at h2
        rw [List.getElem?_replicate] at h2
        split at h2 <;> cases h2
    have ha : vs[i]? = some v := by
      unfold start at h2
      rw [List.getElem?_append_left (by simpa using hi), List.getElem?_map] at h2
      cases e : vs[i]? with
      | none => rw [e] at h2; cases h2
      | some a => rw [e] at h2; cases h2; rfl
    obtain ⟨u, hu, rv⟩ := r.get ha
    have hp : ps[i]? = some y := by
      rw [← S.pre, List.getElem?_take_of_lt (by omega)]; exact h1
    have ndP : ps.Nodup := by rw [← S.pre]; exact S.nd.sublist (List.take_sublist _ _)
    refine ⟨u, rv, ?_⟩
    rcases S.par y (List.mem_of_getElem? hp) with k | k
    · exact .inl ⟨k, bindL_get ndP hp hu k⟩
    · obtain ⟨c, e⟩ := cell_has (n := s.heap.objs.size + 1) k
      refine .inr ⟨.inl k, c, e, ?_⟩
      have q := x.cell y c e
      rw [bindC_get ndP hp hu (by show scope.names.lookup y ≠ _; rw [k]; decide)] at q
      exact q
  · exact e0.hok.fresh (Nat.le_of_lt (x.above y c (PySem.mem_of_lookup h)))
  · unfold start
    show _ = N.length
    rw [List.length_append, List.length_map, List.length_replicate]
    omega

/-- THE RULE: a def (or a method) of the text, by its body. The body's reading t is chosen for each entry; it is run at the parameters' values -/
theorem fn_of {CX : CXT} {P : Program} {w : World} {K : PySem.W.Frag} {mg : Str → Option Value} {base : Heap} {k : Nat} {f : Addr} {name qual : Str} {params : Arguments} {body : List Stmt} {scope : Scope} {dV kV doc pm cdv ct oc : Value} {an od : Option Addr}
    {osl : Array (Option Value)} {N ps : List Str} {sp : Sp} (lk : K.lookup f = some ⟨oc, od, .func (PySem.W.fnOf name qual params body scope dV kV doc pm an cdv ct), osl⟩) (hcd : PySem.W.codeIn K cdv qual = true) (S : FnScope N ps scope)
    (len : ∀ vs H Q E, sp vs H Q E → vs.length = ps.length)
    (hbody : ∀ (A : Around) (outer : List Env) (s : Shared) (H : Hp) (vs : List V) (Q : VK) (E : XK), Room k (A.deeper (envOfC qual scope s.heap.objs.size f cdv)) → sp vs H Q E →
      ∃ t, PSs (cxOf CX P w K mg base N qual scope f cdv A outer s H E) body t ∧ t { nx := fun _ H' => Q .non H', rt := Q } (start N vs) H) :
    FnOk P w K mg base CX (k + 1) f (PySem.W.fnOf name qual params body scope dV kV doc pm an cdv ct) ps sp := by
  refine ⟨len, fun A outer s H args us vs Q E hr e0 hb r hsp => ?_⟩
  have hl := len _ _ _ _ hsp
  have KX : K.In s.heap := e0.mod.kin.keeps fun b o e => (e0.bs b o e).1
  have lim : s.heap.NoLimit := e0.mod.nolimit.keeps fun b o e => (e0.bs b o e).1
  have hkind : ∀ y ∈ ps.zip us, scope.names.lookup y.1 = some .local ∨ (scope.names.lookup y.1 = some .cell ∧ ((cellsFrom (s.heap.objs.size + 1) scope.names []).lookup y.1).isSome = true) := fun ⟨n, v⟩ hy => by
    rcases S.par n (List.of_mem_zip hy).1 with q | q
    · exact .inl q
    · exact .inr ⟨q, PySem.W.cellsFrom_some _ _ _ (.inl q)⟩
  refine codeAny_call_function hr.depth (KX _ _ lk) rfl S.co S.gen rfl (PySem.W.codeRec_of KX hcd) (hb _ _ _ _ ?_)
  refine wpAny_newFunctionEnv_cells S.kind hkind fun env he s1 x => ?_
  subst he
  refine ⟨lim.keeps x.toInCall.keep, codeAny_func ?_⟩
  obtain ⟨t, ht, hq⟩ := hbody A outer s H vs Q E (hr.deeper _) hsp
  have I : Inv (cxOf CX P w K mg base N qual scope f cdv A outer s H E) [] (start N vs) H s1 := inv_start S hr.hd e0 hl r x
  refine wpAny_mono (ht [] s1 (start N vs) H _ I hq) (fun fl s' hs => ?_) fun e s' hs => hs
  have fin : ∀ {σ' : St} {H' : Hp} {v : V} {u : Value}, Inv (cxOf CX P w K mg base N qual scope f cdv A outer s H E) [] σ' H' s' → RelV v u → Q v H' → CE outer P w H s Q u s' :=
    fun {σ' H' v u} J rv q => ⟨v, H', J.os, J.bare, J.base, J.hok, rv, q⟩
  cases fl with
  | ret u =>
    obtain ⟨v, σ', H', J, rv, q⟩ := hs
    exact fin J rv q
  | next =>
    obtain ⟨σ', H', J, q⟩ := hs
    exact fin (v := V.non) (u := Value.none) J rfl q
  | brk =>
    obtain ⟨_, _, _, q⟩ := hs
    exact False.elim q
  | cont =>
    obtain ⟨_, _, _, q⟩ := hs
    exact False.elim q
end L2

namespace L2
open PySem PySem.Spec PyProof.Rows
section
variable {X : Cx} {x : Str} {p pos : Pos} {e : Expr} {es : List Expr} {t : TA} {id T : String} {r : List V → Hp → VK → Prop}

def tCB (r : List V → Hp → VK → Prop) (t : TA) : TE := fun σ H Q => t σ H fun vs H1 => r vs H1 Q
/-- f(e, ..), f a built-in function -/
theorem pe_callB (hc : CallR X (.builtin id) r) (hg : Gl X x) (hm : X.mg x = none) (hv : bootBuiltins x = some (.builtin id)) (ha : PA X (e :: es) t) (hn : x ≠ "__name__" := by decide) (hdb : (x == ("__debug__" : Str)) = false := by decide)
    (he : starEach (e :: es) X.env = (false, eval e X.env) :: starEach es X.env := by rfl) (hpl : (backTo pos (starEach es X.env)).any (·.1) = false := by rfl) : PE X (.Call (.Name x p) (e :: es) [] pos) (tCB r t) := by
  intro pins s σ H Q I h
  refine wpAny_Call_Name_kw (ld_blt I hg hm hv ?_ hn hdb)
  exact PyProof.Rows.callWith_builtin1 (thn (ha pos pins s σ H _ I h) fun us s1 ⟨vs, H1, I1, r1, q1⟩ => hc pins s1 σ H1 vs us Q I1 r1 q1) he hpl
/-- T(e, ..), T a built-in type -/
theorem pe_callTy (hc : CallR X (.type T) r) (hg : Gl X x) (hm : X.mg x = none) (hv : bootBuiltins x = some (.type T)) (ha : PA X (e :: es) t) (hn : x ≠ "__name__" := by decide) (hdb : (x == ("__debug__" : Str)) = false := by decide)
    (he : starEach (e :: es) X.env = (false, eval e X.env) :: starEach es X.env := by rfl) (hpl : (backTo pos (starEach es X.env)).any (·.1) = false := by rfl) : PE X (.Call (.Name x p) (e :: es) [] pos) (tCB r t) := by
  intro pins s σ H Q I h
  refine wpAny_Call_Name_kw (ld_blt I hg hm hv ?_ hn hdb)
  exact PyProof.Rows.callWith_type1 (thn (ha pos pins s σ H _ I h) fun us s1 ⟨vs, H1, I1, r1, q1⟩ => hc pins s1 σ H1 vs us Q I1 r1 q1) he hpl
end
end L2

namespace HT
open PySem PyProof.Rows

/-- t < u of tuples of ints -/
def lexLt : List Int → List Int → Bool
  | [], [] => false
  | [], _ :: _ => true
  | _ :: _, [] => false
  | x :: xs, y :: ys => if x = y then lexLt xs ys else decide (x < y)
section
open PySem.SeqAt
open PySem.AutoSeq1 (wpAny_loadPart')
open PySem.MeetsSeq PySem.MeetsSeq2 PySem.MeetsSeq3

end

section
variable {prog : Program} {w : World} {A : Around} {E : Value → Shared → Prop} {s : Shared}

/-! ### t[a:b], not the whole -/
/-- a slice's bound as a place among n (d where it is left out) -/
def sIx (n d : Nat) : Option Int → Nat
  | none => d
  | some v => if v < 0 then (v + (n : Int)).toNat else min v.toNat n
theorem sIx_nat (n d k : Nat) : sIx n d (some (k : Int)) = min k n := by
  show (if (k : Int) < 0 then ((k : Int) + (n : Int)).toNat else min (k : Int).toNat n) = min k n
  rw [if_neg (by omega), Int.toNat_natCast]
theorem sIx_le (n d : Nat) (hd : d ≤ n) (o : Option Int) : sIx n d o ≤ n := by
  cases o with
  | none => exact hd
  | some v =>
    show (if v < 0 then (v + (n : Int)).toNat else min v.toNat n) ≤ n
    by_cases hv : v < 0
    · rw [if_pos hv]; omega
    · rw [if_neg hv]; exact Nat.min_le_right _ _
theorem clip_eq (v : Int) (n d : Nat) : (if v < 0 then max (v + (n : Int)) 0 else min v (n : Int)) = ((sIx n d (some v) : Nat) : Int) := by
  show (if v < 0 then max (v + (n : Int)) 0 else min v (n : Int)) = (((if v < 0 then (v + (n : Int)).toNat else min v.toNat n) : Nat) : Int)
  by_cases hv : v < 0
  · simp only [if_pos hv]; omega
  · simp only [if_neg hv]; omega
theorem adjust_gen (lo hi : Option Int) (n : Nat) : Builtin.Slice.sliceAdjust lo hi 1 (n : Int) = (((sIx n 0 lo : Nat) : Int), ((sIx n n hi : Nat) : Int)) := by
  have h1 : ¬ ((1 : Int) < 0) := by omega
  unfold Builtin.Slice.sliceAdjust
  simp only [h1, if_false]
  refine Prod.ext ?_ ?_
  · cases lo with
    | none => rfl
    | some v => exact clip_eq v n 0
  · cases hi with
    | none => rfl
    | some v => exact clip_eq v n n
theorem places_gen (i j : Nat) : Builtin.Slice.slicePlaces (i : Int) (j : Int) 1 = j - i := by
  unfold Builtin.Slice.slicePlaces
  have h1 : (1 : Int) > 0 := by omega
  simp only [h1, if_true, Int.ediv_one]
  split <;> omega
theorem slicePart_ {v : Value} {o : Option Int} {Q : Option Int → Shared → Prop} (p : IsPart v o) (h : Q o s) : wpAny (model prog w) A (Builtin.Slice.slicePartIndex v) Q E s := by
  cases p with
  | none => exact slicePart_none h
  | int i t => exact slicePart_int h
theorem sliceApplied_gen {sl : Addr} {vl vu : Value} {lo hi : Option Int} {n : Nat} {Q : Int × Int × Nat → Shared → Prop} (hs : s.heap.IsSliceOf sl vl vu .none) (pl : IsPart vl lo) (pu : IsPart vu hi)
    (h : Q (((sIx n 0 lo : Nat) : Int), 1, sIx n n hi - sIx n 0 lo) s) : wpAny (model prog w) A (Builtin.Slice.sliceApplied (.ref sl) (pure (n : Int))) Q E s := by
  obtain ⟨os, hos, hcs, hds⟩ := id hs
  unfold Builtin.Slice.sliceApplied Builtin.Slice.sliceFields
  refine wpAny_bind (wpAny_bind (wpAny_field hos hds (x := vl) rfl (wpAny_bind (wpAny_field hos hds (x := vu) rfl (wpAny_bind (wpAny_field hos hds (x := .none) rfl (wpAny_pure ?_)))))))
  refine wpAny_bind (slicePart_none ?_)
  show wpAny _ _ (if ((1 : Int) == 0) = true then _ else _) _ _ s
  rw [if_neg (by decide)]
  refine wpAny_bind (slicePart_ pl (wpAny_bind (slicePart_ pu (wpAny_bind (wpAny_pure ?_)))))
  show wpAny _ _ (match Builtin.Slice.sliceAdjust lo hi 1 (n : Int) with | (lo, hi) => pure (lo, (1 : Int), Builtin.Slice.slicePlaces lo hi 1)) _ _ s
  rw [adjust_gen lo hi n]
  show wpAny _ _ (pure (((sIx n 0 lo : Nat) : Int), (1 : Int), Builtin.Slice.slicePlaces ((sIx n 0 lo : Nat) : Int) ((sIx n n hi : Nat) : Int) 1)) _ _ s
  rw [places_gen]
  exact wpAny_pure h
theorem pick_gen (xs : Array Value) (i k : Nat) : ((List.range k).filterMap fun (m : Nat) => xs[((i : Int) + (m : Int) * 1).toNat]?).toArray = ((xs.toList.drop i).take k).toArray := by
  have e : (fun (m : Nat) => xs[((i : Int) + (m : Int) * 1).toNat]?) = fun m => xs[i + m]? := by
    funext m
    have : ((i : Int) + (m : Int) * 1).toNat = i + m := by omega
    rw [this]
  rw [e]
  have := pick_run xs i k
  rw [List.filterMap_map] at this
  have e2 : ((fun x => xs[x]?) ∘ fun x => i + x) = fun m => xs[i + m]? := rfl
  rw [e2] at this
  rw [this]

theorem getItem_tuple_cut {t sl : Addr} {items : Array Value} {vl vu : Value} {lo hi : Option Int} {Q : Value → Shared → Prop} (ht : IsTup s.heap t items) (hs : s.heap.IsSliceOf sl vl vu .none) (pl : IsPart vl lo) (pu : IsPart vu hi)
    (hw : ¬ (sIx items.size 0 lo = 0 ∧ sIx items.size items.size hi = items.size))
    (h : Q (.ref s.heap.objs.size) { s with heap := s.heap.push { cls := .type "tuple", data := .seq ((items.toList.drop (sIx items.size 0 lo)).take (sIx items.size items.size hi - sIx items.size 0 lo)).toArray } })
    (hsz : items.size ≤ sizeLine) : wpAny (model prog w) A (getItem (.ref t) (.ref sl)) Q E s := by
  have htake : sizeOk (.seq ((items.toList.drop (sIx items.size 0 lo)).take (sIx items.size items.size hi - sIx items.size 0 lo)).toArray) := by
    show ((items.toList.drop (sIx items.size 0 lo)).take (sIx items.size items.size hi - sIx items.size 0 lo)).toArray.size ≤ sizeLine
    rw [List.size_toArray, List.length_take, List.length_drop, Array.length_toList]
    omega
  have hj : sIx items.size items.size hi ≤ items.size := sIx_le _ _ (Nat.le_refl _) hi
  obtain ⟨os, hos, hcs, hds⟩ := id hs
  have hTs : s.TypeIs (.ref sl) "slice" := ⟨os, hos, hcs⟩
  unfold getItem
  try with_reducible refine wpAny_holding ?_
  first | refine wpAny_bind (wpAny_pure ?_) | skip
  refine wpAny_bind (wpAny_sequenceKey ht.typeIs (by decide) ?_)
  refine wpAny_bind (wpAny_callSpecial?_slot (name := Str.ofString "__getitem__") ht.typeIs PyProof.Rows.slot_tuple_getitem
    (wpAny_call_entry PyProof.Rows.slot_tuple_getitem ht.typeIs entry_tuple_getitem ?_ (args_tuple_getitem _ _)))
  show wpAny _ _ (Builtin.Tuple.tupleItemsOf (.ref t) >>= _) _ _ s
  refine wpAny_bind (tupleItemsOf_ ht ?_)
  refine wpAny_bind (wpAny_typeOf hTs ?_)
  rw [if_pos (by decide)]
  refine wpAny_bind (sliceApplied_gen hs pl pu ?_)
  have hno : ¬ ((((sIx items.size 0 lo : Nat) : Int) == 0 && (1 : Int) == 1 && (sIx items.size items.size hi - sIx items.size 0 lo) == items.size) = true) := by
    intro q
    rw [Bool.and_eq_true, Bool.and_eq_true] at q
    have q1 : ((sIx items.size 0 lo : Nat) : Int) = 0 := eq_of_beq q.1.1
    have q2 : sIx items.size items.size hi - sIx items.size 0 lo = items.size := eq_of_beq q.2
    exact hw ⟨by omega, by omega⟩
  show wpAny _ _ (if (((sIx items.size 0 lo : Nat) : Int) == 0 && (1 : Int) == 1 && (sIx items.size items.size hi - sIx items.size 0 lo) == items.size) = true then _ else _) _ _ s
  rw [if_neg hno, pick_gen]
  first
    | exact wpAny_bind (m := Builtin.Tuple.tupleExact _) (wpAny_newObj_type (wpAny_pure ⟨_, rfl, wpAny_pure h⟩) htake)
    | exact wpAny_bind (m := Builtin.Tuple.tupleExact _) (wpAny_newObj_type (wpAny_bind (wpAny_pure (wpAny_pure ⟨_, rfl, wpAny_pure h⟩))) htake)
    | exact wpAny_bind (wpAny_bind (m := Builtin.Tuple.tupleExact _) (wpAny_newObj_type (wpAny_pure (wpAny_pure ⟨_, rfl, wpAny_pure h⟩)) htake))
    | exact wpAny_bind (wpAny_bind (m := Builtin.Tuple.tupleExact _) (wpAny_newObj_type (wpAny_pure ⟨_, rfl, wpAny_pure h⟩) htake))
end
end HT

namespace L2
open PySem PySem.Spec PyProof.Rows

/-! ### the parts of a slice -/
abbrev TO := St → Hp → (Option Int → Hp → Prop) → Prop
/-- a slice's part (left out, or an int) -/
def PO (X : Cx) (e : Option Expr) (t : TO) : Prop :=
  ∀ (pins : List (Addr × Obj)) (s : Shared) (σ : St) (H : Hp) (Q : Option Int → Hp → Prop), Inv X pins σ H s → t σ H Q →
    wpAny (model X.prog X.w) X.A (evalPart e X.env) (fun u s' => ∃ o H', Inv X pins σ H' s' ∧ IsPart u o ∧ Q o H') X.xe s
def tNoPart : TO := fun _ H Q => Q none H
def tPart (t : TE) : TO := fun σ H Q => t σ H fun x H1 => ∃ i, x = .int i ∧ Q (some i) H1

theorem intsAre_of {ns : List Int} : ∀ {us : List Value}, Vals (ns.map V.int) us → IntsAre us ns := by
  induction ns with
  | nil => intro us r; rw [List.map_nil] at r; cases r; exact .nil
  | cons n ns ih =>
    intro us r
    rw [List.map_cons] at r
    cases r with
    | cons r1 r2 =>
      obtain ⟨t, e⟩ := r1
      subst e
      exact .cons n t (ih r2)

section
variable {X : Cx} {e : Expr} {te : TE} {lo hi : Option Expr} {tl th : TO} {pos p2 : Pos}

theorem po_none : PO X none tNoPart := by
  intro pins s σ H Q I h
  rw [evalPart_none]
  exact wpAny_pure ⟨none, H, I, .none, h⟩
theorem po_some (h : PE X e te) : PO X (some e) (tPart te) := by
  intro pins s σ H Q I hw
  rw [evalPart_some]
  refine thn (h pins s σ H _ I hw) fun u s1 ⟨x, H1, I1, r1, q1⟩ => ?_
  obtain ⟨i, rfl, q⟩ := q1
  obtain ⟨t, rfl⟩ := r1
  exact ⟨some i, H1, I1, .int i t, q⟩

/-- what a slice of a value is, by values: the slice object stands at sl -/
def SlR (X : Cx) (r : V → Option Int → Option Int → Hp → VK → Prop) : Prop :=
  ∀ (pins : List (Addr × Obj)) (s : Shared) (σ : St) (H : Hp) (x : V) (v vl vu : Value) (lo hi : Option Int) (sl : Addr) (Q : VK), Inv X pins σ H s → RelV x v → s.heap.IsSliceOf sl vl vu .none → IsPart vl lo → IsPart vu hi → r x lo hi H Q →
    ∃ T id, typeLookup (.type T) "__getitem__" = pure (some (.builtin id)) ∧ s.TypeIs v T ∧ wpAny (model X.prog X.w) X.A (getItem v (.ref sl)) (EP X pins σ Q) X.xe s
def tSl (r : V → Option Int → Option Int → Hp → VK → Prop) (te : TE) (tl th : TO) : TE := fun σ H Q => te σ H fun x H1 => tl σ H1 fun l H2 => th σ H2 fun u H3 => r x l u H3 Q
/-- a[lo:hi], any a -/
theorem pe_slice {r : V → Option Int → Option Int → Hp → VK → Prop} (hr : SlR X r) (he : PE X e te) (hl : PO X lo tl) (hu : PO X hi th) : PE X (.Subscript e (.Slice lo hi none p2) pos) (tSl r te tl th) := by
  intro pins s σ H Q I h
  refine Subscript_ (thn (he pins s σ H _ I h) fun v s1 ⟨x, H1, I1, r1, q1⟩ => ?_)
  refine wpAny_Slice (thn (hl pins s1 σ H1 _ I1 q1) fun vl s2 ⟨l, H2, I2, pl, q2⟩ => thn (hu pins s2 σ H2 _ I2 q2) fun vu s3 ⟨u, H3, I3, pu, q3⟩ => ?_)
  rw [evalPart_none]
  refine wpAny_pure ?_
  have I4 : Inv X pins σ H3 { s3 with heap := s3.heap.push { cls := .type "slice", data := .fields #[vl, vu, .none] } } := I3.kept (t' := s3.toks) fun b ob q => Heap.get?_push_of_some _ q
  obtain ⟨T, id, hT, ht, hg⟩ := hr pins { s3 with heap := s3.heap.push { cls := .type "slice", data := .fields #[vl, vu, .none] } } σ H3 x v vl vu l u s3.heap.objs.size Q I4 r1 (Heap.IsSliceOf.new ..) pl pu q3
  show wpAny (model X.prog X.w) X.A (subscriptTail e (.Slice lo hi none p2) v (.ref s3.heap.objs.size)) (EP X pins σ Q) X.xe { s3 with heap := s3.heap.push { cls := .type "slice", data := .fields #[vl, vu, .none] } }
  exact tail_any (ops := [.ref s3.heap.objs.size, v]) ht hT hg (by with_unfolding_all rfl)

/-- the items of xs[lo:hi] -/
def cutV (xs : List V) (lo hi : Option Int) : List V := (xs.drop (HT.sIx xs.length 0 lo)).take (HT.sIx xs.length xs.length hi - HT.sIx xs.length 0 lo)
theorem cutV_length (xs : List V) (lo hi : Option Int) : (cutV xs lo hi).length ≤ xs.length := by
  unfold cutV
  rw [List.length_take, List.length_drop]
  omega
/-- t[lo:hi], not the whole of it (the whole would be t itself) -/
def rSlT (K : PySem.W.Frag) : V → Option Int → Option Int → Hp → VK → Prop := fun x lo hi H Q => ∃ a xs, x = .ref a ∧ SqT K H a xs ∧
  ¬ (HT.sIx xs.length 0 lo = 0 ∧ HT.sIx xs.length xs.length hi = xs.length) ∧ ∀ p, H p = none → Q (.ref p) (upd H p (.tup (cutV xs lo hi)))
theorem sl_tup : SlR X (rSlT X.K) := by
  intro pins s σ H x v vl vu lo hi sl Q I rx hs pl pu h
  obtain ⟨a, xs, rfl, hx, hw, q⟩ := h
  cases rx
  obtain ⟨its, r, ht, hz⟩ := I.tuple hx
  have hlen : its.toArray.size = xs.length := by rw [List.size_toArray]; exact r.length.symm
  refine ⟨"tuple", _, PyProof.Rows.slot_tuple_getitem.lookup, ht.typeIs, ?_⟩
  refine HT.getItem_tuple_cut ht hs pl pu (by rw [hlen]; exact hw) ?_ (by rw [hlen]; exact hz)
  rw [hlen]
  refine ⟨.ref s.heap.objs.size, _, I.laid (t' := s.toks) (o := .tup (cutV xs lo hi)) (fun b ob q => Heap.get?_push_of_some _ q) (Nat.le_refl _) ?_, rfl, q _ (I.hok.fresh (Nat.le_refl _))⟩
  exact ⟨Nat.le_trans (cutV_length xs lo hi) hz, _, (r.drop (HT.sIx xs.length 0 lo)).take (HT.sIx xs.length xs.length hi - HT.sIx xs.length 0 lo), IsTup.new _ _⟩

/-! ### t < u, t + u -/
def rLtT (K : PySem.W.Frag) : R2 := fun x y H Q => ∃ a b ns ms, x = .ref a ∧ y = .ref b ∧ SqT K H a (ns.map V.int) ∧ SqT K H b (ms.map V.int) ∧ Q (.bl (HT.lexLt ns ms)) H
/-- t + u, t not empty: u empty gives t itself -/
def rCatT (K : PySem.W.Frag) : R2 := fun x y H Q => ∃ a b xs ys, x = .ref a ∧ y = .ref b ∧ SqT K H a xs ∧ SqT K H b ys ∧ xs ≠ [] ∧ xs.length + ys.length ≤ sizeLine ∧
  (ys = [] → Q (.ref a) H) ∧ (ys ≠ [] → ∀ p, H p = none → Q (.ref p) (upd H p (.tup (xs ++ ys))))
end
end L2

namespace L2
open PySem PySem.Spec PyProof.Rows

/-! ### places -/
/-- the place that an index of any sign means -/
def ixN (n : Nat) (i : Int) : Option Nat := if 0 ≤ i then (if i < n then some i.toNat else none) else if -(n : Int) ≤ i then some (i + n).toNat else none
def atI {α : Type} (xs : List α) (i : Int) : Option α := (ixN xs.length i).bind fun j => xs[j]?
theorem ixN_seq {n : Nat} {i : Int} {j : Nat} (h : ixN n i = some j) : seqIndex? i n = some j ∧ j < n ∧ -(n : Int) ≤ i ∧ i < n := by
  unfold ixN at h
  by_cases h0 : 0 ≤ i
  · rw [if_pos h0] at h
    by_cases h1 : i < n
    · rw [if_pos h1] at h
      have e : i.toNat = j := Option.some.inj h
      exact ⟨by rw [seqIndex_of h0 h1, e], by omega, by omega, h1⟩
    · rw [if_neg h1] at h; cases h
  · rw [if_neg h0] at h
    by_cases h1 : -(n : Int) ≤ i
    · rw [if_pos h1] at h
      have e : (i + n).toNat = j := Option.some.inj h
      exact ⟨by rw [seqIndex_neg (by omega) h1, e], by omega, h1, by omega⟩
    · rw [if_neg h1] at h; cases h
theorem atI_get {α : Type} {xs : List α} {i : Int} {v : α} (h : atI xs i = some v) : ∃ j, seqIndex? i xs.length = some j ∧ xs[j]? = some v ∧ j < xs.length ∧ -(xs.length : Int) ≤ i ∧ i < xs.length := by
  unfold atI at h
  cases e : ixN xs.length i with
  | none => rw [e] at h; cases h
  | some j =>
    rw [e] at h
    obtain ⟨h1, h2, h3, h4⟩ := ixN_seq e
    exact ⟨j, h1, h, h2, h3, h4⟩
theorem atI_nat {α : Type} {xs : List α} {j : Nat} {v : α} (h : xs[j]? = some v) : atI xs (j : Int) = some v := by
  have hj : j < xs.length := (List.getElem?_eq_some_iff.mp h).1
  have e : ixN xs.length (j : Int) = some j := by
    unfold ixN
    rw [if_pos (by omega), if_pos (by omega)]; simp
  unfold atI; rw [e]; exact h
theorem atI_last {α : Type} (xs : List α) (v : α) : atI (xs ++ [v]) (-1) = some v := by
  have hl : (xs ++ [v]).length = xs.length + 1 := by simp
  have e : ixN (xs ++ [v]).length (-1) = some xs.length := by
    unfold ixN
    rw [hl, if_neg (by decide), if_pos (by omega)]
    congr 1
    omega
  unfold atI
  rw [e]
  show (xs ++ [v])[xs.length]? = some v
  simp

/-! ### what may be subscripted -/
/-- what stands as an index of a plain subscript -/
def PlainIx (b : Expr) : Prop := ∀ o i, subscripted b false o i = operate [o, i] (getItem o i)
/-- a subscript by values -/
def IxR (X : Cx) (r : R2) : Prop :=
  ∀ (value slice : Expr) (pins : List (Addr × Obj)) (s : Shared) (σ : St) (H : Hp) (x y : V) (v u : Value) (Q : VK), Inv X pins σ H s → RelV x v → RelV y u → r x y H Q →
    subscripted slice false v u = operate [v, u] (getItem v u) → wpAny (model X.prog X.w) X.A (subscriptTail value slice v u) (EP X pins σ Q) X.xe s
/-- a call of a builtin's method by values: the receiver, the arguments -/
def MtR (X : Cx) (id : String) (r : V → List V → Hp → VK → Prop) : Prop :=
  ∀ (pins : List (Addr × Obj)) (s : Shared) (σ : St) (H : Hp) (x : V) (xs : List V) (v : Value) (us : List Value) (Q : VK), Inv X pins σ H s → RelV x v → Vals xs us → r x xs H Q →
    wpAny (model X.prog X.w) X.A (call (.builtin id) (v :: us)) (EP X pins σ Q) X.xe s
section
variable {X : Cx} {a b : Expr} {ta tb : TE} {pos : Pos}
/-- a[b] -/
theorem pe_ix {r : R2} (hr : IxR X r) (ha : PE X a ta) (hb : PE X b tb) (hs : PlainIx b) : PE X (.Subscript a b pos) (tOp r ta tb) := by
  intro pins s σ H Q I h
  exact Subscript_ (binT ha hb I h fun v u s2 x y H2 I2 rx ry q => hr a b pins s2 σ H2 x y v u Q I2 rx ry q (hs _ _))

def rIxL (K : PySem.W.Frag) : R2 := fun x y H Q => ∃ p xs i v, x = .ref p ∧ y = .int i ∧ SqL K H p xs ∧ atI xs i = some v ∧ Q v H
def rIxT (K : PySem.W.Frag) : R2 := fun x y H Q => ∃ p xs i v, x = .ref p ∧ y = .int i ∧ SqT K H p xs ∧ atI xs i = some v ∧ Q v H
def rIxS : R2 := fun x y H Q => ∃ z i c, x = .str z ∧ y = .int i ∧ z.length ≤ sizeLine ∧ atI z.cps.toList i = some c ∧ Q (.str ⟨#[c]⟩) H
theorem ix_list : IxR X (rIxL X.K) := by
  intro value slice pins s σ H x y v u Q I rx ry h hs
  obtain ⟨p, xs, i, z, rfl, rfl, hq, he, q⟩ := h
  cases rx
  obtain ⟨t, rfl⟩ := ry
  obtain ⟨its, r, pl, hz⟩ := I.list hq
  obtain ⟨j, h1, h2, h3, h4, h5⟩ := atI_get he
  obtain ⟨w, ew, rw'⟩ := r.get h2
  have hl := r.length
  have hn := line63
  have fin : EP X pins σ Q w s := ⟨z, H, I, rw', q⟩
  by_cases h0 : 0 ≤ i
  · have hj : i.toNat = j := by
      rw [seqIndex_of h0 h5] at h1
      exact Option.some.inj h1
    exact item_listR pl.isList h0 (by omega) (by rw [hj]; simpa using ew) fin hs
  · have hj : (i + (its.toArray.size : Int)).toNat = j := by
      rw [seqIndex_neg (by omega) h4] at h1
      rw [List.size_toArray, ← hl]
      exact Option.some.inj h1
    exact subscriptTail_builtinR (x := w) pl.isList.typeIs slot_list_getitem.lookup
      (wpAny_getItem_list_neg (Q := fun r s' => r = w ∧ EP X pins σ Q r s') pl.isList (by omega) (by rw [List.size_toArray] <;> omega) (by omega) (by rw [hj]; simpa using ew) ⟨rfl, fin⟩) hs
theorem ix_tup : IxR X (rIxT X.K) := by
  intro value slice pins s σ H x y v u Q I rx ry h hs
  obtain ⟨p, xs, i, z, rfl, rfl, hq, he, q⟩ := h
  cases rx
  obtain ⟨t, rfl⟩ := ry
  obtain ⟨its, r, pl, hz⟩ := I.tuple hq
  obtain ⟨j, h1, h2, h3, h4, h5⟩ := atI_get he
  obtain ⟨w, ew, rw'⟩ := r.get h2
  have hl := r.length
  have hn := line63
  have fin : EP X pins σ Q w s := ⟨z, H, I, rw', q⟩
  exact subscriptTail_builtinR (x := w) pl.typeIs slot_tuple_getitem.lookup
    (getItem_tuple (j := j) (Q := fun r s' => r = w ∧ EP X pins σ Q r s') pl (by omega) (by omega) (by rw [List.size_toArray, ← hl]; exact h1) (by simpa using ew) ⟨rfl, fin⟩) hs
/-- list, tuple or str -/
def rIx (K : PySem.W.Frag) : R2 := fun x y H Q => rIxL K x y H Q ∨ rIxT K x y H Q ∨ rIxS x y H Q
/-! ### xs[i] = v, any sign -/
/-- the list's object behind a store -/
theorem mapSeq_set (its : List Value) (n j : Nat) (u : Value) : Obj.mapSeq (·.setIfInBounds j u) { cls := .type "list", data := .seq its.toArray n } = { cls := .type "list", data := .seq (its.set j u).toArray n } := by
  simp [Obj.mapSeq]
theorem Inv.lst {pins : List (Addr × Obj)} {σ : St} {H : Hp} {s : Shared} {p : Addr} {xs : List V} (I : Inv X pins σ H s) (h : H p = some (.lst xs)) :
    ∃ (its : List Value) (n : Nat), Vals xs its ∧ s.heap.get? p = some { cls := .type "list", data := .seq its.toArray n } ∧ xs.length ≤ sizeLine := by
  obtain ⟨z, its, n, r, e⟩ := I.hok p _ h
  exact ⟨its, n, r, e, z⟩
/-- the list at p is written by an update of its object -/
theorem Inv.lstUpd {pins : List (Addr × Obj)} {σ : St} {H : Hp} {s : Shared} {p : Addr} {xs ys : List V} {its its' : List Value} {n n' : Nat} {f : Obj → Obj} (I : Inv X pins σ H s) (h : H p = some (.lst xs))
    (ho : s.heap.get? p = some { cls := .type "list", data := .seq its.toArray n }) (hf : f { cls := .type "list", data := .seq its.toArray n } = { cls := .type "list", data := .seq its'.toArray n' }) (r : Vals ys its') (hz : ys.length ≤ sizeLine) (t : Nat) :
    Inv X pins σ (upd H p (.lst ys)) { s with heap := s.heap.update p f, toks := t } := by
  have e : (s.heap.update p f).get? p = some { cls := .type "list", data := .seq its'.toArray n' } := by
    rw [Heap.get?_update_self f ho (by rw [hf] <;> rfl), hf]
  refine I.write (x := p) (e := p) (by rw [h]; trivial) (.inl rfl) (fun b u hb q => (Heap.get?_update_other _ _ (Ne.symm hb)).trans q) ⟨_, e⟩ ?_
  exact ⟨hz, its', n', r, e⟩
def rSetL : V → V → V → Hp → (Hp → Prop) → Prop := fun o i v H Q => ∃ p xs k j, o = .ref p ∧ i = .int k ∧ H p = some (.lst xs) ∧ ixN xs.length k = some j ∧ Q (upd H p (.lst (xs.set j v)))
theorem set_list : PSet X rSetL := by
  intro pins s σ H o i v ov iv u Q I ro ri rv h
  obtain ⟨p, xs, k, j, rfl, rfl, hp, hj, q⟩ := h
  cases ro
  obtain ⟨t, rfl⟩ := ri
  obtain ⟨its, n, r, ho, hz⟩ := I.lst hp
  obtain ⟨h1, h2, h3, h4⟩ := ixN_seq hj
  have hl := r.length
  have hn := line63
  have I' : Inv X pins σ (upd H p (.lst (xs.set j v))) { s with heap := s.heap.update p (Obj.mapSeq (·.setIfInBounds j u)) } :=
    I.lstUpd hp ho (mapSeq_set its n j u) (r.set rv j) (by rw [List.length_set]; exact hz) s.toks
  by_cases h0 : 0 ≤ k
  · have hk : k.toNat = j := by
      rw [seqIndex_of h0 h4] at h1
      exact Option.some.inj h1
    exact PySem.W.ki_setAt ho h0 (by omega) (by rw [List.size_toArray, ← hl]; exact h4) (by rw [hk]; exact ⟨_, I', q⟩)
  · have hk : (k + (its.toArray.size : Int)).toNat = j := by
      rw [seqIndex_neg (by omega) h3] at h1
      rw [List.size_toArray, ← hl]
      exact Option.some.inj h1
    exact PySem.W.ki_setBack ho (by omega) (by rw [List.size_toArray, ← hl]; exact h3) (by omega) (by rw [hk]; exact ⟨_, I', q⟩)

/-! ### slices -/
theorem slice_bounds (lo hi : Option Int) (n : Nat) : (sliceBounds lo hi none n).1 = ((HT.sIx n 0 lo : Nat) : Int) ∧ (sliceBounds lo hi none n).2.1 = ((HT.sIx n n hi : Nat) : Int) ∧ (sliceBounds lo hi none n).2.2 = 1 := by
  refine ⟨?_, ?_, rfl⟩
  · cases lo with
    | none => simp [sliceBounds, HT.sIx]
    | some i =>
      simp only [sliceBounds, HT.sIx, Option.getD_none, show (1 : Int) > 0 by decide, if_true]
      by_cases h : i < 0
      · simp only [h, if_true] <;> omega
      · simp only [h, if_false] <;> omega
  · cases hi with
    | none => simp [sliceBounds, HT.sIx]
    | some i =>
      simp only [sliceBounds, HT.sIx, Option.getD_none, show (1 : Int) > 0 by decide, if_true]
      by_cases h : i < 0
      · simp only [h, if_true] <;> omega
      · simp only [h, if_false] <;> omega
theorem slicePick_cut (its : List Value) (lo hi : Option Int) : slicePick its.toArray lo hi none = ((its.drop (HT.sIx its.length 0 lo)).take (HT.sIx its.length its.length hi - HT.sIx its.length 0 lo)).toArray := by
  obtain ⟨h1, h2, h3⟩ := slice_bounds lo hi its.toArray.size
  unfold slicePick
  rw [h1, h2, h3]
  simp only [sliceRange_one, pick_run, List.size_toArray] <;> rfl
/-- xs[lo:hi] of a list: a new list -/
def rSlL (K : PySem.W.Frag) : V → Option Int → Option Int → Hp → VK → Prop := fun x lo hi H Q => ∃ a xs, x = .ref a ∧ SqL K H a xs ∧ ∀ p, H p = none → Q (.ref p) (upd H p (.lst (cutV xs lo hi)))
theorem sl_list : SlR X (rSlL X.K) := by
  intro pins s σ H x v vl vu lo hi sl Q I rx hs pl pu h
  obtain ⟨a, xs, rfl, hx, q⟩ := h
  cases rx
  obtain ⟨its, r, ht, hz⟩ := I.list hx
  have hlen := r.length
  refine ⟨"list", _, slot_list_getitem.lookup, ht.isList.typeIs, ?_⟩
  refine wpAny_getItem_list_slice ht.isList hs pl pu .none (by simp) ?_ (by rw [List.size_toArray] <;> omega)
  rw [slicePick_cut, ← hlen]
  refine ⟨.ref s.heap.objs.size, _, I.laid (t' := s.toks) (o := .lst (cutV xs lo hi)) (fun b ob q => Heap.get?_push_of_some _ q) (Nat.le_refl _) ?_, rfl, q _ (I.hok.fresh (Nat.le_refl _))⟩
  exact ⟨Nat.le_trans (cutV_length xs lo hi) hz, _, 0, (r.drop (HT.sIx xs.length 0 lo)).take (HT.sIx xs.length xs.length hi - HT.sIx xs.length 0 lo), Heap.get?_push_size _ rfl⟩

/-! ### in, not in: flat items -/
def flatV : V → Bool
  | .non => true
  | .bl _ => true
  | .int _ => true
  | .str _ => true
  | _ => false
/-- == of flat values -/
def eqV : V → V → Bool
  | .non, .non => true
  | .bl a, .bl b => a == b
  | .bl a, .int b => (if a then 1 else 0) == b
  | .int a, .bl b => a == (if b then 1 else 0)
  | .int a, .int b => a == b
  | .str a, .str b => a == b
  | _, _ => false
theorem eqAt_V {A : Around} {s : Shared} {y x : V} {u v : Value} (ry : RelV y u) (rx : RelV x v) (fy : flatV y = true) (fx : flatV x = true) : SeqAt.EqAt A s u v (eqV y x) := by
  cases y with
  | non =>
    cases ry
    cases x with
    | non => cases rx; exact SeqAt.EqAt.same _
    | bl b => cases rx; exact SeqAt.EqAt.none_bool b
    | int b => obtain ⟨t, rfl⟩ := rx; exact SeqAt.EqAt.none_int b t
    | str b => obtain ⟨t, rfl⟩ := rx; exact SeqAt.EqAt.none_str b t
    | _ => exact absurd (show false = true from fx) Bool.false_ne_true
  | bl a =>
    cases ry
    cases x with
    | non => cases rx; exact SeqAt.EqAt.bool_none a
    | bl b => cases rx; exact SeqAt.EqAt.bool_bool a b
    | int b => obtain ⟨t, rfl⟩ := rx; exact SeqAt.EqAt.bool_int a b t
    | str b => obtain ⟨t, rfl⟩ := rx; exact SeqAt.EqAt.bool_str a b t
    | _ => exact absurd (show false = true from fx) Bool.false_ne_true
  | int a =>
    obtain ⟨t', rfl⟩ := ry
    cases x with
    | non => cases rx; exact SeqAt.EqAt.int_none a t'
    | bl b => cases rx; exact SeqAt.EqAt.int_bool a t' b
    | int b => obtain ⟨t, rfl⟩ := rx; exact SeqAt.EqAt.int_int a t' b t
    | str b => obtain ⟨t, rfl⟩ := rx; exact SeqAt.EqAt.int_str a t' b t
    | _ => exact absurd (show false = true from fx) Bool.false_ne_true
  | str a =>
    obtain ⟨t', rfl⟩ := ry
    cases x with
    | non => cases rx; exact SeqAt.EqAt.str_none a t'
    | bl b => cases rx; exact SeqAt.EqAt.str_bool a t' b
    | int b => obtain ⟨t, rfl⟩ := rx; exact SeqAt.EqAt.str_int a t' b t
    | str b => obtain ⟨t, rfl⟩ := rx; exact SeqAt.EqAt.str_str a t' b t
    | _ => exact absurd (show false = true from fx) Bool.false_ne_true
  | _ => exact absurd (show false = true from fy) Bool.false_ne_true
/-- the items' answers, read off the values (a value's own answer does not lean on its token) -/
def eqU (x : V) (u : Value) : Bool := match u with
  | .none => eqV .non x
  | .bool b => eqV (.bl b) x
  | .int i _ => eqV (.int i) x
  | .str z _ => eqV (.str z) x
  | _ => false
theorem eqU_of {x y : V} {u : Value} (r : RelV y u) (f : flatV y = true) : eqU x u = eqV y x := by
  cases y with
  | non => cases r; rfl
  | bl b => cases r; rfl
  | int i => obtain ⟨t, rfl⟩ := r; rfl
  | str z => obtain ⟨t, rfl⟩ := r; rfl
  | _ => exact absurd (show false = true from f) Bool.false_ne_true
theorem any_eqU {x : V} : ∀ {xs : List V} {us : List Value}, Vals xs us → xs.all flatV = true → us.any (eqU x) = xs.any fun y => eqV y x
  | _, _, .nil, _ => rfl
  | y :: xs, u :: us, .cons r t, f => by
    rw [List.all_cons, Bool.and_eq_true] at f
    rw [List.any_cons, List.any_cons, eqU_of r f.1, any_eqU t f.2]
theorem mem_eqAt {A : Around} {s : Shared} {x : V} {v : Value} (rx : RelV x v) (fx : flatV x = true) : ∀ {xs : List V} {us : List Value}, Vals xs us → xs.all flatV = true → ∀ u ∈ us, SeqAt.EqAt A s u v (eqU x u)
  | _, _, .nil, _ => fun u hu => by cases hu
  | y :: xs, u :: us, .cons r t, f => fun u' hu => by
    rw [List.all_cons, Bool.and_eq_true] at f
    rcases List.mem_cons.mp hu with rfl | hu
    · rw [eqU_of r f.1]; exact eqAt_V r rx f.1 fx
    · exact mem_eqAt rx fx t f.2 u' hu
def inV (x : V) (xs : List V) : Bool := xs.any fun y => eqV y x
/-- x in a list or tuple of flat items -/
def rIn (K : PySem.W.Frag) (neg : Bool) : R2 := fun x y H Q => ∃ p xs, y = .ref p ∧ (SqL K H p xs ∨ SqT K H p xs) ∧ flatV x = true ∧ xs.all flatV = true ∧ Q (.bl (if neg then !inV x xs else inV x xs)) H
theorem op_in_seq : OpR X (compareOp .In) (rIn X.K false) := by
  intro pins s σ H x y v u Q I rx ry h
  obtain ⟨p, xs, rfl, hq, fx, fs, q⟩ := h
  cases ry
  rcases hq with hq | hq
  · obtain ⟨its, r, pl, hz⟩ := I.list hq
    refine SeqAt.in_listAt (eqU x) pl.isList (fun w hw => mem_eqAt rx fx r fs w (by simpa using hw)) ⟨.bl _, H, I, rfl, ?_⟩
    rw [show its.toArray.any (eqU x) = its.any (eqU x) by simp, any_eqU r fs]
    exact q
  · obtain ⟨its, r, pl, hz⟩ := I.tuple hq
    refine SeqAt.in_tupleAt (eqU x) pl (fun w hw => mem_eqAt rx fx r fs w (by simpa using hw)) ⟨.bl _, H, I, rfl, ?_⟩
    rw [show its.toArray.any (eqU x) = its.any (eqU x) by simp, any_eqU r fs]
    exact q
theorem op_notIn_seq : OpR X (compareOp .NotIn) (rIn X.K true) := by
  intro pins s σ H x y v u Q I rx ry h
  obtain ⟨p, xs, rfl, hq, fx, fs, q⟩ := h
  cases ry
  rcases hq with hq | hq
  · obtain ⟨its, r, pl, hz⟩ := I.list hq
    refine SeqAt.notIn_listAt (eqU x) pl.isList (fun w hw => mem_eqAt rx fx r fs w (by simpa using hw)) ⟨.bl _, H, I, rfl, ?_⟩
    rw [show its.toArray.any (eqU x) = its.any (eqU x) by simp, any_eqU r fs]
    exact q
  · obtain ⟨its, r, pl, hz⟩ := I.tuple hq
    refine SeqAt.notIn_tupleAt (eqU x) pl (fun w hw => mem_eqAt rx fx r fs w (by simpa using hw)) ⟨.bl _, H, I, rfl, ?_⟩
    rw [show its.toArray.any (eqU x) = its.any (eqU x) by simp, any_eqU r fs]
    exact q
/-! ### len, list(x), tuple(x) of any list or tuple that is read -/
theorem call_len_seq : CallR X (.builtin "len") (fun xs H Q => ∃ p ys, xs = [.ref p] ∧ (SqL X.K H p ys ∨ SqT X.K H p ys) ∧ Q (.int ys.length) H) := by
  intro pins s σ H xs us Q I r h
  obtain ⟨p, ys, rfl, hq, q⟩ := h
  obtain ⟨u, rfl, rx⟩ := vals1 r
  cases rx
  have hn := line63
  rcases hq with hq | hq
  · obtain ⟨its, r', pl, hz⟩ := I.list hq
    have hlen := r'.length
    exact Calls.call_len_list pl.isList (by simp only [List.size_toArray] <;> omega) ⟨.int ys.length, H, I.tok _, ⟨s.toks + 1, by rw [List.size_toArray, hlen]⟩, q⟩
  · obtain ⟨its, r', pl, hz⟩ := I.tuple hq
    have hlen := r'.length
    exact len_tuple pl (by simp only [List.size_toArray] <;> omega) ⟨.int ys.length, H, I.tok _, ⟨s.toks + 1, by rw [List.size_toArray, hlen]⟩, q⟩
theorem call_list_of : CallR X (.type "list") (fun xs H Q => ∃ p ys, xs = [.ref p] ∧ (SqL X.K H p ys ∨ SqT X.K H p ys) ∧ ∀ l, H l = none → Q (.ref l) (upd H l (.lst ys))) := by
  intro pins s σ H xs us Q I r h
  obtain ⟨p, ys, rfl, hq, q⟩ := h
  obtain ⟨u, rfl, rx⟩ := vals1 r
  cases rx
  have fin : ∀ (its : List Value), Vals ys its → ys.length ≤ sizeLine → ∀ (h' : Heap) (c' : Nat), (∀ b o', s.heap.get? b = some o' → h'.get? b = some o') →
      h'.get? s.heap.objs.size = some { cls := .type "list", dict := none, data := .seq its.toArray c', slots := #[] } → EP X pins σ Q (.ref s.heap.objs.size) { s with heap := h' } := fun its r' hz h' c' kp e =>
    ⟨.ref s.heap.objs.size, _, I.laid (t' := s.toks) kp (Nat.le_refl _) (show ObjOk X.prog X.w _ h' _ (.lst ys) from ⟨hz, its, c', r', e⟩), rfl, q _ (I.hok.fresh (Nat.le_refl _))⟩
  rcases hq with hq | hq
  · obtain ⟨its, r', pl, hz⟩ := I.list hq
    have hlen := r'.length
    obtain ⟨o, ho, hc, n, hd⟩ := pl.isList
    exact call_list_seq p (.inl rfl) ho hc hd (fun h' c' kp e => fin its r' hz h' c' kp e) (by simp only [List.size_toArray] <;> omega)
  · obtain ⟨its, r', pl, hz⟩ := I.tuple hq
    have hlen := r'.length
    obtain ⟨o, ho, hc, n, hd⟩ := pl
    exact call_list_seq p (.inr rfl) ho hc hd (fun h' c' kp e => fin its r' hz h' c' kp e) (by simp only [List.size_toArray] <;> omega)
/-! ### the call of a builtin's method: o.m(..) -/
/-- the value is of that builtin type -/
def tyV (K : PySem.W.Frag) (T : String) (x : V) (H : Hp) : Prop := match x with
  | .str _ => T = "str"
  | .int _ => T = "int"
  | .ref p => (T = "list" ∧ ∃ xs, SqL K H p xs) ∨ (T = "tuple" ∧ ∃ o, K.lookup p = some o ∧ o.cls = .type "tuple" ∧ o.dict = none) ∨
      (T = "dict" ∧ ((∃ kvs, H p = some (.dK kvs)) ∨ ∃ kvs, H p = some (.dT kvs))) ∨ (T = "set" ∧ ∃ S n, H p = some (.set S n))
  | _ => False
theorem tyV_is {pins : List (Addr × Obj)} {σ : St} {H : Hp} {s : Shared} {T : String} {x : V} {v : Value} (I : Inv X pins σ H s) (r : RelV x v) (ty : tyV X.K T x H) :
    s.TypeIs v T ∧ ∀ a, v = .ref a → ∃ ob, s.heap.get? a = some ob ∧ ob.dict = none := by
  cases x with
  | str z =>
    obtain ⟨t, rfl⟩ := r
    cases (show T = "str" from ty)
    exact ⟨typeIs_str s z t, fun _ e => nomatch e⟩
  | int i =>
    obtain ⟨t, rfl⟩ := r
    cases (show T = "int" from ty)
    exact ⟨typeIs_int s i t, fun _ e => nomatch e⟩
  | ref p =>
    cases r
    rcases ty with ⟨rfl, xs, hq⟩ | ⟨rfl, o, hk, hc, hd⟩ | ⟨rfl, hk⟩ | ⟨rfl, S, n, hk⟩
    · obtain ⟨its, _, pl, _⟩ := I.list hq
      refine ⟨pl.isList.typeIs, fun a e => ?_⟩
      cases e
      obtain ⟨o, n, e, c, hd, _⟩ := pl
      exact ⟨o, e, hd⟩
    · refine ⟨⟨o, I.kIn p o hk, hc⟩, fun a e => ?_⟩
      cases e
      exact ⟨o, I.kIn _ o hk, hd⟩
    · have z : ∃ o, s.heap.get? p = some o ∧ o.ExactDict := by
        rcases hk with ⟨kvs, hk⟩ | ⟨kvs, hk⟩
        · obtain ⟨_, _, _, _, o, _, _, e, ex, _⟩ := I.hok p _ hk
          exact ⟨o, e, ex⟩
        · obtain ⟨_, _, _, _, o, _, _, e, ex, _⟩ := I.hok p _ hk
          exact ⟨o, e, ex⟩
      obtain ⟨o, e, ex⟩ := z
      refine ⟨⟨o, e, ex.1⟩, fun a e2 => ?_⟩
      cases e2
      exact ⟨o, e, ex.2.1⟩
    · obtain ⟨o, _, _, _, e, ex, _⟩ := I.hok p _ hk
      refine ⟨⟨o, e, ex.1⟩, fun a e2 => ?_⟩
      cases e2
      exact ⟨o, e, ex.2.1⟩
  | _ => exact False.elim ty
def tBM0 (K : PySem.W.Frag) (T : String) (r : V → List V → Hp → VK → Prop) (to : TE) : TE := fun σ H Q => to σ H fun x H1 => tyV K T x H1 ∧ r x [] H1 Q
def tBM (K : PySem.W.Frag) (T : String) (r : V → List V → Hp → VK → Prop) (to : TE) (t : TA) : TE := fun σ H Q => to σ H fun x H1 => tyV K T x H1 ∧ t σ H1 fun xs H2 => r x xs H2 Q
variable {o e : Expr} {es : List Expr} {to : TE} {t : TA} {name : Str} {apos cpos : Pos} {T id : String} {r : V → List V → Hp → VK → Prop}
theorem pe_bm0 (pa : PlainAttrs T) (slot : Slot T name id) (hty : typeOf (.builtin id) = pure (.type "method_descriptor")) (hm : MtR X id r) (ho : PE X o to)
    (hbase : attributeBase o name X.env (eval o X.env) = eval o X.env := by rfl) (hline : (apos.endLine == cpos.line) = true := by rfl) : PE X (.Call (.Attribute o name apos) [] [] cpos) (tBM0 X.K T r to) := by
  intro pins s σ H Q I h
  refine wpAny_Call_method0_late hbase hline (thn (ho pins s σ H _ I h) fun v s1 ⟨x, H1, I1, r1, ty, q1⟩ => ?_)
  obtain ⟨h1, h2⟩ := tyV_is I1 r1 ty
  exact ⟨T, id, pa, slot, hty, h1, h2, Calls.callWith_builtin rfl (PySem.evalArgs_none (hm pins s1 σ H1 x [] v [] Q I1 r1 .nil q1))⟩
theorem pe_bm (pa : PlainAttrs T) (slot : Slot T name id) (hty : typeOf (.builtin id) = pure (.type "method_descriptor")) (hm : MtR X id r) (ho : PE X o to) (ha : PA X (e :: es) t)
    (hbase : attributeBase o name X.env (eval o X.env) = eval o X.env := by rfl)
    (hfew : ((backTo cpos (starEach (e :: es) X.env)).all (fun x => !x.1) && (backToKw cpos (keywordEach [] X.env)).all (fun x => x.1.isSome)
      && decide ((e :: es).length + ([] : List Keyword).length + (if ([] : List Keyword).isEmpty then 0 else 1) < 30)) = true := by rfl)
    (hline : (apos.endLine == cpos.line) = true := by rfl) (hs : starEach (e :: es) X.env = (false, eval e X.env) :: starEach es X.env := by rfl) (hplain : (backTo cpos (starEach es X.env)).any (·.1) = false := by rfl) :
    PE X (.Call (.Attribute o name apos) (e :: es) [] cpos) (tBM X.K T r to t) := by
  intro pins s σ H Q I h
  refine wpAny_Call_method_late hbase hfew hline rfl (thn (ho pins s σ H _ I h) fun v s1 ⟨x, H1, I1, r1, ty, q1⟩ => ?_)
  obtain ⟨h1, h2⟩ := tyV_is I1 r1 ty
  refine ⟨T, id, pa, slot, hty, h1, h2, ?_⟩
  have hA := ha cpos pins s1 σ H1 _ I1 q1
  rw [hs] at hA ⊢
  refine Calls.callWith_builtin (by show (false || (backTo cpos (starEach es X.env)).any (·.1)) = false; rw [hplain] <;> rfl) (Calls.evalArgs_plain ?_)
  exact thn hA fun us s2 ⟨vs, H2, I2, r2, q2⟩ => hm pins s2 σ H2 x vs v us Q I2 r1 r2 q2
/- xs.append(e), list.index on a module's tuple .. are MtR facts of 06m -/
end
end L2

namespace L2
open PySem PySem.Spec PyProof.Rows

def MtM (X : Cx) (id : String) (r : V → List V → Hp → VK → Prop) : Prop :=
  ∀ (pins : List (Addr × Obj)) (s : Shared) (σ : St) (H : Hp) (x : V) (xs : List V) (v : Value) (us : List Value) (Q : VK), Inv X pins σ H s → RelV x v → Vals xs us → r x xs H Q →
    wpAny (model X.prog X.w) X.A (call (.builtin id) (v :: us)) (EP X pins σ Q) X.xe s

/-! ### lists of values -/
theorem Vals.one : ∀ {x : V} {us : List Value}, Vals [x] us → ∃ u, us = [u] ∧ RelV x u
  | _, _, .cons r .nil => ⟨_, rfl, r⟩
theorem Vals.two : ∀ {x y : V} {us : List Value}, Vals [x, y] us → ∃ u v, us = [u, v] ∧ RelV x u ∧ RelV y v
  | _, _, _, .cons r (.cons q .nil) => ⟨_, _, rfl, r, q⟩
theorem Vals.zero : ∀ {us : List Value}, Vals [] us → us = []
  | _, .nil => rfl
theorem Vals.dropLast {xs : List V} {us : List Value} (h : Vals xs us) : Vals xs.dropLast us.dropLast := by
  induction h with
  | nil => exact .nil
  | cons r t ih =>
    cases t with
    | nil => exact .nil
    | cons q t' => exact .cons r ih
theorem erase_last {α : Type} (l : List α) : l.eraseIdx (l.length - 1) = l.dropLast := by
  induction l with
  | nil => rfl
  | cons a r ih =>
    cases r with
    | nil => rfl
    | cons b r =>
      have e : (a :: b :: r).length - 1 = ((b :: r).length - 1) + 1 := by
        have h1 : (a :: b :: r).length = r.length + 2 := rfl
        have h2 : (b :: r).length = r.length + 1 := rfl
        omega
      rw [e, List.eraseIdx_cons_succ, ih]
      all_goals rfl
section
variable {X : Cx} {pins : List (Addr × Obj)} {σ : St} {H : Hp} {s : Shared} {l b : Addr} {xs ys zs : List V}

/-! ### the two steps: a tracked list is rewritten, a new list is laid -/
theorem Inv.lset {its its' : List Value} {n : Nat} {f : Array Value → Array Value} {t' : Nat} (I : Inv X pins σ H s) (hH : H l = some (.lst xs))
    (e : s.heap.get? l = some { cls := .type "list", data := .seq its.toArray n }) (hf : f its.toArray = its'.toArray) (hv : Vals ys its') (hz : ys.length ≤ sizeLine) :
    Inv X pins σ (upd H l (.lst ys)) { s with heap := s.heap.update l (Obj.mapSeq f), toks := t' } := by
  have q := PySem.IsL.update e f
  rw [hf] at q
  refine I.write (x := l) (e := l) (by rw [hH]; exact trivial) (.inl rfl) (fun b' u hb hu => (Heap.get?_update_other s.heap (Obj.mapSeq f) (Ne.symm hb)).trans hu) ⟨_, q⟩ ?_
  exact ⟨hz, its', _, hv, q⟩
theorem Inv.lnew {its : List Value} {t' : Nat} (I : Inv X pins σ H s) (hv : Vals ys its) (hz : ys.length ≤ sizeLine) :
    Inv X pins σ (upd H s.heap.objs.size (.lst ys)) { s with heap := s.heap.push { cls := .type "list", data := .seq its.toArray }, toks := t' } :=
  I.laid (fun _ _ q => Heap.get?_push_of_some _ q) (Nat.le_refl _) ⟨hz, its, 0, hv, Heap.get?_push_size _ rfl⟩
theorem Inv.lstM (I : Inv X pins σ H s) (hH : H l = some (.lst xs)) : xs.length ≤ sizeLine ∧ ∃ (its : List Value) (n : Nat), Vals xs its ∧ xs.length = its.length ∧ s.heap.get? l = some { cls := .type "list", data := .seq its.toArray n } := by
  obtain ⟨z, its, n, r, e⟩ := I.hok l _ hH
  exact ⟨z, its, n, r, r.length, e⟩

theorem notLongL {n : Nat} (h : n ≤ sizeLine) : Builtin.List.listTooLong n = false := by
  unfold Builtin.List.listTooLong
  exact decide_eq_false (by omega)
end

section
variable {X : Cx}

/-! ### methods -/
def rAppend : V → List V → Hp → VK → Prop := fun x vs H Q => ∃ l xs y, x = .ref l ∧ vs = [y] ∧ H l = some (.lst xs) ∧ xs.length < sizeLine ∧ Q .non (upd H l (.lst (xs ++ [y])))
theorem mt_append : MtM X "list.append" rAppend := by
  intro pins s σ H x vs v us Q I rx rv h
  obtain ⟨l, xs, y, rfl, rfl, hH, hz, q⟩ := h
  cases rx
  obtain ⟨u, rfl, ru⟩ := rv.one
  obtain ⟨z, its, n, r, hl, e⟩ := I.lstM hH
  refine call_meets F.slot_list_append ⟨_, e, rfl⟩ F.entry_list_append (F.args_list_append_2 _ _) (PySem.list_append l its.toArray n u (by rw [List.size_toArray]; omega)) ⟨e, ?_⟩
  refine ⟨.non, _, I.lset (its' := its ++ [u]) hH e (by simp) (r.append (.cons ru .nil)) ?_, rfl, q⟩
  rw [List.length_append, List.length_singleton]
  omega

def rExtend : V → List V → Hp → VK → Prop := fun x vs H Q => ∃ l b xs zs, x = .ref l ∧ vs = [.ref b] ∧ H l = some (.lst xs) ∧ H b = some (.lst zs) ∧ xs.length + zs.length ≤ sizeLine ∧ Q .non (upd H l (.lst (xs ++ zs)))
theorem mt_extend : MtM X "list.extend" rExtend := by
  intro pins s σ H x vs v us Q I rx rv h
  obtain ⟨l, b, xs, zs, rfl, rfl, hH, hB, hz, q⟩ := h
  cases rx
  obtain ⟨u, rfl, ru⟩ := rv.one
  cases ru
  obtain ⟨z, its, n, r, hl, e⟩ := I.lstM hH
  obtain ⟨z2, its2, n2, r2, hl2, e2⟩ := I.lstM hB
  have hsz : its.toArray.size + its2.toArray.size ≤ sizeLine := by rw [List.size_toArray, List.size_toArray]; omega
  have hlong : ¬ (!its.toArray.isEmpty && Builtin.List.listTooLong (its.toArray.size + its2.toArray.size)) = true := by
    rw [notLongL hsz, Bool.and_false]
    exact Bool.false_ne_true
  refine call_meets F.slot_list_extend ⟨_, e, rfl⟩ F.entry_list_extend (F.args_list_extend_2 _ _)
    (AutoSeq1.list_extend_list_list_0 l its.toArray n b its2.toArray n2 hlong (by rw [List.size_toArray]; omega) (by omega)) ⟨e, e2, ?_⟩
  refine ⟨.non, _, I.lset (its' := its ++ its2) hH e (by simp) (r.append r2) ?_, rfl, q⟩
  rw [List.length_append]
  omega

def rPop : V → List V → Hp → VK → Prop := fun x vs H Q => ∃ l xs y, x = .ref l ∧ vs = [] ∧ H l = some (.lst xs) ∧ xs[xs.length - 1]? = some y ∧ Q y (upd H l (.lst xs.dropLast))
theorem mt_pop : MtM X "list.pop" rPop := by
  intro pins s σ H x vs v us Q I rx rv h
  obtain ⟨l, xs, y, rfl, rfl, hH, hy, q⟩ := h
  cases rx
  have hus := rv.zero
  subst hus
  obtain ⟨z, its, n, r, hl, e⟩ := I.lstM hH
  obtain ⟨u, hu, ru⟩ := r.get hy
  have hy' : its.toArray[its.toArray.size - 1]? = some u := by
    show its.toArray[its.length - 1]? = some u
    rw [← Array.getElem?_toList, ← hl]
    exact hu
  refine call_meets F.slot_list_pop ⟨_, e, rfl⟩ F.entry_list_pop (F.args_list_pop_1 _) (MeetsSeq.list_pop_last l its.toArray n u hy' (by rw [List.size_toArray]; omega)) ⟨e, ?_⟩
  refine ⟨y, _, I.lset (its' := its.dropLast) hH e ?_ r.dropLast ?_, ru, q⟩
  · show its.toArray.eraseIdxIfInBounds (its.toArray.size - 1) = its.dropLast.toArray
    rw [List.size_toArray, List.eraseIdxIfInBounds_toArray, erase_last]
  · rw [List.length_dropLast]
    omega

def rPopAt : V → List V → Hp → VK → Prop := fun x vs H Q => ∃ l xs i k y, x = .ref l ∧ vs = [.int i] ∧ H l = some (.lst xs) ∧ -(2 ^ 63) ≤ i ∧ i < 2 ^ 63 ∧ seqIndex? i xs.length = some k ∧ xs[k]? = some y ∧ Q y (upd H l (.lst (xs.eraseIdx k)))
def rReverse : V → List V → Hp → VK → Prop := fun x vs H Q => ∃ l xs, x = .ref l ∧ vs = [] ∧ H l = some (.lst xs) ∧ Q .non (upd H l (.lst xs.reverse))
def rClear : V → List V → Hp → VK → Prop := fun x vs H Q => ∃ l xs, x = .ref l ∧ vs = [] ∧ H l = some (.lst xs) ∧ Q .non (upd H l (.lst []))
theorem mt_clear : MtM X "list.clear" rClear := by
  intro pins s σ H x vs v us Q I rx rv h
  obtain ⟨l, xs, rfl, rfl, hH, q⟩ := h
  cases rx
  have hus := rv.zero
  subst hus
  obtain ⟨z, its, n, r, hl, e⟩ := I.lstM hH
  refine call_meets F.slot_list_clear ⟨_, e, rfl⟩ F.entry_list_clear (F.args_list_clear_1 _) (AutoSeq1.list_clear_list_0 l its.toArray n (by rw [List.size_toArray]; omega)) ⟨e, ?_⟩
  exact ⟨.non, _, I.lset (its' := []) (ys := []) hH e rfl .nil (Nat.zero_le _), rfl, q⟩

/-! ### list + list, list += list, list * int -/
def rCat : R2 := fun x y H Q => ∃ l b xs zs, x = .ref l ∧ y = .ref b ∧ H l = some (.lst xs) ∧ H b = some (.lst zs) ∧ xs.length + zs.length ≤ sizeLine ∧ ∀ p, H p = none → Q (.ref p) (upd H p (.lst (xs ++ zs)))
/-- a list times an int (a negative one is nothing) -/
def rRep : R2 := fun x y H Q => ∃ l k xs, x = .ref l ∧ y = .int k ∧ H l = some (.lst xs) ∧ -(2 ^ 63) ≤ k ∧ k < 2 ^ 63 ∧ xs.length * k.toNat ≤ sizeLine ∧
  ∀ p, H p = none → Q (.ref p) (upd H p (.lst (List.replicate k.toNat xs).flatten))
/-! ### del xs[i] -/
end

/-! ### xs[a:b] = ys -/
section
variable {prog : Program} {w : World} {A : Around} {E : Value → Shared → Prop} {s : Shared}
end

section
variable {X : Cx}
end
end L2

namespace L2
open PySem PySem.Spec PyProof.Rows

/-! ### lists of pairs as tables -/
section
variable {κ : Type} [DecidableEq κ]
def valV (kvs : List (κ × V)) (k : κ) : Option V := (kvs.find? fun kv => decide (kv.1 = k)).map (·.2)
/-- in its place, or at the end -/
def putK (kvs : List (κ × V)) (k : κ) (v : V) : List (κ × V) :=
  if (kvs.any fun kv => decide (kv.1 = k)) = true then kvs.map (fun kv => if kv.1 = k then (kv.1, v) else kv) else kvs ++ [(k, v)]
def dropK (kvs : List (κ × V)) (k : κ) : List (κ × V) := kvs.filter fun kv => decide (kv.1 ≠ k)

theorem valV_pos {p : κ × V} {r : List (κ × V)} {k : κ} (e : p.1 = k) : valV (p :: r) k = some p.2 := by simp [valV, List.find?_cons, e]
theorem valV_neg {p : κ × V} {r : List (κ × V)} {k : κ} (e : ¬ p.1 = k) : valV (p :: r) k = valV r k := by simp [valV, List.find?_cons, e]
theorem valV_any (k : κ) : ∀ kvs : List (κ × V), (kvs.any fun kv => decide (kv.1 = k)) = (valV kvs k).isSome
  | [] => rfl
  | p :: r => by
    rw [List.any_cons]
    by_cases e : p.1 = k
    · simp only [valV_pos e, decide_eq_true e, Bool.true_or, Option.isSome_some]
    · rw [valV_neg e, decide_eq_false e, Bool.false_or]; exact valV_any k r
theorem length_putK (kvs : List (κ × V)) (k : κ) (v : V) : (putK kvs k v).length ≤ kvs.length + 1 := by
  unfold putK
  split
  · rw [List.length_map]; omega
  · rw [List.length_append, List.length_cons, List.length_nil]; omega
theorem putK_new {kvs : List (κ × V)} {k : κ} (v : V) (h : valV kvs k = none) : putK kvs k v = kvs ++ [(k, v)] := by
  unfold putK
  rw [valV_any, h]
  exact if_neg (by decide)

theorem RelO.isSome_eq {o : Option V} {u : Option Value} (r : RelO o u) : o.isSome = u.isSome := by
  cases o with
  | none => cases u with
    | none => rfl
    | some _ => exact (show False from r).elim
  | some _ => cases u with
    | none => exact (show False from r).elim
    | some _ => rfl
theorem RelO.getD {o : Option V} {u : Option Value} {d : V} {d' : Value} (r : RelO o u) (rd : RelV d d') : RelV (o.getD d) (u.getD d') := by
  cases o with
  | none => cases u with
    | none => exact rd
    | some _ => exact (show False from r).elim
  | some _ => cases u with
    | none => exact (show False from r).elim
    | some _ => exact r

/-- raw tables of the same keys -/
theorem KV.val {kvs : List (κ × V)} {vs : List (κ × Value)} (r : KV kvs vs) (k : κ) : RelO (valV kvs k) (valueAt vs k) := by
  unfold KV at r
  induction r with
  | nil => exact True.intro
  | @cons p q ps qs h t ih =>
    obtain ⟨h1, h2⟩ := h
    by_cases e : p.1 = k
    · have e' : q.1 = k := h1.symm.trans e
      have b : valueAt (q :: qs) k = some q.2 := by simp [valueAt, List.find?_cons, e']
      rw [valV_pos e, b]; exact h2
    · have e' : ¬ q.1 = k := fun z => e (h1.trans z)
      have b : valueAt (q :: qs) k = valueAt qs k := by simp [valueAt, List.find?_cons, e']
      rw [valV_neg e, b]; exact ih
theorem KV.any {kvs : List (κ × V)} {vs : List (κ × Value)} (r : KV kvs vs) (k : κ) : (kvs.any fun kv => decide (kv.1 = k)) = vs.any fun kv => decide (kv.1 = k) := by
  unfold KV at r
  induction r with
  | nil => rfl
  | cons h t ih => rw [List.any_cons, List.any_cons, ih, h.1]
theorem KV.repl {kvs : List (κ × V)} {vs : List (κ × Value)} (r : KV kvs vs) (k : κ) {y : V} {u : Value} (ry : RelV y u) :
    KV (kvs.map fun kv => if kv.1 = k then (kv.1, y) else kv) (vs.map fun kv => if kv.1 = k then (kv.1, u) else kv) := by
  unfold KV at r ⊢
  induction r with
  | nil => exact .nil
  | @cons p q ps qs h t ih =>
    rw [List.map_cons, List.map_cons]
    refine .cons ?_ ih
    obtain ⟨h1, h2⟩ := h
    by_cases e : p.1 = k
    · rw [if_pos e, if_pos (h1.symm.trans e)]; exact ⟨h1, ry⟩
    · rw [if_neg e, if_neg (fun z => e (h1.trans z))]; exact ⟨h1, h2⟩
theorem KV.put {kvs : List (κ × V)} {vs : List (κ × Value)} (r : KV kvs vs) (k : κ) {y : V} {u : Value} (ry : RelV y u) : KV (putK kvs k y) (stored vs k u) := by
  unfold putK stored
  rw [r.any k]
  by_cases e : (vs.any fun kv => decide (kv.1 = k)) = true
  · rw [if_pos e, if_pos e]; exact r.repl k ry
  · rw [if_neg e, if_neg e]; exact Paired.snoc r ⟨rfl, ry⟩
theorem KV.length {kvs : List (κ × V)} {vs : List (κ × Value)} (r : KV kvs vs) : kvs.length = vs.length := Paired.length r
end


/-! ### a tracked dict, its keys ints and texts or tuples of these -/
theorem kV_is {P : Program} {w : World} {k : Key} {u : Value} (r : RelV (kV k) u) : (mixKind P w).is k u = true := by
  cases k with
  | inl i => obtain ⟨t, e⟩ := (show ∃ t, u = Value.int i t from r); subst e; exact mixKind_int P w i t
  | inr x => obtain ⟨t, e⟩ := (show ∃ t, u = Value.str x t from r); subst e; exact mixKind_str P w x t
theorem items_are {P : Program} {w : World} : ∀ {ks : List Key} {us : List Value}, Vals (ks.map kV) us → ItemsAre (mixKind P w) ks us
  | [], _, r => by rw [List.map_nil] at r; cases r; exact .nil
  | k :: ks, _, r => by
    rw [List.map_cons] at r
    cases r with
    | cons h t => exact .cons (kV_is h) (items_are t)

/-- raw entries of a dict with tuple keys -/
abbrev KT (H : Hp) : List (List Key × V) → List (List Key × Addr × Value) → Prop := Paired fun p q => p.1 = q.1 ∧ H q.2.1 = some (.tup (p.1.map kV)) ∧ RelV p.2 q.2.2
theorem KT.val {H : Hp} {kvs : List (List Key × V)} {xs : List (List Key × Addr × Value)} (r : KT H kvs xs) (k : List Key) : RelO (valV kvs k) ((atKey xs k).map (·.2)) := by
  induction r with
  | nil => exact True.intro
  | @cons p q ps qs h t ih =>
    obtain ⟨h1, _, h2⟩ := h
    by_cases e : p.1 = k
    · have e' : q.1 = k := h1.symm.trans e
      have b : atKey (q :: qs) k = some q.2 := by simp [atKey, List.find?_cons, e']
      rw [valV_pos e, b]; exact h2
    · have e' : ¬ q.1 = k := fun z => e (h1.trans z)
      have b : atKey (q :: qs) k = atKey qs k := by simp [atKey, List.find?_cons, e']
      rw [valV_neg e, b]; exact ih
theorem KT.repl {H : Hp} {kvs : List (List Key × V)} {xs : List (List Key × Addr × Value)} (r : KT H kvs xs) (k : List Key) {y : V} {u : Value} (ry : RelV y u) :
    KT H (kvs.map fun kv => if kv.1 = k then (kv.1, y) else kv) (xs.map (putAt k u)) := by
  induction r with
  | nil => exact .nil
  | @cons p q ps qs h t ih =>
    rw [List.map_cons, List.map_cons]
    refine .cons ?_ ih
    obtain ⟨h1, h2, h3⟩ := h
    unfold putAt
    by_cases e : p.1 = k
    · rw [if_pos e, if_pos (h1.symm.trans e)]; exact ⟨h1, h2, ry⟩
    · rw [if_neg e, if_neg (fun z => e (h1.trans z))]; exact ⟨h1, h2, h3⟩
theorem KT.put {H : Hp} {kvs : List (List Key × V)} {xs : List (List Key × Addr × Value)} (r : KT H kvs xs) (k : List Key) {b : Addr} {y : V} {u : Value} (hb : H b = some (.tup (k.map kV))) (ry : RelV y u) :
    KT H (putK kvs k y) (storedH xs k b u) := by
  have e : (kvs.any fun kv => decide (kv.1 = k)) = (atKey xs k).isSome := by
    rw [valV_any, (r.val k).isSome_eq, Option.isSome_map]
  unfold putK storedH
  rw [e]
  by_cases q : (atKey xs k).isSome = true
  · rw [if_pos q, if_pos q]; exact r.repl k ry
  · rw [if_neg q, if_neg q]; exact Paired.snoc r ⟨rfl, hb, ry⟩
theorem KT.keeps {H H' : Hp} {kvs : List (List Key × V)} {xs : List (List Key × Addr × Value)} (r : KT H kvs xs) (ht : ∀ b ys, H b = some (.tup ys) → H' b = some (.tup ys)) : KT H' kvs xs :=
  Paired.mapP r fun _ _ z => ⟨z.1, ht _ _ z.2.1, z.2.2⟩

section
variable {P : Program} {w : World} {H : Hp} {h : Heap} {a : Addr}
theorem rd_of {u : HO} (ok : HOk P w H h) (e : Rd H a u) : ObjOk P w H h a u := e.ok ok
theorem dk_rd {kvs : List (Key × V)} (ok : HOk P w H h) (e : Rd H a (.dK kvs)) : kvs.length ≤ sizeLine ∧ (a == sysModules) = false ∧ ∃ vs, KV kvs vs ∧ h.DictOf (mixKind P w) a vs :=
  show ObjOk P w H h a (.dK kvs) from rd_of ok e
theorem dk_of {kvs : List (Key × V)} (ok : HOk P w H h) (e : H a = some (.dK kvs)) : kvs.length ≤ sizeLine ∧ (a == sysModules) = false ∧ ∃ vs, KV kvs vs ∧ h.DictOf (mixKind P w) a vs := dk_rd ok (.inl e)
/-- a tracked tuple of ints and texts is a key -/
theorem key_of {ks : List Key} (ok : HOk P w H h) (e : H a = some (.tup (ks.map kV))) : (tupleKind (mixKind P w)).is h ks a := by
  obtain ⟨_, its, r, o, h1, h2, n, h3⟩ := (show ObjOk P w H h a (.tup (ks.map kV)) from ok a _ e)
  exact ⟨o, its.toArray, n, h1, h2, h3, by simpa using items_are r⟩
theorem dt_rd {kvs : List (List Key × V)} (ok : HOk P w H h) (e : Rd H a (.dT kvs)) : kvs.length ≤ sizeLine ∧ (a == sysModules) = false ∧
    ∃ xs, KT H kvs xs ∧ h.DictOfH (tupleKind (mixKind P w)) a xs := by
  obtain ⟨z, y, xs, r, o, es, ep, h1, h2, h3, h4, h5⟩ := (show ObjOk P w H h a (.dT kvs) from rd_of ok e)
  refine ⟨z, y, xs, r, o, es, ep, h1, h2, h3, h4, fun x hx => ?_, h5⟩
  have all : ∀ {l : List (List Key × V)} {m : List (List Key × Addr × Value)}, KT H l m → ∀ x ∈ m, (tupleKind (mixKind P w)).is h x.1 x.2.1 := by
    intro l m q
    induction q with
    | nil => intro x hx; exact nomatch hx
    | @cons p q ps qs hq t ih =>
      intro x hx
      rcases List.mem_cons.mp hx with e | hx
      · subst e
        exact key_of ok (by rw [← hq.1]; exact hq.2.1)
      · exact ih x hx
  exact all r x hx
theorem dt_of {kvs : List (List Key × V)} (ok : HOk P w H h) (e : H a = some (.dT kvs)) : kvs.length ≤ sizeLine ∧ (a == sysModules) = false ∧
    ∃ xs, KT H kvs xs ∧ h.DictOfH (tupleKind (mixKind P w)) a xs := dt_rd ok (.inl e)
end

/-- what the dict at a holds at the key y -/
def DGet (H : Hp) (a : Addr) (y : V) (r : Option V) : Prop :=
  (∃ kvs k, Rd H a (.dK kvs) ∧ y = kV k ∧ r = valV kvs k) ∨ ∃ kvs k b, Rd H a (.dT kvs) ∧ y = .ref b ∧ H b = some (.tup (k.map kV)) ∧ r = valV kvs k
/-- the heap behind a[y] = v -/
def DPut (H : Hp) (a : Addr) (y v : V) (H' : Hp) : Prop :=
  (∃ kvs k, H a = some (.dK kvs) ∧ y = kV k ∧ kvs.length < sizeLine ∧ H' = upd H a (.dK (putK kvs k v))) ∨
  ∃ kvs k b, H a = some (.dT kvs) ∧ y = .ref b ∧ H b = some (.tup (k.map kV)) ∧ kvs.length < sizeLine ∧ H' = upd H a (.dT (putK kvs k v))
theorem DGet.k {H : Hp} {a : Addr} {kvs : List (Key × V)} {k : Key} (e : H a = some (.dK kvs)) : DGet H a (kV k) (valV kvs k) := .inl ⟨kvs, k, .inl e, rfl, rfl⟩
theorem DPut.k {H : Hp} {a : Addr} {kvs : List (Key × V)} {k : Key} {v : V} (e : H a = some (.dK kvs)) (hl : kvs.length < sizeLine) : DPut H a (kV k) v (upd H a (.dK (putK kvs k v))) := .inl ⟨kvs, k, e, rfl, hl, rfl⟩
section
variable {X : Cx} {pins : List (Addr × Obj)} {σ : St} {H : Hp} {s : Shared} {a : Addr} {y v : V} {u r : Value} {o : Option V} {A : Around} {E : Value → Shared → Prop}

theorem Inv.big (I : Inv X pins σ H s) : sysModules < s.heap.objs.size := by
  have h : mainGlobals < s.heap.objs.size := (I.mod.glob.keeps I.bk).lt
  exact Nat.lt_trans (by decide) h

/-- d[y], there -/
theorem d_getItem {Q : Value → Shared → Prop} (hu : A.units + 1 < cLine) (I : Inv X pins σ H s) (g : DGet H a y (some v)) (ry : RelV y u) (h : ∀ w' s', Inv X pins σ H s' → RelV v w' → Q w' s') :
    wpAny (model X.prog X.w) A (getItem (.ref a) u) Q E s := by
  rcases g with ⟨kvs, k, e, ey, l⟩ | ⟨kvs, k, b, e, ey, eb, l⟩
  · subst ey
    obtain ⟨z, hd, vs, rel, dd⟩ := dk_rd I.hok e
    obtain ⟨w', hw, rw'⟩ := RelO.some_of (v := v) (o := valueAt vs k) (by rw [l]; exact rel.val k)
    exact wpAny_getItem_of (kV_is ry) dd.mapOf hw (h w' _ (I.tok _) rw')
  · subst ey
    cases (show u = Value.ref b from ry)
    obtain ⟨z, hd, xs, rel, dd⟩ := dt_rd I.hok e
    obtain ⟨w', hw, rw'⟩ := RelO.some_of (v := v) (o := (atKey xs k).map (·.2)) (by rw [l]; exact rel.val k)
    obtain ⟨p, hp, hp2⟩ := Option.map_eq_some_iff.mp hw
    refine wpAny_getItem_heap (tupleKind_room_in1 hu) (key_of I.hok eb) dd hp ?_
    rw [hp2]
    exact h w' _ (I.tok _) rw'
/-- y in d -/
theorem d_in {Q : Value → Shared → Prop} (hu : A.units + 1 < cLine) (I : Inv X pins σ H s) (g : DGet H a y o) (ry : RelV y u) (h : ∀ s', Inv X pins σ H s' → Q (.bool o.isSome) s') :
    wpAny (model X.prog X.w) A (compareOp .In u (.ref a)) Q E s := by
  rcases g with ⟨kvs, k, e, ey, l⟩ | ⟨kvs, k, b, e, ey, eb, l⟩
  · subst ey
    obtain ⟨z, hd, vs, rel, dd⟩ := dk_rd I.hok e
    refine wpAny_in_of (kV_is ry) hd dd.mapOf ?_
    rw [← (rel.val k).isSome_eq, ← l]
    exact h _ (I.tok _)
  · subst ey
    cases (show u = Value.ref b from ry)
    obtain ⟨z, hd, xs, rel, dd⟩ := dt_rd I.hok e
    refine wpAny_in_heap (tupleKind_room_in1 hu) (key_of I.hok eb) hd dd ?_
    have q := (rel.val k).isSome_eq
    rw [Option.isSome_map] at q
    rw [← q, ← l]
    exact h _ (I.tok _)
theorem d_notIn {Q : Value → Shared → Prop} (hu : A.units + 1 < cLine) (I : Inv X pins σ H s) (g : DGet H a y o) (ry : RelV y u) (h : ∀ s', Inv X pins σ H s' → Q (.bool (!o.isSome)) s') :
    wpAny (model X.prog X.w) A (compareOp .NotIn u (.ref a)) Q E s := by
  rcases g with ⟨kvs, k, e, ey, l⟩ | ⟨kvs, k, b, e, ey, eb, l⟩
  · subst ey
    obtain ⟨z, hd, vs, rel, dd⟩ := dk_rd I.hok e
    refine wpAny_notIn_of (kV_is ry) hd dd.mapOf ?_
    rw [← (rel.val k).isSome_eq, ← l]
    exact h _ (I.tok _)
  · subst ey
    cases (show u = Value.ref b from ry)
    obtain ⟨z, hd, xs, rel, dd⟩ := dt_rd I.hok e
    refine wpAny_notIn_heap (tupleKind_room_in1 hu) (key_of I.hok eb) hd dd ?_
    have q := (rel.val k).isSome_eq
    rw [Option.isSome_map] at q
    rw [← q, ← l]
    exact h _ (I.tok _)
/-- a dict's object is replaced -/
theorem d_write {h' : Heap} {t' : Nat} {ob : HO} (I : Inv X pins σ H s) (mu : Mut (H a)) (hs : Heap.SameBut a s.heap h') (he : ∃ q, h'.get? a = some q) (new : ObjOk X.prog X.w (upd H a ob) h' a ob) :
    Inv X pins σ (upd H a ob) { s with heap := h', toks := t' } :=
  I.write (x := a) (e := a) mu (.inl rfl) (fun b q hb z => (hs.2 b hb).trans z) he new
theorem dk_new {P : Program} {w : World} {H' : Hp} {h' : Heap} {kvs : List (Key × V)} {vs : List (Key × Value)} (z : kvs.length ≤ sizeLine) (hd : (a == sysModules) = false) (rel : KV kvs vs) (dd : h'.DictOf (mixKind P w) a vs) :
    ObjOk P w H' h' a (.dK kvs) := ⟨z, hd, vs, rel, dd⟩
/-- d[y] = v -/
theorem d_setItem {H' : Hp} {Q : Unit → Shared → Prop} (hu : A.units + 1 < cLine) (I : Inv X pins σ H s) (g : DPut H a y v H') (ry : RelV y u) (rv : RelV v r) (h : ∀ s', Inv X pins σ H' s' → Q () s') :
    wpAny (model X.prog X.w) A (setItem (.ref a) u r) Q E s := by
  rcases g with ⟨kvs, k, e, ey, l, eH⟩ | ⟨kvs, k, b, e, ey, eb, l, eH⟩
  · subst ey eH
    obtain ⟨z, hd, vs, rel, dd⟩ := dk_of I.hok e
    have hz : vs.length ≤ sizeLine := by rw [← rel.length]; exact z
    have hl : (putK kvs k v).length ≤ sizeLine := by have := length_putK kvs k v; omega
    refine wpAny_setItem_pairs (hsz := hz) (kV_is ry) dd fun h' dd' hs => h _ ?_
    have he : ∃ q, h'.get? a = some q := let ⟨q, _, _, hq, _⟩ := dd'; ⟨q, hq⟩
    exact d_write I (by rw [e]; exact True.intro) hs he (dk_new hl hd (rel.put k rv) dd')
  · subst ey eH
    cases (show u = Value.ref b from ry)
    obtain ⟨z, hd, xs, rel, dd⟩ := dt_of I.hok e
    have hz : xs.length ≤ sizeLine := by rw [← Paired.length rel]; exact z
    have hl : (putK kvs k v).length ≤ sizeLine := by have := length_putK kvs k v; omega
    refine wpAny_setItem_heap (hsz := hz) (tupleKind_room_in1 hu) (key_of I.hok eb) dd fun h' dd' hs => h _ ?_
    obtain ⟨q, es, ep, hq, h2, h3, h4, _, h5⟩ := dd'
    refine d_write I (by rw [e]; exact True.intro) hs ⟨q, hq⟩ ⟨hl, hd, _, (rel.put k eb rv).keeps fun c ys ec => ?_, q, es, ep, hq, h2, h3, h4, h5⟩
    rw [upd_ne (ne_of ec e (fun z => nomatch z))]
    exact ec
end

section
variable {X : Cx} {pins : List (Addr × Obj)} {σ : St} {H : Hp} {s : Shared} {a : Addr} {kvs : List (Key × V)} {k : Key} {u : Value} {A : Around} {E : Value → Shared → Prop}
/-- len(d) -/
theorem d_len {Q : Value → Shared → Prop} (I : Inv X pins σ H s) (e : Rd H a (.dK kvs)) (h : ∀ t s', Inv X pins σ H s' → Q (.int kvs.length t) s') : wpAny (model X.prog X.w) A (call (.builtin "len") [.ref a]) Q E s := by
  obtain ⟨z, hd, vs, rel, dd⟩ := dk_rd I.hok e
  refine call_len_dict hd dd (by rw [← rel.length]; rw [sizeLine_eq] at z; omega) ?_
  rw [← rel.length]
  exact h _ _ (I.tok _)
end


/-! ### readings and rules -/
/-- the element of a subscription, not a slice -/
def NoSl (i : Expr) : Prop := ∀ ov iv, subscripted i false ov iv = operate [ov, iv] (getItem ov iv)
theorem subD_of {prog : Program} {w : World} {A : Around} {E : Value → Shared → Prop} {s : Shared} {env : Env} {value slice : Expr} {pos : Pos} {T id : String} {Q : Value → Shared → Prop}
    (hl : typeLookup (.type T) "__getitem__" = pure (some (.builtin id))) (hs : NoSl slice)
    (h : wpAny (model prog w) A (eval value env) (fun o s₁ => wpAny (model prog w) A (eval slice env) (fun i s₂ => s₂.TypeIs o T ∧ wpAny (model prog w) A (getItem o i) Q E s₂) E s₁) E s) :
    wpAny (model prog w) A (eval (.Subscript value slice pos) env) Q E s := by
  refine Subscript_ (wpAny_mono h (fun o s₁ h₁ => wpAny_mono h₁ (fun i s₂ h₂ => ?_) fun _ _ x => x) fun _ _ x => x)
  obtain ⟨hT, h₂⟩ := h₂
  unfold subscriptTail
  refine wpAny_bind ?_
  rw [getitemInPython_of_ne hT.not_modules]
  refine wpAny_bind (wpAny_specialOf hT hl ?_)
  have fin : wpAny (model prog w) A (subscripted slice false o i) (fun r s₃ => wpAny (model prog w) A (letTemporaryGo value o r >>= fun _ => pure r) Q E s₃) E s₂ := by
    rw [hs o i]
    exact wpAny_operating (wpAny_mono h₂ (fun r s₃ h₃ => wpAny_bind (wpAny_letTemporaryGo (wpAny_pure h₃))) fun _ _ x => x)
  first
    | exact wpAny_pure (wpAny_bind fin)
    | exact wpAny_bind (wpAny_pure (wpAny_bind fin))
    | exact wpAny_bind fin

theorem dict_typeIs {X : Cx} {pins : List (Addr × Obj)} {σ : St} {H : Hp} {s : Shared} {a : Addr} {y : V} {o : Option V} (I : Inv X pins σ H s) (g : DGet H a y o) : s.TypeIs (.ref a) "dict" := by
  rcases g with ⟨kvs, k, e, _, _⟩ | ⟨kvs, k, b, e, _, _, _⟩
  · obtain ⟨_, _, vs, _, dd⟩ := dk_rd I.hok e
    exact dd.typeIs
  · obtain ⟨_, _, xs, _, dd⟩ := dt_rd I.hok e
    exact dd.typeIs
/-- d[y] -/
def tDGet (td ty : TE) : TE := fun σ H Q => td σ H fun x H1 => ty σ H1 fun y H2 => ∃ a v, x = .ref a ∧ DGet H2 a y (some v) ∧ Q v H2
/-- y in d, y not in d -/
def tDIn (ty td : TE) : TE := fun σ H Q => ty σ H fun y H1 => td σ H1 fun x H2 => ∃ a o, x = .ref a ∧ DGet H2 a y o ∧ Q (.bl o.isSome) H2
def tDNotIn (ty td : TE) : TE := fun σ H Q => ty σ H fun y H1 => td σ H1 fun x H2 => ∃ a o, x = .ref a ∧ DGet H2 a y o ∧ Q (.bl (!o.isSome)) H2
/-- d[y] = v -/
def sDPut (td ty tv : TE) : TS := fun D σ H => tv σ H fun v H1 => td σ H1 fun x H2 => ty σ H2 fun y H3 => ∃ a H4, x = .ref a ∧ DPut H3 a y v H4 ∧ D.nx σ H4
/-- d[y] op= v -/
def sDAug (td ty tv : TE) (rd : V → V → Hp → VK → Prop) : TS := fun D σ H => td σ H fun x H1 => ty σ H1 fun y H2 => ∃ a v, x = .ref a ∧ DGet H2 a y (some v) ∧
  tv σ H2 fun y2 H3 => rd v y2 H3 fun z H4 => ∃ H5, DPut H4 a y z H5 ∧ D.nx σ H5
/-- del d[y] -/
def sDDel (td ty : TE) : TS := fun D σ H => td σ H fun x H1 => ty σ H1 fun y H2 => ∃ a kvs k, x = .ref a ∧ H2 a = some (.dK kvs) ∧ y = kV k ∧ (valV kvs k).isSome = true ∧ D.nx σ (upd H2 a (.dK (dropK kvs k)))

section
variable {X : Cx} {o i e value : Expr} {pos pos' tpos : Pos} {td ty tv : TE}
theorem pe_dget (hu : X.A.units + 1 < cLine) (ho : PE X o td) (hi : PE X i ty) (hs : NoSl i) : PE X (.Subscript o i pos) (tDGet td ty) := by
  intro pins s σ H Q I h
  refine subD_of PySem.F.slot_dict_getitem.lookup hs (thn (ho pins s σ H _ I h) fun u s1 ⟨x, H1, I1, rx, q1⟩ => thn (hi pins s1 σ H1 _ I1 q1) fun iv s2 ⟨y, H2, I2, ry, a, v, ex, g, q2⟩ => ?_)
  subst ex
  obtain rfl : u = Value.ref a := rx
  exact ⟨dict_typeIs I2 g, d_getItem hu I2 g ry fun w' s3 I3 rw' => ⟨v, H2, I3, rw', q2⟩⟩
theorem pc_din (hu : X.A.units + 1 < cLine) (hi : PE X i ty) (ho : PE X o td) : PC X .In i o (tDIn ty td) := by
  intro pins s σ H Q I h
  refine thn (hi pins s σ H _ I h) fun iv s1 ⟨y, H1, I1, ry, q1⟩ => thn (ho pins s1 σ H1 _ I1 q1) fun u s2 ⟨x, H2, I2, rx, a, ov, ex, g, q2⟩ => ?_
  subst ex
  obtain rfl : u = Value.ref a := rx
  exact d_in hu I2 g ry fun s3 I3 => ⟨.bl ov.isSome, H2, I3, rfl, q2⟩
theorem pc_dnotin (hu : X.A.units + 1 < cLine) (hi : PE X i ty) (ho : PE X o td) : PC X .NotIn i o (tDNotIn ty td) := by
  intro pins s σ H Q I h
  refine thn (hi pins s σ H _ I h) fun iv s1 ⟨y, H1, I1, ry, q1⟩ => thn (ho pins s1 σ H1 _ I1 q1) fun u s2 ⟨x, H2, I2, rx, a, ov, ex, g, q2⟩ => ?_
  subst ex
  obtain rfl : u = Value.ref a := rx
  exact d_notIn hu I2 g ry fun s3 I3 => ⟨.bl (!ov.isSome), H2, I3, rfl, q2⟩
theorem ps_dput (hu : X.A.units + 1 < cLine) (ho : PE X o td) (hi : PE X i ty) (hv : PE X value tv) (hs : swapsWith value (some (.Subscript o i pos')) pos.line X.env = pure false) :
    PS X (.Assign [.Subscript o i pos'] value pos) (sDPut td ty tv) := by
  intro pins s σ H D I h
  refine wpAny_Assign_Subscript (thn (hv pins s σ H _ I h) fun r s1 ⟨v, H1, I1, rv, q1⟩ => thn (ho pins s1 σ H1 _ I1 q1) fun u s2 ⟨x, H2, I2, rx, q2⟩ => thn (hi pins s2 σ H2 _ I2 q2) fun iv s3 ⟨y, H3, I3, ry, a, H4, ex, g, q3⟩ => ?_) hs
  subst ex
  obtain rfl : u = Value.ref a := rx
  exact d_setItem hu I3 g ry rv fun s4 I4 => ⟨σ, H4, I4, q3⟩
end


/-! ### displays -/
theorem dk_empty {P : Program} {w : World} {H : Hp} (h : Heap) (hb : sysModules < h.objs.size) : ObjOk P w H (h.push { cls := .type "dict", data := .dict #[] }) h.objs.size (.dK []) :=
  ⟨Nat.zero_le _, beq_eq_false_iff_ne.mpr (Ne.symm (Nat.ne_of_lt hb)), [], .nil, Heap.DictOf.new h⟩
/-- {}, to be a dict of the kind that is wanted -/
def tDNewK : TE := fun _ H Q => ∀ p, H p = none → Q (.ref p) (upd H p (.dK []))
def tDNewT : TE := fun _ H Q => ∀ p, H p = none → Q (.ref p) (upd H p (.dT []))
section
variable {X : Cx} {pos : Pos}
end

/-- the pairs of a display, from the left -/
def tPairs : List (TE × TE) → St → Hp → (List (V × V) → Hp → Prop) → Prop
  | [], _, H, Q => Q [] H
  | (tk, tv) :: r, σ, H, Q => tk σ H fun x H1 => tv σ H1 fun y H2 => tPairs r σ H2 fun ps H3 => Q ((x, y) :: ps) H3
abbrev VV : List (V × V) → List (Value × Value) → Prop := Paired fun p q => RelV p.1 q.1 ∧ RelV p.2 q.2
def PPs (X : Cx) (pos : Pos) (keys : List (Option Expr)) (values : List Expr) (trs : List (TE × TE)) : Prop :=
  ∀ (pins : List (Addr × Obj)) (s : Shared) (σ : St) (H : Hp) (Q : List (V × V) → Hp → Prop), Inv X pins σ H s → tPairs trs σ H Q →
    wpAny (model X.prog X.w) X.A (evalPairs (pairTrees keys values X.env pos)) (fun vs s' => ∃ ps H', Inv X pins σ H' s' ∧ VV ps vs ∧ Q ps H') X.xe s
theorem pps_nil {X : Cx} {pos : Pos} : PPs X pos [] [] [] := fun pins s σ H Q I h => pairTrees_nil_walk ⟨[], H, I, .nil, h⟩
theorem pps_cons {X : Cx} {pos : Pos} {k v : Expr} {ks : List (Option Expr)} {vs : List Expr} {tk tv : TE} {trs : List (TE × TE)} (hk : PE X k tk) (hv : PE X v tv) (hr : PPs X pos ks vs trs) :
    PPs X pos (some k :: ks) (v :: vs) ((tk, tv) :: trs) := fun pins s σ H Q I h =>
  pairTrees_cons_walk (thn (hk pins s σ H _ I h) fun u s1 ⟨x, H1, I1, rx, q1⟩ => thn (hv pins s1 σ H1 _ I1 q1) fun w2 s2 ⟨y, H2, I2, ry, q2⟩ =>
    thn (hr pins s2 σ H2 _ I2 q2) fun ws s3 ⟨ps, H3, I3, rel, q3⟩ => ⟨(x, y) :: ps, H3, I3, .cons ⟨rx, ry⟩ rel, q3⟩)

def mergeK (kvs more : List (Key × V)) : List (Key × V) := more.foldl (fun acc kv => putK acc kv.1 kv.2) kvs
theorem KV.merge : ∀ {more : List (Key × V)} {rs : List (Key × Value)} {kvs : List (Key × V)} {vs : List (Key × Value)}, KV more rs → KV kvs vs → KV (mergeK kvs more) (merged vs rs) := by
  intro more rs kvs vs r
  unfold KV at r
  induction r generalizing kvs vs with
  | nil => intro q; exact q
  | @cons p q ps qs h t ih =>
    intro r0
    have e : KV (putK kvs p.1 p.2) (stored vs q.1 q.2) := by
      have := r0.put p.1 h.2
      rw [← h.1]; exact this
    exact ih e
theorem length_mergeK : ∀ (more kvs : List (Key × V)), (mergeK kvs more).length ≤ kvs.length + more.length
  | [], kvs => by show kvs.length ≤ kvs.length + 0; omega
  | p :: r, kvs => by
    have h1 := length_mergeK r (putK kvs p.1 p.2)
    have h2 := length_putK kvs p.1 p.2
    show (mergeK (putK kvs p.1 p.2) r).length ≤ _
    rw [List.length_cons]; omega
theorem carries_of {P : Program} {w : World} : ∀ {kvs : List (Key × V)} {ws : List (Value × Value)}, VV (kvs.map fun kv => (kV kv.1, kv.2)) ws → ∃ rs, Carries (mixKind P w) ws rs ∧ KV kvs rs
  | [], _, r => by rw [List.map_nil] at r; cases r; exact ⟨[], True.intro, .nil⟩
  | p :: kvs, _, r => by
    rw [List.map_cons] at r
    cases r with
    | @cons a b as bs h t =>
      obtain ⟨rs, c, q⟩ := carries_of (P := P) (w := w) t
      obtain ⟨b1, b2⟩ := b
      exact ⟨(p.1, b2) :: rs, ⟨kV_is h.1, rfl, c⟩, .cons ⟨rfl, h.2⟩ q⟩
/-- {k: v, ..} with keys ints and texts; the new dict stands empty while the pairs are made -/
def tDisp (trs : List (TE × TE)) : TE := fun σ H Q => ∀ p, H p = none → tPairs trs σ (upd H p (.dK [])) fun ps H2 => H2 p = some (.dK []) ∧ ∃ kvs : List (Key × V), ps = kvs.map (fun kv => (kV kv.1, kv.2)) ∧ kvs.length ≤ 15 ∧ Q (.ref p) (upd H2 p (.dK (mergeK [] kvs)))
theorem pe_disp {X : Cx} {pos : Pos} {keys : List (Option Expr)} {values : List Expr} {trs : List (TE × TE)} (h : PPs X pos keys values trs) (hall : keys.all (·.isSome) = true) (hl : keys.length = values.length) (h0 : keys ≠ [])
    (h15 : keys.length ≤ 15) : PE X (.Dict keys values pos) (tDisp trs) := by
  intro pins s σ H Q I q
  have hn := I.hok.fresh (Nat.le_refl s.heap.objs.size)
  have I1 := I.laid (a := s.heap.objs.size) (o := .dK []) (h' := s.heap.push { cls := .type "dict", data := .dict #[] }) (t' := s.toks) (fun _ _ q => Heap.get?_push_of_some _ q) (Nat.le_refl _) (dk_empty s.heap I.big)
  refine wpAny_Dict_walk (knd := mixKind X.prog X.w) hall hl h0 h15 (thn (h pins _ σ _ _ I1 (q _ hn)) fun ws s2 ⟨ps, H2, I2, rel, e, kvs, ep, lk, q2⟩ => ?_)
  subst ep
  obtain ⟨rs, c, rk⟩ := carries_of (P := X.prog) (w := X.w) rel
  obtain ⟨z, hd, vs0, r0, dd⟩ := dk_of I2.hok e
  cases r0
  refine ⟨rs, c, dd, fun h' dd' hs => ⟨.ref s.heap.objs.size, _, ?_, rfl, q2⟩⟩
  have hz : (mergeK [] kvs).length ≤ sizeLine := by
    have h1 := length_mergeK kvs []
    rw [List.length_nil] at h1
    rw [sizeLine_eq]; omega
  have he : ∃ q, h'.get? s.heap.objs.size = some q := let ⟨q, _, _, hq, _⟩ := dd'; ⟨q, hq⟩
  exact d_write I2 (by rw [e]; exact True.intro) hs he (dk_new hz hd (rk.merge .nil) dd')


/-! ### methods -/
/-- a method call o.m(e) of a built-in, with one argument: what must be seen of the text -/
structure M1 (X : Cx) (o : Expr) (m : Str) (apos : Pos) (e : Expr) (cpos : Pos) : Prop where
  base : attributeBase o m X.env (eval o X.env) = eval o X.env
  few : ((backTo cpos (starEach [e] X.env)).all (fun x => !x.1) && (backToKw cpos (keywordEach [] X.env)).all (fun x => x.1.isSome)
    && decide (([e] : List Expr).length + ([] : List Keyword).length + (if ([] : List Keyword).isEmpty then 0 else 1) < 30)) = true
  line : (apos.endLine == cpos.line) = true
  trees : backTo cpos (starEach [e] X.env) = [(false, eval e X.env)]
structure M2 (X : Cx) (o : Expr) (m : Str) (apos : Pos) (e f : Expr) (cpos : Pos) : Prop where
  base : attributeBase o m X.env (eval o X.env) = eval o X.env
  few : ((backTo cpos (starEach [e, f] X.env)).all (fun x => !x.1) && (backToKw cpos (keywordEach [] X.env)).all (fun x => x.1.isSome)
    && decide (([e, f] : List Expr).length + ([] : List Keyword).length + (if ([] : List Keyword).isEmpty then 0 else 1) < 30)) = true
  line : (apos.endLine == cpos.line) = true
  trees : backTo cpos (starEach [e, f] X.env) = [(false, eval e X.env), (false, eval f X.env)]

/-- a is a dict, whatever its keys -/
def IsD (H : Hp) (a : Addr) : Prop := (∃ kvs, Rd H a (.dK kvs)) ∨ ∃ kvs, Rd H a (.dT kvs)
theorem isD_at {X : Cx} {pins : List (Addr × Obj)} {σ : St} {H : Hp} {s : Shared} {a : Addr} (I : Inv X pins σ H s) (d : IsD H a) :
    s.TypeIs (.ref a) "dict" ∧ (∀ b, Value.ref a = .ref b → ∃ ob, s.heap.get? b = some ob ∧ ob.dict = none) ∧ (a == sysModules) = false := by
  rcases d with ⟨kvs, e⟩ | ⟨kvs, e⟩
  · obtain ⟨_, hd, vs, _, dd⟩ := dk_rd I.hok e
    refine ⟨dd.typeIs, fun b q => ?_, hd⟩
    cases q
    obtain ⟨ob, _, _, h1, h2, _⟩ := dd
    exact ⟨ob, h1, h2.2.1⟩
  · obtain ⟨_, hd, xs, _, dd⟩ := dt_rd I.hok e
    refine ⟨dd.typeIs, fun b q => ?_, hd⟩
    cases q
    obtain ⟨ob, _, _, h1, h2, _⟩ := dd
    exact ⟨ob, h1, h2.2.1⟩

section
variable {X : Cx} {pins : List (Addr × Obj)} {σ : St} {H : Hp} {s : Shared} {a : Addr} {y d : V} {u r : Value} {o : Option V} {A : Around} {E : Value → Shared → Prop}
/-- d.get(y) -/
theorem d_get1 {Q : Value → Shared → Prop} (hu : A.units + 1 < cLine) (I : Inv X pins σ H s) (g : DGet H a y o) (ry : RelV y u) (h : ∀ w' s', Inv X pins σ H s' → RelV (o.getD .non) w' → Q w' s') :
    wpAny (model X.prog X.w) A (call (.builtin "dict.get") [.ref a, u]) Q E s := by
  rcases g with ⟨kvs, k, e, ey, l⟩ | ⟨kvs, k, b, e, ey, eb, l⟩
  · subst ey
    obtain ⟨z, hd, vs, rel, dd⟩ := dk_rd I.hok e
    refine call_meetsIn PySem.F.slot_dict_get dd.typeIs PySem.F.entry_dict_get (PySem.F.args_dict_get_2 _ _) (meets_dict_get (mixKind X.prog X.w) a (kV_is ry) hd) ⟨_, dd.mapOf, h _ _ (I.tok _) ?_⟩
    rw [l]
    exact (rel.val k).getD rfl
  · subst ey
    cases (show u = Value.ref b from ry)
    obtain ⟨z, hd, xs, rel, dd⟩ := dt_rd I.hok e
    refine call_meetsIn PySem.F.slot_dict_get dd.typeIs PySem.F.entry_dict_get (PySem.F.args_dict_get_2 _ _) (meetsH_dict_get (tupleKind (mixKind X.prog X.w)) a b hd) ⟨tupleKind_room_in1 hu, k, xs, key_of I.hok eb, dd, h _ _ (I.tok _) ?_⟩
    rw [l]
    exact (rel.val k).getD rfl
end

def tDGet1 (td ty : TE) : TE := fun σ H Q => td σ H fun x H1 => ∃ a, x = .ref a ∧ IsD H1 a ∧ ty σ H1 fun y H2 => ∃ o, DGet H2 a y o ∧ Q (o.getD .non) H2
def tDGet2 (td ty tx : TE) : TE := fun σ H Q => td σ H fun x H1 => ∃ a, x = .ref a ∧ IsD H1 a ∧ ty σ H1 fun y H2 => tx σ H2 fun z H3 => ∃ o, DGet H3 a y o ∧ Q (o.getD z) H3
/-- d.pop(k): there; d.pop(k, x): there or not -/
def tDPop1 (td ty : TE) : TE := fun σ H Q => td σ H fun x H1 => ∃ a, x = .ref a ∧ IsD H1 a ∧ ty σ H1 fun y H2 => ∃ kvs k v, H2 a = some (.dK kvs) ∧ y = kV k ∧ valV kvs k = some v ∧ Q v (upd H2 a (.dK (dropK kvs k)))
def tDPop2 (td ty tx : TE) : TE := fun σ H Q => td σ H fun x H1 => ∃ a, x = .ref a ∧ IsD H1 a ∧ ty σ H1 fun y H2 => tx σ H2 fun z H3 => ∃ kvs k, H3 a = some (.dK kvs) ∧ y = kV k ∧
  (∀ v, valV kvs k = some v → Q v (upd H3 a (.dK (dropK kvs k)))) ∧ (valV kvs k = none → Q z H3)
section
variable {X : Cx} {o e f : Expr} {apos cpos : Pos} {td ty tx : TE}
theorem pe_dget1 (hu : X.A.units + 1 < cLine) (ho : PE X o td) (he : PE X e ty) (m : M1 X o "get" apos e cpos) : PE X (.Call (.Attribute o "get" apos) [e] [] cpos) (tDGet1 td ty) := by
  intro pins s σ H Q I h
  refine wpAny_Call_method m.base m.few m.line PySem.F.plainAttrs_dict PySem.F.slot_dict_get PySem.F.type_dict_get (thn (ho pins s σ H _ I h) fun u s1 ⟨x, H1, I1, rx, a, ex, d, q1⟩ => ?_)
  subst ex
  obtain rfl : u = Value.ref a := rx
  obtain ⟨t1, t2, _⟩ := isD_at I1 d
  refine ⟨t1, t2, ?_⟩
  rw [m.trees]
  refine Calls.callWith_builtin rfl (Calls.evalArgs_plain (Calls.spliced_cons (thn (he pins s1 σ H1 _ I1 q1) fun iv s2 ⟨y, H2, I2, ry, ov, g, q2⟩ => Calls.spliced_nil ?_)))
  exact d_get1 hu I2 g ry fun w' s3 I3 rw' => ⟨_, H2, I3, rw', q2⟩
end

/-! ### dict(d): a copy -/
section
variable {X : Cx} {pins : List (Addr × Obj)} {σ : St} {H : Hp} {s : Shared} {a : Addr} {kvs : List (Key × V)} {A : Around} {E : Value → Shared → Prop}
end


section
variable {X : Cx} {pins : List (Addr × Obj)} {σ : St} {H : Hp} {s : Shared} {a : Addr} {y : V} {u : Value} {A : Around} {E : Value → Shared → Prop}
end
end L2

namespace Att
open PySem PySem.W PySem.Calls PyProof.Rows

/-! ### the script -/
theorem ints_of_wellAll {P : Params} {h : Heap} : ∀ (ns : List Int) (vs : List Value), WellAll P h vs (ns.map WData.int) → IntsAre vs ns := by
  intro ns
  induction ns with
  | nil =>
    intro vs w
    rw [List.map_nil] at w
    cases w
    exact .nil
  | cons n ns ih =>
    intro vs w
    rw [List.map_cons] at w
    cases w with
    | cons a b =>
      cases a
      exact .cons _ _ (ih _ b)

theorem script_of {l : OpenLaw} {n : Nat} (hn : l.most = some n) {P : Params} {h : Heap} {args : List WData} {vals : List Value}
    (hpre : l.row.toRowW.claim.pre args = true) (hwl : WellAll P h vals args) :
    ∃ a vs ns, vals = [Value.ref a] ∧ args = [WData.list (ns.map WData.int)] ∧ h.get? a = some { cls := .type "list", data := .seq vs.toArray } ∧ IntsAre vs ns ∧ ns.length ≤ n := by
  have hsh : WShape.hasAll [] args [.list .int] = true := (pre_splitW hpre).1
  have hc : l.pre.holds [] { args := args } = true := (pre_splitW hpre).2
  obtain ⟨d, r, rfl, h1, h2⟩ := hasAllW_cons hsh
  obtain rfl := hasAllW_nil h2
  obtain ⟨xs, rfl, h3⟩ := hasW_list h1
  obtain ⟨ns, rfl⟩ := items_int h3
  have hlen : ns.length ≤ n := by
    unfold OpenLaw.pre at hc
    have h4 : (WTm.not (.lt (.lit (.int (n : Int))) (.len (.arg 0)))).holds [] { args := [.list (ns.map .int)] } = true := by
      have h4 := (holds_andW hc).1
      rw [hn] at h4
      exact h4
    have h5 := condW_of h4 (w_not (w_lt w_lit (w_len_list (w_arg rfl))))
    rw [List.length_map] at h5
    refine Nat.le_of_not_lt fun q => ?_
    have q' : (n : Int) < ((ns.length : Nat) : Int) := by omega
    first
      | (rw [decide_eq_true q'] at h5; exact absurd h5 (by decide))
      | (simp at h5; omega)
  cases hwl with
  | cons w1 w2 =>
    cases w2
    cases w1 with
    | list ho hall => exact ⟨_, _, ns, rfl, rfl, ho, ints_of_wellAll ns _ hall, hlen⟩

theorem post_true (l : OpenLaw) (args : List WData) : l.row.toRowW.claim.post args (.bool true) args = true :=
  postW_of (r := l.row.toRowW) (X := (true == true))
    (show WShape.has [] (.bool true) .bool = true by first | rfl | decide | simp [WShape.has, WShape.arms, WShape.armsAll])
    (show (WTm.eq .res (.lit (.bool true))).value [] { args := args, res := some (.bool true), after := args } = some (.bool (true == true)) from w_eq_bool (w_res rfl) w_lit) rfl

/-! ### the attachment: holds_open's last premise (the goal 'hc' behind k_head) from a wpAny of the law's body -/
/-- the same from a codeAny of the CALL (for a layer whose function contracts speak of calls) -/
theorem attach_call {l : OpenLaw} {n : Nat} {q : Program} {loose : List Str} {XP : (Str → Option Value) → Heap → Prop} {YP : World → Heap → Prop} {d : DefRec}
    (hn : l.most = some n) (hdf : d.params.defaults = [])
    (call : ∀ (w : World) (s₀ s₁ : Shared) (mg mb : Str → Option Value) (fa : Addr) (o : Obj) (pm cd doc : Value) (a : Addr) (vs : List Value) (ns : List Int),
      Ground q loose [] XP w s₀ mg mb s₁.heap → YP w s₁.heap →
      s₁.heap.get? fa = some o → o.data = .func (docDef d.name d.params d.body d.scope pm cd doc) → s₁.heap.CodeRec cd d.name → mg d.name = some (.ref fa) →
      s₁.heap.get? a = some { cls := .type "list", data := .seq vs.toArray } → IntsAre vs ns → ns.length ≤ n → s₁.gens = #[] →
      codeAny (model l.prog w) callerA (.call (.ref fa) ⟨[.ref a], []⟩) (fun r s' => r = .ok (.ret (.bool true)) ∧ OldK s₁.heap s'.heap ∧ s'.os = s₁.os ∧ AllBare s'.gens) s₁) :
    WalkO q loose XP YP l.row.toRowW d [] (fun f vs => PySem.call f vs) := by
  intro w s₀ s₁ mg mb G Y fa o pm cd doc dV kV ho hd hcd hD hmg hg args vals as hpre hlay hrd hwl hlo
  obtain rfl : dV = .none := Dflts.none hD hdf
  obtain rfl : kV = .none := Dflts.noKw hD
  obtain ⟨a, vs, ns, rfl, rfl, hobj, hints, hlen⟩ := script_of hn hpre hwl
  refine enter_call (codeAny_mono (call w s₀ s₁ mg mb fa o pm cd doc a vs ns G Y ho (fd_plain hd) hcd hmg hobj hints hlen hg) fun r s' hq => ?_)
  obtain ⟨rfl, h2, h3, h4⟩ := hq
  exact ⟨.inl ⟨.bool true, .bool true, [], rfl, fun _ => rfl, .bool true, post_true l _, fun _ => ⟨List.Pairwise.nil, fun _ hm => (nomatch hm)⟩⟩, h2, h3, h4⟩

/-! ### rules over ANY heap (no ledger) from facts about the written part K: the library's own take a ledger (News) for what they write -/
section
variable {prog : Program} {w : World} {A : Around} {E : Value → Shared → Prop} {s : Shared} {K : Frag}

/-! the whole heap as the ledger: makes every rule that writes through a ledger a rule over any heap -/
def noObjs (h : Heap) : Heap := { h with objs := #[] }
def ledger (h : Heap) (L d : Addr) : List (Addr × Obj) := (List.range h.objs.size).filterMap fun a => if a = L ∨ a = d then none else (h.get? a).map fun o => (a, o)
end
end Att

namespace L2
open PySem PySem.Spec PyProof.Rows

theorem vals_ints : ∀ {vs : List Value} {ns : List Int}, IntsAre vs ns → Vals (ns.map V.int) vs
  | _, _, .nil => .nil
  | _, _, .cons n t h => .cons ⟨t, rfl⟩ (vals_ints h)

/-- nothing is tracked but the script, known to the object (or it is an object of the module) -/
def Only (H : Hp) : Prop := ∀ b, H b = none ∨ ∃ o xs, H b = some (.frz o (.lst xs))

/-- THE HEAD: the law's promise, at the heap behind the top. F, the promise of the law's def, may use that base is part of the heap (so K.In base, base.Ns mainGlobals mg stand in Mod) -/
theorem law_call {P : Program} {w : World} {K : PySem.W.Frag} {mg mb : Str → Option Value} {CX : CXT} {k : Nat} {fa a : Addr} {fd : FuncData} {x : Str} {sp : Sp} {s₁ : Shared} {vs : List Value} {ns : List Int}
    (KX : K.In s₁.heap) (hns : s₁.heap.Ns mainGlobals mg) (hb : s₁.heap.Ns builtinsNs mb) (hbb : ∀ x : Str, x ≠ "__name__" → mb x = bootBuiltins x) (hlim : s₁.heap.NoLimit) (hg : s₁.gens = #[])
    (ha : s₁.heap.get? a = some { cls := .type "list", data := .seq vs.toArray }) (hi : IntsAre vs ns) (hl : ns.length ≤ sizeLine) (hr : Room k callerA)
    (F : ∀ base : Heap, K.In base → base.Ns mainGlobals mg → FnOk P w K mg base CX k fa fd [x] sp) (hbind : ∀ (s : Shared) (u : Value), BindsTo s fd ⟨[u], []⟩ [(x, u)])
    (hsp : ∀ H : Hp, Only H → SqL K H a (ns.map V.int) → sp [.ref a] H (fun v _ => v = .bl true) fun _ _ _ => False)
    (hCX : ∀ H e s', CX [] H s₁ (fun _ _ _ => False) e s' → False) :
    codeAny (model P w) callerA (.call (.ref fa) ⟨[.ref a], []⟩) (fun r s' => r = .ok (.ret (.bool true)) ∧ OldK s₁.heap s'.heap ∧ s'.os = s₁.os ∧ AllBare s'.gens) s₁ := by
  have rv := vals_ints hi
  have lenV := hi.length
  -- from an abstract heap in which nothing but the script may be tracked
  have core : ∀ H : Hp, Only H → SqL K H a (ns.map V.int) → HOk P w H s₁.heap → (∀ b, H b ≠ none → b = a) → (H a ≠ none → K.lookup a = none) →
      codeAny (model P w) callerA (.call (.ref fa) ⟨[.ref a], []⟩) (fun r s' => r = .ok (.ret (.bool true)) ∧ OldK s₁.heap s'.heap ∧ s'.os = s₁.os ∧ AllBare s'.gens) s₁ := by
    intro H hO hS hok hA hK
    have base_of : ∀ {b : Addr} {o : Obj}, s₁.heap.get? b = some o → H b = none → (hidT s₁.heap H).get? b = some o := fun e n => hidT_get e n
    have noA : ∀ {b : Addr} {o : Obj} {es : Array DictEntry} {ep : Nat}, s₁.heap.get? b = some o → o.data = .dict es ep → H b = none := fun {b o es ep} e d => by
      cases q : H b with
      | none => rfl
      | some u =>
        have e' : b = a := hA b (by rw [q]; simp)
        subst e'
        rw [ha] at e; cases e
        have d' : Data.seq vs.toArray _ = Data.dict es ep := d
        cases d'
    have nsK : ∀ {b : Addr} {m : Str → Option Value}, s₁.heap.Ns b m → (hidT s₁.heap H).Ns b m := fun {b m} ⟨o, es, ep, e, d, r⟩ => ⟨o, es, ep, base_of e (noA e d), d, r⟩
    have hKb : K.In (hidT s₁.heap H) := fun b o e => base_of (KX b o e) (by
      cases q : H b with
      | none => rfl
      | some u =>
        have e' : b = a := hA b (by rw [q]; simp)
        subst e'
        rw [hK (by rw [q]; simp)] at e; cases e)
    have hM : Mod K mg (hidT s₁.heap H) := ⟨hKb, nsK hns, ⟨mb, nsK hb, hbb⟩, let ⟨mc, h1, h2⟩ := hlim; ⟨mc, nsK h1, h2⟩⟩
    have e0 : Env0 P w K mg (hidT s₁.heap H) callerA [] s₁ H := ⟨rfl, hM, fun b o e => of_hidT e, Nat.le_of_eq (hidT_size _ _), trivial, fun b hb => absurd (show b ∈ ([] : List Addr) from hb) (by simp), hok, .of_eq hg⟩
    refine codeAny_mono ((F _ hKb (nsK hns)).run callerA [] s₁ H ⟨[.ref a], []⟩ [.ref a] [.ref a] _ _ hr e0 (hbind s₁ (.ref a)) (.cons rfl .nil) (hsp H hO hS)) fun r s' h => ?_
    cases r with
    | error e => exact (hCX H e s' h).elim
    | ok fl =>
      cases fl with
      | next => exact False.elim h
      | brk => exact False.elim h
      | cont => exact False.elim h
      | ret u =>
        obtain ⟨v, H', os, bare, un, hok', r', q⟩ := h
        have q' : v = .bl true := q
        subst q'
        obtain rfl : u = Value.bool true := r'
        refine ⟨rfl, OldK.of_keep fun b o e => ?_, os, bare⟩
        cases q : H b with
        | none => exact un.keep b o e q (by intro z; exact absurd (show b ∈ ([] : List Addr) from z) (by simp)) (by simp)
        | some u =>
          rcases hO b with z | ⟨ob, xs, z⟩
          · rw [q] at z; cases z
          · have z2 := un.frzs b ob _ z
            obtain ⟨e1, _⟩ := hok b _ z
            obtain ⟨e2, _⟩ := hok' b _ z2
            rw [e] at e1; cases e1
            exact e2
  cases hk : K.lookup a with
  | some o =>
    -- the script is one of the module's own objects
    have e := KX a o hk
    rw [ha] at e
    cases e
    refine core (fun _ => none) (fun _ => .inl rfl) (.inr ⟨_, vs.toArray, _, hk, rfl, rfl, rfl, by rw [List.size_toArray, lenV]; exact hl, by simpa using rv⟩) (fun b u z => by have z' : (none : Option HO) = some u := z; cases z') (fun b z => absurd rfl z) fun z => absurd rfl z
  | none =>
    refine core (fun b => if b = a then some (.frz { cls := .type "list", data := .seq vs.toArray } (.lst (ns.map V.int))) else none) (fun b => ?_) (.inl (.inr ⟨{ cls := .type "list", data := .seq vs.toArray }, if_pos rfl⟩)) (fun b u z => ?_) (fun b z => ?_) fun _ => hk
    · by_cases hb : b = a
      · exact .inr ⟨_, _, if_pos hb⟩
      · exact .inl (if_neg hb)
    · by_cases hb : b = a
      · have z' := (if_pos hb).symm.trans z
        cases z'
        subst hb
        exact ⟨ha, by rw [List.length_map]; exact hl, vs, _, rv, ha⟩
      · have z' := (if_neg hb).symm.trans z
        cases z'
    · by_cases hb : b = a
      · exact hb
      · exact absurd (if_neg hb) z
end L2

namespace L2
open PySem PySem.Spec PyProof.Rows

abbrev KOf {K : PySem.W.Frag} {h : Heap} (_ : K.In h) : PySem.W.Frag := K

/-- the goal that k_head leaves (case hc), from the law's promise. F gives the function object fd (K's own) once, then the promise over every base -/
theorem walk_of {l : PySem.W.OpenLaw} {n k : Nat} {q : Program} {loose : List Str} {XP : (Str → Option Value) → Heap → Prop} {YP : World → Heap → Prop} {d : DefRec} {K : Params → PySem.W.Frag} {CX : World → CXT} {sp : World → Sp} {x : Str}
    (hn : l.most = some n) (hn2 : n ≤ sizeLine) (hdf : d.params.defaults = []) (hr : Room k callerA)
    (hY : ∀ (w : World) (h : Heap), YP w h → (K w.params).In h)
    (F : ∀ (w : World) (mg : Str → Option Value) (fa : Addr) (h : Heap), (K w.params).In h → h.Ns mainGlobals mg → mg d.name = some (.ref fa) →
      ∃ fd : FuncData, (∀ (s : Shared) (u : Value), BindsTo s fd ⟨[u], []⟩ [(x, u)]) ∧
        ∀ base : Heap, (K w.params).In base → base.Ns mainGlobals mg → FnOk l.prog w (K w.params) mg base (CX w) k fa fd [x] (sp w))
    (hsp : ∀ (w : World) (H : Hp) (a : Addr) (ns : List Int), ns.length ≤ n → Only H → SqL (K w.params) H a (ns.map V.int) → sp w [.ref a] H (fun v _ => v = .bl true) fun _ _ _ => False)
    (hCX : ∀ (w : World) (H : Hp) (s : Shared) (e : Value) (s' : Shared), CX w [] H s (fun _ _ _ => False) e s' → False) :
    PySem.W.WalkO q loose XP YP l.row.toRowW d [] (fun f vs => PySem.call f vs) := by
  refine Att.attach_call hn hdf fun w s₀ s₁ mg mb fa o pm cd doc a vs ns G Y ho hd hcd hmg hobj hints hlen hg => ?_
  have KX := hY w _ Y
  obtain ⟨fd, hb, hF⟩ := F w mg fa _ KX G.T.g hmg
  exact law_call KX G.T.g G.T.b G.T.builtins G.T.nolimit hg hobj hints (Nat.le_trans hlen hn2) hr hF hb (fun H hO hS => hsp w H a ns hlen hO hS) fun H e s' => hCX w H s₁ e s'
end L2



/-! SHORT WORDS over the layer: a def of the text, its body, what a loop and a test want. -/
namespace L2
open PySem PySem.Spec PyProof.Rows

/-! ### the text by places -/
/-- the j-th statement of a class's body -/
def inClass (s : Stmt) (j : Nat) : Stmt := match s with
  | .ClassDef _ _ _ body _ _ _ _ _ _ _ => body.getD j (.Pass ⟨0, 0, 0, 0⟩)
  | _ => .Pass ⟨0, 0, 0, 0⟩
def defArgs (s : Stmt) : Arguments := match s with
  | .FunctionDef _ a _ _ _ _ _ _ _ _ => a
  | _ => { posonlyargs := [], args := [], vararg := none, kwonlyargs := [], kw_defaults := [], kwarg := none, defaults := [] }
def defBody (s : Stmt) : List Stmt := match s with
  | .FunctionDef _ _ b _ _ _ _ _ _ _ => b
  | _ => []
def defScope (s : Stmt) : Scope := match s with
  | .FunctionDef _ _ _ _ _ _ sc _ _ _ => sc
  | _ => { kind := .function, names := [], isGenerator := false, isCoroutine := false }

/-! ### no exception leaves a def -/
abbrev CX0 : CXT := fun _ _ _ _ _ _ => False
abbrev E0 : XK := fun _ _ _ => False
theorem pass0 {X : Cx} : Passes CX0 X E0 := fun _ _ _ _ _ _ _ h => h.elim

/-! ### a def (or method) of the text as it stands behind the top -/
structure Fun (K : PySem.W.Frag) (x qual : Str) (st : Stmt) (f : Addr) (fd : FuncData) : Prop where
  ex : ∃ (oc : Value) (od : Option Addr) (kV doc pm : Value) (an : Option Addr) (cdv ct : Value) (osl : Array (Option Value)),
    fd = PySem.W.fnOf x qual (defArgs st) (defBody st) (defScope st) .none kV doc pm an cdv ct ∧ K.lookup f = some ⟨oc, od, .func fd, osl⟩ ∧ PySem.W.codeIn K cdv qual = true
  kp : PySem.W.keepIn K (.ref f) = true
section
variable {P : Program} {w : World} {K : PySem.W.Frag} {mg : Str → Option Value} {base : Heap}
/-- THE RULE for a def: its body as a term of rules, and the reading of that term -/
theorem Fun.ok {x qual : Str} {st : Stmt} {f : Addr} {fd : FuncData} {N ps : List Str} {k : Nat} {sp : Sp} (F : Fun K x qual st f fd) (S : FnScope N ps (defScope st)) (len : ∀ vs H Q E, sp vs H Q E → vs.length = ps.length)
    (hbody : ∀ (cdv : Value) (A : Around) (outer : List Env) (s : Shared) (H : Hp) (vs : List V) (Q : VK) (E : XK), Room k (A.deeper (envOfC qual (defScope st) s.heap.objs.size f cdv)) → sp vs H Q E →
      ∃ t, PSs (cxOf CX0 P w K mg base N qual (defScope st) f cdv A outer s H E).nox (defBody st) t ∧ t { nx := fun _ H' => Q .non H', rt := Q } (start N vs) H) : FnOk P w K mg base CX0 (k + 1) f fd ps sp := by
  obtain ⟨oc, od, kV, doc, pm, an, cdv, ct, osl, rfl, lk, hcd⟩ := F.ex
  refine fn_of lk hcd S len fun A outer s H vs Q E hr hsp => ?_
  obtain ⟨t, h, q⟩ := hbody cdv A outer s H vs Q E hr hsp
  exact ⟨t, h.nox, q⟩
/-- how its arguments bind (no defaults): h is «fun _ _ _ _ _ _ us hl => match us, hl with | [_, _], _ => rfl», one _ a parameter -/
theorem Fun.binds {x qual : Str} {st : Stmt} {f : Addr} {fd : FuncData} {ps : List Str} (F : Fun K x qual st f fd)
    (h : ∀ (kV doc pm : Value) (an : Option Addr) (cdv ct : Value) (us : List Value), us.length = ps.length → bindArgs (PySem.W.fnOf x qual (defArgs st) (defBody st) (defScope st) .none kV doc pm an cdv ct) ⟨us, []⟩ = pure (ps.zip us)) : Binds K fd ps [] := by
  obtain ⟨oc, od, kV, doc, pm, an, cdv, ct, osl, rfl, lk, hcd⟩ := F.ex
  exact .all (h kV doc pm an cdv ct)
theorem fun_mk {x qual : Str} {st : Stmt} {f : Addr} {oc : Value} {od an : Option Addr} {osl : Array (Option Value)} {kV doc pm cdv ct : Value} (l : K.lookup f = some ⟨oc, od, .func (PySem.W.fnOf x qual (defArgs st) (defBody st) (defScope st) .none kV doc pm an cdv ct), osl⟩)
    (c : PySem.W.codeIn K cdv qual = true) (k : PySem.W.keepIn K (.ref f) = true) : Fun K x qual st f (PySem.W.fnOf x qual (defArgs st) (defBody st) (defScope st) .none kV doc pm an cdv ct) := ⟨⟨oc, od, kV, doc, pm, an, cdv, ct, osl, rfl, l, c⟩, k⟩
end
theorem hu_of {A : Around} {k : Nat} (hr : Room k A) : A.units + 1 < cLine := Nat.lt_of_le_of_lt (Nat.add_le_add_left (by decide : 1 ≤ 64) _) hr.units
/-! ### expressions in short: the name that stands in the i-th slot -/
section
variable {X : Cx}
theorem pv (i : Nat) {x : Str} {pos : Pos} (hN : X.N[i]? = some x := by rfl) (hv : Vis X.env.scope x := by first | exact Or.inl rfl | exact Or.inr (Or.inl rfl) | exact Or.inr (Or.inr rfl)) (hd : (x == ("__debug__" : Str)) = false := by decide)
    (hcd : (x == ("__classdict__" : Str)) = false := by decide) : PE X (.Name x pos) (tVar i) := pe_var hN hv hd hcd
/-- len of a dict -/
theorem call_lenD : CallR X (.builtin "len") (fun xs H Q => ∃ a kvs, xs = [V.ref a] ∧ H a = some (.dK kvs) ∧ Q (.int kvs.length) H) := by
  intro pins s σ H xs us Q I r h
  obtain ⟨a, kvs, rfl, ha, q⟩ := h
  obtain ⟨u, rfl, ru⟩ := vals1 r
  cases ru
  exact d_len I (.inl ha) fun t s' I' => ⟨.int kvs.length, H, I', ⟨t, rfl⟩, q⟩
end

/-! ### tests -/
theorem iteF {A B : Prop} (h : B) : if false = true then A else B := by
  rw [if_neg Bool.false_ne_true]
  exact h
theorem iteT {A B : Prop} (h : A) : if true = true then A else B := by
  rw [if_pos rfl]
  exact h
theorem ite2 {c A B : Prop} [Decidable c] (h1 : c → A) (h2 : ¬ c → B) : if c then A else B := by
  by_cases h : c
  · rw [if_pos h]
    exact h1 h
  · rw [if_neg h]
    exact h2 h
/-! ### heaps -/
/-- all that was tracked is as it was -/
def Same (H H' : Hp) : Prop := ∀ b o, H b = some o → H' b = some o
theorem Same.refl (H : Hp) : Same H H := fun _ _ h => h
theorem Same.trans {H H1 H2 : Hp} (a : Same H H1) (b : Same H1 H2) : Same H H2 := fun c o h => b c o (a c o h)
theorem Same.free {H H' : Hp} (e : Same H H') {l : Addr} (h : H' l = Option.none) : H l = Option.none := by
  cases q : H l with
  | none => rfl
  | some o =>
    rw [e l o q] at h
    cases h
theorem Same.seq {K : PySem.W.Frag} {H H' : Hp} {a : Addr} {xs : List V} (e : Same H H') (h : SqL K H a xs) : SqL K H' a xs := by
  rcases h with (h | ⟨o, h⟩) | h
  · exact .inl (.inl (e _ _ h))
  · exact .inl (.inr ⟨o, e _ _ h⟩)
  · exact .inr h

/-! ### a dict's pairs: keys that differ -/
section
variable {κ : Type} [DecidableEq κ]
theorem nd_snoc : ∀ {l : List κ} {k : κ}, l.Nodup → ¬ k ∈ l → (l ++ [k]).Nodup
  | [], k, _, _ => by simp
  | a :: r, k, h, hk => by
    obtain ⟨h1, h2⟩ := List.nodup_cons.mp h
    show (a :: (r ++ [k])).Nodup
    refine List.nodup_cons.mpr ⟨fun m => ?_, nd_snoc h2 fun m => hk (List.mem_cons.mpr (Or.inr m))⟩
    rcases List.mem_append.mp m with q | q
    · exact h1 q
    · exact hk (List.mem_cons.mpr (Or.inl (List.mem_singleton.mp q).symm))
end
end L2
namespace WR

/-- a road: two villages, a length -/
abbrev Road := Int × Int × Int
/-- the road at place i joins p and x, with the length l -/
def Joins (rs : List Road) (i : Nat) (p x l : Int) : Prop := rs[i]? = some (p, x, l) ∨ rs[i]? = some (x, p, l)
theorem Joins.symm {rs : List Road} {i : Nat} {p x l : Int} (h : Joins rs i p x l) : Joins rs i x p l := Or.symm h
theorem Joins.lt {rs : List Road} {i : Nat} {p x l : Int} (h : Joins rs i p x l) : i < rs.length := by
  rcases h with h | h <;> exact (List.getElem?_eq_some_iff.mp h).1
theorem Joins.len {rs : List Road} {i : Nat} {p x l q y m : Int} (h : Joins rs i p x l) (g : Joins rs i q y m) : l = m := by
  rcases h with h | h <;> rcases g with g | g <;> (rw [h] at g; simp only [Option.some.injEq, Prod.mk.injEq] at g; omega)
theorem Joins.ends {rs : List Road} {i : Nat} {p x l q y m : Int} (h : Joins rs i p x l) (g : Joins rs i q y m) : (q = p ∧ y = x) ∨ (q = x ∧ y = p) := by
  rcases h with h | h <;> rcases g with g | g <;> (rw [h] at g; simp only [Option.some.injEq, Prod.mk.injEq] at g; omega)

/-- villages 0 .. n - 1; roads between two unlike ones, of positive length -/
structure Roads (n : Nat) (rs : List Road) : Prop where
  lo : ∀ r ∈ rs, 0 ≤ r.1 ∧ 0 ≤ r.2.1
  hi : ∀ r ∈ rs, r.1 < n ∧ r.2.1 < n
  ne : ∀ r ∈ rs, r.1 ≠ r.2.1
  ps : ∀ r ∈ rs, 1 ≤ r.2.2 ∧ r.2.2 ≤ 1000000
def InV (n : Nat) (x : Int) : Prop := 0 ≤ x ∧ x < n
theorem Roads.joins {n : Nat} {rs : List Road} {i : Nat} {p x l : Int} (R : Roads n rs) (h : Joins rs i p x l) : InV n p ∧ InV n x ∧ p ≠ x ∧ 1 ≤ l ∧ l ≤ 1000000 := by
  rcases h with h | h
  · have m := List.mem_of_getElem? h
    have := R.lo _ m; have := R.hi _ m; have := R.ne _ m; have := R.ps _ m
    exact ⟨⟨by simp_all, by simp_all⟩, ⟨by simp_all, by simp_all⟩, by simp_all, by simp_all, by simp_all⟩
  · have m := List.mem_of_getElem? h
    have := R.lo _ m; have := R.hi _ m; have := R.ne _ m; have := R.ps _ m
    exact ⟨⟨by simp_all, by simp_all⟩, ⟨by simp_all, by simp_all⟩, fun e => R.ne _ m e.symm, by simp_all, by simp_all⟩

/-! ### counting -/
theorem nodup_le {α : Type} [DecidableEq α] : ∀ {l m : List α}, l.Nodup → (∀ x ∈ l, x ∈ m) → l.length ≤ m.length
  | [], _, _, _ => Nat.zero_le _
  | a :: r, m, h, s => by
    obtain ⟨h1, h2⟩ := List.nodup_cons.mp h
    have ha : a ∈ m := s a List.mem_cons_self
    have := nodup_le (l := r) (m := m.erase a) h2 fun x hx => by
      have hne : x ≠ a := fun e => h1 (e ▸ hx)
      exact (List.mem_erase_of_ne hne).mpr (s x (List.mem_cons_of_mem _ hx))
    rw [List.length_erase_of_mem ha] at this
    have : 0 < m.length := List.length_pos_of_mem ha
    rw [List.length_cons]
    omega
/-- as many, and within: all -/
theorem nodup_all {α : Type} [DecidableEq α] {l m : List α} (h : l.Nodup) (s : ∀ x ∈ l, x ∈ m) (e : m.length ≤ l.length) : ∀ x ∈ m, x ∈ l := by
  intro x hx
  refine Decidable.byContradiction fun hn => ?_
  have := nodup_le (l := x :: l) (m := m) (List.nodup_cons.mpr ⟨hn, h⟩) (fun y hy => by
    rcases List.mem_cons.mp hy with rfl | hy
    · exact hx
    · exact s y hy)
  rw [List.length_cons] at this
  omega
theorem map_nodup_on {α β : Type} {f : α → β} : ∀ {l : List α}, l.Nodup → (∀ x ∈ l, ∀ y ∈ l, f x = f y → x = y) → (l.map f).Nodup
  | [], _, _ => List.nodup_nil
  | a :: r, h, g => by
    obtain ⟨h1, h2⟩ := List.nodup_cons.mp h
    rw [List.map_cons]
    refine List.nodup_cons.mpr ⟨fun m => ?_, map_nodup_on h2 fun x hx y hy => g x (List.mem_cons_of_mem _ hx) y (List.mem_cons_of_mem _ hy)⟩
    obtain ⟨y, hy, e⟩ := List.mem_map.mp m
    have := g y (List.mem_cons_of_mem _ hy) a List.mem_cons_self e
    exact h1 (this ▸ hy)
/-- the villages as a list -/
def vil (n : Nat) : List Int := (List.range n).map fun (k : Nat) => (k : Int)
theorem mem_vil {n : Nat} {x : Int} : x ∈ vil n ↔ InV n x := by
  unfold vil InV
  rw [List.mem_map]
  constructor
  · rintro ⟨k, hk, rfl⟩
    have := List.mem_range.mp hk
    omega
  · rintro ⟨h0, h1⟩
    exact ⟨x.toNat, List.mem_range.mpr (by omega), by omega⟩
theorem vil_nodup (n : Nat) : (vil n).Nodup := by
  unfold vil
  exact map_nodup_on List.nodup_range fun a _ b _ e => by omega
theorem vil_length (n : Nat) : (vil n).length = n := by simp [vil]

/-! ### a table of ways from s -/
/-- each village but s has a village towards s (of a lesser rank), a road to it, and how far it is -/
structure Span (n : Nat) (rs : List Road) (s : Int) (par : Int → Int) (idx : Int → Nat) (D : Int → Int) (rk : Int → Nat) : Prop where
  start : D s = 0
  ins : InV n s
  pin : ∀ x, InV n x → x ≠ s → InV n (par x)
  rank : ∀ x, InV n x → x ≠ s → rk (par x) < rk x
  road : ∀ x, InV n x → x ≠ s → ∃ l, Joins rs (idx x) (par x) x l ∧ D x = D (par x) + l

section
variable {n : Nat} {rs : List Road} {s : Int} {par par' : Int → Int} {idx idx' : Int → Nat} {D D' : Int → Int} {rk rk' : Int → Nat}
theorem Span.inj (S : Span n rs s par idx D rk) {x y : Int} (hx : InV n x) (hy : InV n y) (nx : x ≠ s) (ny : y ≠ s) (e : idx x = idx y) : x = y := by
  obtain ⟨l, j, _⟩ := S.road x hx nx
  obtain ⟨m, k, _⟩ := S.road y hy ny
  rw [e] at j
  rcases j.ends k with ⟨a, b⟩ | ⟨a, b⟩
  · exact b.symm
  · have r1 := S.rank x hx nx
    have r2 := S.rank y hy ny
    rw [a] at r2
    rw [← b] at r1
    omega
/-- all roads are used, if there are no more than one less than villages -/
theorem Span.surj (S : Span n rs s par idx D rk) (hn : rs.length + 1 = n) {i : Nat} (hi : i < rs.length) : ∃ x, InV n x ∧ x ≠ s ∧ idx x = i := by
  have hs : s ∈ vil n := mem_vil.mpr S.ins
  have hl : ((vil n).erase s).length = rs.length := by
    rw [List.length_erase_of_mem hs, vil_length]
    omega
  have mem : ∀ x, x ∈ (vil n).erase s → InV n x ∧ x ≠ s := fun x hx => by
    have := (List.Nodup.mem_erase_iff (vil_nodup n)).mp hx
    exact ⟨mem_vil.mp this.2, this.1⟩
  have nd : (((vil n).erase s).map idx).Nodup := map_nodup_on ((vil_nodup n).erase s) fun x hx y hy e => S.inj (mem x hx).1 (mem y hy).1 (mem x hx).2 (mem y hy).2 e
  have sub : ∀ j ∈ ((vil n).erase s).map idx, j ∈ List.range rs.length := fun j hj => by
    obtain ⟨x, hx, rfl⟩ := List.mem_map.mp hj
    obtain ⟨l, jn, _⟩ := S.road x (mem x hx).1 (mem x hx).2
    exact List.mem_range.mpr jn.lt
  have := nodup_all nd sub (by rw [List.length_map, hl, List.length_range]; exact Nat.le_refl _) i (List.mem_range.mpr hi)
  obtain ⟨x, hx, e⟩ := List.mem_map.mp this
  exact ⟨x, (mem x hx).1, (mem x hx).2, e⟩
/-- one table alone -/
theorem Span.uniq_idx (S : Span n rs s par idx D rk) (S' : Span n rs s par' idx' D' rk') (hn : rs.length + 1 = n) : ∀ x, InV n x → x ≠ s → idx x = idx' x := by
  have all : ∀ k x, rk' x < k → InV n x → x ≠ s → idx x = idx' x := by
    intro k
    induction k with
    | zero => intro x h; omega
    | succ k ih =>
      intro x hk hx nx
      obtain ⟨l, j, _⟩ := S'.road x hx nx
      obtain ⟨y, hy, ny, ey⟩ := S.surj hn j.lt
      obtain ⟨m, jy, _⟩ := S.road y hy ny
      rw [ey] at jy
      rcases j.ends jy with ⟨a, b⟩ | ⟨a, b⟩
      · rw [b] at ey; exact ey
      · -- y is the village towards s of x in the other table
        have r1 := S'.rank x hx nx
        have e1 : idx y = idx' y := ih y (by rw [b]; omega) hy ny
        have e2 : y = x := S'.inj hy hx ny nx (by rw [← e1, ey])
        rw [← b] at r1
        rw [e2] at r1
        omega
  exact fun x => all (rk' x + 1) x (Nat.lt_succ_self _)
theorem Span.uniq_par (S : Span n rs s par idx D rk) (S' : Span n rs s par' idx' D' rk') (hn : rs.length + 1 = n) (x : Int) (hx : InV n x) (nx : x ≠ s) : par x = par' x := by
  obtain ⟨l, j, _⟩ := S.road x hx nx
  obtain ⟨m, j', _⟩ := S'.road x hx nx
  rw [S.uniq_idx S' hn x hx nx] at j
  rcases j.ends j' with ⟨a, b⟩ | ⟨a, b⟩
  · exact a.symm
  · rw [a, ← b]
theorem Span.uniq (S : Span n rs s par idx D rk) (S' : Span n rs s par' idx' D' rk') (hn : rs.length + 1 = n) : ∀ x, InV n x → D x = D' x := by
  have all : ∀ k x, rk' x < k → InV n x → D x = D' x := by
    intro k
    induction k with
    | zero => intro x h; omega
    | succ k ih =>
      intro x hk hx
      by_cases nx : x = s
      · rw [nx, S.start, S'.start]
      · obtain ⟨l, j, e⟩ := S.road x hx nx
        obtain ⟨m, j', e'⟩ := S'.road x hx nx
        rw [S.uniq_idx S' hn x hx nx] at j
        have := j.len j'
        have hp := S.uniq_par S' hn x hx nx
        have := ih (par' x) (by have := S'.rank x hx nx; omega) (S'.pin x hx nx)
        rw [e, e', hp]
        omega
  exact fun x => all (rk' x + 1) x (Nat.lt_succ_self _)
end

/-- the way up from x: k steps -/
def up (par : Int → Int) : Nat → Int → Int
  | 0, x => x
  | k + 1, x => up par k (par x)
theorem up_succ (par : Int → Int) : ∀ k x, up par (k + 1) x = par (up par k x)
  | 0, _ => rfl
  | k + 1, x => by
    show up par (k + 1) (par x) = par (up par k (par x))
    exact up_succ par k (par x)
section
variable {n : Nat} {rs : List Road} {s t : Int} {par par' : Int → Int} {idx idx' : Int → Nat} {D D' : Int → Int} {rk rk' : Int → Nat}
/-- every village comes up to s -/
theorem Span.reach (S : Span n rs s par idx D rk) : ∀ x, InV n x → ∃ k, up par k x = s ∧ ∀ j, j < k → InV n (up par j x) ∧ up par j x ≠ s := by
  have all : ∀ k x, rk x < k → InV n x → ∃ k, up par k x = s ∧ ∀ j, j < k → InV n (up par j x) ∧ up par j x ≠ s := by
    intro k
    induction k with
    | zero => intro x h; omega
    | succ k ih =>
      intro x hk hx
      by_cases nx : x = s
      · exact ⟨0, nx, fun j hj => absurd hj (Nat.not_lt_zero _)⟩
      · obtain ⟨m, h1, h2⟩ := ih (par x) (by have := S.rank x hx nx; omega) (S.pin x hx nx)
        refine ⟨m + 1, h1, fun j hj => ?_⟩
        cases j with
        | zero => exact ⟨hx, nx⟩
        | succ j => exact h2 j (by omega)
  exact fun x => all (rk x + 1) x (Nat.lt_succ_self _)
/-- from t up to s in the table of s: in the table of t the same roads, the other way -/
theorem Span.turn (S : Span n rs s par idx D rk) (T : Span n rs t par' idx' D' rk') (hn : rs.length + 1 = n) {k : Nat} (hk : ∀ j, j < k → InV n (up par j t) ∧ up par j t ≠ s) :
    ∀ j, j < k → InV n (up par (j + 1) t) ∧ up par (j + 1) t ≠ t ∧ idx' (up par (j + 1) t) = idx (up par j t) ∧ par' (up par (j + 1) t) = up par j t ∧ D' (up par (j + 1) t) + D (up par (j + 1) t) = D t := by
  intro j
  induction j with
  | zero =>
    intro hj
    obtain ⟨h1, h2⟩ := hk 0 hj
    obtain ⟨l, jn, e⟩ := S.road t h1 h2
    obtain ⟨y, hy, ny, ey⟩ := T.surj hn jn.lt
    obtain ⟨m, jy, ed⟩ := T.road y hy ny
    rw [ey] at jy
    have hne : par t ≠ t := fun z => by have := S.rank t h1 h2; rw [z] at this; omega
    rcases jn.ends jy with ⟨a, b⟩ | ⟨a, b⟩
    · exact absurd b ny
    · show InV n (par t) ∧ par t ≠ t ∧ idx' (par t) = idx t ∧ par' (par t) = t ∧ D' (par t) + D (par t) = D t
      rw [b] at a ey ed
      have := jn.len jy
      have e0 : D' t = 0 := T.start
      refine ⟨S.pin t h1 h2, hne, ey, a, ?_⟩
      rw [a, e0] at ed
      omega
  | succ j ih =>
    intro hj
    obtain ⟨i1, i2, i3, i4, i5⟩ := ih (by omega)
    obtain ⟨h1, h2⟩ := hk (j + 1) hj
    obtain ⟨g1, g2⟩ := hk j (by omega)
    rw [up_succ par (j + 1) t]
    generalize hz : up par (j + 1) t = z at *
    obtain ⟨l, jn, e⟩ := S.road z h1 h2
    obtain ⟨y, hy, ny, ey⟩ := T.surj hn jn.lt
    obtain ⟨m, jy, ed⟩ := T.road y hy ny
    rw [ey] at jy
    have hne : par z ≠ z := fun q => by have := S.rank z h1 h2; rw [q] at this; omega
    have noz : y ≠ z := fun q => by
      rw [q, i3] at ey
      have := S.inj g1 h1 g2 h2 ey
      have r := S.rank _ g1 g2
      have : par (up par j t) = z := by rw [← up_succ par j t]; exact hz
      rw [this] at r
      rw [‹up par j t = z›] at r
      omega
    rcases jn.ends jy with ⟨a, b⟩ | ⟨a, b⟩
    · exact absurd b noz
    · rw [b] at a ey ed ny
      have := jn.len jy
      rw [a] at ed
      refine ⟨S.pin z h1 h2, ny, ey, a, ?_⟩
      omega
/-- it is as far from t to s as from s to t -/
theorem Span.symm (S : Span n rs s par idx D rk) (T : Span n rs t par' idx' D' rk') (hn : rs.length + 1 = n) : D t = D' s := by
  obtain ⟨k, h1, h2⟩ := S.reach t T.ins
  cases k with
  | zero =>
    have h1 : t = s := h1
    rw [h1, S.start, ← h1, T.start]
  | succ k =>
    have := (S.turn T hn h2 k (Nat.lt_succ_self _)).2.2.2.2
    rw [h1, S.start] at this
    omega
/-- two villages are joined by one road at most -/
theorem Span.one (S : Span n rs s par idx D rk) (hn : rs.length + 1 = n) {i j : Nat} {l m y : Int} (h : Joins rs i s y l) (g : Joins rs j s y m) : i = j := by
  obtain ⟨x, hx, nx, ex⟩ := S.surj hn h.lt
  obtain ⟨z, hz, nz, ez⟩ := S.surj hn g.lt
  obtain ⟨_, jx, _⟩ := S.road x hx nx
  obtain ⟨_, jz, _⟩ := S.road z hz nz
  rw [ex] at jx
  rw [ez] at jz
  have e1 : x = y := by rcases h.ends jx with ⟨_, b⟩ | ⟨_, b⟩
                        · exact b
                        · exact absurd b nx
  have e2 : z = y := by rcases g.ends jz with ⟨_, b⟩ | ⟨_, b⟩
                        · exact b
                        · exact absurd b nz
  rw [← ex, ← ez, e1, e2]
end

/-! ### tables as they are filled -/
/-- a village, the one next to it towards the start, how far the start is -/
abbrev Ent := Int × Int × Int
def keys (tab : List Ent) : List Int := tab.map (·.1)
structure Tab (rs : List Road) (s : Int) (tab : List Ent) : Prop where
  hd : tab[0]? = some (s, s, 0)
  nd : (keys tab).Nodup
  en : ∀ (j : Nat) (x p d : Int), tab[j]? = some (x, p, d) → 0 < j → ∃ (j' : Nat) (q e : Int) (i : Nat) (l : Int), j' < j ∧ tab[j']? = some (p, q, e) ∧ Joins rs i p x l ∧ d = e + l
theorem mem_keys {tab : List Ent} {x : Int} : x ∈ keys tab ↔ ∃ p d, (x, p, d) ∈ tab := by
  unfold keys
  rw [List.mem_map]
  constructor
  · rintro ⟨⟨y, p, d⟩, h, rfl⟩; exact ⟨p, d, h⟩
  · rintro ⟨p, d, h⟩; exact ⟨_, h, rfl⟩
theorem keys_append (a b : List Ent) : keys (a ++ b) = keys a ++ keys b := List.map_append
theorem Tab.one (rs : List Road) (s : Int) : Tab rs s [(s, s, 0)] := by
  refine ⟨rfl, by simp [keys], fun j x p d h hj => ?_⟩
  cases j with
  | zero => omega
  | succ j => simp at h
section
variable {n : Nat} {rs : List Road} {s : Int} {tab : List Ent}
theorem Tab.start (T : Tab rs s tab) : (s, s, 0) ∈ tab := List.mem_of_getElem? T.hd
theorem Tab.skey (T : Tab rs s tab) : s ∈ keys tab := mem_keys.mpr ⟨_, _, T.start⟩
theorem nd_snoc {α : Type} {l : List α} {a : α} (h : l.Nodup) (ha : a ∉ l) : (l ++ [a]).Nodup := by
  rw [List.nodup_append]
  refine ⟨h, by simp, fun x hx y hy e => ?_⟩
  have := List.mem_singleton.mp hy
  subst this
  exact ha (e ▸ hx)
theorem Tab.snoc (T : Tab rs s tab) {p q e x l : Int} {i : Nat} (hp : (p, q, e) ∈ tab) (hj : Joins rs i p x l) (hx : x ∉ keys tab) : Tab rs s (tab ++ [(x, p, e + l)]) := by
  have hlen : 0 < tab.length := by
    have := T.hd
    cases tab with
    | nil => simp at this
    | cons _ _ => simp
  refine ⟨?_, ?_, fun j y r d h hj' => ?_⟩
  · rw [List.getElem?_append_left hlen]; exact T.hd
  · rw [keys_append]; exact nd_snoc T.nd hx
  · by_cases hlt : j < tab.length
    · rw [List.getElem?_append_left hlt] at h
      obtain ⟨j', q', e', i', l', h1, h2, h3⟩ := T.en j y r d h hj'
      exact ⟨j', q', e', i', l', h1, by rw [List.getElem?_append_left (by omega)]; exact h2, h3⟩
    · have hj2 : j = tab.length := by
        have := (List.getElem?_eq_some_iff.mp h).1
        simp at this; omega
      subst hj2
      rw [List.getElem?_append_right (Nat.le_refl _)] at h
      simp at h
      obtain ⟨rfl, rfl, rfl⟩ := h
      obtain ⟨j', hj1, hj2⟩ := List.mem_iff_getElem.mp hp
      exact ⟨j', q, e, i, l, hj1, by rw [List.getElem?_append_left hj1, List.getElem?_eq_getElem hj1, hj2], hj, rfl⟩
/-- what a table says of x -/
def look (tab : List Ent) (x : Int) : Option (Int × Int) := (tab.find? fun e => decide (e.1 = x)).map (·.2)
theorem look_mem {x p d : Int} (nd : (keys tab).Nodup) (h : (x, p, d) ∈ tab) : look tab x = some (p, d) := by
  induction tab with
  | nil => simp at h
  | cons a r ih =>
    unfold look keys at *
    rw [List.map_cons] at nd
    obtain ⟨n1, n2⟩ := List.nodup_cons.mp nd
    rw [List.find?_cons]
    rcases List.mem_cons.mp h with e | e
    · subst e; simp
    · have : ¬ a.1 = x := fun z => n1 (by rw [z]; exact List.mem_map.mpr ⟨_, e, rfl⟩)
      simp [this]
      simpa using ih n2 e
theorem look_none {x : Int} (h : x ∉ keys tab) : look tab x = none := by
  unfold look
  rw [List.find?_eq_none.mpr]
  · rfl
  · intro e he hc
    exact h (List.mem_map.mpr ⟨e, he, of_decide_eq_true hc⟩)
theorem nodup_place {α : Type} : ∀ {l : List α}, l.Nodup → ∀ {i j : Nat} {x : α}, l[i]? = some x → l[j]? = some x → i = j
  | [], _, i, j, x, h, _ => by simp at h
  | a :: r, nd, i, j, x, h, g => by
    obtain ⟨n1, n2⟩ := List.nodup_cons.mp nd
    cases i with
    | zero =>
      cases j with
      | zero => rfl
      | succ j =>
        simp at h g
        exact absurd (h ▸ List.mem_of_getElem? g) n1
    | succ i =>
      cases j with
      | zero =>
        simp at h g
        exact absurd (g ▸ List.mem_of_getElem? h) n1
      | succ j =>
        simp at h g
        rw [nodup_place n2 h g]
theorem keys_place (nd : (keys tab).Nodup) {i j : Nat} {x p d q e : Int} (h : tab[i]? = some (x, p, d)) (g : tab[j]? = some (x, q, e)) : i = j := by
  have h' : (keys tab)[i]? = some x := by unfold keys; rw [List.getElem?_map, h]; rfl
  have g' : (keys tab)[j]? = some x := by unfold keys; rw [List.getElem?_map, g]; rfl
  exact nodup_place nd h' g'
/-- a table with all villages gives a span -/
theorem Tab.span (T : Tab rs s tab) (hv : ∀ x, InV n x → x ∈ keys tab) (hs : InV n s) (hk : ∀ x ∈ keys tab, InV n x) :
    ∃ (par : Int → Int) (idx : Int → Nat) (D : Int → Int) (rk : Int → Nat), Span n rs s par idx D rk ∧ (∀ x p d, (x, p, d) ∈ tab → D x = d ∧ par x = p) := by
  have place : ∀ x, ∃ j : Nat, InV n x → ∃ p d, tab[j]? = some (x, p, d) := fun x => by
    by_cases h : InV n x
    · obtain ⟨p, d, hm⟩ := mem_keys.mp (hv x h)
      obtain ⟨j, hj⟩ := List.mem_iff_getElem?.mp hm
      exact ⟨j, fun _ => ⟨p, d, hj⟩⟩
    · exact ⟨0, fun q => absurd q h⟩
  let rk : Int → Nat := fun x => Classical.choose (place x)
  have hrk : ∀ x, InV n x → ∃ p d, tab[rk x]? = some (x, p, d) := fun x => Classical.choose_spec (place x)
  let par : Int → Int := fun x => ((look tab x).map (·.1)).getD 0
  let D : Int → Int := fun x => ((look tab x).map (·.2)).getD 0
  have val : ∀ x p d, (x, p, d) ∈ tab → D x = d ∧ par x = p := fun x p d h => by
    have := look_mem T.nd h
    exact ⟨by show ((look tab x).map (·.2)).getD 0 = d; rw [this]; rfl, by show ((look tab x).map (·.1)).getD 0 = p; rw [this]; rfl⟩
  have step : ∀ x, ∃ i : Nat, InV n x → x ≠ s → InV n (par x) ∧ rk (par x) < rk x ∧ ∃ l, Joins rs i (par x) x l ∧ D x = D (par x) + l := fun x => by
    by_cases h : InV n x ∧ x ≠ s
    · obtain ⟨hx, nx⟩ := h
      obtain ⟨p, d, hj⟩ := hrk x hx
      have h0 : 0 < rk x := by
        refine Nat.pos_of_ne_zero fun z => ?_
        rw [z, T.hd] at hj
        simp at hj
        exact nx hj.1.symm
      obtain ⟨j', q, e, i, l, h1, h2, h3, h4⟩ := T.en _ x p d hj h0
      obtain ⟨vd, vp⟩ := val x p d (List.mem_of_getElem? hj)
      obtain ⟨ve, _⟩ := val p q e (List.mem_of_getElem? h2)
      have hp : InV n p := hk p (mem_keys.mpr ⟨q, e, List.mem_of_getElem? h2⟩)
      obtain ⟨q', e', hj'⟩ := hrk p hp
      have := keys_place T.nd h2 hj'
      refine ⟨i, fun _ _ => ?_⟩
      rw [vp, vd, ve]
      exact ⟨hp, by omega, l, h3, h4⟩
    · exact ⟨0, fun a b => absurd ⟨a, b⟩ h⟩
  refine ⟨par, fun x => Classical.choose (step x), D, rk, ⟨(val s s 0 T.start).1, hs, fun x hx nx => ?_, fun x hx nx => ?_, fun x hx nx => ?_⟩, val⟩
  · exact (Classical.choose_spec (step x) hx nx).1
  · exact (Classical.choose_spec (step x) hx nx).2.1
  · exact (Classical.choose_spec (step x) hx nx).2.2
end

/-! ### trees -/
/-- from 0 one comes everywhere -/
def Conn (n : Nat) (rs : List Road) : Prop := ∀ K : Int → Prop, K 0 → (∀ i x y l, K x → Joins rs i x y l → K y) → ∀ v, InV n v → K v
structure Tree (n : Nat) (rs : List Road) : Prop where
  roads : Roads n rs
  count : rs.length + 1 = n
  conn : Conn n rs
section
variable {n : Nat} {rs : List Road} {s : Int} {tab : List Ent}
theorem Conn.from (C : Conn n rs) (h0 : InV n s) (K : Int → Prop) (hs : K s) (hc : ∀ i x y l, K x → Joins rs i x y l → K y) : ∀ v, InV n v → K v := by
  have k0 : K 0 := by
    refine Classical.byContradiction fun h => ?_
    exact C (fun v => ¬ K v) h (fun i x y l nx j ky => nx (hc i y x l ky j.symm)) s h0 hs
  exact C K k0 hc
/-- all roads at it are gone -/
def Closed (rs : List Road) (tab : List Ent) (x : Int) : Prop := ∀ (i : Nat) (y l : Int), Joins rs i x y l → y ∈ keys tab
theorem Tab.inv (T : Tab rs s tab) (R : Roads n rs) (hs : InV n s) : ∀ x ∈ keys tab, InV n x := by
  have all : ∀ (k j : Nat) (x p d : Int), j < k → tab[j]? = some (x, p, d) → InV n x := by
    intro k
    induction k with
    | zero => intro j x p d h; omega
    | succ k ih =>
      intro j x p d hj h
      cases j with
      | zero =>
        rw [T.hd] at h
        simp at h
        rw [← h.1]; exact hs
      | succ j =>
        obtain ⟨j', q, e, i, l, h1, h2, h3, h4⟩ := T.en _ x p d h (Nat.succ_pos _)
        exact (R.joins h3).2.1
  intro x hx
  obtain ⟨p, d, hm⟩ := mem_keys.mp hx
  obtain ⟨j, hj⟩ := List.mem_iff_getElem?.mp hm
  exact all (j + 1) j x p d (Nat.lt_succ_self _) hj
theorem keys_length (tab : List Ent) : (keys tab).length = tab.length := by simp [keys]
theorem Tab.le (T : Tab rs s tab) (R : Roads n rs) (hs : InV n s) : tab.length ≤ n := by
  have := nodup_le T.nd (m := vil n) fun x hx => mem_vil.mpr (T.inv R hs x hx)
  rw [vil_length, keys_length] at this
  exact this
theorem Tab.all (T : Tab rs s tab) (C : Conn n rs) (hs : InV n s) (hc : ∀ x ∈ keys tab, Closed rs tab x) : ∀ x, InV n x → x ∈ keys tab :=
  C.from hs (fun x => x ∈ keys tab) T.skey fun i x y l kx j => hc x kx i y l j
theorem Tab.full (T : Tab rs s tab) (R : Roads n rs) (C : Conn n rs) (hs : InV n s) (hc : ∀ x ∈ keys tab, Closed rs tab x) : tab.length = n := by
  have h1 := T.le R hs
  have h2 := nodup_le (vil_nodup n) (m := keys tab) fun x hx => T.all C hs hc x (mem_vil.mp hx)
  rw [vil_length, keys_length] at h2
  omega
/-- as many as villages come: connected -/
theorem Tab.conn (T : Tab rs 0 tab) (R : Roads n rs) (h0 : InV n 0) (hl : tab.length = n) : Conn n rs := by
  intro K k0 hc v hv
  have all : ∀ (k j : Nat) (x p d : Int), j < k → tab[j]? = some (x, p, d) → K x := by
    intro k
    induction k with
    | zero => intro j x p d h; omega
    | succ k ih =>
      intro j x p d hj h
      cases j with
      | zero =>
        rw [T.hd] at h
        simp at h
        rw [← h.1]; exact k0
      | succ j =>
        obtain ⟨j', q, e, i, l, h1, h2, h3, h4⟩ := T.en _ x p d h (Nat.succ_pos _)
        exact hc i p x l (ih j' p q e (by omega) h2) h3
  have hm : v ∈ keys tab := nodup_all T.nd (m := vil n) (fun x hx => mem_vil.mpr (T.inv R h0 x hx)) (by rw [vil_length, keys_length, hl]; exact Nat.le_refl _) v (mem_vil.mpr hv)
  obtain ⟨p, d, hm⟩ := mem_keys.mp hm
  obtain ⟨j, hj⟩ := List.mem_iff_getElem?.mp hm
  exact all (j + 1) j v p d (Nat.lt_succ_self _) hj
end
end WR
namespace WR
/-! ### the steps from a village -/
def stepsOf (r : Road) (v : Int) : List (Int × Int) := (if r.1 = v then [(r.2.1, r.2.2)] else []) ++ (if r.2.1 = v then [(r.1, r.2.2)] else [])
def stepsM (rs : List Road) (v : Int) : List (Int × Int) := rs.flatMap fun r => stepsOf r v
theorem stepsM_take {rs : List Road} {v : Int} {i : Nat} {r : Road} (h : rs[i]? = some r) : stepsM (rs.take (i + 1)) v = stepsM (rs.take i) v ++ stepsOf r v := by
  unfold stepsM
  rw [List.take_add_one, h, List.flatMap_append]
  simp
theorem mem_stepsOf {r : Road} {v y l : Int} : (y, l) ∈ stepsOf r v ↔ r = (v, y, l) ∨ r = (y, v, l) := by
  obtain ⟨a, b, c⟩ := r
  unfold stepsOf
  rw [List.mem_append]
  simp only [Prod.mk.injEq]
  constructor
  · rintro (h | h)
    · split at h
      · simp at h; omega
      · simp at h
    · split at h
      · simp at h; omega
      · simp at h
  · rintro (⟨h1, h2, h3⟩ | ⟨h1, h2, h3⟩)
    · left; simp [h1, h2, h3]
    · right; simp [h1, h2, h3]
theorem mem_stepsM {rs : List Road} {v y l : Int} : (y, l) ∈ stepsM rs v ↔ ∃ i, Joins rs i v y l := by
  unfold stepsM
  rw [List.mem_flatMap]
  constructor
  · rintro ⟨r, hr, h⟩
    obtain ⟨i, hi⟩ := List.mem_iff_getElem?.mp hr
    refine ⟨i, ?_⟩
    rcases mem_stepsOf.mp h with e | e
    · left; rw [hi, e]
    · right; rw [hi, e]
  · rintro ⟨i, h | h⟩
    · exact ⟨_, List.mem_of_getElem? h, mem_stepsOf.mpr (.inl rfl)⟩
    · exact ⟨_, List.mem_of_getElem? h, mem_stepsOf.mpr (.inr rfl)⟩
theorem stepsOf_length (r : Road) (v : Int) : (stepsOf r v).length ≤ 2 := by
  unfold stepsOf
  split <;> split <;> simp
theorem stepsM_length (rs : List Road) (v : Int) : (stepsM rs v).length ≤ 2 * rs.length := by
  unfold stepsM
  induction rs with
  | nil => simp
  | cons r t ih =>
    rw [List.flatMap_cons, List.length_append, List.length_cons]
    have := stepsOf_length r v
    omega

/-! ### the walk from s -/
structure RI (rs : List Road) (s : Int) (tab : List Ent) (ws : List Int) : Prop where
  T : Tab rs s tab
  sub : ∀ x ∈ ws, x ∈ keys tab
  cl : ∀ x ∈ keys tab, x ∉ ws → Closed rs tab x
structure RJ (rs : List Road) (s h : Int) (j : Nat) (tab : List Ent) (ws : List Int) : Prop where
  T : Tab rs s tab
  sub : ∀ x ∈ ws, x ∈ keys tab
  here : h ∈ keys tab
  cl : ∀ x ∈ keys tab, x ∉ ws → x ≠ h → Closed rs tab x
  done : ∀ y l, (y, l) ∈ (stepsM rs h).take j → y ∈ keys tab
section
variable {rs : List Road} {s h : Int} {j : Nat} {tab : List Ent} {ws : List Int}
theorem RI.begin (rs : List Road) (s : Int) : RI rs s [(s, s, 0)] [s] := by
  refine ⟨Tab.one rs s, fun x hx => ?_, fun x hx nx => ?_⟩
  · simpa [keys] using hx
  · exact absurd (by simpa [keys] using hx) nx
theorem RI.pop (I : RI rs s tab (ws ++ [h])) : RJ rs s h 0 tab ws :=
  ⟨I.T, fun x hx => I.sub x (List.mem_append_left _ hx), I.sub h (by simp), fun x hx nx ne => I.cl x hx (by simp [nx, ne]), fun y l m => by simp at m⟩
theorem Closed.more {tab more : List Ent} {x : Int} (c : Closed rs tab x) : Closed rs (tab ++ more) x := fun i y l jn => by
  rw [keys_append]
  exact List.mem_append_left _ (c i y l jn)
theorem take_next {α : Type} {l : List α} {j : Nat} {a x : α} (h : l[j]? = some a) (m : x ∈ l.take (j + 1)) : x ∈ l.take j ∨ x = a := by
  rw [List.take_add_one, h] at m
  simpa using m
theorem RJ.skip (I : RJ rs s h j tab ws) {y l : Int} (e : (stepsM rs h)[j]? = some (y, l)) (k : y ∈ keys tab) : RJ rs s h (j + 1) tab ws :=
  ⟨I.T, I.sub, I.here, I.cl, fun z m hm => by
    rcases take_next e hm with q | q
    · exact I.done z m q
    · simp at q; rw [q.1]; exact k⟩
theorem RJ.add (I : RJ rs s h j tab ws) {y l q d : Int} (e : (stepsM rs h)[j]? = some (y, l)) (k : y ∉ keys tab) (hq : (h, q, d) ∈ tab) : RJ rs s h (j + 1) (tab ++ [(y, h, d + l)]) (ws ++ [y]) := by
  obtain ⟨i, jn⟩ := mem_stepsM.mp (List.mem_of_getElem? e)
  have ky : y ∈ keys (tab ++ [(y, h, d + l)]) := by rw [keys_append]; simp [keys]
  have mono : ∀ x, x ∈ keys tab → x ∈ keys (tab ++ [(y, h, d + l)]) := fun x hx => by rw [keys_append]; exact List.mem_append_left _ hx
  refine ⟨I.T.snoc hq jn k, fun x hx => ?_, mono _ I.here, fun x hx nx ne => ?_, fun z m hm => ?_⟩
  · rcases List.mem_append.mp hx with z | z
    · exact mono x (I.sub x z)
    · rw [List.mem_singleton.mp z]; exact ky
  · rw [keys_append] at hx
    rcases List.mem_append.mp hx with z | z
    · exact (I.cl x z (fun m => nx (List.mem_append_left _ m)) ne).more
    · exact absurd (by simpa [keys] using z) (fun z : x = y => nx (by rw [z]; simp))
  · rcases take_next e hm with q | q
    · exact mono z (I.done z m q)
    · simp at q; rw [q.1]; exact ky
theorem RJ.fin (I : RJ rs s h (stepsM rs h).length tab ws) : RI rs s tab ws :=
  ⟨I.T, I.sub, fun x hx nx => by
    by_cases e : x = h
    · subst e
      intro i y l jn
      exact I.done y l (by rw [List.take_length]; exact mem_stepsM.mpr ⟨i, jn⟩)
    · exact I.cl x hx nx e⟩
theorem RI.fin (I : RI rs s tab []) : ∀ x ∈ keys tab, Closed rs tab x := fun x hx => I.cl x hx (by simp)
theorem Tab.key_end (T : Tab rs s tab) : ∀ x ∈ keys tab, x ∈ s :: (rs.map (·.1) ++ rs.map (·.2.1)) := by
  intro x hx
  obtain ⟨p, d, hm⟩ := mem_keys.mp hx
  obtain ⟨j, hj⟩ := List.mem_iff_getElem?.mp hm
  cases j with
  | zero =>
    rw [T.hd] at hj
    simp at hj
    rw [hj.1]; simp
  | succ j =>
    obtain ⟨j', q, e, i, l, h1, h2, h3, h4⟩ := T.en _ x p d hj (Nat.succ_pos _)
    refine List.mem_cons_of_mem _ (List.mem_append.mpr ?_)
    rcases h3 with z | z
    · right; exact List.mem_map.mpr ⟨_, List.mem_of_getElem? z, rfl⟩
    · left; exact List.mem_map.mpr ⟨_, List.mem_of_getElem? z, rfl⟩
theorem Tab.bound (T : Tab rs s tab) : tab.length ≤ 2 * rs.length + 1 := by
  have := nodup_le T.nd T.key_end
  rw [keys_length, List.length_cons, List.length_append, List.length_map, List.length_map] at this
  omega
end

/-! ### the law's own walk -/
def dist (tab : List Ent) (x : Int) : Int := ((look tab x).map (·.2)).getD 0
def relax1 (tab : List Ent) (r : Road) : List Ent :=
  if r.1 ∈ keys tab ∧ r.2.1 ∉ keys tab then tab ++ [(r.2.1, r.1, dist tab r.1 + r.2.2)]
  else if r.2.1 ∈ keys tab ∧ r.1 ∉ keys tab then tab ++ [(r.1, r.2.1, dist tab r.2.1 + r.2.2)] else tab
def relaxR (rs : List Road) (tab : List Ent) : List Ent := rs.foldl relax1 tab
def relaxN (rs : List Road) : Nat → List Ent → List Ent
  | 0, tab => tab
  | k + 1, tab => relaxR rs (relaxN rs k tab)
section
variable {n : Nat} {rs : List Road} {s : Int} {tab : List Ent}
theorem look_key {x : Int} (nd : (keys tab).Nodup) (h : x ∈ keys tab) : ∃ p, (x, p, dist tab x) ∈ tab := by
  obtain ⟨p, d, hm⟩ := mem_keys.mp h
  refine ⟨p, ?_⟩
  have := look_mem nd hm
  unfold dist
  rw [this]
  exact hm
theorem relax1_more (tab : List Ent) (r : Road) : ∃ more, relax1 tab r = tab ++ more := by
  unfold relax1
  split
  · exact ⟨_, rfl⟩
  · split
    · exact ⟨_, rfl⟩
    · exact ⟨[], by simp⟩
theorem Tab.relax1 (T : Tab rs s tab) {i : Nat} {r : Road} (h : rs[i]? = some r) : Tab rs s (WR.relax1 tab r) := by
  obtain ⟨a, b, l⟩ := r
  unfold WR.relax1
  split
  · rename_i c
    obtain ⟨p, hp⟩ := look_key T.nd c.1
    exact T.snoc hp (i := i) (.inl h) c.2
  · split
    · rename_i c
      obtain ⟨p, hp⟩ := look_key T.nd c.1
      exact T.snoc hp (i := i) (.inr h) c.2
    · exact T
theorem foldl_more (f : List Ent → Road → List Ent) (hf : ∀ t r, ∃ more, f t r = t ++ more) : ∀ (l : List Road) (t : List Ent), ∃ more, l.foldl f t = t ++ more
  | [], t => ⟨[], by simp⟩
  | r :: l, t => by
    obtain ⟨m1, e1⟩ := hf t r
    obtain ⟨m2, e2⟩ := foldl_more f hf l (f t r)
    exact ⟨m1 ++ m2, by rw [List.foldl_cons, e2, e1, List.append_assoc]⟩
theorem Tab.relaxL (T : Tab rs s tab) : ∀ (l : List Road), (∀ r ∈ l, r ∈ rs) → Tab rs s (l.foldl WR.relax1 tab) := by
  intro l
  induction l generalizing tab with
  | nil => intro _; exact T
  | cons r l ih =>
    intro h
    obtain ⟨i, hi⟩ := List.mem_iff_getElem?.mp (h r List.mem_cons_self)
    rw [List.foldl_cons]
    exact ih (T.relax1 hi) fun q hq => h q (List.mem_cons_of_mem _ hq)
theorem Tab.relaxR (T : Tab rs s tab) : Tab rs s (WR.relaxR rs tab) := T.relaxL rs fun _ h => h
theorem Tab.relaxN (T : Tab rs s tab) : ∀ k, Tab rs s (WR.relaxN rs k tab)
  | 0 => T
  | k + 1 => (T.relaxN k).relaxR
/-- one round more: one village more, if there is one -/
theorem relax_grow (T : Tab rs s tab) (C : Conn n rs) (hs : InV n s) (hlt : ∃ x, InV n x ∧ x ∉ keys tab) : tab.length + 1 ≤ (WR.relaxR rs tab).length := by
  have hex : ∃ i x y l, Joins rs i x y l ∧ x ∈ keys tab ∧ y ∉ keys tab := by
    refine Classical.byContradiction fun hn => ?_
    obtain ⟨x, hx, nx⟩ := hlt
    refine nx (T.all C hs (fun z hz i y l jn => ?_) x hx)
    exact Classical.byContradiction fun q => hn ⟨i, z, y, l, jn, hz, q⟩
  obtain ⟨i, x, y, l, jn, kx, ky⟩ := hex
  have grow : ∀ t : List Ent, (∃ more, t = tab ++ more) → y ∈ keys t → tab.length + 1 ≤ t.length := by
    rintro t ⟨more, rfl⟩ hy
    cases more with
    | nil => simp at hy; exact absurd hy ky
    | cons _ _ => simp
  have hi := jn.lt
  unfold WR.relaxR
  have split : rs = rs.take i ++ rs[i] :: rs.drop (i + 1) := by
    rw [← List.drop_eq_getElem_cons hi, List.take_append_drop]
  have hr : rs[i]? = some rs[i] := List.getElem?_eq_getElem hi
  generalize rs[i] = r at split hr
  rw [split, List.foldl_append, List.foldl_cons]
  obtain ⟨m1, e1⟩ := foldl_more relax1 relax1_more (rs.take i) tab
  obtain ⟨m2, e2⟩ := relax1_more ((rs.take i).foldl relax1 tab) r
  obtain ⟨m3, e3⟩ := foldl_more relax1 relax1_more (rs.drop (i + 1)) (relax1 ((rs.take i).foldl relax1 tab) r)
  have T1 : Tab rs s ((rs.take i).foldl relax1 tab) := T.relaxL _ fun q hq => List.mem_of_mem_take hq
  have kx1 : x ∈ keys ((rs.take i).foldl relax1 tab) := by rw [e1, keys_append]; exact List.mem_append_left _ kx
  have step : y ∈ keys (relax1 ((rs.take i).foldl relax1 tab) r) := by
    by_cases hy : y ∈ keys ((rs.take i).foldl relax1 tab)
    · rw [e2, keys_append]; exact List.mem_append_left _ hy
    · unfold relax1
      rcases jn with z | z
      · rw [hr] at z
        have z := Option.some.inj z
        subst z
        rw [if_pos ⟨kx1, hy⟩, keys_append]
        simp [keys]
      · rw [hr] at z
        have z := Option.some.inj z
        subst z
        rw [if_neg (fun c => hy c.1), if_pos ⟨kx1, hy⟩, keys_append]
        simp [keys]
  refine grow _ ⟨m1 ++ m2 ++ m3, by rw [e3, e2, e1]; simp⟩ ?_
  rw [e3, keys_append]
  exact List.mem_append_left _ step
theorem relaxN_len (T : Tab rs s tab) (R : Roads n rs) (C : Conn n rs) (hs : InV n s) : ∀ k, min n (tab.length + k) ≤ (relaxN rs k tab).length
  | 0 => by simp only [relaxN]; omega
  | k + 1 => by
    have ih := relaxN_len T R C hs k
    have Tk := T.relaxN k
    by_cases h : ∃ x, InV n x ∧ x ∉ keys (relaxN rs k tab)
    · have := relax_grow Tk C hs h
      show _ ≤ (relaxR rs (relaxN rs k tab)).length
      omega
    · have h2 := nodup_le (vil_nodup n) (m := keys (relaxN rs k tab)) fun x hx => Classical.byContradiction fun q => h ⟨x, mem_vil.mp hx, q⟩
      rw [vil_length, keys_length] at h2
      obtain ⟨m, e⟩ := foldl_more relax1 relax1_more rs (relaxN rs k tab)
      show _ ≤ (relaxR rs (relaxN rs k tab)).length
      unfold relaxR
      rw [e, List.length_append]
      omega
/-- after n rounds all villages are there -/
theorem relax_all (R : Roads n rs) (C : Conn n rs) (hs : InV n s) : ∀ x, InV n x → x ∈ keys (relaxN rs n [(s, s, 0)]) := by
  intro x hx
  have T := (Tab.one rs s).relaxN n
  have := relaxN_len (Tab.one rs s) R C hs n
  have l2 : n ≤ (relaxN rs n [(s, s, 0)]).length := by omega
  exact nodup_all T.nd (m := vil n) (fun y hy => mem_vil.mpr (T.inv R hs y hy)) (by rw [vil_length, keys_length]; exact l2) x (mem_vil.mpr hx)
end

/-! ### how far it is -/
/-- by the law's own walk -/
def far (n : Nat) (rs : List Road) (s x : Int) : Int := dist (relaxN rs n [(s, s, 0)]) x
section
variable {n : Nat} {rs : List Road} {s t : Int} {tab : List Ent}
theorem dist_mem {x p d : Int} (nd : (keys tab).Nodup) (h : (x, p, d) ∈ tab) : dist tab x = d := by
  unfold dist
  rw [look_mem nd h]
  rfl
theorem Span.congr {par : Int → Int} {idx : Int → Nat} {D D' : Int → Int} {rk : Int → Nat} (S : Span n rs s par idx D rk) (e : ∀ x, InV n x → D x = D' x) : Span n rs s par idx D' rk :=
  ⟨by rw [← e s S.ins]; exact S.start, S.ins, S.pin, S.rank, fun x hx nx => by
    obtain ⟨l, j, h⟩ := S.road x hx nx
    exact ⟨l, j, by rw [← e x hx, ← e _ (S.pin x hx nx)]; exact h⟩⟩
theorem Tree.span (W : Tree n rs) (hs : InV n s) : ∃ (par : Int → Int) (idx : Int → Nat) (rk : Int → Nat), Span n rs s par idx (far n rs s) rk := by
  have T := (Tab.one rs s).relaxN n
  obtain ⟨par, idx, D, rk, S, v⟩ := T.span (relax_all W.roads W.conn hs) hs (T.inv W.roads hs)
  refine ⟨par, idx, rk, S.congr fun x hx => ?_⟩
  obtain ⟨p, d, hm⟩ := mem_keys.mp (relax_all W.roads W.conn hs x hx)
  rw [(v x p d hm).1]
  exact (dist_mem T.nd hm).symm
/-- every table of ways tells the same -/
theorem Tree.table (W : Tree n rs) (hs : InV n s) (T : Tab rs s tab) (hc : ∀ x ∈ keys tab, Closed rs tab x) :
    ∃ (par : Int → Int) (idx : Int → Nat) (rk : Int → Nat), Span n rs s par idx (far n rs s) rk ∧ (∀ x, InV n x → x ∈ keys tab) ∧ (∀ x ∈ keys tab, InV n x) ∧ ∀ x p d, (x, p, d) ∈ tab → d = far n rs s x ∧ par x = p := by
  have hv := T.all W.conn hs hc
  have hk := T.inv W.roads hs
  obtain ⟨par, idx, D, rk, S, v⟩ := T.span hv hs hk
  obtain ⟨par', idx', rk', S'⟩ := W.span hs
  have e := S.uniq S' W.count
  refine ⟨par, idx, rk, S.congr e, hv, hk, fun x p d hm => ?_⟩
  obtain ⟨h1, h2⟩ := v x p d hm
  exact ⟨by rw [← h1]; exact e x (hk x (mem_keys.mpr ⟨p, d, hm⟩)), h2⟩
theorem Tree.far_symm (W : Tree n rs) (hs : InV n s) (ht : InV n t) : far n rs s t = far n rs t s := by
  obtain ⟨_, _, _, S⟩ := W.span hs
  obtain ⟨_, _, _, S'⟩ := W.span ht
  exact S.symm S' W.count
/-- one road at most between two villages -/
theorem Tree.one_road (W : Tree n rs) (hs : InV n s) {i j : Nat} {l m y : Int} (h : Joins rs i s y l) (g : Joins rs j s y m) : i = j := by
  obtain ⟨_, _, _, S⟩ := W.span hs
  exact S.one W.count h g
end

/-! ### what makes a tree -/
theorem InV.zero {n : Nat} (h : 0 < n) : InV n 0 := ⟨Int.le_refl _, by omega⟩
/-- the count of what is reached from 0 tells a tree -/
theorem tree_iff {n : Nat} {rs : List Road} {tab : List Ent} (R : Roads n rs) (hl : rs.length + 1 = n) (T : Tab rs 0 tab) (hc : ∀ x ∈ keys tab, Closed rs tab x) : tab.length = n ↔ Tree n rs := by
  have h0 : InV n 0 := InV.zero (by omega)
  constructor
  · intro e
    exact ⟨R, hl, T.conn R h0 e⟩
  · intro W
    exact T.full R W.conn h0 hc
end WR
namespace WR
/-! ### the villages' names -/
def nameM (k n turn : Int) : Int := if 1 < n ∧ (turn = 1 ∨ n % turn ≠ 0) then k * turn % n else k
theorem nameM_all : ∀ (n : Fin 12) (t : Fin 4) (k j : Fin 12), k.val < n.val + 1 → j.val < n.val + 1 →
    (0 ≤ nameM k.val (n.val + 1 : Nat) ([1, 5, 7, 11].getD t.val 1) ∧ nameM k.val (n.val + 1 : Nat) ([1, 5, 7, 11].getD t.val 1) < (n.val + 1 : Nat)) ∧
    (nameM k.val (n.val + 1 : Nat) ([1, 5, 7, 11].getD t.val 1) = nameM j.val (n.val + 1 : Nat) ([1, 5, 7, 11].getD t.val 1) → k = j) := by
  decide +kernel
def IsTurn (t : Int) : Prop := t = 1 ∨ t = 5 ∨ t = 7 ∨ t = 11
theorem IsTurn.at {t : Int} (h : IsTurn t) : ∃ i : Fin 4, ([1, 5, 7, 11] : List Int).getD i.val 1 = t := by
  rcases h with rfl | rfl | rfl | rfl
  · exact ⟨0, rfl⟩
  · exact ⟨1, rfl⟩
  · exact ⟨2, rfl⟩
  · exact ⟨3, rfl⟩
theorem name_in {n k : Nat} {t : Int} (ht : IsTurn t) (hn : n ≤ 12) (hk : k < n) : InV n (nameM k n t) := by
  obtain ⟨i, rfl⟩ := ht.at
  obtain ⟨m, rfl⟩ : ∃ m, n = m + 1 := ⟨n - 1, by omega⟩
  exact (nameM_all ⟨m, by omega⟩ i ⟨k, by omega⟩ ⟨k, by omega⟩ hk hk).1
theorem name_inj {n k j : Nat} {t : Int} (ht : IsTurn t) (hn : n ≤ 12) (hk : k < n) (hj : j < n) (e : nameM k n t = nameM j n t) : k = j := by
  obtain ⟨i, rfl⟩ := ht.at
  obtain ⟨m, rfl⟩ : ∃ m, n = m + 1 := ⟨n - 1, by omega⟩
  have := (nameM_all ⟨m, by omega⟩ i ⟨k, by omega⟩ ⟨j, by omega⟩ hk hj).2 e
  exact congrArg Fin.val this
theorem name_zero (n t : Int) : nameM 0 n t = 0 := by
  unfold nameM
  split
  · rw [Int.zero_mul, Int.zero_emod]
  · rfl
/-- every village is named -/
theorem name_surj {n : Nat} {t : Int} (ht : IsTurn t) (hn : n ≤ 12) {x : Int} (hx : InV n x) : ∃ k : Nat, k < n ∧ nameM k n t = x := by
  have nd : ((List.range n).map fun (k : Nat) => nameM k n t).Nodup := map_nodup_on List.nodup_range fun a ha b hb e => name_inj ht hn (List.mem_range.mp ha) (List.mem_range.mp hb) e
  have := nodup_all nd (m := vil n) (fun y hy => by
    obtain ⟨k, hk, rfl⟩ := List.mem_map.mp hy
    exact mem_vil.mpr (name_in ht hn (List.mem_range.mp hk))) (by simp [vil_length]) x (mem_vil.mpr hx)
  obtain ⟨k, hk, e⟩ := List.mem_map.mp this
  exact ⟨k, List.mem_range.mp hk, e⟩

/-! ### a tree that grows -/
/-- the first k villages are joined -/
structure Built (n : Nat) (t : Int) (k : Nat) (rs : List Road) : Prop where
  len : rs.length + 1 = k
  roads : Roads n rs
  conn : ∀ K : Int → Prop, K 0 → (∀ i x y l, K x → Joins rs i x y l → K y) → ∀ j : Nat, j < k → K (nameM j n t)
theorem Built.begin (n : Nat) (t : Int) : Built n t 1 [] := by
  refine ⟨rfl, ⟨by simp, by simp, by simp, by simp⟩, fun K k0 _ j hj => ?_⟩
  have : j = 0 := by omega
  subst this
  show K (nameM 0 n t)
  rw [name_zero]
  exact k0
/-- r put in at place p -/
def putAt {α : Type} (rs : List α) (p : Nat) (r : α) : List α := rs.take p ++ r :: rs.drop p
theorem mem_putAt {α : Type} {rs : List α} {p : Nat} {r x : α} : x ∈ putAt rs p r ↔ x = r ∨ x ∈ rs := by
  unfold putAt
  rw [List.mem_append, List.mem_cons]
  constructor
  · rintro (h | h | h)
    · exact .inr (List.mem_of_mem_take h)
    · exact .inl h
    · exact .inr (List.mem_of_mem_drop h)
  · rintro (h | h)
    · exact .inr (.inl h)
    · rw [← List.take_append_drop p rs] at h
      rcases List.mem_append.mp h with h | h
      · exact .inl h
      · exact .inr (.inr h)
theorem length_putAt {α : Type} {rs : List α} {p : Nat} {r : α} (hp : p ≤ rs.length) : (putAt rs p r).length = rs.length + 1 := by
  unfold putAt
  rw [List.length_append, List.length_take, List.length_cons, List.length_drop]
  omega
theorem joins_mem {rs : List Road} {x y l : Int} : (∃ i, Joins rs i x y l) ↔ (x, y, l) ∈ rs ∨ (y, x, l) ∈ rs := by
  constructor
  · rintro ⟨i, h | h⟩
    · exact .inl (List.mem_of_getElem? h)
    · exact .inr (List.mem_of_getElem? h)
  · rintro (h | h)
    · obtain ⟨i, hi⟩ := List.mem_iff_getElem?.mp h
      exact ⟨i, .inl hi⟩
    · obtain ⟨i, hi⟩ := List.mem_iff_getElem?.mp h
      exact ⟨i, .inr hi⟩
theorem Built.step {n k : Nat} {t : Int} {rs : List Road} (B : Built n t k rs) (ht : IsTurn t) (hn : n ≤ 12) (hk : k < n) {a p : Nat} {l : Int} {r : Road} (ha : a < k) (hp : p ≤ rs.length) (l1 : 1 ≤ l) (l2 : l ≤ 1000000)
    (hr : r = (nameM k n t, nameM a n t, l) ∨ r = (nameM a n t, nameM k n t, l)) : Built n t (k + 1) (putAt rs p r) := by
  have hin1 := name_in ht hn hk
  have hin2 := name_in ht hn (show a < n by omega)
  have hne : nameM k n t ≠ nameM a n t := fun e => by have := name_inj ht hn hk (by omega) e; omega
  refine ⟨by rw [length_putAt hp, B.len], ⟨fun q hq => ?_, fun q hq => ?_, fun q hq => ?_, fun q hq => ?_⟩, fun K k0 hc j hj => ?_⟩
  · rcases mem_putAt.mp hq with rfl | h
    · rcases hr with rfl | rfl
      · exact ⟨hin1.1, hin2.1⟩
      · exact ⟨hin2.1, hin1.1⟩
    · exact B.roads.lo q h
  · rcases mem_putAt.mp hq with rfl | h
    · rcases hr with rfl | rfl
      · exact ⟨hin1.2, hin2.2⟩
      · exact ⟨hin2.2, hin1.2⟩
    · exact B.roads.hi q h
  · rcases mem_putAt.mp hq with rfl | h
    · rcases hr with rfl | rfl
      · exact hne
      · exact hne.symm
    · exact B.roads.ne q h
  · rcases mem_putAt.mp hq with rfl | h
    · rcases hr with rfl | rfl <;> exact ⟨l1, l2⟩
    · exact B.roads.ps q h
  · have old : ∀ j : Nat, j < k → K (nameM j n t) := B.conn K k0 fun i x y m kx jn => by
      have hm := joins_mem.mp ⟨i, jn⟩
      obtain ⟨i', jn'⟩ := (joins_mem (rs := putAt rs p r) (x := x) (y := y) (l := m)).mpr (hm.imp (fun h => mem_putAt.mpr (.inr h)) fun h => mem_putAt.mpr (.inr h))
      exact hc i' x y m kx jn'
    by_cases e : j < k
    · exact old j e
    · have : j = k := by omega
      subst this
      have hm : (nameM a n t, nameM j n t, l) ∈ putAt rs p r ∨ (nameM j n t, nameM a n t, l) ∈ putAt rs p r := by
        rcases hr with h | h
        · exact .inr (mem_putAt.mpr (.inl h.symm))
        · exact .inl (mem_putAt.mpr (.inl h.symm))
      obtain ⟨i', jn'⟩ := joins_mem.mpr hm
      exact hc i' _ _ l (old a ha) jn'
theorem Built.tree {n : Nat} {t : Int} {rs : List Road} (B : Built n t n rs) (ht : IsTurn t) (hn : n ≤ 12) : Tree n rs :=
  ⟨B.roads, B.len, fun K k0 hc v hv => by
    obtain ⟨k, hk, rfl⟩ := name_surj ht hn hv
    exact B.conn K k0 hc k hk⟩
end WR
namespace WR
/-- the villages on the way up from t, k steps -/
def upList (par : Int → Int) (k : Nat) (t : Int) : List Int := (List.range (k + 1)).map fun (j : Nat) => up par j t
theorem upList_succ (par : Int → Int) (k : Nat) (t : Int) : upList par (k + 1) t = upList par k t ++ [up par (k + 1) t] := by
  unfold upList
  rw [List.range_succ (n := k + 1), List.map_append]
  rfl
theorem upList_get (par : Int → Int) {k j : Nat} (t : Int) (h : j ≤ k) : (upList par k t)[j]? = some (up par j t) := by
  unfold upList
  rw [List.getElem?_map, List.getElem?_range (by omega)]
  rfl
theorem upList_length (par : Int → Int) (k : Nat) (t : Int) : (upList par k t).length = k + 1 := by simp [upList]
section
variable {n : Nat} {rs : List Road} {s t : Int} {par : Int → Int} {idx : Int → Nat} {D : Int → Int} {rk : Int → Nat}
theorem Span.up_rank (S : Span n rs s par idx D rk) {k : Nat} (hk : ∀ j, j < k → InV n (up par j t) ∧ up par j t ≠ s) : ∀ j m, j < m → m ≤ k → rk (up par m t) < rk (up par j t) := by
  intro j m hj
  induction m with
  | zero => omega
  | succ m ih =>
    intro hm
    have r := S.rank _ (hk m (by omega)).1 (hk m (by omega)).2
    rw [up_succ]
    by_cases e : j = m
    · subst e; exact r
    · have := ih (by omega) (by omega)
      omega
theorem Span.up_nodup (S : Span n rs s par idx D rk) {k : Nat} (hk : ∀ j, j < k → InV n (up par j t) ∧ up par j t ≠ s) : (upList par k t).Nodup := by
  unfold upList
  refine map_nodup_on List.nodup_range fun a ha b hb e => ?_
  have ha := List.mem_range.mp ha
  have hb := List.mem_range.mp hb
  refine Decidable.byContradiction fun ne => ?_
  rcases Nat.lt_or_gt_of_ne ne with h | h
  · have := S.up_rank hk a b h (by omega); rw [e] at this; omega
  · have := S.up_rank hk b a h (by omega); rw [e] at this; omega
end
end WR
namespace WR
/-! ### the sides of a road -/
/-- one comes from s to it without the road at i -/
inductive Clo (rs : List Road) (i : Nat) (s : Int) : Int → Prop where
  | refl : Clo rs i s s
  | step {x y l : Int} {j : Nat} : Clo rs i s x → j ≠ i → Joins rs j x y l → Clo rs i s y
theorem Clo.trans {rs : List Road} {i : Nat} {s x y : Int} (h : Clo rs i s x) (g : Clo rs i x y) : Clo rs i s y := by
  induction g with
  | refl => exact h
  | step _ n j ih => exact ih.step n j
theorem Clo.head {rs : List Road} {i j : Nat} {s x l : Int} (n : j ≠ i) (h : Joins rs j s x l) : Clo rs i s x := Clo.refl.step n h
theorem Clo.symm {rs : List Road} {i : Nat} {s x : Int} (h : Clo rs i s x) : Clo rs i x s := by
  induction h with
  | refl => exact .refl
  | step _ n j ih => exact (Clo.head n j.symm).trans ih
theorem Clo.inV {n : Nat} {rs : List Road} {i : Nat} {s x : Int} (R : Roads n rs) (hs : InV n s) (h : Clo rs i s x) : InV n x := by
  induction h with
  | refl => exact hs
  | step _ _ j _ => exact (R.joins j).2.1
section
variable {n : Nat} {rs : List Road} {s : Int} {par : Int → Int} {idx : Int → Nat} {D : Int → Int} {rk : Int → Nat}
theorem Span.count_le (S : Span n rs s par idx D rk) : n ≤ rs.length + 1 := by
  have hs : s ∈ vil n := mem_vil.mpr S.ins
  have mem : ∀ x, x ∈ (vil n).erase s → InV n x ∧ x ≠ s := fun x hx => by
    have := (List.Nodup.mem_erase_iff (vil_nodup n)).mp hx
    exact ⟨mem_vil.mp this.2, this.1⟩
  have nd : (((vil n).erase s).map idx).Nodup := map_nodup_on ((vil_nodup n).erase s) fun x hx y hy e => S.inj (mem x hx).1 (mem y hy).1 (mem x hx).2 (mem y hy).2 e
  have sub : ∀ j ∈ ((vil n).erase s).map idx, j ∈ List.range rs.length := fun j hj => by
    obtain ⟨x, hx, rfl⟩ := List.mem_map.mp hj
    obtain ⟨l, jn, _⟩ := S.road x (mem x hx).1 (mem x hx).2
    exact List.mem_range.mpr jn.lt
  have := nodup_le nd sub
  rw [List.length_map, List.length_erase_of_mem hs, vil_length, List.length_range] at this
  omega
/-- below z's rank one goes up without z's road -/
theorem Span.clo_up (S : Span n rs s par idx D rk) {z : Int} (hz : InV n z) (nz : z ≠ s) : ∀ (k : Nat) (v : Int), rk v = k → InV n v → rk v < rk z → Clo rs (idx z) v s := by
  intro k
  induction k using Nat.strongRecOn with
  | ind k ih =>
    intro v hk hv hr
    by_cases e : v = s
    · subst e; exact .refl
    · obtain ⟨l, j, _⟩ := S.road v hv e
      have r := S.rank v hv e
      have ni : idx v ≠ idx z := fun q => by
        have := S.inj hv hz e nz q
        subst this; omega
      exact (Clo.head ni j.symm).trans (ih (rk (par v)) (by omega) (par v) rfl (S.pin v hv e) (by omega))
theorem joins_erase {rs : List Road} {i j : Nat} {x y l : Int} (h : Joins rs j x y l) (n : j ≠ i) : ∃ k, Joins (rs.eraseIdx i) k x y l := by
  by_cases c : j < i
  · refine ⟨j, ?_⟩
    unfold Joins at *
    rw [List.getElem?_eraseIdx, if_pos c]
    exact h
  · refine ⟨j - 1, ?_⟩
    unfold Joins at *
    rw [List.getElem?_eraseIdx, if_neg (by omega), show j - 1 + 1 = j by omega]
    exact h
theorem Roads.erase (R : Roads n rs) (i : Nat) : Roads n (rs.eraseIdx i) := by
  have m : ∀ r ∈ rs.eraseIdx i, r ∈ rs := fun r h => List.mem_of_mem_eraseIdx h
  exact ⟨fun r h => R.lo r (m r h), fun r h => R.hi r (m r h), fun r h => R.ne r (m r h), fun r h => R.ps r (m r h)⟩
/-- a connected country has roads enough -/
theorem Conn.count (C : Conn n rs) (R : Roads n rs) (h0 : 0 < n) : n ≤ rs.length + 1 := by
  have hs : InV n 0 := InV.zero h0
  have T := (Tab.one rs 0).relaxN n
  obtain ⟨_, _, _, _, S, _⟩ := T.span (relax_all R C hs) hs (T.inv R hs)
  exact S.count_le
theorem Tree.apart (W : Tree n rs) {i : Nat} {p x l : Int} (hj : Joins rs i p x l) : ¬ Clo rs i p x := by
  intro h
  have C : Conn n (rs.eraseIdx i) := fun K k0 hc => by
    have hc' : ∀ j a b m, j ≠ i → K a → Joins rs j a b m → K b := fun j a b m nj ka jn => by
      obtain ⟨k, jk⟩ := joins_erase jn nj
      exact hc k a b m ka jk
    have clo : ∀ a b, Clo rs i a b → K a → K b := fun a b g ka => by
      induction g with
      | refl => exact ka
      | step _ nj jn ih => exact hc' _ _ _ _ nj ih jn
    refine W.conn K k0 fun j a b m ka jn => ?_
    by_cases e : j = i
    · subst e
      rcases hj.ends jn with ⟨rfl, rfl⟩ | ⟨rfl, rfl⟩
      · exact clo _ _ h ka
      · exact clo _ _ h.symm ka
    · exact hc' j a b m e ka jn
  have := C.count (W.roads.erase i) (by have := W.count; omega)
  rw [List.length_eraseIdx, if_pos hj.lt] at this
  have := W.count
  have := hj.lt
  omega
/-- a road as it is seen from a village -/
theorem Tree.edge (W : Tree n rs) {i : Nat} {p x l y : Int} (hj : Joins rs i p x l) (S : Span n rs y par idx (far n rs y) rk) :
    (idx x = i ∧ x ≠ y ∧ par x = p ∧ far n rs y x = far n rs y p + l ∧ Clo rs i p y) ∨ (idx p = i ∧ p ≠ y ∧ par p = x ∧ far n rs y p = far n rs y x + l ∧ Clo rs i x y) := by
  obtain ⟨z, hz, nz, e⟩ := S.surj W.count hj.lt
  obtain ⟨m, jz, hd⟩ := S.road z hz nz
  have up := S.clo_up hz nz _ (par z) rfl (S.pin z hz nz) (S.rank z hz nz)
  rw [e] at jz up
  have lm := hj.len jz
  subst lm
  rcases hj.ends jz with ⟨a, b⟩ | ⟨a, b⟩
  · subst b
    rw [a] at hd up
    exact .inl ⟨e, nz, a, hd, up⟩
  · subst b
    rw [a] at hd up
    exact .inr ⟨e, nz, a, hd, up⟩
theorem Tree.side (W : Tree n rs) {i : Nat} {p x l y : Int} (hj : Joins rs i p x l) (hy : InV n y) :
    (Clo rs i x y ∧ ¬ Clo rs i p y ∧ far n rs y p = far n rs y x + l) ∨ (Clo rs i p y ∧ ¬ Clo rs i x y ∧ far n rs y x = far n rs y p + l) := by
  obtain ⟨_, _, _, S⟩ := W.span hy
  have ap := W.apart hj
  rcases W.edge hj S with ⟨_, _, _, h, c⟩ | ⟨_, _, _, h, c⟩
  · exact .inr ⟨c, fun g => ap (c.trans g.symm), h⟩
  · exact .inl ⟨c, fun g => ap (g.trans c.symm), h⟩
end
/-! ### a side, grown road by road -/
def grow1 (i : Nat) (f : List Int) (k : Nat) (r : Road) : List Int :=
  if k ≠ i ∧ (decide (r.1 ∈ f) ≠ decide (r.2.1 ∈ f)) then f ++ [if r.1 ∈ f then r.2.1 else r.1] else f
def growTo (rs : List Road) (i : Nat) : Nat → List Int → List Int
  | 0, f => f
  | k + 1, f => match rs[k]? with
    | some r => grow1 i (growTo rs i k f) k r
    | none => growTo rs i k f
def growN (rs : List Road) (i : Nat) : Nat → List Int → List Int
  | 0, f => f
  | m + 1, f => growTo rs i rs.length (growN rs i m f)
theorem growTo_succ {rs : List Road} {i k : Nat} {r : Road} (h : rs[k]? = some r) (f : List Int) : growTo rs i (k + 1) f = grow1 i (growTo rs i k f) k r := by
  show (match rs[k]? with | some r => grow1 i (growTo rs i k f) k r | none => growTo rs i k f) = _
  rw [h]
structure GI (rs : List Road) (i : Nat) (s : Int) (f : List Int) : Prop where
  st : s ∈ f
  nd : f.Nodup
  cl : ∀ x ∈ f, Clo rs i s x
theorem GI.begin (rs : List Road) (i : Nat) (s : Int) : GI rs i s [s] := ⟨by simp, by simp, fun x h => by simp at h; subst h; exact .refl⟩
theorem GI.one {rs : List Road} {i k : Nat} {s : Int} {f : List Int} {r : Road} (g : GI rs i s f) (h : rs[k]? = some r) : GI rs i s (grow1 i f k r) := by
  unfold grow1
  split
  · rename_i c
    obtain ⟨a, b, l⟩ := r
    by_cases ha : a ∈ f
    · have hb : b ∉ f := fun hb => by simp [ha, hb] at c
      rw [if_pos ha]
      exact ⟨List.mem_append_left _ g.st, nd_snoc g.nd hb, fun x hx => by
        rcases List.mem_append.mp hx with hx | hx
        · exact g.cl x hx
        · have : x = b := by simpa using hx
          subst this
          exact (g.cl a ha).step c.1 (.inl h)⟩
    · have hb : b ∈ f := Classical.byContradiction fun hb => by simp [ha, hb] at c
      rw [if_neg ha]
      exact ⟨List.mem_append_left _ g.st, nd_snoc g.nd ha, fun x hx => by
        rcases List.mem_append.mp hx with hx | hx
        · exact g.cl x hx
        · have : x = a := by simpa using hx
          subst this
          exact (g.cl b hb).step c.1 (.inr h)⟩
  · exact g
theorem GI.to {rs : List Road} {i : Nat} {s : Int} {f : List Int} (g : GI rs i s f) : ∀ k, GI rs i s (growTo rs i k f)
  | 0 => g
  | k + 1 => by
    cases h : rs[k]? with
    | none =>
      have : growTo rs i (k + 1) f = growTo rs i k f := by
        show (match rs[k]? with | some r => grow1 i (growTo rs i k f) k r | none => growTo rs i k f) = _
        rw [h]
      rw [this]; exact g.to k
    | some r => rw [growTo_succ h]; exact (g.to k).one h
theorem GI.N {rs : List Road} {i : Nat} {s : Int} {f : List Int} (g : GI rs i s f) : ∀ m, GI rs i s (growN rs i m f)
  | 0 => g
  | m + 1 => (g.N m).to _
theorem grow1_more (i : Nat) (f : List Int) (k : Nat) (r : Road) : ∃ more, grow1 i f k r = f ++ more := by
  unfold grow1
  split
  · exact ⟨_, rfl⟩
  · exact ⟨[], by simp⟩
theorem growTo_more (rs : List Road) (i : Nat) (f : List Int) (k d : Nat) : ∃ more, growTo rs i (k + d) f = growTo rs i k f ++ more := by
  induction d with
  | zero => exact ⟨[], by simp⟩
  | succ d ih =>
    obtain ⟨m, e⟩ := ih
    cases h : rs[k + d]? with
    | none =>
      refine ⟨m, ?_⟩
      show (match rs[k + d]? with | some r => grow1 i (growTo rs i (k + d) f) (k + d) r | none => growTo rs i (k + d) f) = _
      rw [h]; exact e
    | some r =>
      obtain ⟨m2, e2⟩ := grow1_more i (growTo rs i (k + d) f) (k + d) r
      refine ⟨m ++ m2, ?_⟩
      rw [show k + (d + 1) = k + d + 1 by omega, growTo_succ h, e2, e, List.append_assoc]
def ClosedF (rs : List Road) (i : Nat) (f : List Int) : Prop := ∀ j x y l, j ≠ i → Joins rs j x y l → x ∈ f → y ∈ f
theorem closed_of_len {rs : List Road} {i : Nat} {f : List Int} (h : (growTo rs i rs.length f).length = f.length) : ClosedF rs i f := by
  have st : ∀ k, k ≤ rs.length → growTo rs i k f = f := fun k hk => by
    obtain ⟨m, e⟩ := growTo_more rs i f 0 k
    obtain ⟨m2, e2⟩ := growTo_more rs i f k (rs.length - k)
    rw [show k + (rs.length - k) = rs.length by omega] at e2
    rw [Nat.zero_add] at e
    have e0 : growTo rs i 0 f = f := rfl
    rw [e0] at e
    rw [e2, e, List.length_append, List.length_append] at h
    have : m = [] := List.eq_nil_of_length_eq_zero (by omega)
    rw [e, this, List.append_nil]
  intro j x y l nj jn hx
  have hlt := jn.lt
  obtain ⟨r, hr⟩ : ∃ r, rs[j]? = some r := ⟨rs[j], List.getElem?_eq_getElem hlt⟩
  have e := growTo_succ (i := i) hr f
  rw [st j (by omega), st (j + 1) (by omega)] at e
  unfold grow1 at e
  split at e
  · exfalso
    have := congrArg List.length e
    rw [List.length_append] at this
    simp at this
  · rename_i c
    refine Classical.byContradiction fun hy => c ⟨nj, ?_⟩
    rcases jn with q | q
    · rw [hr] at q; cases q
      simp [hx, hy]
    · rw [hr] at q; cases q
      simp [hx, hy]
theorem growTo_closed {rs : List Road} {i : Nat} {f : List Int} (c : ClosedF rs i f) : ∀ k, growTo rs i k f = f
  | 0 => rfl
  | k + 1 => by
    have ih := growTo_closed c k
    cases h : rs[k]? with
    | none =>
      show (match rs[k]? with | some r => grow1 i (growTo rs i k f) k r | none => growTo rs i k f) = _
      rw [h]; exact ih
    | some r =>
      rw [growTo_succ h, ih]
      unfold grow1
      rw [if_neg]
      rintro ⟨ni, ne⟩
      apply ne
      obtain ⟨a, b, l⟩ := r
      have h1 : a ∈ f → b ∈ f := fun z => c k a b l ni (.inl h) z
      have h2 : b ∈ f → a ∈ f := fun z => c k b a l ni (.inr h) z
      by_cases ha : a ∈ f
      · simp [ha, h1 ha]
      · have hb : b ∉ f := fun z => ha (h2 z)
        simp [ha, hb]
theorem grown {n : Nat} {rs : List Road} {i : Nat} {s : Int} (R : Roads n rs) (hs : InV n s) : ClosedF rs i (growN rs i n [s]) := by
  have key : ∀ m, ClosedF rs i (growN rs i m [s]) ∨ m + 1 ≤ (growN rs i m [s]).length := by
    intro m
    induction m with
    | zero => exact .inr (by simp [growN])
    | succ m ih =>
      rcases ih with c | h
      · left
        show ClosedF rs i (growTo rs i rs.length (growN rs i m [s]))
        rw [growTo_closed c]; exact c
      · obtain ⟨mo, e⟩ := growTo_more rs i (growN rs i m [s]) 0 rs.length
        rw [Nat.zero_add] at e
        have e0 : growTo rs i 0 (growN rs i m [s]) = growN rs i m [s] := rfl
        rw [e0] at e
        by_cases q : mo = []
        · left
          have c := closed_of_len (rs := rs) (i := i) (f := growN rs i m [s]) (by rw [e, q, List.append_nil])
          show ClosedF rs i (growTo rs i rs.length (growN rs i m [s]))
          rw [growTo_closed c]; exact c
        · right
          show m + 1 + 1 ≤ (growTo rs i rs.length (growN rs i m [s])).length
          rw [e, List.length_append]
          have := List.length_pos_iff.mpr q
          omega
  rcases key n with c | h
  · exact c
  · exfalso
    have g := (GI.begin rs i s).N n
    have := nodup_le g.nd (m := vil n) fun x hx => mem_vil.mpr ((g.cl x hx).inV R hs)
    rw [vil_length] at this
    omega
end WR
namespace WR
/-! ### sums over the villages -/
/-! ### walks and medians -/
/-- the walks to x -/
def walksM (n : Nat) (rs : List Road) (pp : Int → Int) (x : Int) : Int := ((vil n).map fun y => pp y * far n rs x y).sum
def totalM (n : Nat) (pp : Int → Int) : Int := ((vil n).map pp).sum
/-- no road at u has more than half beyond -/
def EvenM (n : Nat) (rs : List Road) (pp : Int → Int) (u : Int) : Prop := ∀ i v l, Joins rs i u v l → 2 * ((growN rs i n [v]).map pp).sum ≤ totalM n pp
section
variable {n : Nat} {rs : List Road} {pp : Int → Int}
end
/-! ### the first two that are farthest apart -/
def Before (x y a b : Int) : Prop := x < a ∨ (x = a ∧ y < b)
/-- of the pairs x < y ahead of (i, j): the first greatest -/
def Best (F : Int → Int → Int) (n : Nat) (i j : Int) (a b d : Int) : Prop :=
  (a = 0 ∧ b = 0 ∧ d = 0 ∧ ∀ (x y : Int), 0 ≤ x → x < y → y < n → ¬ Before x y i j) ∨
  (0 ≤ a ∧ a < b ∧ b < n ∧ Before a b i j ∧ d = F a b ∧ 0 < d ∧ ∀ (x y : Int), 0 ≤ x → x < y → y < n → Before x y i j → F x y ≤ d ∧ (Before x y a b → F x y < d))
theorem Best.step {F : Int → Int → Int} {n : Nat} {i j a b d : Int} (B : Best F n i j a b d) (pos : ∀ (x y : Int), 0 ≤ x → x < y → y < n → 0 < F x y) (i0 : 0 ≤ i) (ij : i < j) (jn : j < n) :
    (F i j > d → Best F n i (j + 1) i j (F i j)) ∧ (¬ F i j > d → Best F n i (j + 1) a b d) := by
  have nx : ∀ (x y : Int), Before x y i (j + 1) → Before x y i j ∨ (x = i ∧ y = j) := fun x y h => by unfold Before at *; omega
  constructor
  · intro h
    refine .inr ⟨i0, ij, jn, by unfold Before; omega, rfl, pos i j i0 ij jn, fun x y h1 h2 h3 h4 => ?_⟩
    rcases nx x y h4 with q | ⟨rfl, rfl⟩
    · rcases B with ⟨_, _, _, no⟩ | ⟨_, _, _, _, _, _, al⟩
      · exact absurd q (no x y h1 h2 h3)
      · have := (al x y h1 h2 h3 q).1
        exact ⟨by omega, fun _ => by omega⟩
    · exact ⟨Int.le_refl _, fun z => by unfold Before at z; omega⟩
  · intro h
    rcases B with ⟨rfl, rfl, rfl, no⟩ | ⟨a0, ab, bn, bf, rfl, dp, al⟩
    · exact absurd (pos i j i0 ij jn) (by omega)
    · refine .inr ⟨a0, ab, bn, by unfold Before at *; omega, rfl, dp, fun x y h1 h2 h3 h4 => ?_⟩
      rcases nx x y h4 with q | ⟨rfl, rfl⟩
      · exact al x y h1 h2 h3 q
      · exact ⟨by omega, fun z => by unfold Before at *; omega⟩
/-- the answer: all pairs are seen -/
def Top (F : Int → Int → Int) (n : Nat) (a b d : Int) : Prop :=
  (n = 1 ∧ a = 0 ∧ b = 0 ∧ d = 0) ∨ (0 ≤ a ∧ a < b ∧ b < n ∧ d = F a b ∧ 0 < d ∧ ∀ (x y : Int), 0 ≤ x → x < y → y < n → F x y ≤ d ∧ (Before x y a b → F x y < d))
end WR
namespace WR
/-! ### rising lists -/
theorem rising_eq : ∀ {l m : List Int}, l.Pairwise (· < ·) → m.Pairwise (· < ·) → (∀ x, x ∈ l ↔ x ∈ m) → l = m
  | [], [], _, _, _ => rfl
  | [], b :: m, _, _, h => by have := (h b).mpr (by simp); simp at this
  | a :: l, [], _, _, h => by have := (h a).mp (by simp); simp at this
  | a :: l, b :: m, hl, hm, h => by
    rw [List.pairwise_cons] at hl hm
    have e : a = b := by
      have h1 := (h a).mp (by simp)
      have h2 := (h b).mpr (by simp)
      rcases List.mem_cons.mp h1 with q | q
      · exact q
      · rcases List.mem_cons.mp h2 with q' | q'
        · exact q'.symm
        · have := hl.1 b q'
          have := hm.1 a q
          omega
    subst e
    rw [rising_eq hl.2 hm.2 fun x => ?_]
    constructor
    · intro hx
      rcases List.mem_cons.mp ((h x).mp (List.mem_cons_of_mem _ hx)) with q | q
      · subst q; have := hl.1 x hx; omega
      · exact q
    · intro hx
      rcases List.mem_cons.mp ((h x).mpr (List.mem_cons_of_mem _ hx)) with q | q
      · subst q; have := hm.1 x hx; omega
      · exact q
theorem rising_of {l : List Int} (h : l.Pairwise (· ≤ ·)) (nd : l.Nodup) : l.Pairwise (· < ·) := by
  have nd' : l.Pairwise (· ≠ ·) := nd
  refine (List.Pairwise.and h nd').imp ?_
  rintro a b ⟨h1, h2⟩
  omega
/-- the villages at which P holds, rising -/
def those (P : Nat → Bool) (n : Nat) : List Int := ((List.range n).filter P).map fun (k : Nat) => (k : Int)
/-! ### what is reached without a road -/
/-! ### a road moved -/
section
variable {n : Nat} {rs : List Road} {i : Nat} {a b l x y : Int}
end
/-! ### two trees joined -/
def shiftR (n : Nat) (r : Road) : Road := ((n : Int) + r.1, (n : Int) + r.2.1, r.2.2)
def joinR (n : Nat) (rs : List Road) (v l : Int) (rs2 : List Road) : List Road := rs ++ [(v, (n : Int), l)] ++ rs2.map (shiftR n)
end WR
namespace WR
/-! ### who lies below whom -/
/-- one comes up from it to c -/
inductive Bel (s : Int) (par : Int → Int) (c : Int) : Int → Prop where
  | refl : Bel s par c c
  | step {x : Int} : x ≠ s → Bel s par c (par x) → Bel s par c x
section
variable {n : Nat} {rs : List Road} {s : Int} {par : Int → Int} {idx : Int → Nat} {D : Int → Int} {rk : Int → Nat}
theorem Bel.trans {a b c : Int} (h : Bel s par a b) (g : Bel s par b c) : Bel s par a c := by
  induction g with
  | refl => exact h
  | step nx _ ih => exact .step nx ih
theorem Bel.up {c x : Int} (h : Bel s par c x) (ne : x ≠ c) : x ≠ s ∧ Bel s par c (par x) := by
  cases h with
  | refl => exact absurd rfl ne
  | step a b => exact ⟨a, b⟩
theorem Bel.both {a b x : Int} (h : Bel s par a x) : Bel s par b x → Bel s par a b ∨ Bel s par b a := by
  induction h with
  | refl => exact fun g => .inr g
  | step nx h ih =>
    intro g
    cases g with
    | refl => exact .inl (.step nx h)
    | step _ g => exact ih g
theorem Span.bel_rank (S : Span n rs s par idx D rk) {c x : Int} (h : Bel s par c x) : InV n x → rk c ≤ rk x := by
  induction h with
  | refl => exact fun _ => Nat.le_refl _
  | step nx _ ih =>
    intro hx
    have := ih (S.pin _ hx nx)
    have := S.rank _ hx nx
    omega
theorem Span.bel_in (S : Span n rs s par idx D rk) {c x : Int} (h : Bel s par c x) : InV n x → InV n c := by
  induction h with
  | refl => exact id
  | step nx _ ih => exact fun hx => ih (S.pin _ hx nx)
theorem Span.bel_root (S : Span n rs s par idx D rk) : ∀ {x : Int}, InV n x → Bel s par s x := by
  have all : ∀ (k : Nat) (x : Int), rk x < k → InV n x → Bel s par s x := by
    intro k
    induction k with
    | zero => intro x h; omega
    | succ k ih =>
      intro x hk hx
      by_cases e : x = s
      · subst e; exact .refl
      · exact .step e (ih _ (by have := S.rank x hx e; omega) (S.pin x hx e))
  exact fun {x} hx => all (rk x + 1) x (Nat.lt_succ_self _) hx
/-- a village further down lies below one just below -/
theorem Bel.child {c x : Int} (h : Bel s par c x) : x ≠ c → ∃ t, t ≠ s ∧ par t = c ∧ Bel s par t x := by
  induction h with
  | refl => exact fun z => absurd rfl z
  | @step x nx h ih =>
    intro _
    by_cases e : par x = c
    · exact ⟨x, nx, e, .refl⟩
    · obtain ⟨t, a, b, d⟩ := ih e
      exact ⟨t, a, b, .step nx d⟩
theorem Span.child_one (S : Span n rs s par idx D rk) {t t' x : Int} (ht : InV n t) (ht' : InV n t') (nt : t ≠ s) (nt' : t' ≠ s) (e : par t = par t') (h : Bel s par t x) (h' : Bel s par t' x) : t = t' := by
  refine Decidable.byContradiction fun ne => ?_
  rcases h.both h' with g | g
  · have := S.bel_rank (g.up (fun z => ne z.symm)).2 (S.pin _ ht' nt')
    rw [← e] at this
    have := S.rank _ ht nt
    omega
  · have := S.bel_rank (g.up ne).2 (S.pin _ ht nt)
    rw [e] at this
    have := S.rank _ ht' nt'
    omega
/-- where one from x comes up to the way of another -/
theorem Span.meet (S : Span n rs s par idx D rk) {o : Int} (ho : InV n o) : ∀ (k : Nat) (x : Int), rk x < k → InV n x → ¬ Bel s par x o → ∃ t, InV n t ∧ t ≠ s ∧ ¬ Bel s par t o ∧ Bel s par (par t) o ∧ Bel s par t x := by
  intro k
  induction k with
  | zero => intro x h; omega
  | succ k ih =>
    intro x hk hx hn
    have nx : x ≠ s := fun z => by subst z; exact hn (S.bel_root ho)
    by_cases e : Bel s par (par x) o
    · exact ⟨x, hx, nx, hn, e, .refl⟩
    · obtain ⟨t, h0, a, b, c, d⟩ := ih (par x) (by have := S.rank x hx nx; omega) (S.pin x hx nx) e
      exact ⟨t, h0, a, b, c, .step nx d⟩
theorem Bel.meet_one {t t' x o : Int} (h : Bel s par t x) (h' : Bel s par t' x) (n1 : ¬ Bel s par t o) (n2 : ¬ Bel s par t' o) (p1 : Bel s par (par t) o) (p2 : Bel s par (par t') o) : t = t' := by
  refine Decidable.byContradiction fun ne => ?_
  rcases h.both h' with g | g
  · exact n1 ((g.up (fun z => ne z.symm)).2.trans p2)
  · exact n2 ((g.up ne).2.trans p1)
/-- the way up is those above -/
theorem Span.mem_up (S : Span n rs s par idx D rk) {o : Int} : ∀ {k : Nat}, up par k o = s → (∀ j, j < k → InV n (up par j o) ∧ up par j o ≠ s) → ∀ x, x ∈ upList par k o ↔ Bel s par x o := by
  have down : ∀ (k : Nat) (o : Int), (∀ j, j < k → up par j o ≠ s) → ∀ j, j ≤ k → Bel s par (up par j o) o := by
    intro k
    induction k with
    | zero => intro o _ j hj; rw [Nat.le_zero.mp hj]; exact .refl
    | succ k ih =>
      intro o h j hj
      cases j with
      | zero => exact .refl
      | succ j => exact .step (h 0 (by omega)) (ih (par o) (fun i hi => h (i + 1) (by omega)) j (by omega))
  have upw : ∀ {x o : Int}, Bel s par x o → ∀ k, up par k o = s → ∃ j, j ≤ k ∧ up par j o = x := by
    intro x o h
    induction h with
    | refl => exact fun k _ => ⟨0, Nat.zero_le _, rfl⟩
    | step ny _ ih =>
      intro k hk
      cases k with
      | zero => exact absurd hk ny
      | succ k =>
        obtain ⟨j, a, b⟩ := ih k hk
        exact ⟨j + 1, by omega, b⟩
  intro k h1 h2 x
  unfold upList
  rw [List.mem_map]
  constructor
  · rintro ⟨j, hj, rfl⟩
    exact down k o (fun i hi => (h2 i hi).2) j (by have := List.mem_range.mp hj; omega)
  · intro h
    obtain ⟨j, a, b⟩ := upw h k h1
    exact ⟨j, List.mem_range.mpr (by omega), b⟩
end
/-! ### how often a road is gone -/
/-- whether the road at i joins the two -/
def isRoad (rs : List Road) (i : Nat) (u v : Int) : Bool := match rs[i]? with
  | some r => (decide (r.1 = u) && decide (r.2.1 = v)) || (decide (r.1 = v) && decide (r.2.1 = u))
  | none => false
theorem isRoad_iff {rs : List Road} {i : Nat} {u v : Int} : isRoad rs i u v = true ↔ ∃ l, Joins rs i u v l := by
  unfold isRoad Joins
  cases e : rs[i]? with
  | none => simp
  | some r =>
    obtain ⟨a, b, l⟩ := r
    simp only [Bool.or_eq_true, Bool.and_eq_true, decide_eq_true_eq, Option.some.injEq, Prod.mk.injEq]
    constructor
    · rintro (⟨rfl, rfl⟩ | ⟨rfl, rfl⟩)
      · exact ⟨l, .inl ⟨rfl, rfl, rfl⟩⟩
      · exact ⟨l, .inr ⟨rfl, rfl, rfl⟩⟩
    · rintro ⟨m, ⟨h1, h2, _⟩ | ⟨h1, h2, _⟩⟩
      · exact .inl ⟨h1, h2⟩
      · exact .inr ⟨h1, h2⟩
/-- how often the road at i is gone on a walk from u -/
def cnt (rs : List Road) (i : Nat) : Int → List Int → Nat
  | _, [] => 0
  | u, v :: r => (if isRoad rs i u v = true then 1 else 0) + cnt rs i v r
/-- where a walk from u ends -/
def lastW : Int → List Int → Int
  | u, [] => u
  | _, v :: r => lastW v r
theorem lastW_append : ∀ (a b : List Int) (u : Int), lastW u (a ++ b) = lastW (lastW u a) b
  | [], _, _ => rfl
  | v :: a, b, _ => lastW_append a b v
theorem cnt_append {rs : List Road} {i : Nat} : ∀ (a b : List Int) (u : Int), cnt rs i u (a ++ b) = cnt rs i u a + cnt rs i (lastW u a) b
  | [], _, _ => (Nat.zero_add _).symm
  | v :: a, b, u => by
    show _ + cnt rs i v (a ++ b) = (_ + cnt rs i v a) + _
    rw [cnt_append a b v, Nat.add_assoc]
    rfl
/-- a walk from neighbour to neighbour -/
def Walk (rs : List Road) : Int → List Int → Prop
  | _, [] => True
  | u, v :: r => (∃ i l, Joins rs i u v l) ∧ Walk rs v r
theorem Walk.append {rs : List Road} : ∀ {a b : List Int} {u : Int}, Walk rs u a → Walk rs (lastW u a) b → Walk rs u (a ++ b)
  | [], _, _, _, h => h
  | _ :: _, _, _, h, g => ⟨h.1, Walk.append h.2 g⟩
theorem nodup_sub_one {α : Type} {f : α → Int} : ∀ {L : List α} {P : α → Bool} {t : Int}, (L.map f).Nodup → (∃ p ∈ L, f p = t ∧ P p = true) → (∀ p ∈ L, P p = true → f p = t) → L.countP P = 1
  | [], _, _, _, ⟨_, h, _⟩, _ => (nomatch h)
  | q :: L, P, t, nd, ⟨p, hp, e, hP⟩, u => by
    rw [List.map_cons, List.nodup_cons] at nd
    rw [List.countP_cons]
    rcases List.mem_cons.mp hp with rfl | hp
    · have : L.countP P = 0 := List.countP_eq_zero.mpr fun z hz c => by
        have := u z (List.mem_cons_of_mem _ hz) c
        exact nd.1 (List.mem_map.mpr ⟨z, hz, this.trans e.symm⟩)
      rw [this, if_pos hP]
    · have nq : ¬ P q = true := fun c => by
        have := u q (List.mem_cons_self ..) c
        exact nd.1 (List.mem_map.mpr ⟨p, hp, e.trans this.symm⟩)
      rw [nodup_sub_one nd.2 ⟨p, hp, e, hP⟩ fun z hz => u z (List.mem_cons_of_mem _ hz), if_neg nq]
theorem Tree.steps_nodup {n : Nat} {rs : List Road} (W : Tree n rs) {v : Int} (hv : InV n v) : ((stepsM rs v).map (·.1)).Nodup := by
  unfold stepsM
  rw [List.map_flatMap, List.nodup_iff_pairwise_ne, List.pairwise_flatMap]
  have mem : ∀ {r : Road} {y : Int}, y ∈ (stepsOf r v).map (·.1) → ∃ l, r = (v, y, l) ∨ r = (y, v, l) := fun h => by
    obtain ⟨⟨z, l⟩, h', e⟩ := List.mem_map.mp h
    cases e
    exact ⟨l, mem_stepsOf.mp h'⟩
  constructor
  · intro r hr
    have := W.roads.ne r hr
    unfold stepsOf
    split <;> split <;> simp
    omega
  · rw [List.pairwise_iff_getElem]
    intro i j hi hj hij x hx y hy e
    subst e
    obtain ⟨l, h1⟩ := mem hx
    obtain ⟨m, h2⟩ := mem hy
    have j1 : Joins rs i v x l := by unfold Joins; rw [List.getElem?_eq_getElem hi]; rcases h1 with h | h <;> rw [h] <;> simp
    have j2 : Joins rs j v x m := by unfold Joins; rw [List.getElem?_eq_getElem hj]; rcases h2 with h | h <;> rw [h] <;> simp
    have := W.one_road hv j1 j2
    omega
end WR
namespace WR
open Classical
/-! ### there and back -/
def backM (rs : List Road) : Nat → Int → List Int → List Int
  | 0, v, _ => [v]
  | f + 1, v, cl => v :: (stepsM rs v).flatMap fun p => if p.1 ∈ cl then [] else backM rs f p.1 [v] ++ [v]
/-- so deep it goes -/
def Fits (rs : List Road) : Nat → Int → List Int → Prop
  | 0, _, _ => False
  | f + 1, v, cl => ∀ p ∈ stepsM rs v, p.1 ∉ cl → Fits rs f p.1 [v]
section
variable {n : Nat} {rs : List Road} {s : Int} {par : Int → Int} {idx : Int → Nat} {D : Int → Int} {rk : Int → Nat}
/-- a tour of all below t -/
def TourC (n : Nat) (rs : List Road) (s : Int) (par : Int → Int) (idx : Int → Nat) (f : Nat) (t : Int) : Prop := ∃ B, backM rs f t [par t] = t :: B ∧ lastW t B = t ∧ Walk rs t B ∧
  (∀ x, InV n x → x ≠ s → cnt rs (idx x) t B = if Bel s par t x ∧ x ≠ t then 2 else 0) ∧ ∀ y, Bel s par t y → InV n y → y ∈ t :: B
theorem Span.road_at (S : Span n rs s par idx D rk) (W : Tree n rs) {x t : Int} (hx : InV n x) (nx : x ≠ s) (ht : InV n t) (nt : t ≠ s) : isRoad rs (idx x) (par t) t = decide (x = t) := by
  obtain ⟨l, j, _⟩ := S.road t ht nt
  by_cases e : x = t
  · subst e; rw [decide_eq_true rfl]; exact isRoad_iff.mpr ⟨l, j⟩
  · rw [decide_eq_false e]
    refine Bool.eq_false_iff.mpr fun h => e ?_
    obtain ⟨m, g⟩ := isRoad_iff.mp h
    exact S.inj hx ht nx nt (W.one_road (S.pin t ht nt) g j)
theorem isRoad_symm (rs : List Road) (i : Nat) (u v : Int) : isRoad rs i u v = isRoad rs i v u := by
  rw [Bool.eq_iff_iff, isRoad_iff, isRoad_iff]
  exact ⟨fun ⟨l, h⟩ => ⟨l, h.symm⟩, fun ⟨l, h⟩ => ⟨l, h.symm⟩⟩
theorem tour_all (S : Span n rs s par idx D rk) (W : Tree n rs) {f : Nat} {v : Int} {cl : List Int} :
    ∀ (L : List (Int × Int)), (∀ p ∈ L, p.1 ∉ cl → InV n p.1 ∧ p.1 ≠ s ∧ par p.1 = v ∧ TourC n rs s par idx f p.1) →
    ∃ B, (L.flatMap fun p => if p.1 ∈ cl then [] else backM rs f p.1 [v] ++ [v]) = B ∧ lastW v B = v ∧ Walk rs v B ∧
      (∀ x, InV n x → x ≠ s → cnt rs (idx x) v B = 2 * L.countP fun p => decide (p.1 ∉ cl ∧ Bel s par p.1 x)) ∧ ∀ p ∈ L, p.1 ∉ cl → ∀ y, Bel s par p.1 y → InV n y → y ∈ B
  | [], _ => ⟨[], rfl, rfl, trivial, fun _ _ _ => rfl, fun _ h => (nomatch h)⟩
  | p :: L, h => by
    obtain ⟨B, e1, e2, e3, e4, e5⟩ := tour_all S W L fun q hq => h q (List.mem_cons_of_mem _ hq)
    rw [List.flatMap_cons, e1]
    by_cases c : p.1 ∈ cl
    · refine ⟨B, by rw [if_pos c]; rfl, e2, e3, fun x hx nx => ?_, fun q hq nq => ?_⟩
      · rw [List.countP_cons, if_neg (by simp [c]), e4 x hx nx, Nat.add_zero]
      · rcases List.mem_cons.mp hq with rfl | hq
        · exact absurd c nq
        · exact e5 q hq nq
    · obtain ⟨h1, h2, h3, B', b1, b2, b3, b4, b5⟩ := h p (List.mem_cons_self ..) c
      rw [h3] at b1
      obtain ⟨l, j, _⟩ := S.road p.1 h1 h2
      rw [h3] at j
      refine ⟨p.1 :: (B' ++ (v :: B)), by rw [if_neg c, b1]; simp, ?_, ?_, fun x hx nx => ?_, fun q hq nq y hy iy => ?_⟩
      · show lastW p.1 (B' ++ v :: B) = v
        rw [lastW_append]
        exact e2
      · exact ⟨⟨_, _, j⟩, b3.append ⟨⟨idx p.1, l, by rw [b2]; exact j.symm⟩, e3⟩⟩
      · show (if isRoad rs (idx x) v p.1 = true then 1 else 0) + cnt rs (idx x) p.1 (B' ++ v :: B) = _
        rw [cnt_append, b2]
        show _ + (_ + ((if isRoad rs (idx x) p.1 v = true then 1 else 0) + cnt rs (idx x) v B)) = _
        rw [isRoad_symm rs (idx x) p.1 v, b4 x hx nx, e4 x hx nx]
        have r := S.road_at W hx nx h1 h2
        rw [h3] at r
        rw [r, List.countP_cons]
        by_cases e : x = p.1
        · subst e
          rw [if_pos (by simp), if_neg (by simp), if_pos (by simp [c]; exact .refl)]
          omega
        · rw [if_neg (by simpa using e)]
          by_cases g : Bel s par p.1 x
          · rw [if_pos ⟨g, e⟩, if_pos (by simp [c, g])]; omega
          · rw [if_neg fun z => g z.1, if_neg (by simp [g])]; omega
      · rcases List.mem_cons.mp hq with rfl | hq
        · have := b5 y hy iy
          rcases List.mem_cons.mp this with rfl | this
          · exact List.mem_cons_self ..
          · exact List.mem_cons_of_mem _ (List.mem_append_left _ this)
        · exact List.mem_cons_of_mem _ (List.mem_append_right _ (List.mem_cons_of_mem _ (e5 q hq nq y hy iy)))
/-- a neighbour that is not above is just below -/
theorem Span.below (S : Span n rs s par idx D rk) (W : Tree n rs) {v t l : Int} (hm : (t, l) ∈ stepsM rs v) : InV n v ∧ InV n t ∧ ((t ≠ s ∧ par t = v) ∨ (v ≠ s ∧ par v = t)) := by
  obtain ⟨i, j⟩ := mem_stepsM.mp hm
  obtain ⟨hv, ht, _⟩ := W.roads.joins j
  obtain ⟨z, hz, nz, e⟩ := S.surj W.count j.lt
  obtain ⟨m, jz, _⟩ := S.road z hz nz
  rw [e] at jz
  refine ⟨hv, ht, ?_⟩
  rcases j.ends jz with ⟨a, b⟩ | ⟨a, b⟩
  · subst b; exact .inl ⟨nz, a⟩
  · subst b; exact .inr ⟨nz, a⟩
theorem Span.child_step (S : Span n rs s par idx D rk) {t : Int} (ht : InV n t) (nt : t ≠ s) : ∃ l, (t, l) ∈ stepsM rs (par t) := by
  obtain ⟨l, j, _⟩ := S.road t ht nt
  exact ⟨l, mem_stepsM.mpr ⟨_, j⟩⟩
/-- how many of those just below it that are not left out lie above x -/
theorem Span.one_below (S : Span n rs s par idx D rk) (W : Tree n rs) {v x : Int} {cl : List Int} (hv : InV n v) (hx : InV n x) (hc : ∀ t, InV n t → v ≠ s → par v = t → t ∈ cl) :
    (stepsM rs v).countP (fun p => decide (p.1 ∉ cl ∧ Bel s par p.1 x)) = if ∃ t, InV n t ∧ t ≠ s ∧ par t = v ∧ t ∉ cl ∧ Bel s par t x then 1 else 0 := by
  have ch : ∀ p ∈ stepsM rs v, p.1 ∉ cl → InV n p.1 ∧ p.1 ≠ s ∧ par p.1 = v := fun p hp np => by
    obtain ⟨_, h2, h3⟩ := S.below W hp
    rcases h3 with h | h
    · exact ⟨h2, h⟩
    · exact absurd (hc _ h2 h.1 h.2) np
  by_cases h : ∃ t, InV n t ∧ t ≠ s ∧ par t = v ∧ t ∉ cl ∧ Bel s par t x
  · rw [if_pos h]
    obtain ⟨t, h1, h2, h3, h4, h5⟩ := h
    obtain ⟨l, hl⟩ := S.child_step h1 h2
    rw [h3] at hl
    refine nodup_sub_one (f := fun p : Int × Int => p.1) (t := t) (W.steps_nodup hv) ⟨(t, l), hl, rfl, by simpa using ⟨h4, h5⟩⟩ fun p hp c => ?_
    have c : p.1 ∉ cl ∧ Bel s par p.1 x := by simpa using c
    obtain ⟨a1, a2, a3⟩ := ch p hp c.1
    exact S.child_one a1 h1 a2 h2 (a3.trans h3.symm) c.2 h5
  · rw [if_neg h]
    refine List.countP_eq_zero.mpr fun p hp c => h ?_
    have c : p.1 ∉ cl ∧ Bel s par p.1 x := by simpa using c
    obtain ⟨a1, a2, a3⟩ := ch p hp c.1
    exact ⟨p.1, a1, a2, a3, c.1, c.2⟩
theorem Span.deep (S : Span n rs s par idx D rk) {c : Int} {k : Nat} (h1 : up par k c = s) (h2 : ∀ j, j < k → InV n (up par j c) ∧ up par j c ≠ s) : k < n := by
  have := nodup_le (S.up_nodup h2) (m := vil n) fun z hz => by
    unfold upList at hz
    obtain ⟨j', hj', rfl⟩ := List.mem_map.mp hz
    have := List.mem_range.mp hj'
    by_cases q : j' < k
    · exact mem_vil.mpr (h2 j' q).1
    · have : j' = k := by omega
      rw [this, h1]; exact mem_vil.mpr S.ins
  rw [upList_length, vil_length] at this
  omega
theorem Span.tour (S : Span n rs s par idx D rk) (W : Tree n rs) : ∀ (f k : Nat) (c : Int), InV n c → c ≠ s → up par k c = s → (∀ j, j < k → InV n (up par j c) ∧ up par j c ≠ s) → n ≤ k + f → TourC n rs s par idx f c ∧ Fits rs f c [par c]
  | 0, k, c, _, _, h1, h2, hf => absurd (S.deep h1 h2) (by omega)
  | f + 1, k, c, hc, nc, h1, h2, hf => by
    have ch : ∀ p ∈ stepsM rs c, p.1 ∉ [par c] → InV n p.1 ∧ p.1 ≠ s ∧ par p.1 = c ∧ TourC n rs s par idx f p.1 ∧ Fits rs f p.1 [c] := fun p hp np => by
      obtain ⟨_, a2, a3⟩ := S.below W hp
      rcases a3 with h | h
      · refine ⟨a2, h.1, h.2, ?_⟩
        have := Span.tour S W f (k + 1) p.1 a2 h.1 (by show up par k (par p.1) = s; rw [h.2]; exact h1) (fun j hj => ?_) (by omega)
        · rw [h.2] at this; exact this
        · cases j with
          | zero => exact ⟨a2, h.1⟩
          | succ j => show InV n (up par j (par p.1)) ∧ up par j (par p.1) ≠ s; rw [h.2]; exact h2 j (by omega)
      · exact absurd (by rw [h.2]; simp) np
    obtain ⟨B, e1, e2, e3, e4, e5⟩ := tour_all S W (f := f) (v := c) (cl := [par c]) (stepsM rs c) fun p hp np => let ⟨a, b, d, e, _⟩ := ch p hp np; ⟨a, b, d, e⟩
    have up : ∀ t, InV n t → t ≠ s → par t = c → t ∉ [par c] := fun t ht nt e z => by
      have z : t = par c := by simpa using z
      have r1 := S.rank t ht nt
      have r2 := S.rank c hc nc
      rw [e, z] at r1
      omega
    refine ⟨⟨B, by rw [← e1]; rfl, e2, e3, fun x hx nx => ?_, fun y hy iy => ?_⟩, fun p hp np => (ch p hp np).2.2.2.2⟩
    · rw [e4 x hx nx, S.one_below W hc hx (fun t _ _ e => by rw [e]; simp)]
      by_cases h : Bel s par c x ∧ x ≠ c
      · rw [if_pos h, if_pos]
        obtain ⟨t, a, b, d⟩ := h.1.child h.2
        have it := S.bel_in d hx
        exact ⟨t, it, a, b, up t it a b, d⟩
      · rw [if_neg h, if_neg]
        rintro ⟨t, a1, a2, a3, _, a5⟩
        refine h ⟨(Bel.step a2 (by rw [a3]; exact .refl)).trans a5, fun z => ?_⟩
        subst z
        have := S.bel_rank a5 hc
        have := S.rank t a1 a2
        rw [a3] at this
        omega
    · by_cases z : y = c
      · subst z; exact List.mem_cons_self ..
      · obtain ⟨t, a, b, d⟩ := hy.child z
        have it := S.bel_in d iy
        obtain ⟨l, hl⟩ := S.child_step it a
        rw [b] at hl
        exact List.mem_cons_of_mem _ (e5 (t, l) hl (up t it a b) y d iy)
end
end WR
namespace WR
open Classical
theorem if_iff {P Q : Prop} [Decidable P] [Decidable Q] {a b : Nat} (h : P ↔ Q) : (if P then a else b) = if Q then a else b := by
  by_cases c : P
  · rw [if_pos c, if_pos (h.mp c)]
  · rw [if_neg c, if_neg fun z => c (h.mpr z)]
section
variable {n : Nat} {rs : List Road} {s o : Int} {par : Int → Int} {idx : Int → Nat} {D : Int → Int} {rk : Int → Nat}
/-- the errand as far as the m-th village of the way -/
def errM (rs : List Road) (f : Nat) (ws : List Int) (m : Nat) : List Int := (ws.take m).flatMap fun v => backM rs f v ws
theorem Span.line (S : Span n rs s par idx D rk) (W : Tree n rs) (ho : InV n o) {k f : Nat} (h1 : up par k o = s) (h2 : ∀ j, j < k → InV n (up par j o) ∧ up par j o ≠ s) (hf : f + 1 = n) (v : Int) (hv : Bel s par v o) :
    Fits rs n v (upList par k o) ∧ ∃ B, backM rs n v (upList par k o) = v :: B ∧ lastW v B = v ∧ Walk rs v B ∧
      (∀ x, InV n x → x ≠ s → cnt rs (idx x) v B = 2 * if ∃ t, InV n t ∧ t ≠ s ∧ par t = v ∧ ¬ Bel s par t o ∧ Bel s par t x then 1 else 0) ∧
      ∀ t, InV n t → t ≠ s → par t = v → ¬ Bel s par t o → ∀ y, Bel s par t y → InV n y → y ∈ B := by
  have ml := S.mem_up h1 h2
  have iv := S.bel_in hv ho
  have ch : ∀ p ∈ stepsM rs v, p.1 ∉ upList par k o → InV n p.1 ∧ p.1 ≠ s ∧ par p.1 = v ∧ TourC n rs s par idx f p.1 ∧ Fits rs f p.1 [v] := fun p hp np => by
    obtain ⟨_, a2, a3⟩ := S.below W hp
    rcases a3 with h | h
    · refine ⟨a2, h.1, h.2, ?_⟩
      obtain ⟨j, b1, b2⟩ := S.reach p.1 a2
      have j1 : 1 ≤ j := by
        refine Nat.one_le_iff_ne_zero.mpr fun z => ?_
        subst z
        exact h.1 b1
      have := S.tour W f j p.1 a2 h.1 b1 b2 (by omega)
      rw [h.2] at this
      exact this
    · refine absurd ((ml _).mpr ?_) np
      rw [← h.2]
      exact (Bel.step h.1 .refl).trans hv
  obtain ⟨B, e1, e2, e3, e4, e5⟩ := tour_all S W (f := f) (v := v) (cl := upList par k o) (stepsM rs v) fun p hp np => let ⟨a, b, d, e, _⟩ := ch p hp np; ⟨a, b, d, e⟩
  subst hf
  refine ⟨fun p hp np => (ch p hp np).2.2.2.2, B, by rw [← e1]; rfl, e2, e3, fun x hx nx => ?_, fun t it nt pt bt y hy iy => ?_⟩
  · rw [e4 x hx nx, S.one_below W iv hx (fun t _ nv e => (ml _).mpr (by rw [← e]; exact (Bel.step nv .refl).trans hv))]
    congr 1
    refine if_iff ?_
    constructor
    · rintro ⟨t, a, b, c, d, e⟩
      exact ⟨t, a, b, c, fun z => d ((ml _).mpr z), e⟩
    · rintro ⟨t, a, b, c, d, e⟩
      exact ⟨t, a, b, c, fun z => d ((ml _).mp z), e⟩
  · obtain ⟨l, hl⟩ := S.child_step it nt
    rw [pt] at hl
    exact e5 (t, l) hl (fun z => bt ((ml _).mp z)) y hy iy
theorem upList_take (par : Int → Int) (k m : Nat) (t : Int) (h : m ≤ k) : (upList par k t).take (m + 1) = upList par m t := by
  unfold upList
  rw [← List.map_take, List.take_range, Nat.min_eq_left (by omega)]
theorem Span.errand (S : Span n rs s par idx D rk) (W : Tree n rs) (ho : InV n o) {k : Nat} (h1 : up par k o = s) (h2 : ∀ j, j < k → InV n (up par j o) ∧ up par j o ≠ s) (m : Nat) (hm : m ≤ k) :
    ∃ R, errM rs n (upList par k o) (m + 1) = o :: R ∧ lastW o R = up par m o ∧ Walk rs o R ∧
      (∀ x, InV n x → x ≠ s → cnt rs (idx x) o R = (if ∃ j, j < m ∧ up par j o = x then 1 else 0) + 2 * if ∃ j t, j ≤ m ∧ InV n t ∧ t ≠ s ∧ par t = up par j o ∧ ¬ Bel s par t o ∧ Bel s par t x then 1 else 0) ∧
      ∀ j, j ≤ m → (up par j o ∈ o :: R) ∧ ∀ t, InV n t → t ≠ s → par t = up par j o → ¬ Bel s par t o → ∀ y, Bel s par t y → InV n y → y ∈ o :: R := by
  have hn : ∃ f, f + 1 = n := ⟨n - 1, by have := S.deep h1 h2; omega⟩
  obtain ⟨f, hf⟩ := hn
  have ml := S.mem_up h1 h2
  have ab : ∀ j, j ≤ k → Bel s par (up par j o) o := fun j hj => (ml _).mp (List.mem_of_getElem? (upList_get par o hj))
  have nd := S.up_nodup h2
  have inj : ∀ i j, i ≤ k → j ≤ k → up par i o = up par j o → i = j := fun i j hi hj e => nodup_place nd (upList_get par o hi) (by rw [e]; exact upList_get par o hj)
  induction m with
  | zero =>
    obtain ⟨_, B, b1, b2, b3, b4, b5⟩ := S.line W ho h1 h2 hf (up par 0 o) (ab 0 (Nat.zero_le _))
    refine ⟨B, ?_, b2, b3, fun x hx nx => ?_, fun j hj => ?_⟩
    · unfold errM
      rw [upList_take par k 0 o hm]
      show (backM rs n o (upList par k o)) ++ [] = _
      rw [List.append_nil]; exact b1
    · have e0 : ¬ ∃ j, j < 0 ∧ up par j o = x := fun ⟨j, h, _⟩ => absurd h (Nat.not_lt_zero _)
      rw [if_neg e0, Nat.zero_add]
      refine (b4 x hx nx).trans (congrArg (2 * ·) (if_iff ?_))
      constructor
      · rintro ⟨t, a⟩; exact ⟨0, t, Nat.le_refl _, a⟩
      · rintro ⟨j, t, hj, a⟩; rw [Nat.le_zero.mp hj] at a; exact ⟨t, a⟩
    · rw [Nat.le_zero.mp hj]
      exact ⟨List.mem_cons_self .., fun t it nt pt bt y hy iy => List.mem_cons_of_mem _ (b5 t it nt pt bt y hy iy)⟩
  | succ m ih =>
    obtain ⟨R, r1, r2, r3, r4, r5⟩ := ih (by omega)
    obtain ⟨_, B, b1, b2, b3, b4, b5⟩ := S.line W ho h1 h2 hf (up par (m + 1) o) (ab _ hm)
    obtain ⟨im, nm⟩ := h2 m (by omega)
    obtain ⟨l, jn, _⟩ := S.road _ im nm
    rw [← up_succ par m o] at jn
    refine ⟨R ++ up par (m + 1) o :: B, ?_, ?_, ?_, fun x hx nx => ?_, fun j hj => ?_⟩
    · have e : errM rs n (upList par k o) (m + 1 + 1) = errM rs n (upList par k o) (m + 1) ++ backM rs n (up par (m + 1) o) (upList par k o) := by
        unfold errM
        rw [upList_take par k (m + 1) o hm, upList_take par k m o (by omega), upList_succ, List.flatMap_append]
        simp
      rw [e, r1, b1]; rfl
    · rw [lastW_append]; exact b2
    · exact r3.append ⟨⟨_, _, by rw [r2]; exact jn.symm⟩, b3⟩
    · rw [cnt_append, r2]
      show _ + ((if isRoad rs (idx x) (up par m o) (up par (m + 1) o) = true then 1 else 0) + cnt rs (idx x) (up par (m + 1) o) B) = _
      rw [r4 x hx nx, b4 x hx nx, isRoad_symm]
      have r := S.road_at W hx nx im nm
      rw [← up_succ par m o] at r
      rw [r]
      have c1 : (if ∃ j, j < m + 1 ∧ up par j o = x then 1 else 0) = (if ∃ j, j < m ∧ up par j o = x then 1 else 0) + if decide (x = up par m o) = true then 1 else 0 := by
        by_cases e : x = up par m o
        · rw [if_pos ⟨m, Nat.lt_succ_self _, e.symm⟩, if_pos (c := decide (x = up par m o) = true) (by simpa using e), if_neg]
          rintro ⟨j, hj, q⟩
          have := inj j m (by omega) (by omega) (q.trans e)
          omega
        · rw [if_neg (c := decide (x = up par m o) = true) (by simpa using e), Nat.add_zero]
          refine if_iff ?_
          constructor
          · rintro ⟨j, hj, q⟩
            refine ⟨j, ?_, q⟩
            have : j ≠ m := fun z => by subst z; exact e q.symm
            omega
          · rintro ⟨j, hj, q⟩; exact ⟨j, by omega, q⟩
      have c2 : (if ∃ j t, j ≤ m + 1 ∧ InV n t ∧ t ≠ s ∧ par t = up par j o ∧ ¬ Bel s par t o ∧ Bel s par t x then 1 else 0) = (if ∃ j t, j ≤ m ∧ InV n t ∧ t ≠ s ∧ par t = up par j o ∧ ¬ Bel s par t o ∧ Bel s par t x then 1 else 0) + if ∃ t, InV n t ∧ t ≠ s ∧ par t = up par (m + 1) o ∧ ¬ Bel s par t o ∧ Bel s par t x then 1 else 0 := by
        by_cases e : ∃ t, InV n t ∧ t ≠ s ∧ par t = up par (m + 1) o ∧ ¬ Bel s par t o ∧ Bel s par t x
        · obtain ⟨t, a1, a2, a3, a4, a5⟩ := e
          rw [if_pos ⟨m + 1, t, Nat.le_refl _, a1, a2, a3, a4, a5⟩, if_pos (c := ∃ t, InV n t ∧ t ≠ s ∧ par t = up par (m + 1) o ∧ ¬ Bel s par t o ∧ Bel s par t x) ⟨t, a1, a2, a3, a4, a5⟩, if_neg]
          rintro ⟨j, t', hj, c1, c2, c3, c4, c5⟩
          have := Bel.meet_one a5 c5 a4 c4 (by rw [a3]; exact ab _ hm) (by rw [c3]; exact ab _ (by omega))
          subst this
          have := inj j (m + 1) (by omega) hm (c3.symm.trans a3)
          omega
        · rw [if_neg e, Nat.add_zero]
          refine if_iff ?_
          constructor
          · rintro ⟨j, t, hj, a⟩
            refine ⟨j, t, ?_, a⟩
            have : j ≠ m + 1 := fun z => by subst z; exact e ⟨t, a⟩
            omega
          · rintro ⟨j, t, hj, a⟩; exact ⟨j, t, by omega, a⟩
      rw [c1, c2]
      omega
    · by_cases e : j = m + 1
      · subst e
        exact ⟨List.mem_cons_of_mem _ (List.mem_append_right _ (List.mem_cons_self ..)), fun t it nt pt bt y hy iy => List.mem_cons_of_mem _ (List.mem_append_right _ (List.mem_cons_of_mem _ (b5 t it nt pt bt y hy iy)))⟩
      · obtain ⟨a, b⟩ := r5 j (by omega)
        have mono : ∀ z, z ∈ o :: R → z ∈ o :: (R ++ up par (m + 1) o :: B) := fun z hz => by
          rcases List.mem_cons.mp hz with rfl | hz
          · exact List.mem_cons_self ..
          · exact List.mem_cons_of_mem _ (List.mem_append_left _ hz)
        exact ⟨mono _ a, fun t it nt pt bt y hy iy => mono _ (b t it nt pt bt y hy iy)⟩
theorem Span.apart_clo (S : Span n rs s par idx D rk) {x : Int} (hx : InV n x) (nx : x ≠ s) : ∀ (k : Nat) (y : Int), rk y < k → InV n y → ¬ Bel s par x y → Clo rs (idx x) y s := by
  intro k
  induction k with
  | zero => intro y h; omega
  | succ k ih =>
    intro y hk hy nb
    by_cases e : y = s
    · subst e; exact .refl
    · obtain ⟨l, j, _⟩ := S.road y hy e
      have ni : idx y ≠ idx x := fun z => nb (by rw [S.inj hy hx e nx z]; exact .refl)
      exact (Clo.head ni j.symm).trans (ih (par y) (by have := S.rank y hy e; omega) (S.pin y hy e) fun z => nb (.step e z))
theorem Tree.tri (W : Tree n rs) (S : Span n rs s par idx (far n rs s) rk) (ho : InV n o) : ∀ (k : Nat) (y : Int), rk y < k → InV n y → far n rs o s ≤ far n rs o y + far n rs s y := by
  intro k
  induction k with
  | zero => intro y h; omega
  | succ k ih =>
    intro y hk hy
    by_cases e : y = s
    · subst e
      have : far n rs y y = 0 := S.start
      omega
    · obtain ⟨l, j, d⟩ := S.road y hy e
      have := ih (par y) (by have := S.rank y hy e; omega) (S.pin y hy e)
      have lp := (W.roads.joins j).2.2.2.1
      rcases W.side j ho with ⟨_, _, h⟩ | ⟨_, _, h⟩ <;> omega
/-- a road is on the way -/
theorem Tree.on_way (W : Tree n rs) (S : Span n rs s par idx (far n rs s) rk) (ho : InV n o) {x a b l : Int} (hx : InV n x) (nx : x ≠ s) (hr : rs[idx x]? = some (a, b, l)) :
    (far n rs o s = far n rs o a + l + far n rs b s ∨ far n rs o s = far n rs o b + l + far n rs a s) ↔ Bel s par x o := by
  obtain ⟨m, j, d⟩ := S.road x hx nx
  have hs := S.ins
  have hp := S.pin x hx nx
  have jr : Joins rs (idx x) a b l := .inl hr
  have em := j.len jr
  subst em
  have key : (far n rs o s = far n rs o x + m + far n rs s (par x) ∨ far n rs o s = far n rs o (par x) + m + far n rs s x) ↔ Bel s par x o := by
    have tri := W.tri S ho _ (par x) (Nat.lt_succ_self _) hp
    have lp := (W.roads.joins j).2.2.2.1
    constructor
    · intro h
      refine Decidable.byContradiction fun nb => ?_
      have c1 := S.apart_clo hx nx _ o (Nat.lt_succ_self _) ho nb
      have nbp : ¬ Bel s par x (par x) := fun z => by
        have := S.bel_rank z hp
        have := S.rank x hx nx
        omega
      have c2 := S.apart_clo hx nx _ (par x) (Nat.lt_succ_self _) hp nbp
      have c3 := c2.trans c1.symm
      rcases W.side j ho with ⟨g1, g2, _⟩ | ⟨_, _, g⟩
      · exact g2 c3
      · omega
    · intro h
      obtain ⟨k, h1, h2⟩ := S.reach o ho
      obtain ⟨j', hj', e⟩ : ∃ j', j' ≤ k ∧ up par j' o = x := by
        have := (S.mem_up h1 h2 x).mpr h
        unfold upList at this
        obtain ⟨j', a, b⟩ := List.mem_map.mp this
        exact ⟨j', by have := List.mem_range.mp a; omega, b⟩
      obtain ⟨par', idx', rk', T⟩ := W.span ho
      have sy := W.far_symm hs ho
      left
      cases j' with
      | zero =>
        have e : o = x := e
        subst e
        have : far n rs o o = 0 := T.start
        omega
      | succ j' =>
        have := (S.turn T W.count h2 j' (by omega)).2.2.2.2
        rw [e] at this
        omega
  rw [← key]
  rcases j.ends jr with ⟨rfl, rfl⟩ | ⟨rfl, rfl⟩
  · rw [W.far_symm hx hs, W.far_symm hp hs]
    exact Or.comm
  · rw [W.far_symm hx hs, W.far_symm hp hs]
theorem walk_len : ∀ {R : List Int} {u : Int}, Walk rs u R → R.length ≤ ((List.range rs.length).map fun i => cnt rs i u R).sum
  | [], _, _ => Nat.zero_le _
  | v :: R, u, ⟨⟨i, l, j⟩, h⟩ => by
    have ih := walk_len h
    have e : ((List.range rs.length).map fun i => cnt rs i u (v :: R)).sum = ((List.range rs.length).map fun i => if isRoad rs i u v = true then 1 else 0).sum + ((List.range rs.length).map fun i => cnt rs i v R).sum := by
      generalize List.range rs.length = L
      induction L with
      | nil => rfl
      | cons a L ih' => simp only [List.map_cons, List.sum_cons]; rw [ih']; show (_ + _) + _ = _; omega
    have g : 1 ≤ ((List.range rs.length).map fun i => if isRoad rs i u v = true then 1 else 0).sum := by
      have mem : i ∈ List.range rs.length := List.mem_range.mpr j.lt
      generalize List.range rs.length = L at mem
      induction L with
      | nil => cases mem
      | cons a L ih' =>
        simp only [List.map_cons, List.sum_cons]
        rcases List.mem_cons.mp mem with rfl | mem
        · rw [if_pos (isRoad_iff.mpr ⟨l, j⟩)]; omega
        · have := ih' mem; omega
    rw [e, List.length_cons]
    omega
theorem sum_le_mul : ∀ {L : List Nat} {g : Nat → Nat} {c : Nat}, (∀ i ∈ L, g i ≤ c) → (L.map g).sum ≤ c * L.length
  | [], _, _, _ => Nat.zero_le _
  | a :: L, g, c, h => by
    rw [List.map_cons, List.sum_cons, List.length_cons, Nat.mul_succ]
    have := sum_le_mul (g := g) (c := c) fun i hi => h i (List.mem_cons_of_mem _ hi)
    have := h a (List.mem_cons_self ..)
    omega
/-- the whole errand -/
theorem Tree.errand (W : Tree n rs) (S : Span n rs s par idx (far n rs s) rk) (ho : InV n o) {k : Nat} (h1 : up par k o = s) (h2 : ∀ j, j < k → InV n (up par j o) ∧ up par j o ≠ s) :
    (∀ v ∈ upList par k o, Fits rs n v (upList par k o)) ∧ ∃ R, (upList par k o).flatMap (fun v => backM rs n v (upList par k o)) = o :: R ∧ lastW o R = s ∧ Walk rs o R ∧ R.length ≤ 2 * rs.length ∧ (∀ y, InV n y → y ∈ o :: R) ∧
      ∀ i a b l, rs[i]? = some (a, b, l) → cnt rs i o R = if far n rs o s = far n rs o a + l + far n rs b s ∨ far n rs o s = far n rs o b + l + far n rs a s then 1 else 2 := by
  have hn : ∃ f, f + 1 = n := ⟨n - 1, by have := S.deep h1 h2; omega⟩
  obtain ⟨f, hf⟩ := hn
  have ml := S.mem_up h1 h2
  obtain ⟨R, r1, r2, r3, r4, r5⟩ := S.errand W ho h1 h2 k (Nat.le_refl _)
  have ct : ∀ i a b l, rs[i]? = some (a, b, l) → cnt rs i o R = if far n rs o s = far n rs o a + l + far n rs b s ∨ far n rs o s = far n rs o b + l + far n rs a s then 1 else 2 := fun i a b l hr => by
    obtain ⟨x, hx, nx, e⟩ := S.surj W.count (i := i) (List.getElem?_eq_some_iff.mp hr).1
    subst e
    rw [r4 x hx nx]
    have w := W.on_way S ho hx nx hr
    by_cases c : Bel s par x o
    · rw [if_pos (w.mpr c), if_pos, if_neg]
      · rintro ⟨j, t, _, _, _, _, a4, a5⟩
        exact a4 (a5.trans c)
      · have := (ml x).mpr c
        unfold upList at this
        obtain ⟨j, a, b⟩ := List.mem_map.mp this
        refine ⟨j, ?_, b⟩
        have := List.mem_range.mp a
        have : j ≠ k := fun z => by subst z; exact nx (b.symm.trans h1)
        omega
    · rw [if_neg fun z => c (w.mp z), if_neg, if_pos]
      · obtain ⟨t, a1, a2, a3, a4, a5⟩ := S.meet ho _ x (Nat.lt_succ_self _) hx c
        have := (ml _).mpr a4
        unfold upList at this
        obtain ⟨j, a, b⟩ := List.mem_map.mp this
        exact ⟨j, t, by have := List.mem_range.mp a; omega, a1, a2, b.symm, a3, a5⟩
      · rintro ⟨j, hj, e⟩
        exact c (e ▸ (ml _).mp (List.mem_of_getElem? (upList_get par o (Nat.le_of_lt hj))))
  refine ⟨fun v hv => (S.line W ho h1 h2 hf v ((ml v).mp hv)).1, R, ?_, r2.trans h1, r3, ?_, fun y hy => ?_, ct⟩
  · unfold errM at r1
    rw [upList_take par k k o (Nat.le_refl _)] at r1
    exact r1
  · refine Nat.le_trans (walk_len r3) ?_
    have := sum_le_mul (L := List.range rs.length) (g := fun i => cnt rs i o R) (c := 2) fun i hi => by
      have hi := List.mem_range.mp hi
      obtain ⟨⟨a, b, l⟩, hr⟩ : ∃ r, rs[i]? = some r := ⟨_, List.getElem?_eq_getElem hi⟩
      show cnt rs i o R ≤ 2
      rw [ct i a b l hr]
      split <;> omega
    rw [List.length_range] at this
    exact this
  · by_cases c : Bel s par y o
    · have := (ml y).mpr c
      unfold upList at this
      obtain ⟨j, a, b⟩ := List.mem_map.mp this
      rw [← b]
      exact (r5 j (by have := List.mem_range.mp a; omega)).1
    · obtain ⟨t, a1, a2, a3, a4, a5⟩ := S.meet ho _ y (Nat.lt_succ_self _) hy c
      have := (ml _).mpr a4
      unfold upList at this
      obtain ⟨j, a, b⟩ := List.mem_map.mp this
      exact (r5 j (by have := List.mem_range.mp a; omega)).2 t a1 a2 b.symm a3 y a5 hy
end
end WR
namespace WR
/-! ### how often a row of villages goes each road, and how long it is -/
def cntTo (rs : List Road) (ws : List Int) (i k : Nat) : Nat := ((List.range k).filter fun j => isRoad rs i (ws.getD j 0) (ws.getD (j + 1) 0)).length
theorem cntTo_succ (rs : List Road) (ws : List Int) (i k : Nat) : cntTo rs ws i (k + 1) = cntTo rs ws i k + if isRoad rs i (ws.getD k 0) (ws.getD (k + 1) 0) = true then 1 else 0 := by
  unfold cntTo
  rw [List.range_succ, List.filter_append, List.length_append]
  congr 1
  by_cases c : isRoad rs i (ws.getD k 0) (ws.getD (k + 1) 0) = true
  · rw [if_pos c]; simp only [List.filter_cons, c, if_true, List.filter_nil, List.length_cons, List.length_nil]
  · rw [if_neg c]; simp only [List.filter_cons, c, List.filter_nil]; rfl
theorem cntTo_le (rs : List Road) (ws : List Int) (i k : Nat) : cntTo rs ws i k ≤ k := by
  unfold cntTo
  exact Nat.le_trans (List.length_filter_le _ _) (by simp)
theorem cnt_to (rs : List Road) (i : Nat) : ∀ (R : List Int) (u : Int), cnt rs i u R = cntTo rs (u :: R) i R.length
  | [], _ => rfl
  | v :: R, u => by
    show (if isRoad rs i u v = true then 1 else 0) + cnt rs i v R = cntTo rs (u :: v :: R) i (R.length + 1)
    rw [cnt_to rs i R v]
    unfold cntTo
    rw [List.range_succ_eq_map, List.filter_cons, List.filter_map, List.getD_cons_zero, List.getD_cons_succ, List.getD_cons_zero]
    have e : ((fun j => isRoad rs i ((u :: v :: R).getD j 0) ((u :: v :: R).getD (j + 1) 0)) ∘ Nat.succ) = fun j => isRoad rs i ((v :: R).getD j 0) ((v :: R).getD (j + 1) 0) := by
      funext j
      simp only [Function.comp, Nat.succ_eq_add_one, List.getD_cons_succ]
    rw [e]
    by_cases c : isRoad rs i u v = true
    · rw [if_pos c, if_pos c, List.length_cons, List.length_map]; omega
    · rw [if_neg c, if_neg c, List.length_map]; omega
def WalkAt (rs : List Road) (ws : List Int) : Prop := ∀ j, j + 1 < ws.length → ∃ i l, Joins rs i (ws.getD j 0) (ws.getD (j + 1) 0) l
theorem walk_at {rs : List Road} : ∀ {R : List Int} {u : Int}, Walk rs u R → WalkAt rs (u :: R)
  | [], _, _ => fun j h => by simp at h
  | v :: R, u, ⟨h1, h2⟩ => fun j h => by
    cases j with
    | zero => exact h1
    | succ j => exact walk_at h2 j (by simpa using h)
/-- up to the k-th step -/
def WalkTo (rs : List Road) (ws : List Int) (k : Nat) : Prop := ∀ j, j < k → ∃ i l, Joins rs i (ws.getD j 0) (ws.getD (j + 1) 0) l
theorem WalkTo.at {rs : List Road} {ws : List Int} {k : Nat} (h : WalkTo rs ws k) (e : ws.length ≤ k + 1) : WalkAt rs ws := fun j hj => h j (by omega)
def goneM (rs : List Road) (ws : List Int) (k : Nat) : List Int := (List.range rs.length).map fun (i : Nat) => (cntTo rs ws i k : Int)
theorem goneM_length (rs : List Road) (ws : List Int) (k : Nat) : (goneM rs ws k).length = rs.length := by simp [goneM]
theorem goneM_get {rs : List Road} {ws : List Int} {k i : Nat} (h : i < rs.length) : (goneM rs ws k)[i]? = some (cntTo rs ws i k : Int) := by
  unfold goneM
  rw [List.getElem?_map, List.getElem?_range h]
  rfl
theorem goneM_zero (rs : List Road) (ws : List Int) : goneM rs ws 0 = rs.map fun _ => (0 : Int) := by
  refine List.ext_getElem? fun i => ?_
  unfold goneM
  rw [List.getElem?_map, List.getElem?_map]
  by_cases h : i < rs.length
  · rw [List.getElem?_range h, List.getElem?_eq_getElem h]; rfl
  · rw [List.getElem?_eq_none (by simpa using h), List.getElem?_eq_none (by simpa using h)]; rfl
section
variable {n : Nat} {rs : List Road} {ws : List Int} {k j : Nat} {l : Int}
theorem Tree.only (W : Tree n rs) {u v : Int} (h : Joins rs j u v l) (i : Nat) : isRoad rs i u v = decide (i = j) := by
  by_cases e : i = j
  · subst e; rw [decide_eq_true rfl]; exact isRoad_iff.mpr ⟨l, h⟩
  · rw [decide_eq_false e]
    refine Bool.eq_false_iff.mpr fun z => e ?_
    obtain ⟨m, g⟩ := isRoad_iff.mp z
    exact W.one_road (W.roads.joins h).1 g h
theorem Tree.gone_succ (W : Tree n rs) (h : Joins rs j (ws.getD k 0) (ws.getD (k + 1) 0) l) : (goneM rs ws k).set j ((cntTo rs ws j k : Int) + 1) = goneM rs ws (k + 1) := by
  refine List.ext_getElem? fun i => ?_
  rw [List.getElem?_set]
  have hj := h.lt
  by_cases c : i < rs.length
  · by_cases e : j = i
    · subst e
      rw [if_pos rfl, if_pos (by rw [goneM_length]; exact hj), goneM_get c, cntTo_succ, W.only h j]
      simp
    · rw [if_neg e, goneM_get c, goneM_get c, cntTo_succ, W.only h i, decide_eq_false (fun z => e z.symm)]
      simp
  · rw [if_neg (fun z : j = i => c (z ▸ hj)), List.getElem?_eq_none (by rw [goneM_length]; omega), List.getElem?_eq_none (by rw [goneM_length]; omega)]
def longTo (rs : List Road) (ws : List Int) (k : Nat) : Int := ((List.range rs.length).map fun (i : Nat) => (cntTo rs ws i k : Int) * (rs.getD i (0, 0, 0)).2.2).sum
theorem sum_single {f : Nat → Int} {a : Int} : ∀ (m : Nat), j < m → (∀ i, i < m → f i = if i = j then a else 0) → ((List.range m).map f).sum = a := by
  have zero : ∀ m, (∀ i, i < m → f i = 0) → ((List.range m).map f).sum = 0 := by
    intro m
    induction m with
    | zero => intro _; rfl
    | succ m ih => intro h; rw [List.range_succ, List.map_append, List.sum_append, ih fun i hi => h i (by omega)]; simp [h m (by omega)]
  intro m
  induction m with
  | zero => intro h; omega
  | succ m ih =>
    intro hj h
    rw [List.range_succ, List.map_append, List.sum_append]
    by_cases e : j = m
    · subst e
      rw [zero j fun i hi => by rw [h i (by omega), if_neg (by omega)]]
      simp [h j (by omega)]
    · rw [ih (by omega) fun i hi => h i (by omega)]
      have := h m (by omega)
      rw [if_neg (fun z => e z.symm)] at this
      simp [this]
theorem sum_plus {α : Type} {f g : α → Int} : ∀ (L : List α), (L.map fun i => f i + g i).sum = (L.map f).sum + (L.map g).sum
  | [] => rfl
  | a :: L => by simp only [List.map_cons, List.sum_cons]; rw [sum_plus L]; omega
theorem Tree.long_succ (W : Tree n rs) (h : Joins rs j (ws.getD k 0) (ws.getD (k + 1) 0) l) : longTo rs ws (k + 1) = longTo rs ws k + l := by
  unfold longTo
  have e : ((List.range rs.length).map fun (i : Nat) => (cntTo rs ws i (k + 1) : Int) * (rs.getD i (0, 0, 0)).2.2) = (List.range rs.length).map fun (i : Nat) => (cntTo rs ws i k : Int) * (rs.getD i (0, 0, 0)).2.2 + (if i = j then l else 0) := by
    refine List.map_congr_left fun i hi => ?_
    rw [cntTo_succ, W.only h i]
    by_cases c : i = j
    · subst c
      have hl : (rs.getD i (0, 0, 0)).2.2 = l := by
        rw [List.getD_eq_getElem?_getD]
        rcases h with h | h <;> rw [h] <;> rfl
      rw [if_pos (by simp), if_pos rfl, hl, Int.natCast_add, Int.add_mul]
      simp
    · rw [if_neg (by simpa using c), if_neg c]; simp
  rw [e, sum_plus, sum_single rs.length h.lt fun i _ => rfl]
theorem longTo_zero (rs : List Road) (ws : List Int) : longTo rs ws 0 = 0 := by
  unfold longTo
  have : ∀ L : List Nat, (L.map fun (i : Nat) => (cntTo rs ws i 0 : Int) * (rs.getD i (0, 0, 0)).2.2).sum = 0 := by
    intro L
    induction L with
    | nil => rfl
    | cons a L ih => rw [List.map_cons, List.sum_cons, ih]; simp [cntTo]
  exact this _
end
end WR
namespace L2
open PySem PySem.Spec PyProof.Rows
/-! ### a comprehension -/
/-- the context of its block -/
abbrev cxComp (X : Cx) (N : List Str) (sc : Scope) (cl : List (Str × Addr)) (C : Addr) (s₀ : Shared) (H₀ : Hp) (ex : List Addr) (pn : List (Addr × Obj)) : Cx where
  prog := X.prog
  w := X.w
  K := X.K
  mg := X.mg
  base := X.base
  A := X.A
  N := N
  s₀ := s₀
  H₀ := H₀
  env := compEnvC sc cl C X.env
  outer := X.stack
  stack := X.stack
  ex := ex
  fn := fun _ => false
  calm := X.calm
  pn := pn
  xe := X.xe

section
variable {prog : Program} {w : World} {A : Around} {R : Result → Shared → Prop} {s : Shared}
theorem compLoop_go {elt target iter : Expr} {ifs : List Expr} {scope : Scope} {pos : Pos} {it acc : Value} {env : Env} (I : Nat → Shared → Prop)
    (turn : ∀ n s, I n s → wpAny (model prog w) A (pyNext it) (fun r s₁ => match r with
      | none => R (.ok .next) s₁
      | some v => wpAny (model prog w) A (letOwnedTupleGo target it v) (fun _ s₁' => wpAny (model prog w) A (assign target env v) (fun _ s₂ =>
          wpAny (model prog w) A (forIn ifs true fun c r => if r = true then do let ok ← isTrue c env (eval c env); pure (ForInStep.yield ok) else pure (ForInStep.yield r)) (fun ok s₃ =>
            if ok = true then wpAny (model prog w) A (eval elt env) (fun x s₄ =>
              wpAny (model prog w) A (call (.builtin "list.append") [acc, x]) (fun _ s₅ => ∃ m, m < n ∧ I m s₅) (fun _ _ => False) s₄) (fun _ _ => False) s₃
            else ∃ m, m < n ∧ I m s₃) (fun _ _ => False) s₂) (fun _ _ => False) s₁') (fun _ _ => False) s₁) (fun _ _ => False) s)
    (n : Nat) (h : I n s) :
    codeAny (model prog w) A (.compLoop (.ListComp elt [⟨target, iter, ifs, 0⟩] scope pos) 0 it acc env) R s := by
  refine codeAny_loop rfl I (fun n s hI => ?_) n h
  show wpAny _ A ((compTurn (.ListComp elt [⟨target, iter, ifs, 0⟩] scope pos) 0 it acc env).onRaise (fun x => do noteFrame x env; theTreesLotGoes x)) _ _ s
  refine wpAny_noted ?_
  rw [compTurn_list]
  refine wpAny_bind (wpAny_standAt (wpAny_bind (wpAny_mono (turn n s hI) (fun r s₁ h₁ => ?_) fun _ _ h' => False.elim h')))
  cases r with
  | none => exact wpAny_pure h₁
  | some v =>
    refine wpAny_bind (wpAny_mono h₁ (fun _ s₁' h₁' => ?_) fun _ _ h' => False.elim h')
    refine wpAny_bind (wpAny_mono h₁' (fun _ s₂ h₂ => wpAny_bind (wpAny_mono h₂ (fun ok s₃ h₃ => ?_) fun _ _ h' => False.elim h')) fun _ _ h' => False.elim h')
    cases ok with
    | false => exact wpAny_pure ⟨rfl, h₃⟩
    | true =>
      exact wpAny_bind (wpAny_bind (wpAny_mono h₃ (fun x s₄ h₄ => wpAny_bind (wpAny_mono h₄ (fun _ s₅ h₅ => wpAny_pure (wpAny_pure ⟨rfl, h₅⟩)) fun _ _ h' => False.elim h')) fun _ _ h' => False.elim h'))
end

/-- the tests of a comprehension: none, or one -/
def PIfs (X : Cx) (ifs : List Expr) (t : TT) : Prop :=
  ∀ (pins : List (Addr × Obj)) (s : Shared) (σ : St) (H : Hp) (Q : Bool → Hp → Prop), Inv X pins σ H s → t σ H Q →
    wpAny (model X.prog X.w) X.A (forIn ifs true fun c r => if r = true then do let ok ← isTrue c X.env (eval c X.env); pure (ForInStep.yield ok) else pure (ForInStep.yield r)) (TP X pins σ Q) X.xe s
def tNoIf : TT := fun _ H Q => Q true H
theorem pf_none {X : Cx} : PIfs X [] tNoIf := fun _ _ _ H _ I h => wpAny_tests_nil ⟨H, I, h⟩
theorem pf_one {X : Cx} {c : Expr} {t : TT} (h : PT X c t) : PIfs X [c] t := fun pins s σ H Q I hw => wpAny_tests_one (h pins s σ H Q I hw)

/-- what the block must have: names and cells -/
structure CompOk (X : Cx) (N : List Str) (sc : Scope) (cl : List (Str × Addr)) (fr : List (Nat × Nat)) : Prop where
  clos : closureFor sc X.env = pure cl
  kind : sc.kind = .function
  nocell : ∀ x ∈ sc.names, x.2 ≠ .cell
  names : ∀ x ∈ sc.names, x.2 = .local → sc.names.lookup x.1 = some .local
  sub : ∀ x c, cl.lookup x = some c → X.env.cells.lookup x = some c
  has : ∀ x, ((relabel sc X.env).names.lookup x = some .cell ∨ (relabel sc X.env).names.lookup x = some .free) → ∃ c, cl.lookup x = some c
  /-- the names that it reads of the def: (place here, place there) -/
  frees : ∀ p ∈ fr, ∃ x, N[p.1]? = some x ∧ X.N[p.2]? = some x ∧ (X.env.scope.names.lookup x = some .cell ∨ X.env.scope.names.lookup x = some .free) ∧ ((relabel sc X.env).names.lookup x = some .cell ∨ (relabel sc X.env).names.lookup x = some .free)
/-- the values at the block's entry -/
def startC (n : Nat) (fr : List (Nat × Nat)) (σ : St) : St := (List.range n).map fun i => match fr.find? (fun p => p.1 == i) with | some p => (σ[p.2]?).join | none => none
/-- [elt for tg in iter if ..]: W the invariant by the turn, a measure, the block's names, the items so far and the heap -/
def tComp (n : Nat) (fr : List (Nat × Nat)) (wi : TI) (g : TG) (tf : TT) (te : TE) : TE := fun σ H Q => wi σ H fun J H1 => ∀ acc, H1 acc = none →
  ∃ W : Nat → Nat → St → List V → Hp → Prop, (∃ m, W 0 m (startC n fr σ) [] (upd H1 acc (.lst []))) ∧ ∀ i m τ ys H2, W i m τ ys H2 →
    H2 acc = some (.lst ys) ∧ ((J.stop i H2 ∧ Q (.ref acc) H2) ∨ (J.go i H2 ∧ ∀ x H3, J.yld i H2 x H3 → g x τ H3 fun τ4 H4 => tf τ4 H4 fun b H5 =>
      if b = true then te τ4 H5 fun v H6 => H6 acc = some (.lst ys) ∧ ys.length < sizeLine ∧ ∃ m', m' < m ∧ W (i + 1) m' τ4 (ys ++ [v]) (upd H6 acc (.lst (ys ++ [v])))
      else ∃ m', m' < m ∧ W (i + 1) m' τ4 ys H5))

section
variable {X : Cx} {N : List Str} {sc : Scope} {cl : List (Str × Addr)} {fr : List (Nat × Nat)} {pins : List (Addr × Obj)} {σ : St} {H : Hp} {s : Shared}
theorem comp_ok {fp : List Addr} (I : Inv X pins σ H s) (K : CompOk X N sc cl fr) (f : ∀ b ∈ fp, FpOk X pins H b) (ho : ∀ b ∈ fp, ∃ o, s.heap.get? b = some o) :
    (cxComp X N sc cl s.heap.objs.size s H fp (X.pn ++ pins)).Ok where
  mod := I.mod
  kind := K.kind
  glob := I.ok.glob
  blt := I.ok.blt
  above := Nat.le_refl _
  inj := fun x y c h1 h2 => I.ok.inj x y c (K.sub x c h1) (K.sub y c h2)
  has := fun x h => K.has x h
  cab := fun x c h => absurd h (by simp)
  hd := I.ok.hd
  frames := I.ok.frames
  stk := .inl rfl
  exf := fun b hb => ⟨fun z => by
      obtain ⟨o, ho⟩ := ho b hb
      have z : b = s.heap.objs.size := z
      exact absurd (Heap.lt_size ho) (by rw [z]; exact Nat.lt_irrefl _), fun x c h => (f b hb).2.2.2.2.1 x c (K.sub x c h)⟩
  bs := I.bs
  bsz := Nat.le_trans I.ok.bsz I.sz
  noex := fun b o e hb => by
    rcases (f b hb).2.2.2.1 with z | z
    · exact I.ok.noex b o e z
    · exact absurd (Nat.lt_of_lt_of_le (Heap.lt_size e) (Nat.le_trans I.ok.bsz z)) (Nat.lt_irrefl _)
  exfs := fun b hb z => by
    rcases List.mem_cons.mp (I.stkSub b z) with q | q
    · exact (f b hb).2.1 q
    · exact (f b hb).2.2.1 q
  funs := I.stack
  frf := I.stkFree

theorem startC_get {n i : Nat} {v : V} (h : (startC n fr σ)[i]? = some (some v)) : ∃ p ∈ fr, p.1 = i ∧ σ[p.2]? = some (some v) := by
  unfold startC at h
  rw [List.getElem?_map] at h
  cases q : (List.range n)[i]? with
  | none => rw [q] at h; cases h
  | some j =>
    rw [q] at h
    have hj : j = i := by
      obtain ⟨hlt, e⟩ := List.getElem?_eq_some_iff.mp q
      rw [List.getElem_range] at e
      exact e.symm
    subst hj
    simp only [Option.map_some, Option.some.injEq] at h
    cases r : fr.find? (fun p => p.1 == j) with
    | none => rw [r] at h; cases h
    | some p =>
      rw [r] at h
      have h : (σ[p.2]?).join = some v := h
      refine ⟨p, List.mem_of_find?_eq_some r, by simpa using List.find?_some r, ?_⟩
      cases t : σ[p.2]? with
      | none => rw [t] at h; cases h
      | some o =>
        rw [t] at h
        have h : o = some v := h
        rw [h]

theorem comp_start {fp : List Addr} {h' : Heap} {t' : Nat} {m : Str → Option Value} (I : Inv X pins σ H s) (K : CompOk X N sc cl fr) (f : ∀ b ∈ fp, FpOk X pins H b) (ho : ∀ b ∈ fp, ∃ o, s.heap.get? b = some o)
    (hn : h'.Ns s.heap.objs.size m) (hk : ∀ b o, s.heap.get? b = some o → h'.get? b = some o) :
    Inv (cxComp X N sc cl s.heap.objs.size s H fp (X.pn ++ pins)) [] (startC N.length fr σ) H { s with heap := h', toks := t' } := by
  refine ⟨comp_ok I K f ho, rfl, I.bare, Un.kept hk, ⟨m, hn, fun i x v e1 e2 e3 => ?_⟩, fun x c h => ?_, I.hok.fresh (Nat.le_refl _), fun x c h => I.freeC x c (K.sub x c h), fun p hp => ?_, I.hok.kept hk, by simp [startC]⟩
  · obtain ⟨p, hp, rfl, hv⟩ := startC_get e2
    obtain ⟨y, h1, h2, h3, h4⟩ := K.frees p hp
    have e1 : N[p.1]? = some x := e1
    rw [e1] at h1; cases h1
    obtain ⟨m0, hm0, hl⟩ := I.loc
    have vis : Vis X.env.scope x := by
      rcases h3 with z | z
      · exact .inr (.inl z)
      · exact .inr (.inr z)
    obtain ⟨u, ru, l⟩ := hl p.2 x v h2 hv vis
    refine ⟨u, ru, ?_⟩
    rcases l with ⟨z, _⟩ | ⟨_, c, hc, hcell⟩
    · exfalso
      have z : X.env.scope.names.lookup x = some .local := z
      rcases h3 with q | q <;> (rw [z] at q; cases q)
    · obtain ⟨c', hc'⟩ := K.has x h4
      have := K.sub x c' hc'
      rw [hc] at this; cases this
      obtain ⟨o, ho', hd⟩ := hcell
      exact .inr ⟨h4, c, hc', o, hk _ _ ho', hd⟩
  · obtain ⟨v, o, ho', hd⟩ := I.cell x c (K.sub x c h)
    exact ⟨v, o, hk _ _ ho', hd⟩
  · have hp : p ∈ X.pn ++ pins := by simpa using hp
    obtain ⟨e, n, ne, nf, d⟩ := I.pin p hp
    refine ⟨hk _ _ e, n, fun z => ?_, fun z => ?_, d⟩
    · have z : p.1 = s.heap.objs.size := z
      exact absurd (Heap.lt_size e) (by rw [z]; exact Nat.lt_irrefl _)
    · rcases List.mem_cons.mp (I.stkSub _ z) with q | q
      · exact ne q
      · exact nf q

/-- behind the block -/
theorem comp_back {fp : List Addr} {τ : St} {H' : Hp} {s' : Shared} {h' : Heap} (I : Inv X pins σ H s) (f : ∀ b ∈ fp, FpOk X pins H b)
    (J : Inv (cxComp X N sc cl s.heap.objs.size s H fp (X.pn ++ pins)) [] τ H' s') (hs : Heap.SameBut s.heap.objs.size s'.heap h') :
    Inv X pins σ H' { s' with heap := h' } := by
  have hlt : ∀ b o, s.heap.get? b = some o → b ≠ s.heap.objs.size := fun b o e => Nat.ne_of_lt (Heap.lt_size e)
  have u := J.base
  refine I.call' (ch := fp) J.os ⟨fun b o e n hb hx => ?_, fun b o e n hb hx => ?_, u.free, fun b o e hx => ?_, u.tups, u.frzs, u.tbls⟩ (fun a o e => ?_) J.bare fun b hb => ⟨(f b hb).2.2.2.1, (f b hb).2.1, (f b hb).2.2.2.2.1, (f b hb).2.2.2.2.2⟩
  · exact (hs.2 b (hlt b o e)).trans (u.keep b o e n hb hx)
  · obtain ⟨sl, q⟩ := u.slot b o e n hb hx
    exact ⟨sl, (hs.2 b (hlt b o e)).trans q⟩
  · obtain ⟨o', q⟩ := u.there b o e hx
    exact ⟨o', (hs.2 b (hlt b o e)).trans q⟩
  · have hC : H' s.heap.objs.size = none := J.free
    refine (J.hok a o e).stay (fun b v hb q => (hs.2 b ?_).trans q) (fun _ q => q) fun _ _ q => q
    intro z
    rcases hb with hb | hb
    · rw [← hb, z, hC] at e; cases e
    · rw [z, hC] at hb; cases hb

/-- the block itself: from the iterator to the end, the post is told of the block's own state -/
theorem comp_run {elt tg iter : Expr} {ifs : List Expr} {pos : Pos} {g : TG} {tf : TT} {te : TE} {Q : VK} {RR : Value → Addr → Result → Shared → Prop} {itv : Value} (hx : X.xe = fun _ _ => False) (hc : X.calm = true)
    (K : CompOk X N sc cl fr)
    (hb : ∀ C s₀ H₀ ex pn, PG (cxComp X N sc cl C s₀ H₀ ex pn) tg g ∧ PIfs (cxComp X N sc cl C s₀ H₀ ex pn) ifs tf ∧ PE (cxComp X N sc cl C s₀ H₀ ex pn) elt te)
    (h2 : PIE X pins σ tg (fun J H1 => ∀ acc, H1 acc = none →
      ∃ W : Nat → Nat → St → List V → Hp → Prop, (∃ m, W 0 m (startC N.length fr σ) [] (upd H1 acc (.lst []))) ∧ ∀ i m τ ys H2, W i m τ ys H2 →
        H2 acc = some (.lst ys) ∧ ((J.stop i H2 ∧ Q (.ref acc) H2) ∨ (J.go i H2 ∧ ∀ x H3, J.yld i H2 x H3 → g x τ H3 fun τ4 H4 => tf τ4 H4 fun b H5 =>
          if b = true then te τ4 H5 fun v H6 => H6 acc = some (.lst ys) ∧ ys.length < sizeLine ∧ ∃ m', m' < m ∧ W (i + 1) m' τ4 (ys ++ [v]) (upd H6 acc (.lst (ys ++ [v])))
          else ∃ m', m' < m ∧ W (i + 1) m' τ4 ys H5))) itv s)
    (hR : ∀ (acc : Addr) (s3 : Shared) (H3 H' : Hp) (fp : List Addr) (τ : St) (s' : Shared), Inv X pins σ H3 s3 → (∀ b ∈ fp, FpOk X pins H3 b) → Inv (cxComp X N sc cl s3.heap.objs.size s3 H3 fp (X.pn ++ pins)) [] τ H' s' → Q (.ref acc) H' → RR (.ref acc) s3.heap.objs.size (.ok .next) s') :
    wpAny (model X.prog X.w) X.A (newList []) (fun acc s₃ => wpAny (model X.prog X.w) X.A (newFunctionEnv sc X.env.globals cl [] X.env.qual none .none (some X.env)) (fun cenv s₄ =>
      codeAny (model X.prog X.w) X.A (.compStart (.ListComp elt [⟨tg, iter, ifs, 0⟩] sc pos) 0 itv acc { cenv with scope := relabel sc X.env }) (RR acc cenv.locals) s₄) X.xe s₃) X.xe s := by
  obtain ⟨it, fp, tn, J, H1, e, I1, T, st1, f1, hw⟩ := h2
  subst e
  have hfr := I1.hok.fresh (Nat.le_refl _)
  obtain ⟨W, ⟨m0, w0⟩, turn⟩ := hw s.heap.objs.size hfr
  refine wpAny_newObj_type ?_
  have I3 : Inv X pins σ (upd H1 s.heap.objs.size (.lst [])) { s with heap := s.heap.push { cls := .type "list", data := .seq ([] : List Value).toArray } } := I1.lnew (t' := s.toks) (its := []) .nil (Nat.zero_le _)
  have fpne : ∀ b ∈ fp, b ≠ s.heap.objs.size := fun b hb => by
    obtain ⟨o, ho, _⟩ := T.obj _ _ st1 b hb
    exact Nat.ne_of_lt (Heap.lt_size ho)
  have f3 : ∀ b ∈ fp, FpOk X pins (upd H1 s.heap.objs.size (.lst [])) b := fun b hb => ⟨by rw [upd_ne (fpne b hb)]; exact (f1 b hb).1, (f1 b hb).2⟩
  generalize hs3 : ({ s with heap := s.heap.push { cls := .type "list", data := .seq ([] : List Value).toArray } } : Shared) = s3 at I3
  have st3 : tn 0 s3.heap := T.keep _ _ _ st1 fun b _ o e => by rw [← hs3]; exact Heap.get?_push_of_some _ e
  have ho3 : ∀ b ∈ fp, ∃ o, s3.heap.get? b = some o := fun b hb => by obtain ⟨o, ho, _⟩ := T.obj _ _ st3 b hb; exact ⟨o, ho⟩
  generalize hacc : s.heap.objs.size = acc at *
  refine wpAny_newFunctionEnv K.nocell (by intro y hy; simp at hy) (fun h₁ hns₁ hsb₁ => ?_) K.kind
  have hk : ∀ b o, s3.heap.get? b = some o → h₁.get? b = some o := fun b o e => (hsb₁.2 b (Nat.ne_of_lt (Heap.lt_size e))).trans (Heap.get?_push_of_some _ e)
  have I4 := comp_start (t' := s3.toks + ([] : List (Str × Value)).length) I3 K f3 ho3 hns₁ hk
  have st4 : tn 0 h₁ := T.keep _ _ _ st3 fun b _ o e => hk b o e
  have stat : ∀ {H' : Hp} {b : Addr}, b ∈ fp → H' b = none → FpOk (cxComp X N sc cl s3.heap.objs.size s3 (upd H1 acc (.lst [])) fp (X.pn ++ pins)) [] H' b := fun {H' b} hb hn => by
    refine ⟨hn, fun z => ?_, fun z => ?_, .inl hb, fun x c h => (f3 b hb).2.2.2.2.1 x c (K.sub x c h), fun p hp => (f3 b hb).2.2.2.2.2 p (by simpa using hp)⟩
    · obtain ⟨o, ho⟩ := ho3 b hb
      have z : b = s3.heap.objs.size := z
      exact absurd (Heap.lt_size ho) (by rw [z]; exact Nat.lt_irrefl _)
    · rcases List.mem_cons.mp (I3.stkSub b z) with q | q
      · exact (f3 b hb).2.1 q
      · exact (f3 b hb).2.2.1 q
  obtain ⟨hg, hf, he⟩ := hb s3.heap.objs.size s3 (upd H1 acc (.lst [])) fp (X.pn ++ pins)
  have loop : ∀ s₄ : Shared, s₄ = { s3 with heap := h₁, toks := s3.toks + ([] : List (Str × Value)).length } →
      codeAny (model X.prog X.w) X.A (.compLoop (.ListComp elt [⟨tg, iter, ifs, 0⟩] sc pos) 0 (.ref it) (.ref acc) (compEnvC sc cl s3.heap.objs.size X.env)) (RR (.ref acc) s3.heap.objs.size) s₄ := by
    rintro s₄ rfl
    refine compLoop_go (fun n s' => ∃ i τ ys H', Inv (cxComp X N sc cl s3.heap.objs.size s3 (upd H1 acc (.lst [])) fp (X.pn ++ pins)) [] τ H' s' ∧ tn i s'.heap ∧ (∀ b ∈ fp, H' b = none) ∧ W i n τ ys H') ?_ m0
      ⟨0, _, [], _, I4, st4, fun b hb => (f3 b hb).1, w0⟩
    rintro n s5 ⟨i, τ, ys, H5, I5, st5, fr5, w5⟩
    obtain ⟨hacc5, tr⟩ := turn i n τ ys H5 w5
    rcases tr with ⟨stop, q⟩ | ⟨go, step⟩
    · refine thn (T.done (cxComp X N sc cl s3.heap.objs.size s3 (upd H1 acc (.lst [])) fp (X.pn ++ pins)) rfl rfl rfl hc i [] s5 τ H5 _ I5 (fun b hb => stat hb (fr5 b hb)) st5 stop) fun r s6 ⟨hr, I6⟩ => ?_
      subst hr
      exact hR acc s3 _ H5 fp τ s6 I3 f3 I6 q
    · refine thn (T.item (cxComp X N sc cl s3.heap.objs.size s3 (upd H1 acc (.lst [])) fp (X.pn ++ pins)) rfl rfl rfl hc i [] s5 τ H5 _ I5 (fun b hb => stat hb (fr5 b hb)) st5 go) fun r s6 ⟨u, hr, h6⟩ => ?_
      subst hr
      refine thn h6 fun _ s7 ⟨x, H7, I7, r7, y7, st7, fr7⟩ => ?_
      have I7' := I7.pinned (fun b hb => stat hb (fr7 b hb)) (T.obj _ _ st7)
      have again : ∀ {τ8 : St} {H8 : Hp} {s8 : Shared} {ys8 : List V}, Inv (cxComp X N sc cl s3.heap.objs.size s3 (upd H1 acc (.lst [])) fp (X.pn ++ pins)) ([] ++ pinsAt fp s7.heap) τ8 H8 s8 → (∃ m', m' < n ∧ W (i + 1) m' τ8 ys8 H8) →
          ∃ m, m < n ∧ ∃ i τ ys H', Inv (cxComp X N sc cl s3.heap.objs.size s3 (upd H1 acc (.lst [])) fp (X.pn ++ pins)) [] τ H' s8 ∧ tn i s8.heap ∧ (∀ b ∈ fp, H' b = none) ∧ W i m τ ys H' := fun {τ8 H8 s8 ys8} I8 ⟨m', hm, w8⟩ => by
        refine ⟨m', hm, i + 1, τ8, ys8, H8, I8.unpinned, T.keep _ _ _ st7 fun b hb o e => (I8.pin (b, o) (List.mem_append_right _ (List.mem_append_right _ (mem_pinsAt hb e)))).1, fun b hb => ?_, w8⟩
        obtain ⟨o, e, d⟩ := T.obj _ _ st7 b hb
        exact (I8.pin (b, o) (List.mem_append_right _ (List.mem_append_right _ (mem_pinsAt hb e)))).2.1
      have xf : ∀ (e : Value) (s : Shared), X.xe e s → False := fun e s h => by rw [hx] at h; exact h
      refine wpAny_mono (hg _ s7 τ H7 x u _ I7' r7 (step x H7 y7)) (fun _ s8 ⟨τ8, H8, I8, q8⟩ => ?_) xf
      refine wpAny_mono (hf _ s8 τ8 H8 _ I8 q8) (fun ok s9 ⟨H9, I9, q9⟩ => ?_) xf
      cases ok with
      | false => exact again I9 q9
      | true =>
        rw [if_pos rfl] at q9 ⊢
        refine wpAny_mono (he _ s9 τ8 H9 _ I9 q9) (fun v s10 ⟨y, H10, I10, ry, q10⟩ => ?_) xf
        obtain ⟨h10, hz, q10⟩ := q10
        refine wpAny_mono (mt_append (X := cxComp X N sc cl s3.heap.objs.size s3 (upd H1 acc (.lst [])) fp (X.pn ++ pins)) _ s10 τ8 H10 (.ref acc) [y] (.ref acc) [v] (fun _ H' => H' = upd H10 acc (.lst (ys ++ [y]))) I10 rfl (.cons ry .nil) ⟨acc, ys, y, rfl, rfl, h10, hz, rfl⟩) (fun _ s11 ⟨z, H11, I11, _, e11⟩ => ?_) xf
        subst e11
        exact again I11 q10
  exact codeAny_compStart_list (loop _ rfl) (T.self _ 0 _ _ _ st4 (loop _ rfl))
end

/-- [elt for tg in iter if ..] -/
theorem pe_comp {X : Cx} {N : List Str} {sc : Scope} {cl : List (Str × Addr)} {fr : List (Nat × Nat)} {elt tg iter : Expr} {ifs : List Expr} {pos : Pos} {wi : TI} {g : TG} {tf : TT} {te : TE} (hc : X.calm = true)
    (K : CompOk X N sc cl fr) (hi : PI X tg iter wi)
    (hb : ∀ C s₀ H₀ ex pn, PG (cxComp X.nox N sc cl C s₀ H₀ ex pn) tg g ∧ PIfs (cxComp X.nox N sc cl C s₀ H₀ ex pn) ifs tf ∧ PE (cxComp X.nox N sc cl C s₀ H₀ ex pn) elt te)
    (hs : ∀ x, foldedSetIterable iter X.env x = pure x := by intro _; rfl) : PE X (.ListComp elt [⟨tg, iter, ifs, 0⟩] sc pos) (tComp N.length fr wi g tf te) := by
  intro pins s σ H Q I h
  rw [eval_ListComp]
  refine wpAny_comprehension_free (use := none) rfl hs K.clos K.kind K.names (thn (hi pins s σ H _ I h) fun v s1 h1 => thn h1 fun itv s2 h2 => ?_)
  have K' : CompOk X.nox N sc cl fr := ⟨K.clos, K.kind, K.nocell, K.names, K.sub, K.has, K.frees⟩
  obtain ⟨it, fp, tn, J, H1, e, I1, T, st1, f1, hw⟩ := h2
  refine wpAny_mono (comp_run (X := X.nox) (pins := pins) (σ := σ) (Q := Q) (RR := fun acc C => compPost (model X.prog X.w) X.A X.xe none (EP X pins σ Q) acc C) rfl hc K' hb ⟨it, fp, tn, J, H1, e, I1.wish _, T, st1, f1, hw⟩ ?_) (fun _ _ q => wpAny_mono q (fun _ _ z => z) fun _ _ z => False.elim z) fun _ _ z => False.elim z
  intro acc s3 H3 H' fp' τ s' I3 f3 J' q
  obtain ⟨m, hm, _⟩ := J'.loc
  exact ⟨m, hm, fun h' hs' => ⟨.ref acc, H', (comp_back I3 f3 J' hs').unwish, rfl, q⟩⟩
end L2
namespace L2
open PySem PySem.Spec PyProof.Rows
/-! ### names and cells of a comprehension, by computation -/
def closL (cells : List (Str × Addr)) : List (Str × NameKind) → List (Str × Addr) → List (Str × Addr)
  | [], cs => cs
  | (n, k) :: r, cs => closL cells r (if k == .free then (n, (cells.lookup n).getD 0) :: cs else cs)
theorem closL_forIn {env : Env} : ∀ (names : List (Str × NameKind)) (cs : List (Str × Addr)), (∀ y ∈ names, y.2 = .free → ∃ c, env.cells.lookup y.1 = some c) →
    (forIn names cs (fun x r => match x with | (name, kind) => if (kind == NameKind.free) = true then (do let a ← cellOf env name; pure (ForInStep.yield ((name, a) :: r))) else pure (ForInStep.yield r)) : Sem (List (Str × Addr))) = pure (closL env.cells names cs)
  | [], cs, _ => by rfl
  | (n, k) :: r, cs, h => by
    rw [List.forIn_cons]
    by_cases hk : k = .free
    · subst hk
      obtain ⟨c, hc⟩ := h (n, .free) List.mem_cons_self rfl
      have e : cellOf env n = pure c := by unfold cellOf; rw [hc]
      simp only [e, closL, hc, Option.getD_some, beq_self_eq_true, if_true]
      exact closL_forIn r _ fun y hy => h y (List.mem_cons_of_mem _ hy)
    · have hb : (k == NameKind.free) = false := by simpa using hk
      simp only [hb, closL, Bool.false_eq_true, if_false]
      exact closL_forIn r _ fun y hy => h y (List.mem_cons_of_mem _ hy)
theorem closureFor_eq {sc : Scope} {env : Env} (h : ∀ y ∈ sc.names, y.2 = .free → ∃ c, env.cells.lookup y.1 = some c) : closureFor sc env = pure (closL env.cells sc.names []) := by
  unfold closureFor
  have := closL_forIn (env := env) sc.names [] h
  simp only [bind_pure_comp, id_map'] at *
  first
    | exact this
    | (rw [this]; rfl)
theorem closL_mem {cells : List (Str × Addr)} : ∀ {names : List (Str × NameKind)} {cs : List (Str × Addr)} {p : Str × Addr}, p ∈ closL cells names cs → p ∈ cs ∨ ((p.1, NameKind.free) ∈ names ∧ p.2 = (cells.lookup p.1).getD 0)
  | [], cs, p, h => .inl h
  | (n, k) :: r, cs, p, h => by
    unfold closL at h
    rcases closL_mem h with q | ⟨q1, q2⟩
    · by_cases hk : k = .free
      · subst hk
        rw [if_pos (by simp)] at q
        rcases List.mem_cons.mp q with e | e
        · subst e; exact .inr ⟨List.mem_cons_self, rfl⟩
        · exact .inl e
      · rw [if_neg (by simpa using hk)] at q
        exact .inl q
    · exact .inr ⟨List.mem_cons_of_mem _ q1, q2⟩
theorem closL_acc {cells : List (Str × Addr)} : ∀ {names : List (Str × NameKind)} {cs : List (Str × Addr)} {x : Str}, x ∈ cs.map (·.1) → x ∈ (closL cells names cs).map (·.1)
  | [], cs, x, h => h
  | (n, k) :: r, cs, x, h => by
    unfold closL
    refine closL_acc ?_
    split
    · rw [List.map_cons]; exact List.mem_cons_of_mem _ h
    · exact h
theorem closL_has {cells : List (Str × Addr)} : ∀ {names : List (Str × NameKind)} {cs : List (Str × Addr)} {x : Str}, (x, NameKind.free) ∈ names → x ∈ (closL cells names cs).map (·.1)
  | [], cs, x, h => by simp at h
  | (n, k) :: r, cs, x, h => by
    unfold closL
    rcases List.mem_cons.mp h with e | e
    · cases e
      rw [if_pos (by simp)]
      exact closL_acc (by simp)
    · exact closL_has e
theorem lookup_mem {β : Type} : ∀ {l : List (Str × β)} {x : Str} {b : β}, l.lookup x = some b → (x, b) ∈ l
  | [], x, b, h => by simp at h
  | (n, c) :: r, x, b, h => by
    rw [List.lookup_cons] at h
    cases hx : x == n with
    | true => rw [hx] at h; cases h; rw [eq_of_beq hx]; exact List.mem_cons_self
    | false => rw [hx] at h; exact List.mem_cons_of_mem _ (lookup_mem h)
theorem lookup_some {β : Type} : ∀ {l : List (Str × β)} {x : Str}, x ∈ l.map (·.1) → ∃ b, l.lookup x = some b
  | [], x, h => by simp at h
  | (n, c) :: r, x, h => by
    rw [List.lookup_cons]
    cases hx : x == n with
    | true => exact ⟨c, rfl⟩
    | false =>
      rw [List.map_cons] at h
      rcases List.mem_cons.mp h with e | e
      · subst e; simp at hx
      · exact lookup_some e
def compChk (N0 N : List Str) (sc0 sc : Scope) (fr : List (Nat × Nat)) : Bool :=
  sc.kind == .function && sc0.kind == .function && sc.names.all (fun x => !(x.2 == .cell)) && sc.names.all (fun x => !(x.2 == .local) || sc.names.lookup x.1 == some .local) &&
  sc.names.all (fun x => !(x.2 == .free) || (sc0.names.lookup x.1 == some .cell || sc0.names.lookup x.1 == some .free)) &&
  fr.all (fun p => match N[p.1]? with | some x => N0[p.2]? == some x && (sc0.names.lookup x == some .cell || sc0.names.lookup x == some .free) && sc.names.lookup x == some .free | none => false)
theorem relabel_free {sc : Scope} {env : Env} {x : Str} (hn : ∀ y ∈ sc.names, y.2 ≠ .cell) (h : (relabel sc env).names.lookup x = some .cell ∨ (relabel sc env).names.lookup x = some .free) : (x, NameKind.free) ∈ sc.names := by
  have all : ∀ (k : NameKind), (k = .cell ∨ k = .free) → (x, k) ∈ (relabel sc env).names → (x, NameKind.free) ∈ sc.names := by
    intro k hk hm
    unfold relabel at hm
    simp only [List.mem_map] at hm
    obtain ⟨⟨n, k'⟩, hy, e⟩ := hm
    dsimp only at e
    split at e
    · rename_i c
      cases e
      simp only [Bool.and_eq_true] at c
      have : k' = .free := by simpa using c.1.1
      rw [← this]; exact hy
    · cases e
      rcases hk with rfl | rfl
      · exact absurd rfl (hn _ hy)
      · exact hy
  rcases h with h | h
  · exact all _ (.inl rfl) (lookup_mem h)
  · exact all _ (.inr rfl) (lookup_mem h)
theorem relabel_get {sc : Scope} {env : Env} {x : Str} : ∀ {names : List (Str × NameKind)}, names.lookup x = some .free →
    (names.map fun (n, k) => if (k == NameKind.free && env.scope.kind == .function && env.kindOf n == some .cell) then (n, NameKind.cell) else (n, k)).lookup x = some .cell ∨
    (names.map fun (n, k) => if (k == NameKind.free && env.scope.kind == .function && env.kindOf n == some .cell) then (n, NameKind.cell) else (n, k)).lookup x = some .free
  | [], h => by simp at h
  | (n, k) :: r, h => by
    rw [List.map_cons]
    rw [List.lookup_cons] at h
    cases hx : x == n with
    | true =>
      rw [hx] at h
      cases h
      dsimp only
      split <;> simp [List.lookup_cons, hx]
    | false =>
      rw [hx] at h
      have ih := relabel_get (sc := sc) (env := env) (x := x) (names := r) h
      dsimp only
      split <;> (rw [List.lookup_cons, hx]; exact ih)
/-- the cells that a context has -/
def HasC (X : Cx) (sc0 : Scope) : Prop := ∀ x, (sc0.names.lookup x = some .cell ∨ sc0.names.lookup x = some .free) → ∃ c, X.env.cells.lookup x = some c
theorem compOkG {X : Cx} {N0 N : List Str} {sc0 sc : Scope} {fr : List (Nat × Nat)} (hN : X.N = N0) (hs : X.env.scope = sc0) (hce : HasC X sc0) (hc : compChk N0 N sc0 sc fr = true) : CompOk X N sc (closL X.env.cells sc.names []) fr := by
  unfold compChk at hc
  simp only [Bool.and_eq_true] at hc
  obtain ⟨⟨⟨⟨⟨c1, c2⟩, c3⟩, c4⟩, c5⟩, c6⟩ := hc
  have nocell : ∀ x ∈ sc.names, x.2 ≠ .cell := fun x hx e => by
    have := List.all_eq_true.mp c3 x hx
    rw [e] at this
    exact absurd this (by decide)
  have cells : ∀ y ∈ sc.names, y.2 = .free → ∃ c, X.env.cells.lookup y.1 = some c := fun y hy e => by
    have := List.all_eq_true.mp c5 y hy
    rw [e] at this
    exact hce y.1 (by simpa using this)
  have sub : ∀ x c, (closL X.env.cells sc.names []).lookup x = some c → X.env.cells.lookup x = some c := fun x c h => by
    rcases closL_mem (lookup_mem h) with q | ⟨q1, q2⟩
    · simp at q
    · obtain ⟨c', hc'⟩ := cells _ q1 rfl
      have hc' : X.env.cells.lookup x = some c' := hc'
      have q2 : c = (X.env.cells.lookup x).getD 0 := q2
      rw [hc'] at q2
      rw [hc', q2]; rfl
  refine ⟨closureFor_eq fun y hy e => cells y hy e, by simpa using c1, nocell, fun x hx e => ?_, sub, fun x h => lookup_some (closL_has (relabel_free nocell h)), fun p hp => ?_⟩
  · have := List.all_eq_true.mp c4 x hx
    rw [e] at this
    simpa using this
  · have := List.all_eq_true.mp c6 p hp
    cases q : N[p.1]? with
    | none => rw [q] at this; simp at this
    | some x =>
      rw [q] at this
      simp only [Bool.and_eq_true, Bool.or_eq_true, beq_iff_eq] at this
      refine ⟨x, rfl, by rw [hN]; exact this.1.1, by rw [hs]; exact this.1.2, ?_⟩
      exact relabel_get (sc := sc) (env := X.env) this.2

theorem hasC_def {X : Cx} {sc0 : Scope} {n0 : Nat} (h : X.env.cells = cellsFrom n0 sc0.names []) (nf : sc0.names.all (fun y => !(y.2 == .free)) = true) : HasC X sc0 := fun x hx => by
  rcases hx with q | q
  · rw [h]; exact cell_has q
  · have := List.all_eq_true.mp nf _ (lookup_mem q)
    exact absurd (show (!(NameKind.free == NameKind.free)) = true from this) (by decide)
/-- in a def's body -/
theorem compOk {X : Cx} {N0 N : List Str} {sc0 sc : Scope} {fr : List (Nat × Nat)} {n0 : Nat} (hN : X.N = N0) (hs : X.env.scope = sc0 ∧ X.env.cells = cellsFrom n0 sc0.names []) (hc : (sc0.names.all (fun y => !(y.2 == .free)) && compChk N0 N sc0 sc fr) = true) : CompOk X N sc (closL X.env.cells sc.names []) fr := by
  rw [Bool.and_eq_true] at hc
  exact compOkG hN hs.1 (hasC_def hs.2 hc.1) hc.2

/-- x = [elt for ..], x a plain local on the same row -/
theorem ps_setC {X : Cx} {N : List Str} {sc : Scope} {cl : List (Str × Addr)} {fr : List (Nat × Nat)} {elt tg iter : Expr} {ifs : List Expr} {pos pos' spos : Pos} {wi : TI} {g : TG} {tf : TT} {te : TE} {i : Nat} {x : Str}
    (hN : X.N.Nodup) (hi' : X.N[i]? = some x) (hx : X.env.scope.names.lookup x = some .local) (hc : X.calm = true)
    (K : CompOk X N sc cl fr) (hi : PI X tg iter wi)
    (hb : ∀ C s₀ H₀ ex pn, PG (cxComp X.nox N sc cl C s₀ H₀ ex pn) tg g ∧ PIfs (cxComp X.nox N sc cl C s₀ H₀ ex pn) ifs tf ∧ PE (cxComp X.nox N sc cl C s₀ H₀ ex pn) elt te)
    (hsw : swapsWith (.ListComp elt [⟨tg, iter, ifs, 0⟩] sc pos) (some (.Name x pos')) spos.line X.env = pure true := by rfl)
    (hs : ∀ x, foldedSetIterable iter X.env x = pure x := by intro _; rfl) : PS X (.Assign [.Name x pos'] (.ListComp elt [⟨tg, iter, ifs, 0⟩] sc pos) spos) (tAsg (tComp N.length fr wi g tf te) (gName i)) := by
  intro pins s σ H D I h
  rw [exec_Assign_Name_used _ _ _ _ hsw]
  refine wpAny_bind (wpAny_standAt (wpAny_bind ?_))
  show wpAny _ X.A (do let _ ← comprehension (.ListComp elt [⟨tg, iter, ifs, 0⟩] sc pos) sc X.env _ (newList []) false (eval iter X.env) (some (assign (.Name x pos') X.env))) _ _ s
  refine wpAny_bind (wpAny_mono (wpAny_comprehension_free (use := some (assign (.Name x pos') X.env)) (Q := fun _ s' => SP X pins D .next s') rfl hs K.clos K.kind K.names
    (thn (hi pins s σ H _ I h) fun v s1 h1 => thn h1 fun itv s2 h2 => ?_)) (fun _ s' hq => wpAny_pure (wpAny_pure hq)) fun _ _ e => e)
  have K' : CompOk X.nox N sc cl fr := ⟨K.clos, K.kind, K.nocell, K.names, K.sub, K.has, K.frees⟩
  obtain ⟨it, fp, tn, J, H1, e, I1, T, st1, f1, hw⟩ := h2
  refine wpAny_mono (comp_run (X := X.nox) (pins := pins) (σ := σ) (Q := fun v H' => D.nx (σ.set i (some v)) H') (RR := fun acc C => compPost (model X.prog X.w) X.A X.xe (some (assign (.Name x pos') X.env)) (fun _ s' => SP X pins D .next s') acc C) rfl hc K' hb ⟨it, fp, tn, J, H1, e, I1.wish _, T, st1, f1, hw⟩ ?_) (fun _ _ q => wpAny_mono q (fun _ _ z => z) fun _ _ z => False.elim z) fun _ _ z => False.elim z
  intro acc s3 H3 H' fp' τ s' I3 f3 J' q
  obtain ⟨m, hm, _⟩ := J'.loc
  have Ib := (comp_back I3 f3 J' (Heap.SameBut.refl _ _)).unwish
  show wpAny _ X.A (assign (.Name x pos') X.env (.ref acc)) _ _ _
  refine wpAny_assign_Name (store_ok2 Ib hN hi' (.inl hx) (v := .ref acc) rfl (fun s'' I'' hsb => ?_) (.inr hx))
  obtain ⟨c, hsb, hcc⟩ := hsb
  have hlt : X.env.locals < s3.heap.objs.size := I3.lt
  have hne : s3.heap.objs.size ≠ c := by
    rcases hcc with e | e
    · rw [e]; exact Nat.ne_of_gt hlt
    · intro z
      obtain ⟨w', o, ho, _⟩ := I3.cell x c e
      exact absurd (Heap.lt_size ho) (by rw [← z]; exact Nat.lt_irrefl _)
  refine ⟨m, hm.sameBut hsb hne, fun h' hs' => ?_⟩
  refine ⟨_, H', I''.turned (t' := s''.toks) (it := s3.heap.objs.size) (fun b o hb e => (hs'.2 b hb).trans e) J'.free (Nat.ne_of_gt hlt) (.inr I3.sz) (fun y c' e z => ?_) (fun p hp z => ?_), q⟩
  · obtain ⟨w', o, ho, _⟩ := I3.cell y c' e
    exact absurd (Heap.lt_size ho) (by rw [z]; exact Nat.lt_irrefl _)
  · exact absurd (Heap.lt_size (I3.pin p hp).1) (by rw [z]; exact Nat.lt_irrefl _)
end L2
namespace L2
open PySem PySem.Spec PyProof.Rows
/-! ### data: scalars, tuples, lists -/
inductive Dt where
  | v (x : V)
  | tup (l : List Dt)
  | lst (l : List Dt)
/-- flat values whose == is data's -/
def Sc (x : V) : Prop := match x with
  | .int _ => True
  | .str _ => True
  | .non => True
  | _ => False
mutual
/-- x stands for d -/
def Rep (H : Hp) (x : V) : Dt → Prop
  | .v y => x = y ∧ Sc y
  | .tup ds => ∃ a xs, x = .ref a ∧ H a = some (.tup xs) ∧ Reps H xs ds
  | .lst ds => ∃ a xs, x = .ref a ∧ H a = some (.lst xs) ∧ Reps H xs ds
def Reps (H : Hp) (xs : List V) : List Dt → Prop
  | [] => xs = []
  | d :: ds => ∃ x r, xs = x :: r ∧ Rep H x d ∧ Reps H r ds
end
theorem Reps.nil {H : Hp} : Reps H [] [] := by unfold Reps; rfl
theorem Reps.cons {H : Hp} {x : V} {xs : List V} {d : Dt} {ds : List Dt} (h : Rep H x d) (t : Reps H xs ds) : Reps H (x :: xs) (d :: ds) := by
  unfold Reps; exact ⟨x, xs, rfl, h, t⟩
theorem Rep.sc {H : Hp} {x : V} (h : Sc x) : Rep H x (.v x) := by unfold Rep; exact ⟨rfl, h⟩
theorem Rep.int {H : Hp} (i : Int) : Rep H (.int i) (.v (.int i)) := .sc trivial
theorem Reps.length {H : Hp} : ∀ {xs : List V} {ds : List Dt}, Reps H xs ds → xs.length = ds.length
  | xs, [], h => by unfold Reps at h; rw [h]; rfl
  | xs, d :: ds, h => by
    unfold Reps at h
    obtain ⟨x, r, rfl, _, h2⟩ := h
    rw [List.length_cons, List.length_cons, Reps.length h2]
theorem Reps.get {H : Hp} : ∀ {xs : List V} {ds : List Dt} {i : Nat} {d : Dt}, Reps H xs ds → ds[i]? = some d → ∃ x, xs[i]? = some x ∧ Rep H x d
  | xs, [], i, d, _, e => by simp at e
  | xs, d' :: ds, i, d, h, e => by
    unfold Reps at h
    obtain ⟨x, r, rfl, h1, h2⟩ := h
    cases i with
    | zero => simp at e; subst e; exact ⟨x, by simp, h1⟩
    | succ i =>
      obtain ⟨y, hy, q⟩ := Reps.get (i := i) (d := d) h2 (by simpa using e)
      exact ⟨y, by simpa using hy, q⟩
theorem Reps.at {H : Hp} {xs : List V} {ds : List Dt} {i : Nat} {x : V} (h : Reps H xs ds) (e : xs[i]? = some x) : ∃ d, ds[i]? = some d ∧ Rep H x d := by
  have hl := h.length
  have hi : i < ds.length := by have := (List.getElem?_eq_some_iff.mp e).1; omega
  obtain ⟨y, hy, q⟩ := h.get (List.getElem?_eq_getElem hi)
  rw [e] at hy; cases hy
  exact ⟨_, List.getElem?_eq_getElem hi, q⟩
theorem Reps.append {H : Hp} : ∀ {xs : List V} {ds : List Dt} {ys : List V} {es : List Dt}, Reps H xs ds → Reps H ys es → Reps H (xs ++ ys) (ds ++ es)
  | xs, [], ys, es, h, g => by unfold Reps at h; subst h; exact g
  | xs, d :: ds, ys, es, h, g => by
    unfold Reps at h
    obtain ⟨x, r, rfl, h1, h2⟩ := h
    exact .cons h1 (Reps.append h2 g)
theorem Reps.take {H : Hp} : ∀ {xs : List V} {ds : List Dt} (n : Nat), Reps H xs ds → Reps H (xs.take n) (ds.take n)
  | xs, ds, 0, _ => by simp; exact .nil
  | xs, [], n + 1, h => by unfold Reps at h; subst h; simp; exact .nil
  | xs, d :: ds, n + 1, h => by
    unfold Reps at h
    obtain ⟨x, r, rfl, h1, h2⟩ := h
    exact .cons h1 (Reps.take n h2)
theorem Reps.drop {H : Hp} : ∀ {xs : List V} {ds : List Dt} (n : Nat), Reps H xs ds → Reps H (xs.drop n) (ds.drop n)
  | xs, ds, 0, h => by simpa using h
  | xs, [], n + 1, h => by unfold Reps at h; subst h; simp; exact .nil
  | xs, d :: ds, n + 1, h => by
    unfold Reps at h
    obtain ⟨x, r, rfl, h1, h2⟩ := h
    simpa using Reps.drop n h2
/-! what was tracked stays -/
mutual
theorem Rep.keep {H H' : Hp} (k : ∀ b o, H b = some o → H' b = some o) {x : V} : ∀ {d : Dt}, Rep H x d → Rep H' x d
  | .v y, h => by unfold Rep at h ⊢; exact h
  | .tup ds, h => by
    unfold Rep at h ⊢
    obtain ⟨a, xs, e, h1, h2⟩ := h
    exact ⟨a, xs, e, k _ _ h1, Reps.keep k h2⟩
  | .lst ds, h => by
    unfold Rep at h ⊢
    obtain ⟨a, xs, e, h1, h2⟩ := h
    exact ⟨a, xs, e, k _ _ h1, Reps.keep k h2⟩
theorem Reps.keep {H H' : Hp} (k : ∀ b o, H b = some o → H' b = some o) {xs : List V} : ∀ {ds : List Dt}, Reps H xs ds → Reps H' xs ds
  | [], h => by unfold Reps at h ⊢; exact h
  | d :: ds, h => by
    unfold Reps at h ⊢
    obtain ⟨x, r, e, h1, h2⟩ := h
    exact ⟨x, r, e, Rep.keep k h1, Reps.keep k h2⟩
end
mutual
/-- data without lists stays whatever is written -/
def Froz : Dt → Prop
  | .v _ => True
  | .tup ds => Frozs ds
  | .lst _ => False
def Frozs : List Dt → Prop
  | [] => True
  | d :: ds => Froz d ∧ Frozs ds
end
mutual
theorem Rep.froz {H H' : Hp} (k : ∀ b xs, H b = some (.tup xs) → H' b = some (.tup xs)) {x : V} : ∀ {d : Dt}, Froz d → Rep H x d → Rep H' x d
  | .v y, _, h => by unfold Rep at h ⊢; exact h
  | .tup ds, f, h => by
    unfold Froz at f
    unfold Rep at h ⊢
    obtain ⟨a, xs, e, h1, h2⟩ := h
    exact ⟨a, xs, e, k _ _ h1, Reps.froz k f h2⟩
  | .lst ds, f, h => by unfold Froz at f; exact f.elim
theorem Reps.froz {H H' : Hp} (k : ∀ b xs, H b = some (.tup xs) → H' b = some (.tup xs)) {xs : List V} : ∀ {ds : List Dt}, Frozs ds → Reps H xs ds → Reps H' xs ds
  | [], _, h => by unfold Reps at h ⊢; exact h
  | d :: ds, f, h => by
    unfold Frozs at f
    unfold Reps at h ⊢
    obtain ⟨x, r, e, h1, h2⟩ := h
    exact ⟨x, r, e, Rep.froz k f.1 h1, Reps.froz k f.2 h2⟩
end
/-! == of data -/
mutual
def eqD : Dt → Dt → Bool
  | .v x, .v y => decide (x = y)
  | .tup a, .tup b => eqDs a b
  | .lst a, .lst b => eqDs a b
  | _, _ => false
def eqDs : List Dt → List Dt → Bool
  | [], [] => true
  | a :: r, b :: t => eqD a b && eqDs r t
  | _, _ => false
end
mutual
theorem eqD_refl : ∀ d : Dt, eqD d d = true
  | .v x => by unfold eqD; simp
  | .tup a => by unfold eqD; exact eqDs_refl a
  | .lst a => by unfold eqD; exact eqDs_refl a
theorem eqDs_refl : ∀ d : List Dt, eqDs d d = true
  | [] => by unfold eqDs; rfl
  | a :: r => by unfold eqDs; rw [eqD_refl a, eqDs_refl r]; rfl
end
mutual
theorem eqD_eq : ∀ {a b : Dt}, eqD a b = true → a = b
  | .v x, .v y, h => by unfold eqD at h; rw [of_decide_eq_true h]
  | .tup a, .tup b, h => by unfold eqD at h; rw [eqDs_eq h]
  | .lst a, .lst b, h => by unfold eqD at h; rw [eqDs_eq h]
  | .v _, .tup _, h => by simp [eqD] at h
  | .v _, .lst _, h => by simp [eqD] at h
  | .tup _, .v _, h => by simp [eqD] at h
  | .tup _, .lst _, h => by simp [eqD] at h
  | .lst _, .v _, h => by simp [eqD] at h
  | .lst _, .tup _, h => by simp [eqD] at h
theorem eqDs_eq : ∀ {a b : List Dt}, eqDs a b = true → a = b
  | [], [], _ => rfl
  | a :: r, b :: t, h => by
    unfold eqDs at h
    rw [Bool.and_eq_true] at h
    rw [eqD_eq h.1, eqDs_eq h.2]
  | [], _ :: _, h => by simp [eqDs] at h
  | _ :: _, [], h => by simp [eqDs] at h
end
theorem eqDs_len : ∀ {a b : List Dt}, a.length ≠ b.length → eqDs a b = false
  | [], [], h => absurd rfl h
  | [], _ :: _, _ => by unfold eqDs; rfl
  | _ :: _, [], _ => by unfold eqDs; rfl
  | a :: r, b :: t, h => by
    unfold eqDs
    rw [eqDs_len (a := r) (b := t) (fun e => h (by rw [List.length_cons, List.length_cons, e])), Bool.and_false]
theorem eqDs_all : ∀ {a b : List Dt} {e : Nat → Bool}, a.length = b.length → (∀ (j : Nat) x y, a[j]? = some x → b[j]? = some y → e j = eqD x y) → (List.range a.length).all e = eqDs a b
  | [], [], e, _, _ => by unfold eqDs; rfl
  | [], _ :: _, _, h, _ => by simp at h
  | _ :: _, [], _, h, _ => by simp at h
  | a :: r, b :: t, e, h, g => by
    have h' : r.length = t.length := by simpa using h
    have := eqDs_all (a := r) (b := t) (e := fun j => e (j + 1)) h' fun j x y hx hy => g (j + 1) x y (by simpa using hx) (by simpa using hy)
    unfold eqDs
    rw [List.length_cons, List.range_succ_eq_map, List.all_cons, List.all_map, ← this, g 0 a b (by simp) (by simp)]
    rfl
mutual
/-- how deep -/
def depD : Dt → Nat
  | .v _ => 0
  | .tup l => depDs l + 1
  | .lst l => depDs l + 1
def depDs : List Dt → Nat
  | [] => 0
  | d :: r => max (depD d) (depDs r)
end
theorem depDs_get : ∀ {l : List Dt} {j : Nat} {x : Dt}, l[j]? = some x → depD x ≤ depDs l
  | [], j, x, h => by simp at h
  | d :: r, j, x, h => by
    unfold depDs
    cases j with
    | zero => simp at h; subst h; exact Nat.le_max_left _ _
    | succ j => exact Nat.le_trans (depDs_get (l := r) (j := j) (by simpa using h)) (Nat.le_max_right _ _)
section
variable {X : Cx} {pins : List (Addr × Obj)} {σ : St} {H : Hp} {s : Shared}
theorem Inv.isList (I : Inv X pins σ H s) {a : Addr} {xs : List V} (h : H a = some (.lst xs)) : ∃ its : List Value, Vals xs its ∧ s.heap.IsList a its.toArray := by
  obtain ⟨z, its, n, r, e⟩ := I.hok a _ h
  exact ⟨its, r, _, e, rfl, n, rfl⟩
theorem Inv.isTup (I : Inv X pins σ H s) {a : Addr} {xs : List V} (h : H a = some (.tup xs)) : ∃ its : List Value, Vals xs its ∧ IsTup s.heap a its.toArray := by
  obtain ⟨z, its, r, e⟩ := I.hok a _ h
  exact ⟨its, r, e⟩
theorem eqAt_sc {A : Around} {x y : V} {u v : Value} (hx : Sc x) (hy : Sc y) (rx : RelV x u) (ry : RelV y v) : SeqAt.EqAt A s u v (decide (x = y)) := by
  cases x with
  | int i =>
    obtain ⟨t, rfl⟩ := rx
    cases y with
    | int j => obtain ⟨t', rfl⟩ := ry; rw [dec_int]; exact SeqAt.EqAt.int_int i t j t'
    | str j => obtain ⟨t', rfl⟩ := ry; rw [decide_eq_false (by simp)]; exact SeqAt.EqAt.int_str i t j t'
    | non => cases ry; rw [decide_eq_false (by simp)]; exact SeqAt.EqAt.int_none i t
    | _ => exact hy.elim
  | str i =>
    obtain ⟨t, rfl⟩ := rx
    cases y with
    | int j => obtain ⟨t', rfl⟩ := ry; rw [decide_eq_false (by simp)]; exact SeqAt.EqAt.str_int i t j t'
    | str j => obtain ⟨t', rfl⟩ := ry; rw [dec_str]; exact SeqAt.EqAt.str_str i t j t'
    | non => cases ry; rw [decide_eq_false (by simp)]; exact SeqAt.EqAt.str_none i t
    | _ => exact hy.elim
  | non =>
    cases rx
    cases y with
    | int j => obtain ⟨t', rfl⟩ := ry; rw [decide_eq_false (by simp)]; exact SeqAt.EqAt.none_int j t'
    | str j => obtain ⟨t', rfl⟩ := ry; rw [decide_eq_false (by simp)]; exact SeqAt.EqAt.none_str j t'
    | non => cases ry; rw [decide_eq_true rfl]; exact SeqAt.EqAt.same .none
    | _ => exact hy.elim
  | _ => exact hx.elim
theorem A_in1 (A : Around) : A.in1.units = A.units + 1 := rfl
mutual
theorem Rep.inj {x : V} : ∀ {d e : Dt}, Rep H x d → Rep H x e → d = e
  | .v a, e, h, g => by
    unfold Rep at h
    obtain ⟨rfl, sx⟩ := h
    cases e with
    | v b => unfold Rep at g; rw [g.1]
    | tup b => unfold Rep at g; obtain ⟨a, xs, rfl, _⟩ := g; exact sx.elim
    | lst b => unfold Rep at g; obtain ⟨a, xs, rfl, _⟩ := g; exact sx.elim
  | .tup ds, e, h, g => by
    unfold Rep at h
    obtain ⟨a, xs, rfl, ha, hd⟩ := h
    cases e with
    | v b => unfold Rep at g; obtain ⟨rfl, sx⟩ := g; exact sx.elim
    | tup b =>
      unfold Rep at g
      obtain ⟨a', xs', q, ha', hd'⟩ := g
      cases q
      rw [ha] at ha'; cases ha'
      rw [Reps.inj hd hd']
    | lst b =>
      unfold Rep at g
      obtain ⟨a', xs', q, ha', hd'⟩ := g
      cases q
      rw [ha] at ha'; cases ha'
  | .lst ds, e, h, g => by
    unfold Rep at h
    obtain ⟨a, xs, rfl, ha, hd⟩ := h
    cases e with
    | v b => unfold Rep at g; obtain ⟨rfl, sx⟩ := g; exact sx.elim
    | lst b =>
      unfold Rep at g
      obtain ⟨a', xs', q, ha', hd'⟩ := g
      cases q
      rw [ha] at ha'; cases ha'
      rw [Reps.inj hd hd']
    | tup b =>
      unfold Rep at g
      obtain ⟨a', xs', q, ha', hd'⟩ := g
      cases q
      rw [ha] at ha'; cases ha'
theorem Reps.inj {xs : List V} : ∀ {d e : List Dt}, Reps H xs d → Reps H xs e → d = e
  | [], [], _, _ => rfl
  | [], e :: es, h, g => by
    unfold Reps at h g
    obtain ⟨x, r, q, _⟩ := g
    rw [h] at q; cases q
  | d :: ds, [], h, g => by
    unfold Reps at h g
    obtain ⟨x, r, q, _⟩ := h
    rw [g] at q; cases q
  | d :: ds, e :: es, h, g => by
    unfold Reps at h g
    obtain ⟨x, r, rfl, h1, h2⟩ := h
    obtain ⟨x', r', q, g1, g2⟩ := g
    injection q with q1 q2
    subst q1 q2
    rw [Rep.inj h1 g1, Reps.inj h2 g2]
end
theorem eqAt_v (I : Inv X pins σ H s) {A : Around} {x y : V} {u v : Value} {e : Dt} (hu : A.units < cLine) (rx : RelV x u) (ry : RelV y v) (sx : Sc x) (hy : Rep H y e) : SeqAt.EqAt A s u v (eqD (.v x) e) := by
  cases e with
  | v b =>
    unfold Rep at hy
    obtain ⟨rfl, sy⟩ := hy
    unfold eqD
    exact eqAt_sc sx sy rx ry
  | tup es =>
    unfold Rep at hy
    obtain ⟨b, ys, rfl, hb, _⟩ := hy
    cases ry
    obtain ⟨its, _, ht⟩ := I.isTup hb
    have e0 : eqD (.v x) (.tup es) = false := by simp [eqD]
    rw [e0]
    cases x with
    | int i => obtain ⟨t, rfl⟩ := rx; exact SeqAt.EqAt.int_tuple i t ht hu
    | str i => obtain ⟨t, rfl⟩ := rx; exact SeqAt.EqAt.str_tuple i t ht hu
    | non => cases rx; exact SeqAt.EqAt.none_tuple ht hu
    | _ => exact sx.elim
  | lst es =>
    unfold Rep at hy
    obtain ⟨b, ys, rfl, hb, _⟩ := hy
    cases ry
    obtain ⟨its, _, ht⟩ := I.isList hb
    have e0 : eqD (.v x) (.lst es) = false := by simp [eqD]
    rw [e0]
    cases x with
    | int i => obtain ⟨t, rfl⟩ := rx; exact SeqAt.EqAt.int_list i t ht hu
    | str i => obtain ⟨t, rfl⟩ := rx; exact SeqAt.EqAt.str_list i t ht hu
    | non => cases rx; exact SeqAt.EqAt.none_list ht hu
    | _ => exact sx.elim
theorem eqAt_tv (I : Inv X pins σ H s) {A : Around} {a : Addr} {xs : List V} {y : V} {v : Value} (hu : A.units < cLine) (ha : H a = some (.tup xs)) (ry : RelV y v) (sy : Sc y) : SeqAt.EqAt A s (.ref a) v false := by
  obtain ⟨its, _, ht⟩ := I.isTup ha
  cases y with
  | int i => obtain ⟨t, rfl⟩ := ry; exact SeqAt.EqAt.tuple_int i t ht hu
  | str i => obtain ⟨t, rfl⟩ := ry; exact SeqAt.EqAt.tuple_str i t ht hu
  | non => cases ry; exact SeqAt.EqAt.tuple_none ht hu
  | _ => exact sy.elim
theorem eqAt_lv (I : Inv X pins σ H s) {A : Around} {a : Addr} {xs : List V} {y : V} {v : Value} (hu : A.units < cLine) (ha : H a = some (.lst xs)) (ry : RelV y v) (sy : Sc y) : SeqAt.EqAt A s (.ref a) v false := by
  obtain ⟨its, _, ht⟩ := I.isList ha
  cases y with
  | int i => obtain ⟨t, rfl⟩ := ry; exact SeqAt.EqAt.list_int i t ht hu
  | str i => obtain ⟨t, rfl⟩ := ry; exact SeqAt.EqAt.list_str i t ht hu
  | non => cases ry; exact SeqAt.EqAt.list_none ht hu
  | _ => exact sy.elim
/-- the items of two rows -/
theorem eqAt_items {A : Around} {xs ys : List V} {its jts : List Value} {ds es : List Dt} (rx : Vals xs its) (ry : Vals ys jts) (hx : Reps H xs ds) (hy : Reps H ys es)
    (ih : ∀ {x y : V} {u v : Value} {d e : Dt}, (∃ j : Nat, ds[j]? = some d) → RelV x u → RelV y v → Rep H x d → Rep H y e → SeqAt.EqAt A s u v (eqD d e)) :
    ∀ j (h1 : j < its.toArray.size) (h2 : j < jts.toArray.size), SeqAt.EqAt A s its.toArray[j] jts.toArray[j] ((ds[j]?).elim false fun d => (es[j]?).elim false fun e => eqD d e) := by
  intro j h1 h2
  have l1 := rx.length
  have l2 := ry.length
  have l3 := hx.length
  have l4 := hy.length
  have h1' : j < its.length := by simpa using h1
  have h2' : j < jts.length := by simpa using h2
  have k1 : j < ds.length := by omega
  have k2 : j < es.length := by omega
  obtain ⟨x, ex, qx⟩ := hx.get (List.getElem?_eq_getElem k1)
  obtain ⟨y, ey, qy⟩ := hy.get (List.getElem?_eq_getElem k2)
  obtain ⟨u, eu, ru⟩ := rx.get ex
  obtain ⟨v, ev, rv⟩ := ry.get ey
  rw [List.getElem?_eq_getElem k1, List.getElem?_eq_getElem k2]
  have eu' : its.toArray[j] = u := by
    rw [List.getElem?_eq_getElem h1'] at eu
    simpa using eu
  have ev' : jts.toArray[j] = v := by
    rw [List.getElem?_eq_getElem h2'] at ev
    simpa using ev
  rw [eu', ev']
  exact ih ⟨j, List.getElem?_eq_getElem k1⟩ ru rv qx qy
theorem elim_eqD {ds es : List Dt} : ∀ (j : Nat) x y, ds[j]? = some x → es[j]? = some y → ((ds[j]?).elim false fun d => (es[j]?).elim false fun e => eqD d e) = eqD x y := fun j x y hx hy => by rw [hx, hy]; rfl
theorem range_min_all {n m : Nat} {e : Nat → Bool} : ((List.range (min n m)).all e && n == m) = (if n = m then (List.range n).all e else false) := by
  by_cases h : n = m
  · subst h; simp
  · rw [if_neg h]
    have : (n == m) = false := by simpa using h
    rw [this, Bool.and_false]
theorem rcAt_tups (I : Inv X pins σ H s) {A : Around} {a b : Addr} {xs ys : List V} {ds es : List Dt} (hu : A.units < cLine) (ha : H a = some (.tup xs)) (hb : H b = some (.tup ys)) (hx : Reps H xs ds) (hy : Reps H ys es)
    (ih : ∀ {x y : V} {u v : Value} {d e : Dt}, (∃ j : Nat, ds[j]? = some d) → RelV x u → RelV y v → Rep H x d → Rep H y e → SeqAt.EqAt A.in1 s u v (eqD d e)) : SeqAt.RcAt A s (.ref a) (.ref b) (eqDs ds es) := by
  obtain ⟨its, rx, hl⟩ := I.isTup ha
  obtain ⟨jts, ry, hr⟩ := I.isTup hb
  have := SeqAt.RcAt.tuples hl hr hu (eqAt_items rx ry hx hy ih)
  have l1 := rx.length
  have l2 := ry.length
  have l3 := hx.length
  have l4 := hy.length
  rw [range_min_all] at this
  simp only [List.size_toArray] at this
  by_cases h : its.length = jts.length
  · rw [if_pos h] at this
    have e := eqDs_all (a := ds) (b := es) (e := fun j => (ds[j]?).elim false fun d => (es[j]?).elim false fun e => eqD d e) (by omega) elim_eqD
    rw [← e, show ds.length = its.length by omega]
    exact this
  · rw [if_neg h] at this
    rw [eqDs_len (by omega)]
    exact this
theorem rcAt_lsts (I : Inv X pins σ H s) {A : Around} {a b : Addr} {xs ys : List V} {ds es : List Dt} (hu : A.units < cLine) (ha : H a = some (.lst xs)) (hb : H b = some (.lst ys)) (hx : Reps H xs ds) (hy : Reps H ys es)
    (ih : ∀ {x y : V} {u v : Value} {d e : Dt}, (∃ j : Nat, ds[j]? = some d) → RelV x u → RelV y v → Rep H x d → Rep H y e → SeqAt.EqAt A.in1 s u v (eqD d e)) : SeqAt.RcAt A s (.ref a) (.ref b) (eqDs ds es) := by
  obtain ⟨its, rx, hl⟩ := I.isList ha
  obtain ⟨jts, ry, hr⟩ := I.isList hb
  have l1 := rx.length
  have l2 := ry.length
  have l3 := hx.length
  have l4 := hy.length
  by_cases h : its.length = jts.length
  · have := SeqAt.RcAt.lists hl hr (by simpa using h) hu (eqAt_items rx ry hx hy ih)
    have e := eqDs_all (a := ds) (b := es) (e := fun j => (ds[j]?).elim false fun d => (es[j]?).elim false fun e => eqD d e) (by omega) elim_eqD
    rw [← e, show ds.length = its.toArray.size by rw [List.size_toArray]; omega]
    exact this
  · rw [eqDs_len (by omega)]
    exact SeqAt.RcAt.lists_lengths hl hr (by simpa using h) hu
/-- two data compared -/
theorem eqAt_rep (I : Inv X pins σ H s) : ∀ (n : Nat) (A : Around) {x y : V} {u v : Value} {d e : Dt}, depD d ≤ n → A.units + n < cLine → RelV x u → RelV y v → Rep H x d → Rep H y e → SeqAt.EqAt A s u v (eqD d e) := by
  intro n
  induction n with
  | zero =>
    intro A x y u v d e hd hu rx ry hx hy
    cases d with
    | v a =>
      unfold Rep at hx
      obtain ⟨rfl, sx⟩ := hx
      exact eqAt_v I (by omega) rx ry sx hy
    | tup ds => unfold depD at hd; omega
    | lst ds => unfold depD at hd; omega
  | succ n ih =>
    intro A x y u v d e hd hu rx ry hx hy
    have hx0 := hx
    have hy0 := hy
    cases d with
    | v a =>
      unfold Rep at hx
      obtain ⟨rfl, sx⟩ := hx
      exact eqAt_v I (by omega) rx ry sx hy
    | tup ds =>
      unfold depD at hd
      unfold Rep at hx
      obtain ⟨a, xs, rfl, ha, hxs⟩ := hx
      cases rx
      cases e with
      | v b =>
        unfold Rep at hy
        obtain ⟨rfl, sy⟩ := hy
        have e0 : eqD (.tup ds) (.v y) = false := by simp [eqD]
        rw [e0]
        exact eqAt_tv I (by omega) ha ry sy
      | tup es =>
        unfold Rep at hy
        obtain ⟨b, ys, rfl, hb, hys⟩ := hy
        cases ry
        by_cases ab : a = b
        · subst ab
          rw [Rep.inj hx0 hy0, eqD_refl]
          exact SeqAt.EqAt.same _
        · refine .of_refs ab ?_
          unfold eqD
          refine rcAt_tups I (by omega) ha hb hxs hys fun {x y u v d e} ⟨j, hj⟩ r1 r2 q1 q2 => ih A.in1 ?_ ?_ r1 r2 q1 q2
          · have := depDs_get hj; omega
          · rw [A_in1]; omega
      | lst es =>
        unfold Rep at hy
        obtain ⟨b, ys, rfl, hb, hys⟩ := hy
        cases ry
        have e0 : eqD (.tup ds) (.lst es) = false := by simp [eqD]
        rw [e0]
        obtain ⟨its, _, ht⟩ := I.isTup ha
        obtain ⟨jts, _, hl⟩ := I.isList hb
        exact SeqAt.EqAt.tuple_list ht hl (by omega)
    | lst ds =>
      unfold depD at hd
      unfold Rep at hx
      obtain ⟨a, xs, rfl, ha, hxs⟩ := hx
      cases rx
      cases e with
      | v b =>
        unfold Rep at hy
        obtain ⟨rfl, sy⟩ := hy
        have e0 : eqD (.lst ds) (.v y) = false := by simp [eqD]
        rw [e0]
        exact eqAt_lv I (by omega) ha ry sy
      | lst es =>
        unfold Rep at hy
        obtain ⟨b, ys, rfl, hb, hys⟩ := hy
        cases ry
        by_cases ab : a = b
        · subst ab
          rw [Rep.inj hx0 hy0, eqD_refl]
          exact SeqAt.EqAt.same _
        · refine .of_refs ab ?_
          unfold eqD
          refine rcAt_lsts I (by omega) ha hb hxs hys fun {x y u v d e} ⟨j, hj⟩ r1 r2 q1 q2 => ih A.in1 ?_ ?_ r1 r2 q1 q2
          · have := depDs_get hj; omega
          · rw [A_in1]; omega
      | tup es =>
        unfold Rep at hy
        obtain ⟨b, ys, rfl, hb, hys⟩ := hy
        cases ry
        have e0 : eqD (.lst ds) (.tup es) = false := by simp [eqD]
        rw [e0]
        obtain ⟨its, _, ht⟩ := I.isTup hb
        obtain ⟨jts, _, hl⟩ := I.isList ha
        exact SeqAt.EqAt.list_tuple hl ht (by omega)
end
end L2
namespace L2
open PySem PySem.Spec PyProof.Rows
section
variable {X : Cx}
/-! ### ==, != of data -/
def rEqD (k : Nat) : R2 := fun x y H Q => ∃ d e, Rep H x d ∧ Rep H y e ∧ depD d ≤ k ∧ Q (.bl (eqD d e)) H
def rNeD (k : Nat) : R2 := fun x y H Q => ∃ d e, Rep H x d ∧ Rep H y e ∧ depD d ≤ k ∧ Q (.bl (!eqD d e)) H
theorem rc_rep {pins : List (Addr × Obj)} {σ : St} {H : Hp} {s : Shared} (I : Inv X pins σ H s) {n : Nat} {A : Around} {x y : V} {u v : Value} {d e : Dt} (hd : depD d ≤ n) (hu : A.units + n < cLine) (rx : RelV x u) (ry : RelV y v) (hx : Rep H x d) (hy : Rep H y e) :
    SeqAt.RcAt A s u v (eqD d e) := by
  cases d with
  | v a =>
    unfold Rep at hx
    obtain ⟨rfl, sx⟩ := hx
    cases e with
    | v b =>
      unfold Rep at hy
      obtain ⟨rfl, sy⟩ := hy
      unfold eqD
      cases x with
      | int i =>
        obtain ⟨t, rfl⟩ := rx
        cases y with
        | int j => obtain ⟨t', rfl⟩ := ry; rw [dec_int]; exact SeqAt.RcAt.int_int i t j t'
        | str j => obtain ⟨t', rfl⟩ := ry; rw [decide_eq_false (by simp)]; exact SeqAt.RcAt.int_str i t j t'
        | non => cases ry; rw [decide_eq_false (by simp)]; exact SeqAt.RcAt.int_none i t
        | _ => exact sy.elim
      | str i =>
        obtain ⟨t, rfl⟩ := rx
        cases y with
        | int j => obtain ⟨t', rfl⟩ := ry; rw [decide_eq_false (by simp)]; exact SeqAt.RcAt.str_int i t j t'
        | str j => obtain ⟨t', rfl⟩ := ry; rw [dec_str]; exact SeqAt.RcAt.str_str i t j t'
        | non => cases ry; rw [decide_eq_false (by simp)]; exact SeqAt.RcAt.str_none i t
        | _ => exact sy.elim
      | non =>
        cases rx
        cases y with
        | int j => obtain ⟨t', rfl⟩ := ry; rw [decide_eq_false (by simp)]; exact SeqAt.RcAt.none_int j t'
        | str j => obtain ⟨t', rfl⟩ := ry; rw [decide_eq_false (by simp)]; exact SeqAt.RcAt.none_str j t'
        | non => cases ry; rw [decide_eq_true rfl]; exact SeqAt.RcAt.none_none
        | _ => exact sy.elim
      | _ => exact sx.elim
    | tup es =>
      unfold Rep at hy
      obtain ⟨b, ys, rfl, hb, _⟩ := hy
      cases ry
      obtain ⟨its, _, ht⟩ := I.isTup hb
      have e0 : eqD (.v x) (.tup es) = false := by simp [eqD]
      rw [e0]
      cases x with
      | int i => obtain ⟨t, rfl⟩ := rx; exact SeqAt.RcAt.int_tuple i t ht (by omega)
      | str i => obtain ⟨t, rfl⟩ := rx; exact SeqAt.RcAt.str_tuple i t ht (by omega)
      | non => cases rx; exact SeqAt.RcAt.none_tuple ht (by omega)
      | _ => exact sx.elim
    | lst es =>
      unfold Rep at hy
      obtain ⟨b, ys, rfl, hb, _⟩ := hy
      cases ry
      obtain ⟨its, _, ht⟩ := I.isList hb
      have e0 : eqD (.v x) (.lst es) = false := by simp [eqD]
      rw [e0]
      cases x with
      | int i => obtain ⟨t, rfl⟩ := rx; exact SeqAt.RcAt.int_list i t ht (by omega)
      | str i => obtain ⟨t, rfl⟩ := rx; exact SeqAt.RcAt.str_list i t ht (by omega)
      | non => cases rx; exact SeqAt.RcAt.none_list ht (by omega)
      | _ => exact sx.elim
  | tup ds =>
    unfold depD at hd
    unfold Rep at hx
    obtain ⟨a, xs, rfl, ha, hxs⟩ := hx
    cases rx
    cases e with
    | v b =>
      unfold Rep at hy
      obtain ⟨rfl, sy⟩ := hy
      have e0 : eqD (.tup ds) (.v y) = false := by simp [eqD]
      rw [e0]
      obtain ⟨its, _, ht⟩ := I.isTup ha
      cases y with
      | int i => obtain ⟨t, rfl⟩ := ry; exact SeqAt.RcAt.tuple_int i t ht (by omega)
      | str i => obtain ⟨t, rfl⟩ := ry; exact SeqAt.RcAt.tuple_str i t ht (by omega)
      | non => cases ry; exact SeqAt.RcAt.tuple_none ht (by omega)
      | _ => exact sy.elim
    | tup es =>
      unfold Rep at hy
      obtain ⟨b, ys, rfl, hb, hys⟩ := hy
      cases ry
      unfold eqD
      refine rcAt_tups I (by omega) ha hb hxs hys fun {x y u v d e} ⟨j, hj⟩ r1 r2 q1 q2 => eqAt_rep I (n - 1) A.in1 ?_ ?_ r1 r2 q1 q2
      · have := depDs_get hj; omega
      · rw [A_in1]; omega
    | lst es =>
      unfold Rep at hy
      obtain ⟨b, ys, rfl, hb, hys⟩ := hy
      cases ry
      have e0 : eqD (.tup ds) (.lst es) = false := by simp [eqD]
      rw [e0]
      obtain ⟨its, _, ht⟩ := I.isTup ha
      obtain ⟨jts, _, hl⟩ := I.isList hb
      exact SeqAt.RcAt.tuple_list ht hl (by omega)
  | lst ds =>
    unfold depD at hd
    unfold Rep at hx
    obtain ⟨a, xs, rfl, ha, hxs⟩ := hx
    cases rx
    cases e with
    | v b =>
      unfold Rep at hy
      obtain ⟨rfl, sy⟩ := hy
      have e0 : eqD (.lst ds) (.v y) = false := by simp [eqD]
      rw [e0]
      obtain ⟨its, _, ht⟩ := I.isList ha
      cases y with
      | int i => obtain ⟨t, rfl⟩ := ry; exact SeqAt.RcAt.list_int i t ht (by omega)
      | str i => obtain ⟨t, rfl⟩ := ry; exact SeqAt.RcAt.list_str i t ht (by omega)
      | non => cases ry; exact SeqAt.RcAt.list_none ht (by omega)
      | _ => exact sy.elim
    | lst es =>
      unfold Rep at hy
      obtain ⟨b, ys, rfl, hb, hys⟩ := hy
      cases ry
      unfold eqD
      refine rcAt_lsts I (by omega) ha hb hxs hys fun {x y u v d e} ⟨j, hj⟩ r1 r2 q1 q2 => eqAt_rep I (n - 1) A.in1 ?_ ?_ r1 r2 q1 q2
      · have := depDs_get hj; omega
      · rw [A_in1]; omega
    | tup es =>
      unfold Rep at hy
      obtain ⟨b, ys, rfl, hb, hys⟩ := hy
      cases ry
      have e0 : eqD (.lst ds) (.tup es) = false := by simp [eqD]
      rw [e0]
      obtain ⟨its, _, ht⟩ := I.isTup hb
      obtain ⟨jts, _, hl⟩ := I.isList ha
      exact SeqAt.RcAt.list_tuple hl ht (by omega)
theorem op_eqD {k : Nat} (hu : X.A.units + k < cLine) : OpR X (compareOp .Eq) (rEqD k) := by
  intro pins s σ H x y v u Q I rx ry h
  obtain ⟨d, e, hx, hy, hd, q⟩ := h
  exact rc_rep I hd hu rx ry hx hy X.prog X.w X.xe _ ⟨.bl (eqD d e), H, I, rfl, q⟩
/-- != of two lists, of two tuples -/
def rNeL (k : Nat) : R2 := fun x y H Q => ∃ a b xs ys ds es, x = .ref a ∧ y = .ref b ∧ ((H a = some (.lst xs) ∧ H b = some (.lst ys)) ∨ (H a = some (.tup xs) ∧ H b = some (.tup ys))) ∧ Reps H xs ds ∧ Reps H ys es ∧ depDs ds ≤ k ∧ Q (.bl (!eqDs ds es)) H
theorem op_neL {k : Nat} (hu : X.A.units + k + 1 < cLine) : OpR X (compareOp .NotEq) (rNeL k) := by
  intro pins s σ H x y v u Q I rx ry h
  obtain ⟨a, b, xs, ys, ds, es, rfl, rfl, hab, hx, hy, hd, q⟩ := h
  cases rx; cases ry
  have l3 := hx.length
  have l4 := hy.length
  have ih : ∀ {x y : V} {u v : Value} {d e : Dt}, (∃ j : Nat, ds[j]? = some d) → RelV x u → RelV y v → Rep H x d → Rep H y e → SeqAt.EqAt X.A.in1 s u v (eqD d e) := fun {x y u v d e} ⟨j, hj⟩ r1 r2 q1 q2 =>
    eqAt_rep I k X.A.in1 (Nat.le_trans (depDs_get hj) hd) (by rw [A_in1]; omega) r1 r2 q1 q2
  rcases hab with ⟨ha, hb⟩ | ⟨ha, hb⟩
  · obtain ⟨its, r1, hl⟩ := I.isList ha
    obtain ⟨jts, r2, hr⟩ := I.isList hb
    have l1 := r1.length
    have l2 := r2.length
    by_cases h : its.length = jts.length
    · refine (SeqAt.RcNeAt.lists (A := X.A) hl hr (by simpa using h) (by omega) (eqAt_items r1 r2 hx hy ih) X.prog X.w X.xe _ ?_ : wpAny _ _ (richCompare .NotEq _ _) _ _ _)
      have e := eqDs_all (a := ds) (b := es) (e := fun j => (ds[j]?).elim false fun d => (es[j]?).elim false fun e => eqD d e) (by omega) elim_eqD
      rw [← e] at q
      rw [show its.toArray.size = ds.length by rw [List.size_toArray]; omega]
      exact ⟨.bl _, H, I, rfl, q⟩
    · refine (SeqAt.RcNeAt.lists_lengths (A := X.A) hl hr (by simpa using h) (by omega) X.prog X.w X.xe _ ?_ : wpAny _ _ (richCompare .NotEq _ _) _ _ _)
      rw [eqDs_len (by omega)] at q
      exact ⟨.bl true, H, I, rfl, q⟩
  · obtain ⟨its, r1, hl⟩ := I.isTup ha
    obtain ⟨jts, r2, hr⟩ := I.isTup hb
    have l1 := r1.length
    have l2 := r2.length
    refine (SeqAt.RcNeAt.tuples (A := X.A) hl hr (by omega) (eqAt_items r1 r2 hx hy ih) X.prog X.w X.xe _ ?_ : wpAny _ _ (richCompare .NotEq _ _) _ _ _)
    rw [range_min_all]
    simp only [List.size_toArray]
    by_cases h : its.length = jts.length
    · rw [if_pos h]
      have e := eqDs_all (a := ds) (b := es) (e := fun j => (ds[j]?).elim false fun d => (es[j]?).elim false fun e => eqD d e) (by omega) elim_eqD
      rw [← e] at q
      rw [show its.length = ds.length by omega]
      exact ⟨.bl _, H, I, rfl, q⟩
    · rw [if_neg h]
      rw [eqDs_len (by omega)] at q
      exact ⟨.bl true, H, I, rfl, q⟩
/-! ### all, any of a list of bools -/
theorem Vals.bools : ∀ {bs : List Bool} {us : List Value}, Vals (bs.map V.bl) us → ∀ (i : Nat) (v : Value), us[i]? = some v → ∃ b, bs[i]? = some b ∧ v = .bool b
  | [], us, h, i, v, e => by cases h; simp at e
  | b :: bs, us, h, i, v, e => by
    cases h with
    | cons r t =>
      cases i with
      | zero => simp at e; subst e; cases r; exact ⟨b, by simp, rfl⟩
      | succ i =>
        obtain ⟨c, h1, h2⟩ := Vals.bools t i v (by simpa using e)
        exact ⟨c, by simpa using h1, h2⟩
theorem call_all (hc : X.calm = true) : CallR X (.builtin "all") (fun xs H Q => ∃ (p : Addr) (bs : List Bool), xs = [.ref p] ∧ SqL X.K H p (bs.map V.bl) ∧ Q (.bl (bs.all id)) H) := by
  intro pins s σ H xs us Q I r h
  obtain ⟨p, bs, rfl, hp, q⟩ := h
  obtain ⟨u, rfl, ru⟩ := vals1 r
  cases ru
  obtain ⟨its, rv, ⟨o, n, ho, hcl, _, hd⟩, hz⟩ := I.list hp
  have hl : s.heap.IsList p its.toArray := ⟨o, ho, hcl, n, hd⟩
  have hlt : p < s.heap.objs.size := Heap.lt_size ho
  have hh : X.A.handled = none := I.ok.hd hc
  refine call_all_walk (wpAny_pyIter_list hl ?_)
  refine ⟨s.heap.objs.size, [s.heap.objs.size, p], [s.heap.objs.size], its.toArray.size, _, _, fun i => (bs[i]?).getD true, rfl, Walks.list (A := X.A.in1) hh _ p (Nat.ne_of_lt hlt) its.toArray,
    ⟨⟨_, Heap.get?_push_size _ rfl, rfl, rfl⟩, hl.push _⟩, fun i v s' Q' E' hP hQ => ?_, fun h' tk hk => ?_⟩
  · obtain ⟨b, e, rfl⟩ := rv.bools i v (by simpa using hP)
    simp only [e, Option.getD_some] at hQ
    exact wpAny_truthy_bool hQ
  · have e : ((List.range its.toArray.size).all fun i => (bs[i]?).getD true) = bs.all id := by
      rw [List.size_toArray, ← rv.length, List.length_map]; exact LSm.range_all bs
    rw [e]
    exact ⟨.bl _, H, I.kept (LSm.kept_iter hk), rfl, q⟩
/-! ### isinstance(x, T) for a built-in type -/
theorem call_isinst : CallR X (.builtin "isinstance") (fun xs H Q => ∃ x n t b, xs = [x, .ty n] ∧ TyOf X.K H x t ∧ PySem.W.kitOne X.K t (.type n) = some b ∧ Q (.bl b) H) := by
  intro pins s σ H xs us Q I r h
  obtain ⟨x, n, t, b, rfl, ty, e, q⟩ := h
  obtain ⟨u, c, rfl, ru, rc⟩ := vals2 r
  cases rc
  exact isinst_ok I ru ty e fun tk => ⟨.bl b, H, I.tok tk, rfl, q⟩
/-! ### list.insert -/
def rInsert : V → List V → Hp → VK → Prop := fun x vs H Q => ∃ l xs i y, x = .ref l ∧ vs = [.int i, y] ∧ H l = some (.lst xs) ∧ xs.length < sizeLine ∧ 0 ≤ i ∧ i ≤ xs.length ∧ Q .non (upd H l (.lst (xs.take i.toNat ++ y :: xs.drop i.toNat)))
theorem mt_insert : MtM X "list.insert" rInsert := by
  intro pins s σ H x xs v us Q I rx r h
  obtain ⟨l, ys, i, y, rfl, rfl, hH, hz, h0, h1, q⟩ := h
  cases rx
  obtain ⟨w1, w2, rfl, r1, r2⟩ := vals2 r
  obtain ⟨t, rfl⟩ := r1
  obtain ⟨z, its, n, rv, hl, e⟩ := I.lstM hH
  have hlen := rv.length
  refine call_meets PySem.F.slot_list_insert ⟨_, e, rfl⟩ PySem.F.entry_list_insert (PySem.F.args_list_insert_3 _ _ _)
    (AutoSeq1.list_insert_list_int_val_1 l its.toArray n i t w2 (by
      have : Builtin.List.listFitsIndex i = true := fitsIndex_both (by omega) (by have := line63; omega)
      rw [this]; decide) (by rw [List.size_toArray]; omega)) ⟨e, ?_⟩
  refine ⟨.non, _, I.lset (t' := s.toks) (its' := its.take i.toNat ++ w2 :: its.drop i.toNat) hH e ?_ (Vals.append (rv.take _) (.cons r2 (rv.drop _))) ?_, rfl, q⟩
  · have hi : ¬ i < 0 := by omega
    have hm : min i.toNat its.toArray.size = i.toNat := by rw [List.size_toArray]; omega
    show (its.toArray.extract 0 (if i < 0 then _ else min i.toNat its.toArray.size)).push w2 ++ its.toArray.extract (if i < 0 then _ else min i.toNat its.toArray.size) = _
    rw [if_neg hi, hm]
    apply Array.toList_inj.mp
    simp [List.take_of_length_le]
  · rw [List.length_append, List.length_take, List.length_cons, List.length_drop]
    omega
end
end L2
namespace L2
open PySem PySem.Spec PyProof.Rows
section
variable {prog : Program} {w : World} {A : Around} {E : Value → Shared → Prop} {s : Shared}
theorem collect_seq {l : Addr} {vs : List Value} {T : String} {o : Obj} {n : Nat} {Q : List Value → Shared → Prop} (ho : s.heap.get? l = some o) (hc : o.cls = .type T) (hT : T = "list" ∨ T = "tuple") (hd : o.data = .seq vs.toArray n)
    (h : Q vs { s with heap := (s.heap.push (seqObj "list" #[] 0)).update s.heap.objs.size (Obj.mapSeq (· ++ vs.toArray)) }) (hsz : vs.length ≤ sizeLine) :
    wpAny (model prog w) A (collect (.ref l)) Q E s := by
  unfold collect
  refine wpAny_bind (wpAny_runValue (codeAny_builtin entry_proto_collect' ?_))
  show wpAny _ _ (do again (.builtin "list.__iadd__" ⟨[← newList [], .ref l], []⟩)) _ _ s
  refine wpAny_bind (wpAny_newList (wpAny_pure ⟨Code.quiet_builtin _ (by decide +kernel), codeAny_builtin entry_list_iadd' ?_⟩))
  show wpAny _ _ (Builtin.List.listExtendWith (.ref s.heap.objs.size) (.ref l) (.ref s.heap.objs.size)) _ _ { s with heap := s.heap.push (seqObj "list" #[] 0) }
  unfold Builtin.List.listExtendWith
  have ho' : (s.heap.push (seqObj "list" #[] 0)).get? l = some o := Heap.get?_push_of_some _ ho
  refine wpAny_bind (wpAny_typeOf (T := T) ⟨o, ho', hc⟩ ?_)
  have ht : ((Builtin.List.listSameRef (.ref s.heap.objs.size) (.ref l) || Value.type T == Value.type "list" || Value.type T == Value.type "tuple")) = true := by
    rcases hT with rfl | rfl
    · rw [show (Value.type "list" == Value.type "list") = true by rfl]; simp
    · rw [show (Value.type "tuple" == Value.type "tuple") = true by rfl]; simp
  rw [if_pos ht]
  refine wpAny_bind (listItems_at ho' hd ?_)
  refine wpAny_bind (listItems_at (xs := #[]) (n := 0) (Heap.get?_push_size _ rfl) rfl ?_)
  rw [if_neg (by simp)]
  refine wpAny_bind (listUpdate_at (xs := #[]) (n := 0) (Heap.get?_push_size _ rfl) rfl ?_ (Nat.zero_le _) (by show (#[] ++ vs.toArray).size ≤ sizeLine + 1; simp only [Array.size_append, List.size_toArray, List.length_nil]; omega))
  refine wpAny_pure ?_
  show wpAny (model prog w) A (do
      let o ← load s.heap.objs.size
      match o.data with
      | .seq xs _ => pure xs.toList
      | _ => unsupported "internal:collect") Q E { s with heap := (s.heap.push (seqObj "list" #[] 0)).update s.heap.objs.size (Obj.mapSeq (· ++ vs.toArray)) }
  refine wpAny_bind (wpAny_load (get?_update_seq (Heap.get?_push_size _ rfl) _) ?_)
  show wpAny _ _ (pure ((#[] : Array Value) ++ vs.toArray).toList) Q E _
  rw [show ((#[] : Array Value) ++ vs.toArray).toList = vs by simp]
  exact wpAny_pure h
theorem sorted_seq {l : Addr} {vs : List Value} {ns : List Int} {T : String} {o : Obj} {n : Nat} {Q : Value → Shared → Prop} (ho : s.heap.get? l = some o) (hc : o.cls = .type T) (hT : T = "list" ∨ T = "tuple") (hd : o.data = .seq vs.toArray n) (hI : IntsAre vs ns) (h64 : vs.length < 64)
    (h : ∀ (out : Array Value) (ns' : List Int), IntsAre out.toList ns' → ns'.Perm ns → ns'.Pairwise (· ≤ ·) → Q (.ref (s.heap.objs.size + 1)) { s with heap := sortedAll s.heap vs out }) :
    wpAny (model prog w) A (call (.builtin "sorted") [.ref l]) Q E s := by
  refine Calls.call_function_entry kind_sorted plain_sorted entry_sorted (args_sorted1 _) ?_
  unfold Builtin.«sorted»
  refine wpAny_bind (m := checkCount "sorted" 1 1 _) (wpAny_pure ?_)
  refine wpAny_bind (collect_seq ho hc hT hd ?_ (by rw [sizeLine_eq]; omega))
  refine wpAny_bind (wpAny_newList ?_)
  have hsz : ((s.heap.push (seqObj "list" #[] 0)).update s.heap.objs.size (Obj.mapSeq (· ++ vs.toArray))).objs.size = s.heap.objs.size + 1 := by
    rw [Heap.size_update, size_push']
  have hoL : (((s.heap.push (seqObj "list" #[] 0)).update s.heap.objs.size (Obj.mapSeq (· ++ vs.toArray))).push (seqObj "list" vs.toArray 0)).get? (s.heap.objs.size + 1) = some (seqObj "list" vs.toArray 0) := by
    rw [← hsz]; exact Heap.get?_push_size _ rfl
  show wpAny _ _ _ _ _ { s with heap := ((s.heap.push (seqObj "list" #[] 0)).update s.heap.objs.size (Obj.mapSeq (· ++ vs.toArray))).push (seqObj "list" vs.toArray 0) }
  rw [hsz]
  refine wpAny_bind (wpAny_holding (wpAny_call_entry slot_list_sort ⟨_, hoL, rfl⟩ entry_list_sort (list_sort_tree hoL hI h64 fun out ns' a1 a2 a3 => ⟨_, rfl, ?_⟩) (args_list_sort _)))
  exact wpAny_pure ⟨_, rfl, h out ns' a1 a2 a3⟩
end
section
variable {X : Cx}
theorem vals_of_ints : ∀ {us : List Value} {ns : List Int}, IntsAre us ns → Vals (ns.map V.int) us
  | _, _, h => vals_ints h
/-- sorted(xs) of ints, fewer than 64 -/
def rSorted (xs : List V) (P : Addr → List Int → Prop) (H : Hp) (Q : VK) : Prop := ∃ (p : Addr) (ns : List Int), xs = [.ref p] ∧ P p ns ∧ ns.length < 64 ∧ ∀ (l : Addr) (ms : List Int), H l = none → ms.Perm ns → ms.Pairwise (· ≤ ·) → Q (.ref l) (upd H l (.lst (ms.map V.int)))
theorem sorted_done {pins : List (Addr × Obj)} {s : Shared} {σ : St} {H : Hp} {Q : VK} {vs : List Value} {ns : List Int} {out : Array Value} {ns' : List Int} (I : Inv X pins σ H s) (a1 : IntsAre out.toList ns') (a2 : ns'.Perm ns) (a3 : ns'.Pairwise (· ≤ ·)) (h64 : ns.length < 64)
    (q : ∀ (l : Addr) (ms : List Int), H l = none → ms.Perm ns → ms.Pairwise (· ≤ ·) → Q (.ref l) (upd H l (.lst (ms.map V.int)))) :
    EP X pins σ Q (.ref (s.heap.objs.size + 1)) { s with heap := sortedAll s.heap vs out } := by
  obtain ⟨e, he⟩ := sortedAll_at s.heap vs out
  have hf : H (s.heap.objs.size + 1) = none := I.hok.fresh (Nat.le_succ _)
  refine ⟨.ref (s.heap.objs.size + 1), _, I.laid (t' := s.toks) (fun _ _ => sortedAll_old) (Nat.le_succ _) (show ObjOk X.prog X.w _ _ _ (.lst (ns'.map V.int)) from ⟨?_, out.toList, e, vals_of_ints a1, ?_⟩), rfl, q _ ns' hf a2 a3⟩
  · rw [List.length_map, a2.length_eq, sizeLine_eq]; omega
  · simpa [seqObj] using he
theorem call_sortedL : CallR X (.builtin "sorted") (fun xs H Q => rSorted xs (fun p ns => SqL X.K H p (ns.map V.int)) H Q) := by
  intro pins s σ H xs us Q I r h
  obtain ⟨p, ns, rfl, hp, h64, q⟩ := h
  obtain ⟨u, rfl, ru⟩ := vals1 r
  cases ru
  obtain ⟨its, rv, ⟨o, n, ho, hc, _, hd⟩, hz⟩ := I.list hp
  have hl := rv.length
  rw [List.length_map] at hl
  exact sorted_seq ho hc (.inl rfl) hd (intsAre_of rv) (by omega) fun out ns' a1 a2 a3 => sorted_done I a1 a2 a3 h64 q
theorem call_sortedT (_ : X.calm = true) : CallR X (.builtin "sorted") (fun xs H Q => rSorted xs (fun p ns => SqT X.K H p (ns.map V.int)) H Q) := by
  intro pins s σ H xs us Q I r h
  obtain ⟨p, ns, rfl, hp, h64, q⟩ := h
  obtain ⟨u, rfl, ru⟩ := vals1 r
  cases ru
  obtain ⟨its, rv, ⟨o, ho, hc, n, hd⟩, hz⟩ := I.tuple hp
  have hl := rv.length
  rw [List.length_map] at hl
  exact sorted_seq ho hc (.inr rfl) hd (intsAre_of rv) (by omega) fun out ns' a1 a2 a3 => sorted_done I a1 a2 a3 h64 q
/-! ### set(xs) of ints, and its len -/
/-! ### min, max, sum of a list of ints -/
theorem call_sumL (hc : X.calm = true) : CallR X (.builtin "sum") (fun xs H Q => ∃ (p : Addr) (ns : List Int), xs = [.ref p] ∧ SqL X.K H p (ns.map V.int) ∧ Q (.int ns.sum) H) := by
  intro pins s σ H xs us Q I r h
  obtain ⟨p, ns, rfl, hp, q⟩ := h
  obtain ⟨u, rfl, ru⟩ := vals1 r
  cases ru
  obtain ⟨its, rv, ⟨o, n, ho, hcl, _, hd⟩, hz⟩ := I.list hp
  have hi := intsAre_of rv
  have hl : s.heap.IsList p its.toArray := ⟨o, ho, hcl, n, hd⟩
  obtain ⟨xs, hx⟩ := hi.allInts.items
  have hl' : s.heap.IsList p (intItems xs) := hx ▸ hl
  refine sum_intListG (I.ok.hd hc) hl' fun h' tk t' hk => ?_
  have e1 : ns = xs.toList.map (·.1) := by
    rw [← nums_intItems, ← hx]
    exact (show numsOf its.toArray.toList = ns from hi.numsOf).symm
  have e2 : preSum (numAt xs) xs.size = ns.sum := by
    rw [preSum_eq, List.take_of_length_le (by simp), e1]
  rw [e2]
  exact ⟨.int ns.sum, H, I.kept hk, ⟨_, rfl⟩, q⟩
end
end L2
namespace WR
open PySem L2
/-! ### data of the program -/
def roadD (r : Road) : Dt := .tup [.v (.int r.1), .v (.int r.2.1), .v (.int r.2.2)]
def pairD (p : Int × Int) : Dt := .tup [.v (.int p.1), .v (.int p.2)]
def intD (i : Int) : Dt := .v (.int i)
/-- a list of roads stands at p -/
def RoadsAt (H : Hp) (p : Addr) (rs : List Road) : Prop := ∃ xs, H p = some (.lst xs) ∧ Reps H xs (rs.map roadD)
def PairsAt (H : Hp) (p : Addr) (ps : List (Int × Int)) : Prop := ∃ xs, H p = some (.lst xs) ∧ Reps H xs (ps.map pairD)
/-- a dict: village, (the one next to it, how far) -/
def FoundAt (H : Hp) (q : Addr) (tab : List Ent) : Prop := ∃ kvs, H q = some (.dK kvs) ∧ Paired (fun (kv : Key × V) (e : Ent) => kv.1 = Sum.inl e.1 ∧ Rep H kv.2 (pairD e.2)) kvs tab
theorem RoadsAt.keep {H H' : Hp} {p : Addr} {rs : List Road} (k : Same H H') (h : RoadsAt H p rs) : RoadsAt H' p rs := let ⟨xs, h1, h2⟩ := h; ⟨xs, k _ _ h1, h2.keep k⟩
theorem frozs_roads : ∀ rs : List Road, Frozs (rs.map roadD)
  | [] => by unfold List.map Frozs; trivial
  | r :: t => by
    rw [List.map_cons]
    unfold Frozs
    exact ⟨by unfold roadD Froz Frozs Frozs Frozs Frozs Froz; simp, frozs_roads t⟩
/-- a road's tuple -/
theorem roadD_at {H : Hp} {x : V} {r : Road} (h : Rep H x (roadD r)) : ∃ a, x = .ref a ∧ H a = some (.tup [.int r.1, .int r.2.1, .int r.2.2]) := by
  unfold roadD Rep at h
  obtain ⟨a, xs, rfl, ha, hr⟩ := h
  unfold Reps at hr
  obtain ⟨x1, r1, rfl, h1, hr⟩ := hr
  unfold Reps at hr
  obtain ⟨x2, r2, rfl, h2, hr⟩ := hr
  unfold Reps at hr
  obtain ⟨x3, r3, rfl, h3, hr⟩ := hr
  unfold Reps at hr
  subst hr
  unfold Rep at h1 h2 h3
  rw [h1.1, h2.1, h3.1] at ha
  exact ⟨a, rfl, ha⟩
theorem pairD_at {H : Hp} {x : V} {r : Int × Int} (h : Rep H x (pairD r)) : ∃ a, x = .ref a ∧ H a = some (.tup [.int r.1, .int r.2]) := by
  unfold pairD Rep at h
  obtain ⟨a, xs, rfl, ha, hr⟩ := h
  unfold Reps at hr
  obtain ⟨x1, r1, rfl, h1, hr⟩ := hr
  unfold Reps at hr
  obtain ⟨x2, r2, rfl, h2, hr⟩ := hr
  unfold Reps at hr
  subst hr
  unfold Rep at h1 h2
  rw [h1.1, h2.1] at ha
  exact ⟨a, rfl, ha⟩
theorem roadD_mk {H : Hp} {a : Addr} {x y l : Int} (h : H a = some (.tup [.int x, .int y, .int l])) : Rep H (.ref a) (roadD (x, y, l)) := by
  unfold roadD Rep
  exact ⟨a, _, rfl, h, .cons (.int _) (.cons (.int _) (.cons (.int _) .nil))⟩
theorem pairD_mk {H : Hp} {a : Addr} {x y : Int} (h : H a = some (.tup [.int x, .int y])) : Rep H (.ref a) (pairD (x, y)) := by
  unfold pairD Rep
  exact ⟨a, _, rfl, h, .cons (.int _) (.cons (.int _) .nil)⟩
theorem same_new {H : Hp} {p : Addr} {o : HO} (h : H p = none) : Same H (upd H p o) := fun b u e => by rw [upd_ne (ne_of_none e h)]; exact e
theorem RoadsAt.get {H : Hp} {p : Addr} {rs : List Road} {xs : List V} (h1 : H p = some (.lst xs)) (h : Reps H xs (rs.map roadD)) {i : Nat} {x : V} (hx : xs[i]? = some x) : ∃ r a, rs[i]? = some r ∧ x = .ref a ∧ H a = some (.tup [.int r.1, .int r.2.1, .int r.2.2]) := by
  obtain ⟨d, hd, hr⟩ := h.at hx
  rw [List.getElem?_map] at hd
  cases q : rs[i]? with
  | none => rw [q] at hd; cases hd
  | some r =>
    rw [q] at hd
    cases hd
    obtain ⟨a, e, ha⟩ := roadD_at hr
    exact ⟨r, a, rfl, e, ha⟩
end WR
namespace L2
open PySem PySem.Spec PyProof.Rows
/-- a comprehension over a list that it leaves as it is; Pv by the turn, the block's names, the items so far, the heap -/
theorem comp_list {K : PySem.W.Frag} {a acc : Addr} {xs : List V} {n : Nat} {fr : List (Nat × Nat)} {g : TG} {tf : TT} {te : TE} {Qa : Hp → Prop} {σ : St} {H1 : Hp} (Pv : Nat → St → List V → Hp → Prop) (h0 : Pv 0 (startC n fr σ) [] (upd H1 acc (.lst [])))
    (hl : ∀ i τ ys H, i ≤ xs.length → Pv i τ ys H → SqL K H a xs ∧ H acc = some (.lst ys))
    (hs : ∀ i x τ ys H (R : St → List V → Hp → Prop), xs[i]? = some x → Pv i τ ys H → (∀ τ' ys' H', Pv (i + 1) τ' ys' H' → R τ' ys' H') → g x τ H fun τ4 H4 => tf τ4 H4 fun b H5 =>
      if b = true then te τ4 H5 fun v H6 => H6 acc = some (.lst ys) ∧ ys.length < sizeLine ∧ R τ4 (ys ++ [v]) (upd H6 acc (.lst (ys ++ [v]))) else R τ4 ys H5)
    (hd : ∀ τ ys H, Pv xs.length τ ys H → Qa H) :
    ∃ W : Nat → Nat → St → List V → Hp → Prop, (∃ m, W 0 m (startC n fr σ) [] (upd H1 acc (.lst []))) ∧ ∀ i m τ ys H2, W i m τ ys H2 →
      H2 acc = some (.lst ys) ∧ (((Itl K a).stop i H2 ∧ Qa H2) ∨ ((Itl K a).go i H2 ∧ ∀ x H3, (Itl K a).yld i H2 x H3 → g x τ H3 fun τ4 H4 => tf τ4 H4 fun b H5 =>
        if b = true then te τ4 H5 fun v H6 => H6 acc = some (.lst ys) ∧ ys.length < sizeLine ∧ ∃ m', m' < m ∧ W (i + 1) m' τ4 (ys ++ [v]) (upd H6 acc (.lst (ys ++ [v])))
        else ∃ m', m' < m ∧ W (i + 1) m' τ4 ys H5)) := by
  refine ⟨fun i m τ ys H => m = xs.length - i ∧ i ≤ xs.length ∧ Pv i τ ys H, ⟨xs.length, by simp, Nat.zero_le _, h0⟩, ?_⟩
  rintro i m τ ys H2 ⟨rfl, hi, p⟩
  obtain ⟨q, hacc⟩ := hl i τ ys H2 hi p
  refine ⟨hacc, ?_⟩
  by_cases hlt : i < xs.length
  · refine .inr ⟨⟨xs, xs[i], q, by simp [hlt]⟩, fun x H' y => ?_⟩
    obtain ⟨e, y⟩ := y
    subst e
    exact hs i x τ ys _ (fun τ' ys' H' => ∃ m', m' < xs.length - i ∧ m' = xs.length - (i + 1) ∧ i + 1 ≤ xs.length ∧ Pv (i + 1) τ' ys' H') (y xs q) p fun τ' ys' H' p' => ⟨xs.length - (i + 1), by omega, rfl, hlt, p'⟩
  · have e : i = xs.length := by omega
    subst e
    exact .inl ⟨⟨xs, q, Nat.le_refl _⟩, hd τ ys H2 p⟩
theorem comp_range {acc : Addr} {lo : Int} {k n : Nat} {fr : List (Nat × Nat)} {g : TG} {tf : TT} {te : TE} {Qa : Hp → Prop} {σ : St} {H1 : Hp} (Pv : Nat → St → List V → Hp → Prop) (h0 : Pv 0 (startC n fr σ) [] (upd H1 acc (.lst [])))
    (hl : ∀ i τ ys H, i ≤ k → Pv i τ ys H → H acc = some (.lst ys))
    (hs : ∀ i τ ys H (R : St → List V → Hp → Prop), i < k → Pv i τ ys H → (∀ τ' ys' H', Pv (i + 1) τ' ys' H' → R τ' ys' H') → g (.int (lo + i)) τ H fun τ4 H4 => tf τ4 H4 fun b H5 =>
      if b = true then te τ4 H5 fun v H6 => H6 acc = some (.lst ys) ∧ ys.length < sizeLine ∧ R τ4 (ys ++ [v]) (upd H6 acc (.lst (ys ++ [v]))) else R τ4 ys H5)
    (hd : ∀ τ ys H, Pv k τ ys H → Qa H) :
    ∃ W : Nat → Nat → St → List V → Hp → Prop, (∃ m, W 0 m (startC n fr σ) [] (upd H1 acc (.lst []))) ∧ ∀ i m τ ys H2, W i m τ ys H2 →
      H2 acc = some (.lst ys) ∧ (((Itr lo k).stop i H2 ∧ Qa H2) ∨ ((Itr lo k).go i H2 ∧ ∀ x H3, (Itr lo k).yld i H2 x H3 → g x τ H3 fun τ4 H4 => tf τ4 H4 fun b H5 =>
        if b = true then te τ4 H5 fun v H6 => H6 acc = some (.lst ys) ∧ ys.length < sizeLine ∧ ∃ m', m' < m ∧ W (i + 1) m' τ4 (ys ++ [v]) (upd H6 acc (.lst (ys ++ [v])))
        else ∃ m', m' < m ∧ W (i + 1) m' τ4 ys H5)) := by
  refine ⟨fun i m τ ys H => m = k - i ∧ i ≤ k ∧ Pv i τ ys H, ⟨k, by simp, Nat.zero_le _, h0⟩, ?_⟩
  rintro i m τ ys H2 ⟨rfl, hi, p⟩
  refine ⟨hl i τ ys H2 hi p, ?_⟩
  by_cases hlt : i < k
  · refine .inr ⟨hlt, fun x H' y => ?_⟩
    obtain ⟨e, e2⟩ := y
    subst e e2
    exact hs i τ ys _ (fun τ' ys' H' => ∃ m', m' < k - i ∧ m' = k - (i + 1) ∧ i + 1 ≤ k ∧ Pv (i + 1) τ' ys' H') hlt p fun τ' ys' H' p' => ⟨k - (i + 1), by omega, rfl, hlt, p'⟩
  · have e : i = k := by omega
    subst e
    exact .inl ⟨Nat.le_refl _, hd τ ys H2 p⟩
/-- a statement by what holds ahead and behind: its ways meet -/
theorem ps_join {X : Cx} {st : Stmt} {t0 t1 : TS} (h : PS X st t0) (Pre : St → Hp → Prop) (R : St → Hp → St → Hp → Prop) (hp : ∀ σ H, Pre σ H → t0 { nx := R σ H, rt := fun _ _ => False } σ H)
    (ht : t1 = fun D σ H => Pre σ H ∧ ∀ σ' H', R σ H σ' H' → D.nx σ' H' := by rfl) : PS X st t1 := by
  subst ht
  intro pins s σ H D I ⟨p, k⟩
  refine thn (h pins s σ H _ I (hp σ H p)) fun f s1 q => ?_
  cases f with
  | next => obtain ⟨σ', H', I', q⟩ := q; exact ⟨σ', H', I', k σ' H' q⟩
  | ret v => obtain ⟨_, _, _, _, _, q⟩ := q; exact q.elim
  | brk => obtain ⟨_, _, _, q⟩ := q; exact q.elim
  | cont => obtain ⟨_, _, _, q⟩ := q; exact q.elim
theorem noifN {i : Nat} {x : V} {τ : St} {H : Hp} {A B : St → Hp → Prop} (h : A (τ.set i (some x)) H) : gName i x τ H (fun τ4 H4 => tNoIf τ4 H4 fun b H5 => if b = true then A τ4 H5 else B τ4 H5) := by
  show if true = true then A (τ.set i (some x)) H else B (τ.set i (some x)) H
  rw [if_pos rfl]
  exact h
end L2
namespace L2
open PySem PySem.Spec PyProof.Rows
/-! ### rules with the module's part named (in a comprehension's block it may not hang on the block) -/
section
variable {X : Cx} {K : PySem.W.Frag}
theorem ix_listK (h : X.K = K) : IxR X (rIxL K) := by subst h; exact ix_list
theorem ix_tupK (h : X.K = K) : IxR X (rIxT K) := by subst h; exact ix_tup
theorem sl_tupK (h : X.K = K) : SlR X (rSlT K) := by subst h; exact sl_tup
theorem sl_listK (h : X.K = K) : SlR X (rSlL K) := by subst h; exact sl_list
theorem call_sortedLK (h : X.K = K) : CallR X (.builtin "sorted") (fun xs H Q => rSorted xs (fun p ns => SqL K H p (ns.map V.int)) H Q) := by subst h; exact call_sortedL
theorem call_sortedTK (h : X.K = K) (hc : X.calm = true) : CallR X (.builtin "sorted") (fun xs H Q => rSorted xs (fun p ns => SqT K H p (ns.map V.int)) H Q) := by subst h; exact call_sortedT hc
end
end L2
namespace L2
open PySem PySem.Spec PyProof.Rows
section
variable {X : Cx} {pins : List (Addr × Obj)} {σ : St} {H : Hp} {s : Shared}
/-- untracked records have turned -/
theorem Inv.turnedL {t' : Nat} {h' : Heap} {ch : List Addr} (I : Inv X pins σ H s) (k : ∀ b o, b ∉ ch → s.heap.get? b = some o → h'.get? b = some o) (hf : ∀ b ∈ ch, FpOk X pins H b) :
    Inv X pins σ H { s with heap := h', toks := t' } := by
  have nit : ∀ b u, H b = some u → b ∉ ch := fun b u e z => by rw [(hf b z).1] at e; cases e
  refine I.step (g' := s.gens) (d' := s.drawn) (ch := ch) (fun b hb => ⟨(hf b hb).2.2.2.1, (hf b hb).2.1, (hf b hb).2.2.2.2.1, (hf b hb).2.2.2.2.2⟩) (fun b o _ _ hc e _ => k b o hc e) (fun b o _ _ hc e _ => ⟨o.slots, k b o hc e⟩) (fun _ _ _ _ n => n)
    (fun b o hc e => ⟨o, k b o hc e⟩) (fun _ _ q => q) (fun _ _ _ q => q) (fun _ ps q => ⟨#[], by rw [q]; simp⟩) (fun m hm => ?_) (fun a o e => ?_) I.bare
  · obtain ⟨o, es, ep, ho, r⟩ := hm
    exact ⟨o, es, ep, k _ _ (fun z => (hf _ z).2.1 rfl) ho, r⟩
  · refine (I.hok a o e).stay (fun b u hb q => k b u (fun z => ?_) q) (fun _ q => q) fun _ _ q => q
    rcases hb with rfl | hb
    · exact nit _ _ e z
    · exact nit _ _ hb z
end
/-! ### enumerate(xs) -/
def Ite (K : PySem.W.Frag) (a : Addr) : It :=
  ⟨fun i H => ∃ xs x, SqL K H a xs ∧ xs[i]? = some x, fun i H x H' => ∃ p y, H p = none ∧ x = .ref p ∧ (∀ xs, SqL K H a xs → xs[i]? = some y) ∧ H' = upd H p (.tup [.int i, y]), fun i H => ∃ xs, SqL K H a xs ∧ xs.length ≤ i⟩
def iEnum (K : PySem.W.Frag) (ta : TA) : TI := fun σ H R => ta σ H fun vs H1 => ∃ a xs, vs = [.ref a] ∧ SqL K H1 a xs ∧ R (Ite K a) H1
theorem boot_zip' : bootBuiltins "zip" = some (.type "zip") := by decide +kernel
/-! ### zip(xs, ys) -/
def Itz (K : PySem.W.Frag) (a b : Addr) : It :=
  ⟨fun i H => ∃ xs ys x y, SqL K H a xs ∧ SqL K H b ys ∧ xs[i]? = some x ∧ ys[i]? = some y, fun i H x H' => ∃ p y z, H p = none ∧ x = .ref p ∧ (∀ xs, SqL K H a xs → xs[i]? = some y) ∧ (∀ ys, SqL K H b ys → ys[i]? = some z) ∧ H' = upd H p (.tup [y, z]), fun i H => ∃ xs ys, SqL K H a xs ∧ SqL K H b ys ∧ (xs.length ≤ i ∨ ys.length ≤ i)⟩
theorem turn_zip {P : Program} {w : World} {K : PySem.W.Frag} {elts : List Expr} {x1 : Nat} {pos : Pos} (a b z TI TO i1 i2 : Addr) (D : ZipApart z TI TO i1 i2 a b) :
    Turn P w K (.Tuple elts x1 pos) (Itz K a b) [z, TI, TO, i1, i2] z (fun i h => IsZip h z TI TO .none ∧ IsPair h TI (.ref i1) (.ref i2) ∧ (∃ c d, IsPair h TO c d) ∧ h.IsListIter i1 a i ∧ h.IsListIter i2 b i) where
  mem := by simp
  obj := fun i h st c hc => by
    obtain ⟨h1, h2, ⟨v1, v2, h3⟩, ⟨o4, h4, c4, d4⟩, ⟨o5, h5, c5, d5⟩⟩ := st
    simp only [List.mem_cons, List.not_mem_nil, or_false] at hc
    rcases hc with rfl | rfl | rfl | rfl | rfl
    · exact ⟨_, h1, fun v q => by cases q⟩
    · exact ⟨_, h2, fun v q => by cases q⟩
    · exact ⟨_, h3, fun v q => by cases q⟩
    · exact ⟨_, h4, fun v q => by rw [d4] at q; cases q⟩
    · exact ⟨_, h5, fun v q => by rw [d5] at q; cases q⟩
  keep := fun i h h' st k => ⟨k z (by simp) _ st.1, k TI (by simp) _ st.2.1, let ⟨c, d, q⟩ := st.2.2.1; ⟨c, d, k TO (by simp) _ q⟩, st.2.2.2.1.at fun o q => k i1 (by simp) o q, st.2.2.2.2.at fun o q => k i2 (by simp) o q⟩
  item := by
    intro X hP hw hK hc i pins s σ H E I hf st hg
    subst hP hw hK
    obtain ⟨xs, ys, x, y, hq1, hq2, hx, hy⟩ := hg
    obtain ⟨its, rv, p, hz⟩ := I.list hq1
    obtain ⟨jts, rw', p2, hz2⟩ := I.list hq2
    obtain ⟨u, hu, ru⟩ := rv.get hx
    obtain ⟨v, hv, rvv⟩ := rw'.get hy
    obtain ⟨h1, h2, ⟨v1, v2, h3⟩, h4, h5⟩ := st
    refine wpAny_pyNext_zip_item D h1 h2 h3 h4 h5 p.isList p2.isList (x := u) (y := v) (by simpa using hu) (by simpa using hv) fun h' hZ hTO h4' h5' htup hsz hk => ⟨_, rfl, ?_⟩
    refine wpAny_letOwnedTupleGo_zip (s := { s with heap := h' }) hZ fun h'' hZ'' hsb => ?_
    have hp0 : H s.heap.objs.size = none := I.hok.fresh (Nat.le_refl _)
    have lt : ∀ c ∈ [z, TI, TO, i1, i2], ∃ o, s.heap.get? c = some o := fun c hc => by
      simp only [List.mem_cons, List.not_mem_nil, or_false] at hc
      rcases hc with rfl | rfl | rfl | rfl | rfl
      · exact ⟨_, h1⟩
      · exact ⟨_, h2⟩
      · exact ⟨_, h3⟩
      · obtain ⟨o, e, _⟩ := h4; exact ⟨o, e⟩
      · obtain ⟨o, e, _⟩ := h5; exact ⟨o, e⟩
    have hne : ∀ c ∈ [z, TI, TO, i1, i2], c ≠ s.heap.objs.size := fun c hc => by obtain ⟨o, e⟩ := lt c hc; exact Nat.ne_of_lt (Heap.lt_size e)
    have I1 : Inv X pins σ (upd H s.heap.objs.size (.tup [x, y])) { s with heap := s.heap.push { cls := .type "tuple", data := .seq #[u, v] }, toks := s.toks } :=
      I.laid (fun _ _ q => Heap.get?_push_of_some _ q) (Nat.le_refl _) (show ObjOk X.prog X.w _ _ _ (.tup [x, y]) from ⟨by show 2 ≤ sizeLine; decide, [u, v], .cons ru (.cons rvv .nil), _, Heap.get?_push_size _ rfl, rfl, 0, rfl⟩)
    have kp : ∀ c o, c ∉ [z, TI, TO, i1, i2] → (s.heap.push { cls := .type "tuple", data := .seq #[u, v] }).get? c = some o → h''.get? c = some o := fun c o hc q => by
      simp only [List.mem_cons, List.not_mem_nil, or_false, not_or] at hc
      rw [show h''.get? c = h'.get? c from hsb.2 c hc.1]
      rcases Heap.get?_push_cases q with ⟨rfl, rfl⟩ | q
      · exact htup
      · exact hk c o hc.1 hc.2.2.1 hc.2.2.2.1 hc.2.2.2.2 q
    have hTI'' : IsPair h'' TI (.ref i1) (.ref i2) := (hsb.2 TI D.TIz).trans (hk TI _ D.TIz D.TITO D.TIi1 D.TIi2 h2)
    have hTO'' : IsPair h'' TO u v := (hsb.2 TO D.TOz).trans hTO
    have h4'' : h''.IsListIter i1 a (i + 1) := by obtain ⟨o, e, r⟩ := h4'; exact ⟨o, (hsb.2 i1 D.i1z).trans e, r⟩
    have h5'' : h''.IsListIter i2 b (i + 1) := by obtain ⟨o, e, r⟩ := h5'; exact ⟨o, (hsb.2 i2 D.i2z).trans e, r⟩
    have hf1 : ∀ c ∈ [z, TI, TO, i1, i2], FpOk X pins (upd H s.heap.objs.size (.tup [x, y])) c := fun c hc => ⟨by rw [upd_ne (hne c hc)]; exact (hf c hc).1, (hf c hc).2⟩
    have I2 := I1.turnedL (t' := s.toks) (h' := h'') kp hf1
    exact ⟨.ref s.heap.objs.size, _, I2, rfl, ⟨_, x, y, hp0, rfl, fun zs hy' => by rw [I.list_inj hy' hq1]; exact hx, fun zs hy' => by rw [I.list_inj hy' hq2]; exact hy, rfl⟩, ⟨hZ'', hTI'', ⟨u, v, hTO''⟩, h4'', h5''⟩, fun c hc => (hf1 c hc).1⟩
  done := by
    intro X hP hw hK hc i pins s σ H E I hf st hg
    subst hP hw hK
    obtain ⟨xs, ys, hq1, hq2, hx⟩ := hg
    obtain ⟨its, rv, p, hz⟩ := I.list hq1
    obtain ⟨jts, rw', p2, hz2⟩ := I.list hq2
    obtain ⟨h1, h2, ⟨v1, v2, h3⟩, h4, h5⟩ := st
    have hl := rv.length
    have hl2 := rw'.length
    refine wpAny_pyNext_zip_end (I.ok.hd hc) D h1 h2 h3 h4 h5 p.isList p2.isList (hx.imp (fun q => by simp; omega) (fun q => by simp; omega)) fun h' hk => ⟨rfl, I.turnedL (t' := s.toks) (ch := [z, TI, TO, i1, i2]) (fun c o hc q => ?_) hf⟩
    simp only [List.mem_cons, List.not_mem_nil, or_false, not_or] at hc
    exact hk c o hc.1 hc.2.2.1 hc.2.2.2.1 hc.2.2.2.2 q
  self := fun _ _ _ _ _ st h => wpAny_pyIter_zip st.1 h
def iZip (K : PySem.W.Frag) (ta : TA) : TI := fun σ H R => ta σ H fun vs H1 => ∃ a b xs ys, vs = [.ref a, .ref b] ∧ SqL K H1 a xs ∧ SqL K H1 b ys ∧ R (Itz K a b) H1
theorem pi_zip {X : Cx} {elts : List Expr} {x1 : Nat} {tpos : Pos} {a b : Expr} {ta : TA} {p pos : Pos} (hg : Gl X "zip") (hm : X.mg "zip" = none) (ha : PA X [a, b] ta) (hs : starEach [a, b] X.env = [(false, eval a X.env), (false, eval b X.env)] := by rfl) (hs2 : starEach [b] X.env = [(false, eval b X.env)] := by rfl) :
    PI X (.Tuple elts x1 tpos) (.Call (.Name "zip" p) [a, b] [] pos) (iZip X.K ta) := by
  intro pins s σ H R I h
  refine Call_ (ld_blt I hg hm boot_zip' (PyProof.Rows.callWith_type1 (thn (ha pos pins s σ H _ I h) fun us s1 ⟨vs, H1, I1, r1, q1⟩ => ?_) (by rw [hs, hs2]) (by rw [hs2]; rfl)))
  obtain ⟨l1, l2, xs, ys, rfl, hq1, hq2, q⟩ := q1
  obtain ⟨u, v, rfl, ru, rv'⟩ := vals2 r1
  cases ru; cases rv'
  obtain ⟨its, rv, pl, hz⟩ := I1.list hq1
  obtain ⟨jts, rw', pl2, hz2⟩ := I1.list hq2
  have b1 : l1 < s1.heap.objs.size := by obtain ⟨o, e, _⟩ := pl.isList; exact Heap.lt_size e
  have b2 : l2 < s1.heap.objs.size := by obtain ⟨o, e, _⟩ := pl2.isList; exact Heap.lt_size e
  refine call_zip_2 pl.isList pl2.isList fun h' hZ hTI hTO h4 h5 hsz hk => ?_
  refine wpAny_pyIter_zip (s := { s1 with heap := h' }) hZ ?_
  have I2 : Inv X pins σ H1 { s1 with heap := h' } := I1.kept (t' := s1.toks) hk
  generalize hn : s1.heap.objs.size = n at *
  have ne : ∀ {i j : Nat}, i ≠ j → (n + i : Nat) ≠ n + j := fun h z => h (by omega)
  have D : ZipApart (n + 4) (n + 2) (n + 3) n (n + 1) l1 l2 := by
    constructor <;> first | exact Nat.ne_of_gt (by omega) | exact Nat.ne_of_lt (by omega) | exact Nat.ne_of_lt (Nat.lt_of_lt_of_le b1 (by omega)) | exact Nat.ne_of_lt (Nat.lt_of_lt_of_le b2 (by omega)) | exact Nat.ne_of_lt b1 | exact Nat.ne_of_lt b2
  refine ⟨n + 4, [n + 4, n + 2, n + 3, n, n + 1], _, _, H1, rfl, I2, turn_zip l1 l2 _ _ _ _ _ D, ⟨hZ, hTI, ⟨_, _, hTO⟩, h4, h5⟩, fun c hc => ?_, q⟩
  have : n ≤ c := by
    simp only [List.mem_cons, List.not_mem_nil, or_false] at hc
    rcases hc with rfl | rfl | rfl | rfl | rfl
    · exact Nat.le_add_right _ _
    · exact Nat.le_add_right _ _
    · exact Nat.le_add_right _ _
    · exact Nat.le_refl _
    · exact Nat.le_add_right _ _
  exact I1.fpOk (by rw [hn]; exact this) (I1.hok.fresh (by rw [hn]; exact this))
end L2
namespace L2
open PySem PySem.Spec PyProof.Rows
def maxI (ns : List Int) : Int := ns.max?.getD 0
def minI (ns : List Int) : Int := ns.min?.getD 0
section
variable {X : Cx}
end
end L2
namespace L2
theorem same_iff {H H' : Hp} : Same H H' ↔ ∀ b, H b = none ∨ H' b = H b := by
  constructor
  · intro h b
    cases e : H b with
    | none => exact .inl rfl
    | some o => exact .inr (h b o e)
  · intro h b o e
    rcases h b with q | q
    · rw [q] at e; cases e
    · rw [q]; exact e
end L2
namespace L2
open PySem PySem.Spec PyProof.Rows
/-! ### a comprehension over enumerate, over zip -/
/-! ### a comprehension within a comprehension -/
def relab (sc sc0 : Scope) : Scope := { sc with names := sc.names.map fun (n, k) => if (k == NameKind.free && sc0.kind == .function && sc0.names.lookup n == some .cell) then (n, NameKind.cell) else (n, k) }
theorem atI_int {xs : List V} {k : Int} {j : Nat} {x : V} (e : k = j) (h : xs[j]? = some x) : atI xs k = some x := by subst e; exact atI_nat h
end L2
namespace L2
open PySem PySem.Spec PyProof.Rows
/-! ### a comprehension whose block has cells of its own (a comprehension within it reads its names) -/
abbrev cxCompC (X : Cx) (N : List Str) (sc : Scope) (cl : List (Str × Addr)) (C : Addr) (s₀ : Shared) (H₀ : Hp) (ex : List Addr) (pn : List (Addr × Obj)) : Cx where
  prog := X.prog
  w := X.w
  K := X.K
  mg := X.mg
  base := X.base
  A := X.A
  N := N
  s₀ := s₀
  H₀ := H₀
  env := compEnvC sc (cellsFrom (C + 1) sc.names cl) C X.env
  outer := X.stack
  stack := X.stack
  ex := ex
  fn := fun x => sc.names.any fun p => p.1 == x && p.2 == NameKind.cell
  calm := X.calm
  pn := pn
  xe := X.xe
structure CompOkC (X : Cx) (N : List Str) (sc : Scope) (cl : List (Str × Addr)) (fr : List (Nat × Nat)) : Prop where
  clos : closureFor sc X.env = pure cl
  kind : sc.kind = .function
  names : ∀ x ∈ sc.names, x.2 = .local → sc.names.lookup x.1 = some .local
  sub : ∀ x c, cl.lookup x = some c → X.env.cells.lookup x = some c
  subm : ∀ x c, (x, c) ∈ cl → X.env.cells.lookup x = some c
  has : ∀ x, ((relabel sc X.env).names.lookup x = some .cell ∨ (relabel sc X.env).names.lookup x = some .free) → (∃ c, cl.lookup x = some c) ∨ (x, NameKind.cell) ∈ sc.names
  frees : ∀ p ∈ fr, ∃ x, N[p.1]? = some x ∧ X.N[p.2]? = some x ∧ (X.env.scope.names.lookup x = some .cell ∨ X.env.scope.names.lookup x = some .free) ∧ ((relabel sc X.env).names.lookup x = some .cell ∨ (relabel sc X.env).names.lookup x = some .free) ∧ (x, NameKind.cell) ∉ sc.names ∧ ∃ c, cl.lookup x = some c
section
variable {M : Model} {A : Around} {E : Value → Shared → Prop} {s : Shared}
end
section
variable {X : Cx} {N : List Str} {sc : Scope} {cl : List (Str × Addr)} {fr : List (Nat × Nat)} {pins : List (Addr × Obj)} {σ : St} {H : Hp} {s : Shared}
end

def compChkC (N0 N : List Str) (sc0 sc : Scope) (fr : List (Nat × Nat)) : Bool :=
  sc.kind == .function && sc0.kind == .function && sc.names.all (fun x => !(x.2 == .local) || sc.names.lookup x.1 == some .local) &&
  sc.names.all (fun x => !(x.2 == .free) || (sc0.names.lookup x.1 == some .cell || sc0.names.lookup x.1 == some .free)) &&
  fr.all (fun p => match N[p.1]? with | some x => N0[p.2]? == some x && (sc0.names.lookup x == some .cell || sc0.names.lookup x == some .free) && sc.names.lookup x == some .free && !(sc.names.any fun q => q.1 == x && q.2 == .cell) | none => false)
end L2
namespace L2
open PySem PySem.Spec PyProof.Rows
/-! ### an error in flight: its class, no context; all of B stands; fl: the frame that has it -/
def FlyX (B : Heap) (l : List Env) (e : Addr) (cls fl : Value) (h : Heap) : Prop := B.StaysIn h ∧ B.get? e = none ∧ h.FunFrames B l ∧ ∃ oe vs T oT ts, h.get? e = some oe ∧ oe.cls = cls ∧ oe.data = .fields vs ∧ vs[2]? = some .none ∧
  vs[1]? = some (.ref T) ∧ B.get? T = none ∧ T ≠ e ∧ h.get? T = some oT ∧ oT.data = .fields ts ∧ ts[3]? = some fl
section
variable {M : Model} {A : Around} {E : Value → Shared → Prop} {s : Shared} {B : Heap} {env : Env} {outer : List Env} {L e : Addr} {Q : Unit → Shared → Prop}
end
end L2
namespace L2
open PySem PySem.Spec PyProof.Rows
/-! ### exceptions that leave a def -/
theorem ObjOk.there {P : Program} {w : World} {H : Hp} {h : Heap} {a : Addr} {o : HO} (x : ObjOk P w H h a o) : ∃ u, h.get? a = some u := by
  cases o with
  | lst xs => obtain ⟨_, _, _, _, e⟩ := x; exact ⟨_, e⟩
  | tup xs => obtain ⟨_, _, _, o, e, _⟩ := x; exact ⟨_, e⟩
  | dK kvs => obtain ⟨_, _, _, _, o, _, _, e, _⟩ := x; exact ⟨_, e⟩
  | dT kvs => obtain ⟨_, _, _, _, o, _, _, e, _⟩ := x; exact ⟨_, e⟩
  | set S n => obtain ⟨o, _, _, _, e, _⟩ := x; exact ⟨_, e⟩
  | ins C dx fs => obtain ⟨_, _, _, e, _⟩ := x; exact ⟨_, e⟩
  | own y => obtain ⟨_, e⟩ := x; exact ⟨_, e⟩
  | xd fs => obtain ⟨_, ⟨_, _, _, e, _⟩, _⟩ := x; exact ⟨_, e⟩
  | rng lo hi => obtain ⟨_, _, _, e⟩ := x; exact ⟨_, e⟩
  | frz ob u => obtain ⟨e, _⟩ := x; exact ⟨_, e⟩
  | tbl ps => exact ⟨_, (show h.get? a = some _ from x)⟩
  | met f y => exact ⟨_, (show h.get? a = some _ from x)⟩
  | ext φ => obtain ⟨_, ⟨_, e⟩, _⟩ := x; exact ⟨_, e⟩
theorem HOk.none {P : Program} {w : World} {H : Hp} {h : Heap} {a : Addr} (x : HOk P w H h) (e : h.get? a = Option.none) : H a = Option.none := by
  cases q : H a with
  | none => rfl
  | some u => obtain ⟨o, z⟩ := (x a u q).there; rw [e] at z; cases z
/-- what stands behind an exception: all but the frames stands in B -/
structure UnB (fs : List Addr) (H H' : Hp) (h B h' : Heap) : Prop where
  keep : ∀ b o, h.get? b = some o → H b = none → b ∉ fs → B.get? b = some o
  slot : ∀ b o, h.get? b = some o → H b = none → b ∈ fs → ∃ sl, h'.get? b = some { o with slots := sl }
  free : ∀ b o, h.get? b = some o → H b = none → H' b = none
  there : ∀ b o, h.get? b = some o → b ∉ fs → ∃ o', B.get? b = some o'
  tfs : ∀ b ∈ fs, ∃ o', h'.get? b = some o'
  tups : ∀ b xs, H b = some (.tup xs) → H' b = some (.tup xs)
  frzs : ∀ b o u, H b = some (.frz o u) → H' b = some (.frz o u)
  tbls : ∀ b ps, H b = some (.tbl ps) → ∃ more, H' b = some (.tbl (ps ++ more))
/-- an exception of a class, in flight -/
def CXE (P : Program) (w : World) (base : Heap) : CXT := fun outer H s E e s' => ∃ (a : Addr) (cls : Value) (H' : Hp) (B : Heap), e = .ref a ∧ s'.os = s.os ∧ AllBare s'.gens ∧ FlyX B outer a cls .none s'.heap ∧
  base.StaysIn B ∧ HOk P w H' B ∧ UnB (frs outer) H H' s.heap B s'.heap ∧ H' a = none ∧ E cls none H'
section
variable {P : Program} {w : World} {K : PySem.W.Frag} {mg : Str → Option Value} {base : Heap}
section
variable {N : List Str} {qual : Str} {scope : Scope} {f : Addr} {cd : Value} {A : Around} {outer : List Env} {s₀ : Shared} {H₀ : Hp} {E : XK}
/-- what a raise must show: an exception that is made here goes as it is wished -/
def Raises (X : Cx) (E : XK) : Prop := ∀ (pins : List (Addr × Obj)) (σ : St) (H : Hp) (s : Shared) (a : Addr) (cls : Value) (vs : List Value) (h' : Heap), Inv X pins σ H s → Heap.MadeExcOf s.heap h' a cls vs → E cls none H → X.xe (.ref a) { s with heap := h' }
end
end
/-! ### raise C(..), C an error class of the text's own without an __init__ -/
def tRaise (C : Addr) (E : XK) (t : TA) : TS := fun _ σ H => t σ H fun vs H1 => vs.length ≤ sizeLine ∧ E (.ref C) none H1
end L2
namespace L2
open PySem PySem.Spec PyProof.Rows
/-! ### what an error class of the text's own must have -/
structure XCls (K : PySem.W.Frag) (C : Addr) : Prop where
  ga : PySem.W.findIn K (.ref C) "__getattribute__" = some (some (.builtin "BaseException.__getattribute__"))
  gn : PySem.W.findIn K (.ref C) "__getattr__" = some none
  gc : PySem.W.findIn K (.ref C) "__class__" = some (some (.builtin "object.__class__"))
  sb : PySem.W.subIn K (.ref C) (.type "BaseException") = some true
  so : PySem.W.subIn K (.ref C) (.type "object") = some true
  cl : (PySem.W.clsIn K C).isSome = true
section
variable {prog : Program} {w : World} {A : Around} {E : Value → Shared → Prop} {h : Heap} {g : Array GenState} {d : Drawn} {t : Nat} {os : OsState} {a C : Addr} {o : Obj} {K : PySem.W.Frag}
end
/-- an error of the class at C -/
def excO (a C : Addr) : HO := .ext fun h => ∃ o vs, h.get? a = some o ∧ o.cls = .ref C ∧ o.data = .fields vs ∧ vs[2]? = some .none
section
variable {M : Model} {A : Around} {E : Value → Shared → Prop} {s : Shared} {K : PySem.W.Frag}
end
end L2
namespace L2
open PySem PySem.Spec PyProof.Rows
/-! ### try .. except C as n -/
abbrev Cx.pins (X : Cx) (pn : List (Addr × Obj)) : Cx := { X with pn := pn }
/-- within an except suite -/
abbrev Cx.inH (X : Cx) (ev : Value) (pn : List (Addr × Obj)) : Cx := { X with A := X.A.mark (some ev), calm := false, pn := pn, xe := fun _ _ => False }
/-- an exception has come to this frame -/
def Arr (X : Cx) (E : XK) (e : Value) (s' : Shared) : Prop := ∃ pins σ H s, Inv X pins σ H s ∧ CXE X.prog X.w X.base X.stack H s E e s'
section
variable {X : Cx} {pins ps : List (Addr × Obj)} {σ : St} {H : Hp} {s : Shared}
/-- an untracked thing that is younger than the entry is tracked -/
theorem Inv.track {a : Addr} {o : HO} (I : Inv X pins σ H s) (hn : H a = none) (h0 : ∀ o, X.s₀.heap.get? a = some o → a ∈ X.ex) (hL : a ≠ X.env.locals) (hc : ∀ x c, X.env.cells.lookup x = some c → c ≠ a) (hp : ∀ p ∈ X.pn ++ pins, p.1 ≠ a) (ok : ObjOk X.prog X.w (upd H a o) s.heap a o) : Inv X pins σ (upd H a o) s := by
  have B := I.base
  refine ⟨I.ok, I.os, I.bare, ⟨B.keep, B.slot, fun b u e n hx => ?_, B.there, fun b xs e => ?_, fun b u v e => ?_, fun b ps e => ?_⟩, I.loc, I.cell, ?_, fun x c e => ?_, fun p hq => ?_, fun b u e => ?_, I.len⟩
  · rw [upd_ne (fun z => by subst z; exact hx (h0 u e))]; exact B.free b u e n hx
  · have := B.tups b xs e
    rw [upd_ne (ne_of_none this hn)]; exact this
  · have := B.frzs b u v e
    rw [upd_ne (ne_of_none this hn)]; exact this
  · obtain ⟨m, this⟩ := B.tbls b ps e
    exact ⟨m, by rw [upd_ne (ne_of_none this hn)]; exact this⟩
  · rw [upd_ne hL.symm]; exact I.free
  · rw [upd_ne (hc x c e)]; exact I.freeC x c e
  · obtain ⟨e, n, r⟩ := I.pin p hq
    exact ⟨e, by rw [upd_ne (hp p hq)]; exact n, r⟩
  · by_cases hb : b = a
    · subst hb; rw [upd_same] at e; cases e; exact ok
    · rw [upd_ne hb] at e
      exact (I.hok b u e).stay (fun _ _ _ q => q) (fun c q => by rw [upd_ne (ne_of_none q hn)]; exact q) fun c xs q => by rw [upd_ne (ne_of_none q hn)]; exact q
end
/-- a thing that no object of before is, is laid and tracked -/
theorem Inv.laidAt {X : Cx} {pins : List (Addr × Obj)} {σ : St} {H : Hp} {s : Shared} {h' : Heap} {t' : Nat} {a : Addr} {o : HO} (I : Inv X pins σ H s) (k : ∀ b u, s.heap.get? b = some u → h'.get? b = some u) (hn : s.heap.get? a = none) (ok : ObjOk X.prog X.w (upd H a o) h' a o) :
    Inv X pins σ (upd H a o) { s with heap := h', toks := t' } := by
  refine (I.kept (t' := t') k).track (I.hok.none hn) (fun u e => Classical.byContradiction fun z => ?_) (fun z => ?_) (fun x c e z => ?_) (fun p hp z => ?_) ok
  · obtain ⟨u', q⟩ := I.base.there a u e z
    rw [hn] at q; cases q
  · obtain ⟨m, ⟨u, es, ep, hu, _⟩, _⟩ := I.loc
    rw [← z, hn] at hu; cases hu
  · obtain ⟨v, u, hu, _⟩ := I.cell x c e
    rw [z, hn] at hu; cases hu
  · have hu := (I.pin p hp).1
    rw [z, hn] at hu; cases hu
def tTry (K : PySem.W.Frag) (C : Addr) (n i : Nat) (tb : TS) (th : Addr → TS) (E : XK) : TS := fun D σ H => tb D σ H ∧ ∀ cls H', E cls none H' → ∃ C2, cls = .ref C2 ∧ PySem.W.kitCls K (.ref C2) (.ref C) = some true ∧
  ∀ a, H' a = none → th a { nx := fun σ' H'' => D.nx (σ'.set i none) H'', rt := D.rt, bk := fun σ' H'' => D.bk (σ'.set i none) H'', ct := fun σ' H'' => D.ct (σ'.set i none) H'' } ((List.replicate n none).set i (some (.ref a))) (upd H' a (excO a C2))
end L2
namespace L2
open PySem PySem.Spec PyProof.Rows
/-! ### the end of a list, met while an error is handled -/
/-- the handled error's record: no context -/
def NoCtx (a : Addr) (h : Heap) : Prop := ∃ o vs, h.get? a = some o ∧ o.data = .fields vs ∧ vs[2]? = some .none
section
variable {prog : Program} {w : World} {A : Around} {E : Value → Shared → Prop} {s : Shared}
end
section
variable {X : Cx}
end
end L2
namespace L2
open PySem PySem.Spec PyProof.Rows
/-! ### sorted(d), d a dict whose keys are ints -/
section
variable {prog : Program} {w : World} {A : Around} {E : Value → Shared → Prop} {s : Shared} {T : String} {r d : Addr} {n : Nat} {P : Nat → Value → Prop} {OK : Heap → Prop} {ns : List Int} {Q : Value → Shared → Prop}
end
section
variable {X : Cx}
end
end L2
namespace L2
open PySem PySem.Spec PyProof.Rows
/-! ### texts: the signs of a text, f-strings, join, split, int(text), None in xs -/
def Its (x : Str) : It := ⟨fun i _ => i < x.cps.size, fun i H y H' => H' = H ∧ ∃ c, x.cps[i]? = some c ∧ y = .str ⟨#[c]⟩, fun i _ => i = x.cps.size⟩
section
variable {X : Cx} {tg : Expr}
def iStr (tl : TE) : TI := fun σ H R => tl σ H fun x H1 => ∃ z, x = .str z ∧ R (Its z) H1
end
section
variable {X : Cx}
def rJoin (K : PySem.W.Frag) : V → List V → Hp → VK → Prop := fun x vs H Q => ∃ sep p ys, x = .str sep ∧ vs = [.ref p] ∧ SqL K H p (ys.map V.str) ∧ (ys.map (·.length)).sum + ys.length * sep.length ≤ 16777216 ∧ Q (.str (Txt.join sep ys)) H
def rSplit : V → List V → Hp → VK → Prop := fun x vs H Q => ∃ z y, x = .str z ∧ vs = [.str y] ∧ (y.length == 0) = false ∧ z.length + 2 ≤ sizeLine ∧ ∀ l, H l = none → Q (.ref l) (upd H l (.lst ((Txt.split z y).map V.str)))
/-! f-strings -/
def tFmt (te : TE) : TE := fun σ H Q => te σ H fun x H1 => ∃ i : Int, x = .int i ∧ i.natAbs.log2 < 1920 ∧ Q (.str (toString i)) H1
abbrev TJ := Str → St → Hp → VK → Prop
def PJ (X : Cx) (es : List Expr) (t : TJ) : Prop :=
  ∀ (pins : List (Addr × Obj)) (s : Shared) (σ : St) (H : Hp) (out : Str) (Q : VK), Inv X pins σ H s → t out σ H Q → wpAny (model X.prog X.w) X.A (joinParts out (evalEach es X.env)) (EP X pins σ Q) X.xe s
def jNil : TJ := fun out _ H Q => out.length ≤ sizeLine ∧ Q (.str out) H
def jCons (te : TE) (r : TJ) : TJ := fun out σ H Q => te σ H fun x H1 => ∃ y, x = .str y ∧ (out ++ y).length ≤ sizeLine ∧ r (out ++ y) σ H1 Q
/-! None in xs, xs of None and tuples -/
def isN : V → Bool
  | .non => true
  | _ => false
def isNV : Value → Bool
  | .none => true
  | _ => false
def rNoneIn (K : PySem.W.Frag) : R2 := fun x y H Q => ∃ p xs, x = .non ∧ y = .ref p ∧ SqL K H p xs ∧ (∀ z ∈ xs, z = .non ∨ ∃ a ys, z = .ref a ∧ H a = some (.tup ys)) ∧ Q (.bl (xs.any isN)) H
end
end L2
namespace WR
open PySem
/-! ### texts split and joined -/
end WR
namespace WR
open PySem PySem.NumText
/-! ### numbers in figures -/
abbrev numT (n : Int) : Str := Str.ofString (toString n)
/-- figures, one to seven, none ahead a nought -/
def numB (x : Str) : Bool := decide (1 ≤ x.length) && decide (x.length ≤ 7) && x.cps.toList.all (fun c => decide (48 ≤ c ∧ c ≤ 57)) && !(decide (x.cps.toList.head? = some 48) && decide (x ≠ "0"))
def numM (x : Str) : Option Int := if numB x = true then some (digitsVal x.cps.toList : Nat) else none
end WR
namespace L2
open PySem
/-! ### the places of a set's table rise -/
def Rise (l : List Nat) : Prop := l.Pairwise (· < ·)
theorem Rise.get {l : List Nat} (h : Rise l) {i j : Nat} (hi : i < l.length) (hj : j < l.length) (hij : i < j) : l[i] < l[j] := List.pairwise_iff_getElem.mp h i j hi hj hij
theorem below_go (xs : Array Nat) (j : Nat) (h : Rise xs.toList) : ∀ (fuel lo hi : Nat), lo ≤ hi → hi ≤ xs.size → hi - lo ≤ fuel → (∀ i (q : i < xs.size), i < lo → xs[i] < j) → (∀ i (q : i < xs.size), hi ≤ i → j ≤ xs[i]) →
    lo ≤ SetTable.below.go xs j fuel lo hi ∧ SetTable.below.go xs j fuel lo hi ≤ hi ∧ (∀ i (q : i < xs.size), i < SetTable.below.go xs j fuel lo hi → xs[i] < j) ∧ (∀ i (q : i < xs.size), SetTable.below.go xs j fuel lo hi ≤ i → j ≤ xs[i]) := by
  intro fuel
  induction fuel with
  | zero =>
    intro lo hi h1 h2 h3 h4 h5
    have : lo = hi := by omega
    subst this
    exact ⟨Nat.le_refl _, Nat.le_refl _, h4, h5⟩
  | succ fuel ih =>
    intro lo hi h1 h2 h3 h4 h5
    have up : ∀ a b (qa : a < xs.size) (qb : b < xs.size), a < b → xs[a] < xs[b] := fun a b qa qb hab => by
      have := h.get (i := a) (j := b) (by simpa using qa) (by simpa using qb) hab
      simpa using this
    unfold SetTable.below.go
    by_cases c : lo < hi
    · rw [if_pos c]
      have hm : (lo + hi) / 2 < xs.size := by omega
      have ed : xs.getD ((lo + hi) / 2) j = xs[(lo + hi) / 2] := by simp [Array.getD, hm]
      simp only [ed]
      by_cases d : xs[(lo + hi) / 2] < j
      · rw [if_pos d]
        have := ih ((lo + hi) / 2 + 1) hi (by omega) h2 (by omega) (fun i q hi' => by
          by_cases e : i = (lo + hi) / 2
          · subst e; exact d
          · exact Nat.lt_trans (up i _ q hm (by omega)) d) h5
        exact ⟨by omega, this.2⟩
      · rw [if_neg d]
        have := ih lo ((lo + hi) / 2) (by omega) (by omega) (by omega) h4 (fun i q hi' => by
          by_cases e : i = (lo + hi) / 2
          · subst e; omega
          · have := up _ i hm q (by omega); omega)
        exact ⟨this.1, by omega, this.2.2⟩
    · rw [if_neg c]
      have : lo = hi := by omega
      subst this
      exact ⟨Nat.le_refl _, Nat.le_refl _, h4, h5⟩
theorem below_is {xs : Array Nat} (h : Rise xs.toList) (j : Nat) : SetTable.below xs j ≤ xs.size ∧ (∀ i (q : i < xs.size), i < SetTable.below xs j → xs[i] < j) ∧ (∀ i (q : i < xs.size), SetTable.below xs j ≤ i → j ≤ xs[i]) := by
  have := below_go xs j h xs.size 0 xs.size (Nat.zero_le _) (Nat.le_refl _) (by omega) (fun i _ z => absurd z (Nat.not_lt_zero _)) (fun i q z => absurd q (by omega))
  exact ⟨this.2.1, this.2.2⟩
theorem below_first {xs : Array Nat} (h : Rise xs.toList) : SetTable.below xs 0 = 0 := by
  obtain ⟨h1, h2, _⟩ := below_is h 0
  refine Decidable.byContradiction fun n => ?_
  have := h2 0 (by omega) (by omega)
  omega
theorem below_next {xs : Array Nat} (h : Rise xs.toList) {i : Nat} (q : i < xs.size) : SetTable.below xs (xs[i] + 1) = i + 1 := by
  obtain ⟨h1, h2, h3⟩ := below_is h (xs[i] + 1)
  have up : ∀ a b (qa : a < xs.size) (qb : b < xs.size), a < b → xs[a] < xs[b] := fun a b qa qb hab => by
    have := h.get (i := a) (j := b) (by simpa using qa) (by simpa using qb) hab
    simpa using this
  have a : ¬ SetTable.below xs (xs[i] + 1) ≤ i := fun z => by have := h3 i q z; omega
  have b : ¬ i + 1 < SetTable.below xs (xs[i] + 1) := fun z => by
    have := h2 (i + 1) (by omega) z
    have := up i (i + 1) q (by omega) (by omega)
    omega
  omega
theorem put_rise {xs : Array Nat} (h : Rise xs.toList) {j : Nat} (hn : xs[SetTable.below xs j]? ≠ some j) : Rise (SetTable.insertAt xs (SetTable.below xs j) j).toList := by
  obtain ⟨h1, h2, h3⟩ := below_is h j
  unfold Rise
  rw [SetTable.toList_insertAt, List.pairwise_append]
  refine ⟨h.sublist (List.take_sublist _ _), ?_, ?_⟩
  · rw [List.pairwise_cons]
    refine ⟨fun y hy => ?_, h.sublist (List.drop_sublist _ _)⟩
    obtain ⟨i, hi, e⟩ := List.mem_iff_getElem.mp hy
    rw [List.getElem_drop] at e
    rw [List.length_drop] at hi
    have q : SetTable.below xs j + i < xs.size := by simp at hi; omega
    have lo := h3 _ q (Nat.le_add_right _ _)
    have e' : xs[SetTable.below xs j + i] = y := by rw [← e]; simp
    rw [e'] at lo
    refine Nat.lt_of_le_of_ne lo fun z => ?_
    cases i with
    | zero =>
      apply hn
      simp only [Nat.add_zero] at q e'
      rw [Array.getElem?_eq_getElem q, e', z]
    | succ i =>
      have q0 : SetTable.below xs j < xs.size := by omega
      have l0 := h3 _ q0 (Nat.le_refl _)
      have := h.get (i := SetTable.below xs j) (j := SetTable.below xs j + (i + 1)) (by simpa using q0) (by simpa using q) (by omega)
      simp only [Array.getElem_toList] at this
      rw [e'] at this
      omega
  · intro x hx y hy
    obtain ⟨i, hi, e⟩ := List.mem_iff_getElem.mp hx
    rw [List.getElem_take] at e
    rw [List.length_take] at hi
    have q : i < xs.size := by simp at hi; omega
    have lx : x < j := by
      have := h2 i q (by omega)
      rw [← e]; simpa using this
    rcases List.mem_cons.mp hy with rfl | hy
    · exact lx
    · obtain ⟨k, hk, e2⟩ := List.mem_iff_getElem.mp hy
      rw [List.getElem_drop] at e2
      rw [List.length_drop] at hk
      have q2 : SetTable.below xs j + k < xs.size := by simp at hk; omega
      have := h3 _ q2 (Nat.le_add_right _ _)
      have e' : xs[SetTable.below xs j + k] = y := by rw [← e2]; simp
      omega
theorem live_rise {β : Type} (f : Nat → Option β) : ∀ {l : List Nat}, l.Pairwise (· < ·) → ((l.filterMap fun j => (f j).map (j, ·)).map (·.1)).Pairwise (· < ·)
  | [], _ => .nil
  | a :: l, h => by
    have h := List.pairwise_cons.mp h
    have ih := live_rise f h.2
    rw [List.filterMap_cons]
    cases q : f a with
    | none => simpa using ih
    | some b =>
      simp only [Option.map_some, List.map_cons]
      refine List.pairwise_cons.mpr ⟨fun y hy => ?_, ih⟩
      obtain ⟨p, hp, rfl⟩ := List.mem_map.mp hy
      obtain ⟨c, hc, e⟩ := List.mem_filterMap.mp hp
      cases w : f c with
      | none => rw [w] at e; cases e
      | some d => rw [w] at e; cases e; exact h.1 c hc
/-- a table as a maker leaves it: led or not, its places rise, nothing was taken out -/
structure Tb (b : Bool) (t : SetTable) : Prop where
  led : t.led = b
  rise : Rise t.place.toList
  none : t.dummies = #[]
theorem Tb.fresh (b : Bool) : Tb b (.fresh 0 0 b) := ⟨rfl, List.Pairwise.nil, rfl⟩
theorem Tb.standIn {b : Bool} {t : SetTable} (h : Tb b t) (n : Nat) : Tb b (t.standIn n) := ⟨h.led, by show Rise (Array.range n).toList; rw [Array.toList_range]; exact List.pairwise_lt_range, rfl⟩
theorem Tb.slot {b : Bool} {t : SetTable} (h : Tb b t) (j : Nat) : t.slot j = .empty ∨ ∃ i, t.slot j = .live i := by
  unfold SetTable.slot
  simp only
  by_cases c : (t.place[SetTable.below t.place j]? == some j) = true
  · rw [if_pos c]; exact .inr ⟨_, rfl⟩
  · rw [if_neg c]
    have : SetTable.has t.dummies j = false := by rw [h.none]; rfl
    rw [this]
    exact .inl rfl
theorem Tb.probe {b : Bool} {t : SetTable} (h : Tb b t) (f : Nat → Int) (k : Int) : ∀ (fuel : Nat) (p : SetTable.Probe) (j : Nat) (d : Option Nat), p.dummy = Option.none → SetTable.probe.go t f k fuel p = some (.empty j d) → d = Option.none ∧ t.slot j = .empty := by
  intro fuel
  induction fuel with
  | zero => intro p j d _ e; cases e
  | succ fuel ih =>
    intro p j d hp e
    have adv : (t.advance p).dummy = Option.none := by
      unfold SetTable.advance
      split
      · exact hp
      · exact hp
    unfold SetTable.probe.go at e
    rcases h.slot p.j with q | ⟨i, q⟩
    · rw [q] at e
      have e := Option.some.inj e
      injection e with e1 e2
      subst e1
      exact ⟨e2 ▸ hp, q⟩
    · rw [q] at e
      simp only at e
      split at e
      · cases e
      · exact ih _ _ _ adv e
theorem Tb.layNew {b : Bool} {t : SetTable} (h : Tb b t) (es : Array (Int × Value)) (k : Int) (x : Value) : Tb b (layNew t es k x).2.1 := by
  unfold PySem.layNew
  cases q : t.freeSlot k with
  | none => exact h.standIn _
  | some p =>
    obtain ⟨j, wd⟩ := p
    have hj : t.slot j = .empty := by
      unfold SetTable.freeSlot at q
      split at q
      · rename_i j' d e
        obtain ⟨hd, hs⟩ := h.probe _ _ _ _ _ _ rfl e
        subst hd
        have q := Option.some.inj q
        have : j' = j := congrArg Prod.fst q
        rw [← this]; exact hs
      · cases q
    have hn : t.place[SetTable.below t.place j]? ≠ some j := fun z => by
      unfold SetTable.slot at hj
      simp only at hj
      rw [if_pos (by simpa using z)] at hj
      cases hj
    have P : Tb b (t.put j).1 := by
      refine ⟨h.led, put_rise h.rise hn, ?_⟩
      show (if SetTable.has t.dummies j = true then _ else t.dummies) = #[]
      rw [h.none]
      rfl
    show Tb b ((t.put j).1.orStandIn _)
    unfold SetTable.orStandIn
    split
    · exact P
    · exact P.standIn _
theorem Tb.relayAll {b : Bool} {t : SetTable} (h : Tb b t) (es : Array (Int × Value)) (n : Nat) : Tb b (relayAll t es n).2.1 := by
  unfold PySem.relayAll
  split
  · rename_i t' order e
    dsimp only
    split
    · show Tb b t'
      unfold SetTable.relaid SetTable.laid at e
      cases q : SetTable.layClean (SetTable.sizeAbove n - 1) (es.map (·.1)) with
      | none => rw [q] at e; cases e
      | some owner =>
        rw [q] at e
        have e := Option.some.inj e
        have e1 := congrArg Prod.fst e
        rw [← show _ = t' from e1]
        exact ⟨h.led, live_rise _ List.pairwise_lt_range, rfl⟩
    · exact h.standIn _
  · exact h.standIn _
end L2
namespace L2
open PySem PySem.Spec PyProof.Rows
/-! ### a set of ints that is made of a list -/
def valI : Value → Int
  | .int n _ => n
  | _ => 0
def keysI (es : Array (Int × Value)) : List Int := es.toList.map fun e => valI e.2
def SetI (prog : Program) (w : World) (h : Heap) (a : Addr) (b : Bool) (ks : List Int) : Prop := ∃ o es ep t, h.get? a = some o ∧ o.ExactSet ∧ o.data = .set es ep t ∧ ElemsOf (intKind prog w) es.toList ∧ ks.Perm (keysI es) ∧ es.size < scanBound ∧ t.fits es.size = true ∧ Tb b t
section
variable {prog : Program} {w : World} {A : Around} {E : Value → Shared → Prop} {s : Shared}
theorem SetI.keep {h h' : Heap} {a : Addr} {b : Bool} {ks : List Int} (S : SetI prog w h a b ks) (k : ∀ o, h.get? a = some o → h'.get? a = some o) : SetI prog w h' a b ks :=
  let ⟨o, es, ep, t, h1, r⟩ := S; ⟨o, es, ep, t, k o h1, r⟩
theorem elem_is {es : List (Int × Value)} (hel : ElemsOf (intKind prog w) es) {e : Int × Value} (he : e ∈ es) : ∃ t, e.2 = .int (valI e.2) t := by
  obtain ⟨⟨k, hk, _⟩, _⟩ := hel e he
  obtain ⟨t, q⟩ := Value.isInt_shape (show Value.isInt k e.2 = true from hk)
  exact ⟨t, by rw [q]; rfl⟩
theorem key_there {es : Array (Int × Value)} (hel : ElemsOf (intKind prog w) es.toList) (k : Int) : (∃ e ∈ es.toList, (intKind prog w).is k e.2 = true) ↔ k ∈ keysI es := by
  constructor
  · rintro ⟨e, he, q⟩
    obtain ⟨t, q⟩ := Value.isInt_shape (show Value.isInt k e.2 = true from q)
    exact List.mem_map.mpr ⟨e, he, by rw [q]; rfl⟩
  · intro h
    obtain ⟨e, he, q⟩ := List.mem_map.mp h
    obtain ⟨t, r⟩ := elem_is hel he
    refine ⟨e, he, ?_⟩
    rw [r, q]
    exact intKind_is _ _ _ _
/-- what is stored stands -/
theorem stored_I {h : Heap} {a : Addr} {o : Obj} {es es' : Array (Int × Value)} {ep : Nat} {t t' : SetTable} (ho : h.get? a = some o) (hx : o.ExactSet) (hd : o.data = .set es ep t) (hel : ElemsOf (intKind prog w) es'.toList) (hb : es'.size < scanBound) (hf : t'.fits es'.size = true) :
    (h.update a (Obj.putSet es' t')).get? a = some { o with data := .set es' (ep + 1) t' } :=
  (SetOf_store (knd := intKind prog w) (S' := fun k => es'.toList.any fun e => (intKind prog w).is k e.2) ho hx hd hel (fun _ => List.any_eq_true) hb hf).1
theorem tail_I {g : Bool → Sem Unit} (hg : ∀ (c : Bool) (s₁ : Shared) (Q' : Unit → Shared → Prop), Q' () s₁ → wpAny (model prog w) A (g c) Q' E s₁) {a : Addr} {o : Obj} {es es1 : Array (Int × Value)} {ep : Nat} {t t2 : SetTable} {b wd : Bool} {ks : List Int}
    (ho : s.heap.get? a = some o) (hx : o.ExactSet) (hd : o.data = .set es ep t) (hel : ElemsOf (intKind prog w) es1.toList) (hp : ks.Perm (keysI es1)) (hb : es1.size < scanBound) (hf : t2.fits es1.size = true) (ht : Tb b t2) {R : Option Bool → Shared → Prop}
    (h : ∀ h', Heap.SameBut a s.heap h' → SetI prog w h' a b ks → R (some true) { s with heap := h' }) :
    wpAny (model prog w) A (do
        storeSet a es1 t2
        if (!wd && t2.tooFull) = true then do
            g (PySem.relayAll t2 es1 (SetTable.grown es1.size)).2.2
            storeSet a (PySem.relayAll t2 es1 (SetTable.grown es1.size)).1 (PySem.relayAll t2 es1 (SetTable.grown es1.size)).2.1
            pure (some true)
          else pure (some true)) R E s := by
  have g1 := stored_I (prog := prog) (w := w) ho hx hd hel hb hf
  refine wpAny_bind (wpAny_storeSet_of ho hd ?_ (fits_of_scanBound hb))
  have same1 : Heap.SameBut a s.heap (s.heap.update a (Obj.putSet es1 t2)) := Heap.SameBut.update ..
  by_cases c : (!wd && t2.tooFull) = true
  · rw [if_pos c]
    have rp := relayAll_perm t2 es1 (SetTable.grown es1.size)
    have rf := relayAll_fits t2 es1 (SetTable.grown es1.size)
    have rt := ht.relayAll es1 (SetTable.grown es1.size)
    generalize PySem.relayAll t2 es1 (SetTable.grown es1.size) = L at rp rf rt ⊢
    obtain ⟨es2, t3, gv⟩ := L
    dsimp only at rp rf rt ⊢
    have el2 : ElemsOf (intKind prog w) es2.toList := hel.perm rp
    have sz : es2.size = es1.size := by have := rp.length_eq; simpa using this
    have b2 : es2.size < scanBound := by omega
    have g2 := stored_I (prog := prog) (w := w) g1 hx rfl el2 b2 rf
    refine wpAny_bind (hg _ _ _ (wpAny_bind (wpAny_storeSet_of g1 rfl (wpAny_pure (h _ (same1.trans (Heap.SameBut.update ..)) ?_)) (fits_of_scanBound b2))))
    exact ⟨_, es2, _, t3, g2, hx, rfl, el2, hp.trans (rp.map _).symm, b2, rf, rt⟩
  · rw [if_neg c]
    exact wpAny_pure (h _ same1 ⟨_, es1, _, t2, g1, hx, rfl, hel, hp, hb, hf, ht⟩)
theorem add_I {a : Addr} {b : Bool} {ks : List Int} {k : Int} {tok : Tok} {Q : Bool → Shared → Prop} (S : SetI prog w s.heap a b ks) (room : ks.length + 1 < scanBound)
    (h : ∀ c h' ks', Heap.SameBut a s.heap h' → SetI prog w h' a b ks' → (k ∈ ks ∧ ks' = ks) ∨ (k ∉ ks ∧ ks' = ks ++ [k]) → Q c { s with heap := h' }) : wpAny (model prog w) A (setAddHashed a (.int k tok) (hashInt k)) Q E s := by
  obtain ⟨o, es, ep, t, ho, hx, hd, hel, hp, hb, hf, ht⟩ := S
  have hk := intKind_is prog w k tok
  have len : ks.length = es.size := by have := hp.length_eq; unfold keysI at this; simpa using this
  have hsc : (Value.int k tok).scannable = true := rfl
  unfold setAddHashed setAddHashedIn
  refine wpAny_holding (wpAny_bind (wpAny_setState_of ho hd hf ?_))
  dsimp only
  rw [byScan_of hsc hb hel, if_pos rfl]
  unfold setAddByScan
  refine wpAny_bind (wpAny_bind (wpAny_rule (wpAny_bind (wpAny_setScan_of (knd := intKind prog w) hk ho hd hf hel ?_))))
  cases hr : List.findIdx? (fun e => (intKind prog w).is k e.2) es.toList with
  | some j =>
    obtain ⟨hj, hpj, _⟩ := List.findIdx?_eq_some_iff_getElem.mp hr
    have mem : k ∈ ks := hp.mem_iff.mpr ((key_there hel k).mp ⟨_, List.getElem_mem hj, hpj⟩)
    exact wpAny_pure (wpAny_pure (h _ s.heap ks (Heap.SameBut.refl ..) ⟨o, es, ep, t, ho, hx, hd, hel, hp, hb, hf, ht⟩ (.inl ⟨mem, rfl⟩)))
  | none =>
    have nm : k ∉ ks := fun z => by
      obtain ⟨e, he, q⟩ := (key_there hel k).mpr (hp.mem_iff.mp z)
      have := List.findIdx?_eq_none_iff.mp hr e he
      rw [q] at this
      cases this
    dsimp only
    have lp := layNew_perm t es (hashInt k) (.int k tok)
    have lf := layNew_fits t es (hashInt k) (.int k tok)
    have lt := ht.layNew es (hashInt k) (.int k tok)
    generalize PySem.layNew t es (hashInt k) (.int k tok) = L at lp lf lt ⊢
    obtain ⟨es1, t1, wd, gv⟩ := L
    dsimp only at lp lf lt ⊢
    rw [Array.toList_push] at lp
    have el1 : ElemsOf (intKind prog w) es1.toList := (hel.push (k := k) hk hsc).perm lp
    have kp : (ks ++ [k]).Perm (keysI es1) := by
      have := (lp.map fun e => valI e.2).symm
      rw [List.map_append] at this
      exact (List.Perm.append_right _ hp).trans this
    have b1 : es1.size < scanBound := by
      have := lp.length_eq
      simp only [Array.length_toList, List.length_append, List.length_cons, List.length_nil] at this
      omega
    have gw : ∀ (c : Bool) (s₁ : Shared) (Q' : Unit → Shared → Prop), Q' () s₁ → wpAny (model prog w) A (match c with | true => rule "set.scan.the-table-gave-way" | false => pure ()) Q' E s₁ := fun c s₁ Q' q => by
      cases c
      · exact wpAny_pure q
      · exact wpAny_rule q
    refine wpAny_bind (gw _ _ _ ?_)
    have fin : ∀ h', Heap.SameBut a s.heap h' → SetI prog w h' a b (ks ++ [k]) → Q true { s with heap := h' } := fun h' sb SI => h _ h' _ sb SI (.inr ⟨nm, rfl⟩)
    by_cases pl : t1.plain = true
    · rw [if_pos pl, hashByValue_scannable 8 hsc]
      refine wpAny_bind (wpAny_pure ?_)
      simp only [plainKind, ↓reduceIte]
      exact tail_I gw ho hx hd el1 kp b1 lf lt fun h' sb SI => wpAny_pure (fin h' sb SI)
    · rw [if_neg pl]
      refine wpAny_bind (wpAny_pure ?_)
      simp only [↓reduceIte]
      exact tail_I gw ho hx hd el1 kp b1 lf lt fun h' sb SI => wpAny_pure (fin h' sb SI)
end
end L2
namespace L2
open PySem PySem.Spec PyProof.Rows
/-- whom a list's first numbers are -/
def Those (ks ns : List Int) : Prop := ks.Nodup ∧ ∀ x, x ∈ ks ↔ x ∈ ns
theorem Those.len {ks ns : List Int} (h : Those ks ns) : ks.length ≤ ns.length := by
  have aux : ∀ {l m : List Int}, l.Nodup → (∀ x ∈ l, x ∈ m) → l.length ≤ m.length := by
    intro l
    induction l with
    | nil => intro m _ _; exact Nat.zero_le _
    | cons a l ih =>
      intro m nd sub
      have nd := List.nodup_cons.mp nd
      have ha := sub a (List.mem_cons_self ..)
      have := ih (m := m.erase a) nd.2 fun x hx => by
        have hm := sub x (List.mem_cons_of_mem _ hx)
        have ne : x ≠ a := fun z => nd.1 (z ▸ hx)
        exact (List.mem_erase_of_ne ne).mpr hm
      rw [List.length_erase_of_mem ha] at this
      have : 0 < m.length := List.length_pos_iff.mpr (List.ne_nil_of_mem ha)
      simp only [List.length_cons]
      omega
  exact aux h.1 fun x hx => (h.2 x).mp hx
theorem Those.more {ks ks' ns : List Int} {i : Nat} {k : Int} (h : Those ks (ns.take i)) (e : ns[i]? = some k) (c : (k ∈ ks ∧ ks' = ks) ∨ (k ∉ ks ∧ ks' = ks ++ [k])) : Those ks' (ns.take (i + 1)) := by
  have tk : ns.take (i + 1) = ns.take i ++ [k] := by rw [List.take_add_one, e]; rfl
  rw [tk]
  rcases c with ⟨c, rfl⟩ | ⟨c, rfl⟩
  · refine ⟨h.1, fun x => ?_⟩
    rw [h.2 x, List.mem_append]
    refine ⟨.inl, fun z => z.elim id fun z => ?_⟩
    rw [List.mem_singleton.mp z]
    exact (h.2 k).mp c
  · refine ⟨List.nodup_append.mpr ⟨h.1, by simp, fun a ha b hb z => ?_⟩, fun x => ?_⟩
    · rw [z, List.mem_singleton.mp hb] at ha; exact c ha
    · rw [List.mem_append, List.mem_append, h.2 x]
section
variable {prog : Program} {w : World} {A : Around} {R : Result → Shared → Prop} {I : Addr} {fp wr : List Addr} {G : Array GenState → Array GenState → Prop} {P : Nat → Value → Prop} {St : Nat → Shared → Prop} {ns : List Int} {b : Bool}
theorem loop_I (W : WalksS prog w A.in1 I fp wr G ns.length P St) (S : Addr) (hS : S ∉ fp) (hv : ∀ i v, P i v → ∃ k t, ns[i]? = some k ∧ v = .int k t) (hb : ns.length + 1 < scanBound) :
    ∀ (m i : Nat) (s : Shared) (ks : List Int), ns.length - i = m → i ≤ ns.length → St i s → SetI prog w s.heap S b ks → Those ks (ns.take i) →
      (∀ s' ks', Moved (S :: wr) G s s' → SetI prog w s'.heap S b ks' → Those ks' ns → R (.ok (.ret .none)) s') → codeAny (model prog w) A (.builtin "set.update.loop" ⟨[.ref S, .ref I], []⟩) R s := by
  have nw : S ∉ wr := fun z => hS (W.sub _ z)
  have up : ∀ c ∈ wr, c ∈ S :: wr := fun c z => List.mem_cons_of_mem _ z
  intro m
  induction m with
  | zero =>
    intro i s ks e1 e2 st SI T r
    have : i = ns.length := by omega
    subst this
    rw [List.take_length] at T
    refine codeAny_builtin PyProof.Rows.F.entry_set_update_loop ?_
    rw [Around.under_plainId PyProof.Rows.F.plain_set_update_loop _]
    show wpAny _ A.in1 (pyNext (.ref I) >>= _) _ _ s
    refine wpAny_bind (W.done s _ _ st fun s' mv => wpAny_pure (r s' ks (mv.mono up) (SI.keep fun o e => mv.heap S o nw e) T))
  | succ m ih =>
    intro i s ks e1 e2 st SI T r
    have lt : i < ns.length := by omega
    refine codeAny_builtin PyProof.Rows.F.entry_set_update_loop ?_
    rw [Around.under_plainId PyProof.Rows.F.plain_set_update_loop _]
    show wpAny _ A.in1 (pyNext (.ref I) >>= _) _ _ s
    refine wpAny_bind (W.item i s _ _ lt st fun v s' pv st' mv => ?_)
    obtain ⟨k, t, ek, rfl⟩ := hv i v pv
    have SI' : SetI prog w s'.heap S b ks := SI.keep fun o e => mv.heap S o nw e
    show wpAny _ A.in1 (holding [Value.int k t] (setAdd S (.int k t)) >>= _) _ _ s'
    unfold setAdd
    refine wpAny_bind (wpAny_holding (wpAny_holding (wpAny_bind ((intKind prog w).pyHash (k := k) (intKind_is _ _ _ _) ?_))))
    have room : ks.length + 1 < scanBound := by have := T.len; rw [List.length_take] at this; omega
    refine add_I (s := { s' with toks := s'.toks + 1 }) SI' room fun c h' ks' sb SI2 cc => wpAny_pure ⟨plainId_quiet PyProof.Rows.F.plain_set_update_loop _, ?_⟩
    refine ih (i + 1) _ ks' (by omega) lt (W.frame _ s' _ _ st' (Nat.le_succ _) fun c hc o e => ?_) SI2 (T.more ek cc) fun s'' ks'' mv'' SI3 T3 => ?_
    · exact (sb.2 c fun z => hS (z ▸ hc)).trans e
    · refine r s'' ks'' (Moved.trans W.gtrans ((mv.mono up).then_heap (Nat.le_succ _) fun c o hc e => ?_) mv'') SI3 T3
      exact (sb.2 c fun z => hc (by rw [z]; exact List.mem_cons_self)).trans e
end
section
variable {prog : Program} {w : World} {A : Around} {E : Value → Shared → Prop} {s : Shared}
def ledOf (w : World) : Bool := !w.params.followText "set-order"
abbrev freshSet (b : Bool) : Obj := { cls := .type "set", dict := none, data := .set #[] 0 (.fresh 0 0 b) }
theorem new_I (a : Value) {Q₁ : Value → Shared → Prop} (h : Q₁ (.ref s.heap.objs.size) { s with heap := s.heap.push (freshSet (ledOf w)) }) : codeAny (model prog w) A (.call (.builtin "set.__new__") ⟨[.type "set", a], []⟩) (wants Q₁ E) s := by
  refine codeAny_of_tree (wpAny_bind (wpAny_of_eq (PySem.F.newCall_set_1 a) (wpAny_pure ⟨plainId_quiet PySem.F.plain_set_new _, codeAny_builtin PySem.F.entry_set_new ?_⟩)))
  rw [Around.under_plainId PySem.F.plain_set_new _]
  unfold Builtin.«set.__new__» Builtin.Frozenset.newClass
  have hsub := sub_set_self
  obtain ⟨hp, g, d, tk, os⟩ := s
  dsimp only
  wp_walk
  refine wpAny_askSetting (wpAny_pure ?_)
  dsimp only
  simp only [newObj]
  exact wpAny_bind (wpAny_alloc (wpAny_pure (wpAny_pure h)))
set_option maxRecDepth 100000 in
set_option maxHeartbeats 3200000 in
theorem call_I {l : Addr} {items : Array Value} {ns : List Int} {Q : Value → Shared → Prop} (hh : A.handled = none) (hl : s.heap.IsList l items) (hi : IntsAre items.toList ns) (hb : ns.length + 1 < scanBound)
    (h : ∀ (h' : Heap) (tk : Nat) (ks : List Int), SetI prog w h' s.heap.objs.size (ledOf w) ks → Those ks ns → (∀ b o, b < s.heap.objs.size → s.heap.get? b = some o → h'.get? b = some o) → Q (.ref s.heap.objs.size) { s with heap := h', toks := tk }) :
    wpAny (model prog w) A (call (.type "set") [.ref l]) Q E s := by
  obtain ⟨c, tl, hmro⟩ := PySem.F.called_set.mro
  have hmade := PySem.F.called_set.made
  have hsub := PySem.F.called_set.sub
  have hlen : items.size = ns.length := by have := hi.length; simpa using this
  refine wpAny_call (codeAny_of_tree (show wpAny _ _ (callAny (.type "set") _) _ _ _ from wpAny_pure ⟨Code.quiet_builtin _ (by decide +kernel), codeAny_builtin PySem.F.entry_type_call ?_⟩))
  rw [Around.under_plain (weight_type_call_type "set" [.ref l] []) rfl]
  have h1 := PySem.F.called_set.notType
  have h2 := PySem.F.called_set.canCreate
  have hct := PySem.F.typeCall_set_1 (.ref l)
  repeat (any_goals (first | assumption | wp_step))
  refine codeAny_mono (new_I (.ref l) (E := E) (Q₁ := fun obj s₁ => obj = .ref s.heap.objs.size ∧ s₁ = { s with heap := s.heap.push (freshSet (ledOf w)) }) ⟨rfl, rfl⟩) fun r s₁ hr => ?_
  cases r with
  | error e => exact hr
  | ok fl =>
    cases fl with
    | ret obj =>
      obtain ⟨rfl, rfl⟩ := hr
      have hS : (s.heap.push (freshSet (ledOf w))).get? s.heap.objs.size = some (freshSet (ledOf w)) := Heap.get?_push_size _ rfl
      have hT : Shared.TypeIs { s with heap := s.heap.push (freshSet (ledOf w)) } (.ref s.heap.objs.size) "set" := ⟨_, hS, rfl⟩
      have hli := PySem.F.called_set.init.lookup
      have hbi := PySem.F.called_set.init.bind (.ref s.heap.objs.size)
      repeat (any_goals (first | assumption | wp_step))
      refine codeAny_mono (codeAny_call_builtin (R := wants (fun r s₂ => r = .none ∧ ∃ h' tk ks, s₂ = { s with heap := h', toks := tk } ∧ SetI prog w h' s.heap.objs.size (ledOf w) ks ∧ Those ks ns ∧ ∀ b o, b < s.heap.objs.size → s.heap.get? b = some o → h'.get? b = some o) E)
        PySem.F.called_set.init.plain PySem.F.entry_set_init (check_set_init_1 hT ?_)) fun r₂ s₂ hr₂ => ?_
      · obtain ⟨⟨oc, od, odt, osl⟩, hol, hcl, nl, hdl⟩ := hl
        simp only at hcl hdl
        subst hcl hdl
        have hol' := Heap.get?_push_of_some (freshSet (ledOf w)) hol
        have hsls := PySem.F.sub_list_set
        have hslf := PySem.F.sub_list_frozenset
        have hne : (Value.type "list" == Value.type "dict") = false := by decide
        have hl1 : (s.heap.push (freshSet (ledOf w))).IsList l items := ⟨_, hol', rfl, nl, rfl⟩
        unfold Builtin.«set.__init__» noKeywords Builtin.Frozenset.updateFrom
        generalize hPI : pyIter = PI
        wp_walk
        subst hPI
        refine wpAny_pyIter_list hl1 (wpAny_bind (wpAny_runValue ?_))
        have hlS : l < s.heap.objs.size := Heap.lt_size hol
        have h3 : A.in1.in1.in1.handled = none := by simp [hh]
        have ne1 : l ≠ (s.heap.push (freshSet (ledOf w))).objs.size := by rw [Heap.size_push]; exact Nat.ne_of_lt (Nat.lt_succ_of_lt hlS)
        have nf : s.heap.objs.size ∉ [(s.heap.push (freshSet (ledOf w))).objs.size, l] := by
          rw [Heap.size_push]
          intro z
          rcases List.mem_cons.mp z with z | z
          · exact absurd z (Nat.ne_of_lt (Nat.lt_succ_self _))
          · exact absurd (List.mem_singleton.mp z) (Nat.ne_of_gt hlS)
        have hv : ∀ (i : Nat) (v : Value), items[i]? = some v → ∃ k t, ns[i]? = some k ∧ v = .int k t := fun i v hv => by
          obtain ⟨t, e⟩ := IntsAre.int_at hi i v (by rw [Array.getElem?_toList]; exact hv)
          have lt := (Array.getElem?_eq_some_iff.mp hv).1
          exact ⟨_, t, by rw [List.getD_eq_getElem?_getD, List.getElem?_eq_getElem (by omega)]; rfl, e⟩
        have WW := (Walks.list (prog := prog) (w := w) h3 _ l ne1 items).toS
        rw [hlen] at WW
        refine loop_I (b := ledOf w) (ns := ns) WW s.heap.objs.size nf hv hb _ 0 _ [] rfl (Nat.zero_le _) ⟨⟨_, Heap.get?_push_size _ rfl, rfl, rfl⟩, hl1.push _⟩ ?_ ⟨.nil, fun x => by simp⟩ fun s' ks mv SI T => ?_
        · exact ⟨_, #[], 0, _, Heap.get?_push_of_some _ hS, ⟨rfl, rfl, rfl⟩, rfl, fun e he => by simp at he, .nil, by decide, by rfl, Tb.fresh _⟩
        · obtain ⟨h', g', d', tk', os'⟩ := s'
          have eg : g' = s.gens := mv.gens
          have ed : d' = s.drawn := mv.drawn
          have eo : os' = s.os := mv.os
          subst eg ed eo
          refine wpAny_pure (show wpAny _ _ (ret Value.none) _ _ _ from wpAny_pure ⟨rfl, h', tk', ks, rfl, SI, T, fun b o hb e => ?_⟩)
          refine mv.heap b o (fun z => ?_) (Heap.get?_push_of_some _ (Heap.get?_push_of_some _ e))
          rcases List.mem_cons.mp z with z | z
          · exact absurd z (Nat.ne_of_lt hb)
          · have := List.mem_singleton.mp z
            rw [Heap.size_push] at this
            exact absurd this (Nat.ne_of_lt (Nat.lt_succ_of_lt hb))
      · cases r₂ with
        | error e => exact hr₂
        | ok fl₂ =>
          cases fl₂ with
          | ret r =>
            obtain ⟨rfl, h', tk, ks, rfl, SI, T, kp⟩ := hr₂
            repeat (any_goals (first | assumption | wp_step))
            exact h _ _ ks SI T kp
          | next => exact hr₂.elim
          | brk => exact hr₂.elim
          | cont => exact hr₂.elim
    | next => exact hr.elim
    | brk => exact hr.elim
    | cont => exact hr.elim
end
end L2
namespace L2
open PySem PySem.Spec PyProof.Rows
/-! ### what a set is walked by -/
theorem it_next : Slot "set_iterator" "__next__" "set_iterator.__next__" := .of (owner := "set_iterator") (n := "__next__") (by rw [typeLookup_type, builtinLookup_eq_fast]; kernel_rfl) (by decide +kernel) (by decide +kernel) (by decide +kernel) (by first | exact .inl (by decide +kernel) | exact .inr (by decide +kernel)) (by rw [isSubtype_type]; kernel_rfl)
theorem it_entry : entryFor table "set_iterator.__next__" = some Builtin.«set_iterator.__next__» := entryFor_of_tree (by kernel_rfl)
theorem it_args (a : Value) : argsOk "set_iterator.__next__" ⟨[a], []⟩ := by unfold argsOk; kernel_rfl
theorem it_iter : Slot "set_iterator" "__iter__" "set_iterator.__iter__" := .of (owner := "set_iterator") (n := "__iter__") (by rw [typeLookup_type, builtinLookup_eq_fast]; kernel_rfl) (by decide +kernel) (by decide +kernel) (by decide +kernel) (by first | exact .inl (by decide +kernel) | exact .inr (by decide +kernel)) (by rw [isSubtype_type]; kernel_rfl)
theorem st_entry : entryFor table "set.__iter__" = some Builtin.«frozenset.__iter__» := entryFor_alias (id' := "frozenset.__iter__") (by kernel_rfl) rfl (by decide +kernel) (by kernel_rfl)
theorem eraseIdx_perm {α : Type} : ∀ {l : List α} {j : Nat} (h : j < l.length), (l[j] :: l.eraseIdx j).Perm l
  | a :: l, 0, _ => .refl _
  | a :: l, j + 1, h => by
    have h' : j < l.length := by simpa using h
    show (l[j] :: a :: l.eraseIdx j).Perm (a :: l)
    exact (List.Perm.swap ..).trans ((eraseIdx_perm h').cons a)
theorem pickGo_perm {α : Type} (next : Nat → Nat) : ∀ (fuel k : Nat) (left : List α) (out : Array α), left.length = fuel → (pickOrder.go next fuel k left out).toList.Perm (out.toList ++ left) := by
  intro fuel
  induction fuel with
  | zero =>
    intro k left out h
    have : left = [] := List.length_eq_zero_iff.mp h
    subst this
    rw [List.append_nil]
    exact .refl _
  | succ fuel ih =>
    intro k left out h
    have lt : next k % left.length < left.length := Nat.mod_lt _ (by omega)
    unfold pickOrder.go
    rw [List.getElem?_eq_getElem lt]
    dsimp only
    refine (ih (k + 1) _ _ (by rw [List.length_eraseIdx, if_pos lt]; omega)).trans ?_
    rw [Array.toList_push, List.append_assoc]
    exact List.Perm.append_left _ (eraseIdx_perm lt)
theorem pick_perm {α : Type} (next : Nat → Nat) (xs : Array α) : (pickOrder next xs).toList.Perm xs.toList := by
  have := pickGo_perm next xs.size 0 xs.toList #[] (by simp)
  simpa [pickOrder] using this
section
variable {prog : Program} {w : World} {A : Around} {E : Value → Shared → Prop} {s : Shared}
/-- the order in which a table's elements come (no order is drawn for it) -/
def outOf (w : World) (a : Addr) (ep : Nat) (es : Array (Int × Value)) : Array (Int × Value) := if w.params.followText "set-order" = true then pickOrder (w.params.setOrder a ep) es else es
theorem out_perm (w : World) (a : Addr) (ep : Nat) (es : Array (Int × Value)) : (outOf w a ep es).toList.Perm es.toList := by
  unfold outOf
  split
  · exact pick_perm _ _
  · exact .refl _
theorem out_size (w : World) (a : Addr) (ep : Nat) (es : Array (Int × Value)) : (outOf w a ep es).size = es.size := by have := (out_perm w a ep es).length_eq; simpa using this
/-- the slot that is looked at for the i-th element -/
def slotAt (w : World) (t : SetTable) (i : Nat) : Nat := if w.params.followText "set-order" = true then 0 else match i with
  | 0 => 0
  | i + 1 => t.place.getD i 0 + 1
theorem setNext_I {a : Addr} {o : Obj} {es : Array (Int × Value)} {ep : Nat} {t : SetTable} {i : Nat} {Q : Option (Value × Nat) → Shared → Prop} (ho : s.heap.get? a = some o) (hd : o.data = .set es ep t) (hf : t.fits es.size = true) (ht : Tb (ledOf w) t)
    (nd : w.params.followText "set-order" = true ∨ (!t.plain && decide (es.size > 1)) = false) (hi : i ≤ es.size) (h : Q ((outOf w a ep es)[i]?.map fun e => (e.2, slotAt w t (i + 1))) s) : wpAny (model prog w) A (setNext a (slotAt w t i) i ep) Q E s := by
  unfold setNext
  refine wpAny_bind (wpAny_setState_of ho hd hf (wpAny_bind (wpAny_bind (wpAny_askSetting (wpAny_pure ?_)))))
  show wpAny _ _ (if w.params.followText "set-order" = true then _ else _) _ _ _
  by_cases tx : w.params.followText "set-order" = true
  · rw [if_pos tx, if_neg (by simp)]
    unfold setWalk
    refine wpAny_bind (wpAny_bind (wpAny_setState_of ho hd hf (wpAny_bind (wpAny_bind (wpAny_askSetting (wpAny_pure ?_))))))
    show wpAny _ _ (if w.params.followText "set-order" = true then _ else _) _ _ _
    rw [if_pos tx]
    refine wpAny_bind (wpAny_askSetting (wpAny_pure (wpAny_pure ?_)))
    unfold outOf slotAt at h
    simp only [if_pos tx] at h
    unfold slotAt
    rw [if_pos tx]
    exact h
  · rw [if_neg tx]
    have dr : (!t.plain && decide (es.size > 1)) = false := nd.resolve_left tx
    show wpAny _ _ (if (!t.plain && decide (es.size > 1)) = true then _ else _) _ _ _
    rw [if_neg (by rw [dr]; decide)]
    refine wpAny_bind ?_
    have led : t.led = true := by rw [ht.led]; unfold ledOf; simp [tx]
    show wpAny _ _ (if (!t.led && !es.isEmpty) = true then _ else _) _ _ _
    rw [if_neg (by rw [led]; simp)]
    refine wpAny_pure (wpAny_pure ?_)
    have sz : t.place.size = es.size := by
      unfold SetTable.fits at hf
      simp only [Bool.and_eq_true, beq_iff_eq] at hf
      exact hf.1
    have bl : SetTable.below t.place (slotAt w t i) = i := by
      unfold slotAt
      rw [if_neg tx]
      cases i with
      | zero => exact below_first ht.rise
      | succ i =>
        have q : i < t.place.size := by omega
        have e : t.place.getD i 0 = t.place[i] := by simp [Array.getD, q]
        simp only [e]
        exact below_next ht.rise q
    rw [bl]
    unfold outOf at h
    rw [if_neg tx] at h
    by_cases lt : i < es.size
    · have q : i < t.place.size := by omega
      rw [Array.getElem?_eq_getElem lt, Array.getElem?_eq_getElem q]
      rw [Array.getElem?_eq_getElem lt] at h
      have e : slotAt w t (i + 1) = t.place[i] + 1 := by
        unfold slotAt
        rw [if_neg tx]
        simp [Array.getD, q]
      rw [e] at h
      exact h
    · have e1 : es[i]? = none := by simp; omega
      rw [e1] at h ⊢
      exact h
end
end L2
namespace L2
open PySem PySem.Spec PyProof.Rows
abbrev setIter (first : Value) (i : Nat) (a : Addr) (n ep : Nat) : Obj := { cls := .type "set_iterator", data := .fields #[first, rawInt i, .ref a, rawInt n, rawInt ep] }
section
variable {prog : Program} {w : World} {A : Around} {E : Value → Shared → Prop} {s : Shared}
theorem fld_set {h : Heap} {it : Addr} {o : Obj} {vs : Array Value} (ho : h.get? it = some o) (hd : o.data = .fields vs) (i : Nat) (x : Value) : (h.update it (Obj.mapFields (·.setIfInBounds i x))).get? it = some { o with data := .fields (vs.setIfInBounds i x) } := by
  have := Heap.get?_update_self (Obj.mapFields (·.setIfInBounds i x)) ho (Obj.isFreed_of_fields (Obj.data_mapFields hd _))
  rw [this]
  obtain ⟨c, d, dt, sl⟩ := o
  simp only at hd
  subst hd
  rfl
/-- it has come to its end -/
theorem stop_I {α : Type} {Q : Option Value → Shared → Prop} (hh : A.handled = none) (hQ : ∀ h', (∀ b o, s.heap.get? b = some o → h'.get? b = some o) → Q none { s with heap := h' }) :
    wpAny (model prog w) A.in1 (do raiseNew (α := α) (← newExc (.type "StopIteration") [])) (fun _ _ => False) (fun e s' => wpAny (model prog w) A (do if ← isInstance e (.type "StopIteration") then pure none else throw e : Sem (Option Value)) Q E s') s := by
  refine wpAny_bind ?_
  simp only [newExc, newTuple]
  refine wpAny_bind (wpAny_newObj_type ?_ (by size_fits))
  refine wpAny_bind (m := firstArgMember _ _) (wpAny_of_eq (a := Value.none) (by first | rfl | (simp only [firstArgMember]; rfl)) (wpAny_newObj_type ?_ (by size_fits)))
  simp only [raiseNew]
  refine wpAny_bind (wpAny_handled ?_)
  rw [show A.in1.handled = none from hh]
  refine wpAny_bind (wpAny_pure (wpAny_throw (show wpAny _ _ (isInstance _ _ >>= _) _ _ _ from ?_)))
  refine wpAny_bind (wpAny_isInstance (T := "StopIteration") (b := true) ⟨_, Heap.get?_push_size _ rfl, rfl⟩ isSubtype_stop (wpAny_pure (hQ _ fun b o e => ?_)))
  exact Heap.get?_push_of_some _ (Heap.get?_push_of_some _ e)
end
end L2
namespace L2
open PySem PySem.Spec PyProof.Rows
section
variable {prog : Program} {w : World} {A : Around} {E : Value → Shared → Prop} {s : Shared}
/-- the call of an iterator's next -/
theorem next_of {it : Addr} {Q : Option Value → Shared → Prop} {o : Obj} (ho : s.heap.get? it = some o) (hc : o.cls = .type "set_iterator")
    (h : wpAny (model prog w) A.in1 (Builtin.«set_iterator.__next__» ⟨[.ref it], []⟩) (fun fin s' => ∃ r, fin = .done (.ret r) ∧ Q (some r) s') (fun e s' => wpAny (model prog w) A (do if ← isInstance e (.type "StopIteration") then pure none else throw e : Sem (Option Value)) Q E s') s) :
    wpAny (model prog w) A (pyNext (.ref it)) Q E s := by
  have hT : s.TypeIs (.ref it) "set_iterator" := ⟨o, ho, hc⟩
  unfold pyNext
  refine wpAny_bind (wpAny_attempt (wpAny_callSpecial?_slot (name := Str.ofString "__next__") hT it_next (wpAny_call_entry it_next hT it_entry ?_ (it_args _))))
  exact wpAny_mono h (fun fin s' ⟨r, e, q⟩ => ⟨r, e, wpAny_pure q⟩) fun e s' q => q
theorem ii_entry : entryFor table "set_iterator.__iter__" = some Builtin.«dict_keyiterator.__iter__» := entryFor_alias (id' := "dict_keyiterator.__iter__") (by kernel_rfl) rfl (by decide +kernel) (by kernel_rfl)
theorem ii_args (a : Value) : argsOk "set_iterator.__iter__" ⟨[a], []⟩ := by unfold argsOk; kernel_rfl
theorem self_I {it : Addr} {Q : Value → Shared → Prop} {o : Obj} (ho : s.heap.get? it = some o) (hc : o.cls = .type "set_iterator") (h : Q (.ref it) s) : wpAny (model prog w) A (pyIter (.ref it)) Q E s := by
  have hT : s.TypeIs (.ref it) "set_iterator" := ⟨o, ho, hc⟩
  refine wpAny_pyIter_slot hT it_iter (wpAny_call_entry it_iter hT ii_entry (show wpAny _ _ (ret (.ref it)) _ _ s from ?_) (ii_args _))
  exact wpAny_pure ⟨_, rfl, "set_iterator", _, hT, it_next.lookup, h⟩
/-- what all its ways begin with -/
theorem next_head {it a : Addr} {first : Value} {i ep : Nat} {o : Obj} {es : Array (Int × Value)} {t : SetTable} {Q : PySem.Fin → Shared → Prop} (hi : s.heap.get? it = some (setIter first i a es.size ep)) (ho : s.heap.get? a = some o) (hd : o.data = .set es ep t) (hf : t.fits es.size = true)
    (h : wpAny (model prog w) A (match first with
      | .int slot _ => do
        match ← setNext a slot.toNat i ep with
        | some (x, next) => do setField (.ref it) 0 (rawInt next); setField (.ref it) 1 (rawInt ((i : Int) + 1)); ret x
        | none => do setField (.ref it) 2 .none; raiseNew (← newExc (.type "StopIteration") [])
      | _ => do
        let some places ← seqItems? first | unsupported "internal:set_iterator"
        match places[i]? with
        | some (.int place _) => do
          let x ← setNextDrawn a place.toNat ep
          setField (.ref it) 1 (rawInt ((i : Int) + 1))
          ret x
        | some _ => unsupported "internal:set_iterator"
        | none => do setField (.ref it) 0 (rawInt 0); setField (.ref it) 2 .none; raiseNew (← newExc (.type "StopIteration") [])) Q E s) :
    wpAny (model prog w) A (Builtin.«set_iterator.__next__» ⟨[.ref it], []⟩) Q E s := by
  unfold Builtin.«set_iterator.__next__»
  refine wpAny_bind (wpAny_of_eq (show slotArgs "__next__" 0 ⟨[.ref it], []⟩ = pure (.ref it, []) from rfl) ?_)
  refine wpAny_bind (wpAny_fieldsOf hi rfl ?_)
  show wpAny _ _ (setEntries a >>= _) _ _ s
  refine wpAny_bind (wpAny_setEntries_of ho hd hf ?_)
  have e0 : (((es.size : Int) != (es.size : Int)) = true) = False := by simp
  show wpAny _ _ (if ((es.size : Int) != (es.size : Int)) = true then _ else _) _ _ s
  rw [if_neg (by rw [e0]; exact id)]
  cases first <;> exact h
theorem walks_led {a : Addr} {o : Obj} {es : Array (Int × Value)} {ep : Nat} {t : SetTable} (it : Addr) (hne : it ≠ a) (hh : A.handled = none) (hd : o.data = .set es ep t) (hf : t.fits es.size = true) (ht : Tb (ledOf w) t)
    (nd : w.params.followText "set-order" = true ∨ (!t.plain && decide (es.size > 1)) = false) :
    Walks prog w A it [it, a] [it] es.size (fun i v => ∃ e, (outOf w a ep es)[i]? = some e ∧ v = e.2) (fun i h => h.get? it = some (setIter (rawInt (slotAt w t i)) i a es.size ep) ∧ h.get? a = some o ∧ i ≤ es.size) where
  sub := fun b hb => by rw [List.mem_singleton.mp hb]; simp
  frame := fun i h h' ⟨h1, h2, h3⟩ k => ⟨k it (by simp) _ h1, k a (by simp) _ h2, h3⟩
  item := fun i s Q E hi ⟨h1, h2, _⟩ hQ => by
    have lt : i < (outOf w a ep es).size := by rw [out_size]; exact hi
    refine next_of h1 rfl (next_head h1 h2 hd hf ?_)
    show wpAny _ _ (setNext a (slotAt w t i) i ep >>= _) _ _ s
    refine wpAny_bind (setNext_I h2 hd hf ht nd (Nat.le_of_lt hi) ?_)
    rw [Array.getElem?_eq_getElem lt]
    dsimp only [Option.map]
    have g1 := fld_set h1 rfl 0 (rawInt (slotAt w t (i + 1)))
    refine wpAny_bind (wpAny_setField h1 rfl (by simp) (wpAny_bind (wpAny_setField g1 rfl (by simp) (wpAny_pure ⟨_, rfl, ?_⟩))))
    have g2 := fld_set g1 rfl 1 (rawInt ((i : Int) + 1))
    refine hQ _ _ s.toks ⟨_, Array.getElem?_eq_getElem lt, rfl⟩ ⟨g2, ?_, hi⟩ fun b ob hb e => ?_
    · rw [Heap.get?_update_other _ _ hne, Heap.get?_update_other _ _ hne]; exact h2
    · have : it ≠ b := fun z => hb (by rw [z]; simp)
      rw [Heap.get?_update_other _ _ this, Heap.get?_update_other _ _ this]; exact e
  done := fun s Q E ⟨h1, h2, _⟩ hQ => by
    have ge : (outOf w a ep es)[es.size]? = none := by simp [out_size]
    refine next_of h1 rfl (next_head h1 h2 hd hf ?_)
    show wpAny _ _ (setNext a (slotAt w t es.size) es.size ep >>= _) _ _ s
    refine wpAny_bind (setNext_I h2 hd hf ht nd (Nat.le_refl _) ?_)
    rw [ge]
    dsimp only [Option.map]
    refine wpAny_bind (wpAny_setField h1 rfl (by simp) ?_)
    refine wpAny_mono (stop_I (E := E) (Q := Q) hh fun h' k => hQ h' s.toks fun b ob hb e => k b ob ?_) (fun _ _ z => z.elim) fun _ _ z => z
    have : it ≠ b := fun z => hb (by rw [z]; simp)
    show (s.heap.update it _).get? b = some ob
    rw [Heap.get?_update_other _ _ this]; exact e
  self := fun i s Q E ⟨h1, _⟩ hQ => self_I h1 rfl hQ
/-! an order is drawn -/
theorem choose_I {src : Source} {n : Nat} {Q : Nat → Shared → Prop} (hn : n ≠ 0) (h : ∀ i d', i < n → Q i { s with drawn := d' }) : wpAny (model prog w) A (choose src n) Q E s := fun Γ p hΓ => ⟨hn, h _ _ (Nat.mod_lt _ (Nat.pos_of_ne_zero hn))⟩
theorem draw_I {α : Type} : ∀ (xs : List α) (n : Nat) (s : Shared) (Q : List α → Shared → Prop), n = xs.length → (∀ ys d', ys.Perm xs → Q ys { s with drawn := d' }) → wpAny (model prog w) A (drawOrder n xs) Q E s := by
  intro xs n
  induction n generalizing xs with
  | zero =>
    intro s Q e h
    have : xs = [] := List.length_eq_zero_iff.mp e.symm
    subst this
    exact wpAny_pure (h [] s.drawn (.refl _))
  | succ n ih =>
    intro s Q e h
    cases xs with
    | nil => simp at e
    | cons x xs =>
      unfold drawOrder
      refine wpAny_bind (choose_I (by simp) fun i d' hi => ?_)
      rw [List.getElem?_eq_getElem hi]
      dsimp only
      refine wpAny_bind (ih _ _ _ (by rw [List.length_eraseIdx, if_pos hi]; simp at e ⊢; exact e) fun ys d'' p => wpAny_pure (h _ d'' ((p.cons _).trans (eraseIdx_perm hi))))
abbrev placesObj (ord : List Nat) : Obj := { cls := .type "tuple", data := .seq (ord.map fun (i : Nat) => rawInt i).toArray }
theorem walks_drawn {a T : Addr} {o : Obj} {es : Array (Int × Value)} {ep : Nat} {t : SetTable} {ord : List Nat} (it : Addr) (hne : it ≠ a) (hnT : it ≠ T) (hh : A.handled = none) (hd : o.data = .set es ep t) (hf : t.fits es.size = true) (hp : ord.Perm (List.range es.size)) :
    Walks prog w A it [it, T, a] [it] es.size (fun i v => ∃ j e, ord[i]? = some j ∧ es[j]? = some e ∧ v = e.2) (fun i h => h.get? it = some (setIter (.ref T) i a es.size ep) ∧ h.get? T = some (placesObj ord) ∧ h.get? a = some o) where
  sub := fun b hb => by rw [List.mem_singleton.mp hb]; simp
  frame := fun i h h' ⟨h1, h2, h3⟩ k => ⟨k it (by simp) _ h1, k T (by simp) _ h2, k a (by simp) _ h3⟩
  item := fun i s Q E hi ⟨h1, hT, h2⟩ hQ => by
    have ol : ord.length = es.size := by have := hp.length_eq; simpa using this
    have hj : ord[i]'(by omega) < es.size := List.mem_range.mp (hp.mem_iff.mp (List.getElem_mem _))
    refine next_of h1 rfl (next_head h1 h2 hd hf ?_)
    show wpAny _ _ (seqItems? (.ref T) >>= _) _ _ s
    refine wpAny_bind (wpAny_seqItems hT rfl ?_)
    have e1 : (ord.map fun (i : Nat) => rawInt i).toArray[i]? = some (rawInt (ord[i]'(by omega))) := by simp [List.getElem?_eq_getElem (show i < ord.length by omega)]
    dsimp only
    rw [e1]
    show wpAny _ _ (setNextDrawn a (ord[i]'(by omega)) ep >>= _) _ _ s
    unfold setNextDrawn
    refine wpAny_bind (wpAny_bind (wpAny_setState_of h2 hd hf ?_))
    dsimp only
    rw [if_neg (by simp), Array.getElem?_eq_getElem hj]
    refine wpAny_bind (wpAny_pure (wpAny_pure ?_))
    refine wpAny_bind (wpAny_setField h1 rfl (by simp) (wpAny_pure ⟨_, rfl, ?_⟩))
    have g2 := fld_set h1 rfl 1 (rawInt ((i : Int) + 1))
    refine hQ _ _ s.toks ⟨_, _, List.getElem?_eq_getElem (by omega), Array.getElem?_eq_getElem hj, rfl⟩ ⟨g2, ?_, ?_⟩ fun b ob hb e => ?_
    · rw [Heap.get?_update_other _ _ hnT]; exact hT
    · rw [Heap.get?_update_other _ _ hne]; exact h2
    · have : it ≠ b := fun z => hb (by rw [z]; simp)
      rw [Heap.get?_update_other _ _ this]; exact e
  done := fun s Q E ⟨h1, hT, h2⟩ hQ => by
    have ol : ord.length = es.size := by have := hp.length_eq; simpa using this
    refine next_of h1 rfl (next_head h1 h2 hd hf ?_)
    show wpAny _ _ (seqItems? (.ref T) >>= _) _ _ s
    refine wpAny_bind (wpAny_seqItems hT rfl ?_)
    have e1 : (ord.map fun (i : Nat) => rawInt i).toArray[es.size]? = none := by simp; omega
    dsimp only
    rw [e1]
    have g1 := fld_set h1 rfl 0 (rawInt 0)
    refine wpAny_bind (wpAny_setField h1 rfl (by simp) (wpAny_bind (wpAny_setField g1 rfl (by simp) ?_)))
    refine wpAny_mono (stop_I (E := E) (Q := Q) hh fun h' k => hQ h' s.toks fun b ob hb e => k b ob ?_) (fun _ _ z => z.elim) fun _ _ z => z
    have : it ≠ b := fun z => hb (by rw [z]; simp)
    show ((s.heap.update it _).update it _).get? b = some ob
    rw [Heap.get?_update_other _ _ this, Heap.get?_update_other _ _ this]; exact e
  self := fun i s Q E ⟨h1, _⟩ hQ => self_I h1 rfl hQ
end
end L2
namespace L2
open PySem PySem.Spec PyProof.Rows
section
variable {prog : Program} {w : World} {A : Around} {E : Value → Shared → Prop} {s : Shared}
/-- what the walk of a set gives: its numbers, each once, in some order -/
def GivesI (P : Nat → Value → Prop) (ks : List Int) : Prop := ∀ acc : Array Value, ItemsOf P acc ks.length → ∃ ns, IntsAre acc.toList ns ∧ ns.Perm ks
theorem gives_of {es out : Array (Int × Value)} {ks : List Int} (hel : ElemsOf (intKind prog w) es.toList) (hp : ks.Perm (keysI es)) (ho : out.toList.Perm es.toList) : GivesI (fun i v => ∃ e, out[i]? = some e ∧ v = e.2) ks := by
  have intsL : ∀ l : List (Int × Value), (∀ e ∈ l, e ∈ es.toList) → IntsAre (l.map (·.2)) (l.map fun e => valI e.2) := by
    intro l
    induction l with
    | nil => intro _; exact .nil
    | cons e l ih =>
      intro h
      obtain ⟨t, q⟩ := elem_is hel (h e (List.mem_cons_self ..))
      rw [List.map_cons, List.map_cons, q]
      exact .cons _ _ (ih fun x hx => h x (List.mem_cons_of_mem _ hx))
  intro acc ha
  have len : ks.length = out.size := by have h1 := hp.length_eq; have h2 := ho.length_eq; unfold keysI at h1; simp at h1 h2; omega
  have e : acc.toList = out.toList.map (·.2) := by
    refine List.ext_getElem? fun i => ?_
    by_cases lt : i < ks.length
    · have hs := ha.1
      have q := ha.2 i (acc[i]'(by omega)) (Array.getElem?_eq_getElem (by omega))
      obtain ⟨e, h1, h2⟩ := q
      rw [Array.getElem?_toList, Array.getElem?_eq_getElem (by omega), h2, List.getElem?_map, Array.getElem?_toList, h1]
      rfl
    · have hs := ha.1
      rw [List.getElem?_eq_none (by simp; omega), List.getElem?_eq_none (by simp; omega)]
  refine ⟨out.toList.map fun e => valI e.2, ?_, (ho.map fun e : Int × Value => valI e.2).trans hp.symm⟩
  rw [e]
  exact intsL _ fun e he => ho.mem_iff.mp he
theorem drawn_out {es : Array (Int × Value)} {ord : List Nat} (hp : ord.Perm (List.range es.size)) : ∃ out : Array (Int × Value), out.toList.Perm es.toList ∧ ∀ (i j : Nat) (e : Int × Value), ord[i]? = some j → es[j]? = some e → out[i]? = some e := by
  refine ⟨(ord.filterMap fun j => es[j]?).toArray, ?_, ?_⟩
  · show (ord.filterMap fun j => es[j]?).Perm es.toList
    exact (hp.filterMap _).trans (by rw [filterMap_getElem?_range])
  · have all : ∀ j ∈ ord, j < es.size := fun j hj => List.mem_range.mp (hp.mem_iff.mp hj)
    have e : (ord.filterMap fun j => es[j]?) = ord.map fun j => es.getD j (0, .none) := by
      clear hp
      induction ord with
      | nil => rfl
      | cons j l ih =>
        have lt := all j (List.mem_cons_self ..)
        rw [List.filterMap_cons, Array.getElem?_eq_getElem lt, List.map_cons, ih fun x hx => all x (List.mem_cons_of_mem _ hx)]
        simp [Array.getD, lt]
    intro i j e' h1 h2
    rw [List.getElem?_toArray, e, List.getElem?_map, h1]
    have lt := all j (List.mem_of_getElem? h1)
    rw [Array.getElem?_eq_getElem lt] at h2
    simp only [Option.map_some, Array.getD, lt, dite_true]
    exact h2
theorem iter_I {a : Addr} {ks : List Int} {Q : Value → Shared → Prop} (S : SetI prog w s.heap a (ledOf w) ks) (hh : A.handled = none)
    (h : ∀ (I : Addr) (fp : List Addr) (P : Nat → Value → Prop) (St : Nat → Heap → Prop) (h' : Heap) (d' : Drawn), Walks prog w A I fp [I] ks.length P St → St 0 h' → GivesI P ks → (∀ b o, s.heap.get? b = some o → h'.get? b = some o) → s.heap.objs.size ≤ I → (∀ b ∈ fp, b = a ∨ s.heap.objs.size ≤ b) → Q (.ref I) { s with heap := h', drawn := d' }) :
    wpAny (model prog w) A (pyIter (.ref a)) Q E s := by
  obtain ⟨o, es, ep, t, ho, hx, hd, hel, hp, hb, hf, ht⟩ := S
  have hT : s.TypeIs (.ref a) "set" := ⟨o, ho, hx.1⟩
  have lt := Heap.lt_size ho
  have len : ks.length = es.size := by have h1 := hp.length_eq; unfold keysI at h1; simpa using h1
  refine wpAny_pyIter_slot hT PySem.F.slot_set_iter (wpAny_call_entry PySem.F.slot_set_iter hT st_entry ?_ (PySem.F.args_set_iter_1 _))
  unfold Builtin.«frozenset.__iter__»
  refine wpAny_bind (wpAny_of_eq (show Builtin.Frozenset.slot0 "__iter__" ⟨[.ref a], []⟩ = pure a from rfl) ?_)
  unfold Builtin.Frozenset.sizeOf
  refine wpAny_bind (wpAny_bind (wpAny_setEntries_of ho hd hf (wpAny_pure ?_)))
  unfold setDrawn
  refine wpAny_bind (wpAny_bind (wpAny_setState_of ho hd hf (wpAny_bind (wpAny_bind (wpAny_askSetting (wpAny_pure (wpAny_pure ?_)))))))
  show wpAny _ _ (if (!(w.params.followText "set-order") && (!t.plain && decide (es.size > 1))) = true then _ else _) _ _ _
  by_cases c : (!(w.params.followText "set-order") && (!t.plain && decide (es.size > 1))) = true
  · rw [if_pos c]
    refine wpAny_bind (draw_I (List.range es.size) es.size s _ (by simp) fun ord d' po => ?_)
    refine wpAny_bind (wpAny_newObj_type ?_ (show (List.map (fun (i : Nat) => rawInt i) ord).toArray.size ≤ sizeLine by rw [List.size_toArray, List.length_map, po.length_eq, List.length_range]; exact fits_of_scanBound hb))
    have g1 : ∀ b ob, s.heap.get? b = some ob → (s.heap.push (placesObj ord)).get? b = some ob := fun b ob e => Heap.get?_push_of_some _ e
    refine wpAny_bind (wpAny_setEpoch_of (g1 _ _ ho) hd hf (wpAny_bind (wpAny_newObj_type ?_ (by size_fits))))
    have nI : (s.heap.push (placesObj ord)).objs.size = s.heap.objs.size + 1 := size_push' ..
    have W := walks_drawn (prog := prog) (w := w) (A := A) (T := s.heap.objs.size) (ep := ep) (s.heap.push (placesObj ord)).objs.size (by rw [nI]; exact Nat.ne_of_gt (Nat.lt_succ_of_lt lt)) (by rw [nI]; exact Nat.succ_ne_self _) hh hd hf po
    obtain ⟨out, op, oi⟩ := drawn_out po
    refine wpAny_pure ⟨_, rfl, "set_iterator", _, ⟨_, Heap.get?_push_size _ rfl, rfl⟩, it_next.lookup, ?_⟩
    rw [← len] at W
    refine h _ _ _ _ _ d' W ⟨?_, Heap.get?_push_of_some _ (Heap.get?_push_size _ rfl), Heap.get?_push_of_some _ (g1 _ _ ho)⟩ (fun acc ha => gives_of hel hp op acc ⟨ha.1, fun i v e => ?_⟩) (fun b ob e => Heap.get?_push_of_some _ (g1 _ _ e)) (by rw [nI]; exact Nat.le_succ _) fun b hb => ?_
    · rw [len]
      exact Heap.get?_push_size _ rfl
    · obtain ⟨j, e', h1, h2, h3⟩ := ha.2 i v e
      exact ⟨e', oi i j e' h1 h2, h3⟩
    · rcases List.mem_cons.mp hb with rfl | hb
      · rw [nI]; exact .inr (Nat.le_succ _)
      · rcases List.mem_cons.mp hb with rfl | hb
        · exact .inr (Nat.le_refl _)
        · exact .inl (List.mem_singleton.mp hb)
  · rw [if_neg c]
    refine wpAny_bind (wpAny_pure (wpAny_bind (wpAny_setEpoch_of ho hd hf (wpAny_bind (wpAny_newObj_type ?_ (by size_fits))))))
    have nd : w.params.followText "set-order" = true ∨ (!t.plain && decide (es.size > 1)) = false := by
      cases q : w.params.followText "set-order" with
      | true => exact .inl rfl
      | false => rw [q] at c; exact .inr (by simpa using c)
    have W := walks_led (prog := prog) (w := w) (A := A) (ep := ep) s.heap.objs.size (Nat.ne_of_gt lt) hh hd hf ht nd
    refine wpAny_pure ⟨_, rfl, "set_iterator", _, ⟨_, Heap.get?_push_size _ rfl, rfl⟩, it_next.lookup, ?_⟩
    rw [← len] at W
    refine h _ _ _ _ _ s.drawn W ⟨?_, Heap.get?_push_of_some _ ho, Nat.zero_le _⟩ (gives_of hel hp (out_perm w a ep es)) (fun b ob e => Heap.get?_push_of_some _ e) (Nat.le_refl _) fun b hb => ?_
    · have e0 : slotAt w t 0 = 0 := by unfold slotAt; split <;> rfl
      rw [e0, len]
      exact Heap.get?_push_size _ rfl
    · rcases List.mem_cons.mp hb with rfl | hb
      · exact .inr (Nat.le_refl _)
      · exact .inl (List.mem_singleton.mp hb)
end
end L2
namespace L2
open PySem PySem.Spec PyProof.Rows
section
variable {prog : Program} {w : World} {A : Around} {E : Value → Shared → Prop} {s : Shared}
theorem hint_I {r : Addr} {Q : Bool → Shared → Prop} (hT : s.TypeIs (.ref r) "set") (h : Q false s) : wpAny (model prog w) A (Builtin.List.listLengthHint (.ref r)) Q E s := by
  unfold Builtin.List.listLengthHint
  refine wpAny_bind (wpAny_specialOf hT PySem.F.slot_set_len.lookup ?_)
  generalize hid : ("set.__len__" : String) = id0
  wp_delta
  rw [show splitId id0 = some ("set", "__len__") from by subst hid; decide +kernel]
  subst hid
  refine wpAny_bind (wpAny_isInstance (T := "set") (b := true) hT (by rw [isSubtype_type]; kernel_rfl) (wpAny_ite_split (fun z => absurd z (by decide)) fun _ => wpAny_ite_split (fun _ => ?_) fun z => absurd (by decide +kernel) z))
  exact wpAny_bind (wpAny_typeOf hT (wpAny_pure h))
/-- a list gets a set's numbers -/
theorem extend_I {a S : Addr} {ks : List Int} {R : Result → Shared → Prop} {res : Value} {c₀ : Nat} (SI : SetI prog w s.heap a (ledOf w) ks) (hh : A.handled = none) (hz : ks.length ≤ sizeLine) (hSa : S ≠ a) (hS : s.heap.get? S = some { cls := .type "list", data := .seq #[] c₀ })
    (hR : ∀ h' tk d' acc c ns, (∀ b o, b ≠ S → s.heap.get? b = some o → h'.get? b = some o) → h'.get? S = some { cls := .type "list", dict := none, data := .seq acc c, slots := #[] } → IntsAre acc.toList ns → ns.Perm ks → R (.ok (.ret res)) { s with heap := h', toks := tk, drawn := d' }) :
    wpAny (model prog w) A.in1 (Builtin.List.listExtendWith (.ref S) (.ref a) res) (fun fin s' => match fin with | .done f => R (.ok f) s' | .again c' => c'.quiet = true ∧ codeAny (model prog w) A c' R s') (fun e s' => R (.error e) s') s := by
  have hT : s.TypeIs (.ref a) "set" := let ⟨o, _, _, _, ho, hx, _⟩ := SI; ⟨o, ho, hx.1⟩
  have hlt := Heap.lt_size hS
  unfold Builtin.List.listExtendWith
  refine wpAny_bind (wpAny_typeOf (T := "set") hT ?_)
  have h1 : Builtin.List.listSameRef (.ref S) (.ref a) = false := by simp [Builtin.List.listSameRef, hSa]
  have h2 : (Value.type "set" == Value.type "list") = false := by decide
  have h3 : (Value.type "set" == Value.type "tuple") = false := by decide
  simp only [h1, h2, h3, Bool.or_false, Bool.false_eq_true, if_false]
  refine wpAny_bind (iter_I SI hh fun I fp P St h1 d1 W st gv k1 hI hfp => ?_)
  have nf : S ∉ fp := fun z => by
    rcases hfp S z with e | e
    · exact hSa e
    · exact absurd hlt (Nat.not_lt.mpr e)
  have key : ∀ (h2 : Heap) (c₁ tk : Nat), St 0 h2 → (∀ b o, b ≠ S → s.heap.get? b = some o → h2.get? b = some o) → h2.get? S = some { cls := .type "list", data := .seq #[] c₁ } → codeAny (model prog w) A (.builtin "list.extend.loop" ⟨[.ref S, .ref I, res], []⟩) R { s with heap := h2, toks := tk, drawn := d1 } := by
    intro h2 c₁ tk st2 k2 g2
    refine codeAny_extend_loopS W.toS hz S nf res _ 0 _ #[] c₁ rfl (Nat.zero_le _) st2 g2 (ItemsOf.nil _) fun s' acc c mv g3 it => ?_
    obtain ⟨ns, i1, i2⟩ := gv acc it
    rw [Moved.eq_with mv]
    refine hR s'.heap s'.toks d1 acc c ns (fun b o hb e => mv.heap b o (fun z => ?_) (k2 b o hb e)) g3 i1 i2
    rcases List.mem_cons.mp z with z | z
    · exact hb z
    · exact absurd (Heap.lt_size e) (by rw [List.mem_singleton.mp z]; exact Nat.not_lt.mpr hI)
  have hT1 : Shared.TypeIs { s with heap := h1, drawn := d1 } (.ref a) "set" := let ⟨o, _, _, _, ho, hx, _⟩ := SI; ⟨o, k1 _ _ ho, hx.1⟩
  refine wpAny_bind (wpAny_holding (hint_I hT1 ?_))
  refine wpAny_ite_split (fun _ => ?_) fun _ => wpAny_pure ⟨plainId_quiet PySem.F.plain_extend_loop _, key h1 c₀ _ st (fun b o _ e => k1 b o e) (k1 _ _ hS)⟩
  refine wpAny_bind (wpAny_rule (wpAny_bind ?_))
  show wpAny _ _ (updateSeq S (·.push .none) >>= fun _ => updateSeq S (·.pop)) _ _ _
  refine wpAny_bind (wpAny_updateSeq (k1 _ _ hS) rfl ?_)
  have g2 := Heap.get?_update_self (Obj.mapSeq (·.push Value.none)) (k1 _ _ hS) rfl
  refine wpAny_updateSeq (hz := by seq_fits) g2 rfl ?_
  have g3 := Heap.get?_update_self (Obj.mapSeq (·.pop)) g2 rfl
  have oth : ∀ b o, b ≠ S → h1.get? b = some o → ((h1.update S (Obj.mapSeq (·.push Value.none))).update S (Obj.mapSeq (·.pop))).get? b = some o := fun b o hb e => by
    rw [Heap.get?_update_other _ _ (Ne.symm hb), Heap.get?_update_other _ _ (Ne.symm hb)]; exact e
  exact wpAny_pure ⟨plainId_quiet PySem.F.plain_extend_loop _, key _ _ _ (W.frame 0 _ _ st fun b hb o e => oth b o (fun z => nf (z ▸ hb)) e) (fun b o hb e => oth b o hb (k1 b o e)) g3⟩
theorem collect_I {a : Addr} {ks : List Int} {R : List Value → Shared → Prop} (SI : SetI prog w s.heap a (ledOf w) ks) (hh : A.handled = none) (hz : ks.length ≤ sizeLine)
    (h : ∀ (h' : Heap) (tk : Nat) (d' : Drawn) (vs : List Value) (ns : List Int), (∀ b o, s.heap.get? b = some o → h'.get? b = some o) → IntsAre vs ns → ns.Perm ks → R vs { s with heap := h', toks := tk, drawn := d' }) : wpAny (model prog w) A (collect (.ref a)) R E s := by
  have hlt : a < s.heap.objs.size := let ⟨_, _, _, _, ho, _⟩ := SI; Heap.lt_size ho
  unfold collect
  refine wpAny_bind (wpAny_runValue (codeAny_builtin entry_proto_collect' ?_))
  rw [Around.under_plainId PySem.F.plain_proto_collect _]
  refine wpAny_bind (show wpAny _ A.in1 (newList []) _ _ s from wpAny_newObj_type (wpAny_pure ⟨plainId_quiet PySem.F.plain_list_iadd _, codeAny_builtin entry_list_iadd' ?_⟩))
  rw [Around.under_plainId PySem.F.plain_list_iadd _]
  have g0 : (s.heap.push { cls := .type "list", data := .seq ([] : List Value).toArray }).get? s.heap.objs.size = some { cls := .type "list", data := .seq #[] } := Heap.get?_push_size _ rfl
  show wpAny _ A.in1 (Builtin.List.listExtendWith (.ref s.heap.objs.size) (.ref a) (.ref s.heap.objs.size)) _ _ _
  have key := extend_I (A := A) (s := { s with heap := s.heap.push { cls := .type "list", data := .seq ([] : List Value).toArray } }) (res := .ref s.heap.objs.size) (SI.keep fun o e => Heap.get?_push_of_some _ e) hh hz (Nat.ne_of_gt hlt) g0
    (R := fun (q : Result) (s' : Shared) => ∃ (h' : Heap) (tk : Nat) (d' : Drawn) (acc : Array Value) (c : Nat) (ns : List Int), q = .ok (.ret (.ref s.heap.objs.size)) ∧ s' = { s with heap := h', toks := tk, drawn := d' } ∧ (∀ b o, s.heap.get? b = some o → h'.get? b = some o) ∧
      h'.get? s.heap.objs.size = some { cls := .type "list", dict := none, data := .seq acc c, slots := #[] } ∧ IntsAre acc.toList ns ∧ ns.Perm ks)
    (fun h' tk d' acc c ns k g i1 i2 => ⟨h', tk, d', acc, c, ns, rfl, rfl, fun b o e => k b o (Nat.ne_of_lt (Heap.lt_size e)) (Heap.get?_push_of_some _ e), g, i1, i2⟩)
  refine wpAny_mono key (fun fin s' x => ?_) fun e s' x => ?_
  · cases fin with
    | done f =>
      obtain ⟨h', tk, d', acc, c, ns, e, rfl, k, g, i1, i2⟩ := x
      cases e
      exact (show wpAny _ A (load s.heap.objs.size >>= _) _ _ _ from wpAny_bind (wpAny_load g (wpAny_pure (h h' tk d' _ ns k i1 i2))))
    | again c₁ =>
      refine ⟨x.1, codeAny_mono x.2 fun q s₂ y => ?_⟩
      obtain ⟨h', tk, d', acc, c, ns, rfl, rfl, k, g, i1, i2⟩ := y
      exact (show wpAny _ A (load s.heap.objs.size >>= _) _ _ _ from wpAny_bind (wpAny_load g (wpAny_pure (h h' tk d' _ ns k i1 i2))))
  · obtain ⟨_, _, _, _, _, _, e', _⟩ := x
    cases e'
theorem sorted_I {a : Addr} {ks : List Int} {Q : Value → Shared → Prop} (SI : SetI prog w s.heap a (ledOf w) ks) (hh : A.handled = none) (hn : ks.length < 64)
    (h : ∀ (l : Addr) (h' : Heap) (tk : Nat) (d' : Drawn) (out : Array Value) (ms : List Int), (∀ b o, s.heap.get? b = some o → h'.get? b = some o) → s.heap.get? l = none → (∃ e, h'.get? l = some (seqObj "list" out e)) → IntsAre out.toList ms → ms.Perm ks → ms.Pairwise (· ≤ ·) → Q (.ref l) { s with heap := h', toks := tk, drawn := d' }) :
    wpAny (model prog w) A (call (.builtin "sorted") [.ref a]) Q E s := by
  refine Calls.call_function_entry kind_sorted plain_sorted entry_sorted (args_sorted1 _) ?_
  unfold Builtin.«sorted»
  refine wpAny_bind (m := checkCount "sorted" 1 1 _) (wpAny_pure (wpAny_bind (collect_I (A := A.in1) SI hh (by rw [sizeLine_eq]; omega) fun h1 tk d1 vs ns k1 hI hp => ?_)))
  have hl : vs.length = ks.length := by rw [hI.length, hp.length_eq]
  refine wpAny_bind (wpAny_newList ?_ (by rw [hl, sizeLine_eq]; omega))
  have hoL : (h1.push (seqObj "list" vs.toArray 0)).get? h1.objs.size = some (seqObj "list" vs.toArray 0) := Heap.get?_push_size _ rfl
  show wpAny _ _ _ _ _ { s with heap := h1.push (seqObj "list" vs.toArray 0), toks := tk, drawn := d1 }
  refine wpAny_bind (wpAny_holding (wpAny_call_entry slot_list_sort ⟨_, hoL, rfl⟩ entry_list_sort (list_sort_tree hoL hI (by rw [hl]; exact hn) fun out ms a1 a2 a3 => ⟨_, rfl, wpAny_pure ⟨_, rfl, ?_⟩⟩) (args_list_sort _)))
  have le : s.heap.get? h1.objs.size = none := by
    cases q : s.heap.get? h1.objs.size with
    | none => rfl
    | some u => exact absurd (Heap.lt_size (k1 _ _ q)) (Nat.lt_irrefl _)
  refine h h1.objs.size _ tk d1 out ms (fun b o e => ?_) le (sortedHeap_at hoL) a1 (a2.trans hp) a3
  have e1 := k1 b o e
  have lt := Heap.lt_size e1
  rw [sortedHeap_old (Nat.ne_of_lt lt) (by rw [size_push']; exact Nat.lt_succ_of_lt lt), Heap.get?_push_ne _ _ _ (Nat.ne_of_lt lt)]
  exact e1
end
/-! ### the rules -/
def setO (P : Program) (w : World) (a : Addr) (ks : List Int) : HO := .ext fun h => SetI P w h a (ledOf w) ks
section
variable {X : Cx} {pins : List (Addr × Obj)} {σ : St} {H : Hp} {s : Shared}
theorem Inv.drawn (I : Inv X pins σ H s) (d : Drawn) : Inv X pins σ H { s with drawn := d } := ⟨I.ok, I.os, I.bare, I.base, I.loc, I.cell, I.free, I.freeC, I.pin, I.hok, I.len⟩
theorem set_ok {P : Program} {w : World} {H : Hp} {h : Heap} {a : Addr} {ks : List Int} (S : SetI P w h a (ledOf w) ks) : ObjOk P w H h a (setO P w a ks) := ⟨S, let ⟨o, _, _, _, ho, _⟩ := S; ⟨o, ho⟩, fun _ _ S1 k => S1.keep k⟩
theorem call_setI (hc : X.calm = true) : CallR X (.type "set") (fun xs H Q => ∃ (p : Addr) (ns : List Int), xs = [.ref p] ∧ SqL X.K H p (ns.map V.int) ∧ ns.length < 1000 ∧ ∀ (l : Addr) (ks : List Int), H l = none → Those ks ns → Q (.ref l) (upd H l (setO X.prog X.w l ks))) := by
  intro pins s σ H xs us Q I r h
  obtain ⟨p, ns, rfl, hp, hz, q⟩ := h
  obtain ⟨u, rfl, ru⟩ := vals1 r
  cases ru
  obtain ⟨its, rv, ⟨o, n, ho, hcl, _, hd⟩, _⟩ := I.list hp
  have hL : s.heap.IsList p its.toArray := ⟨o, ho, hcl, n, hd⟩
  refine call_I (items := its.toArray) (ns := ns) (I.ok.hd hc) hL (by simpa using intsAre_of rv) (by unfold scanBound; omega) fun h' tk ks SI T k => ?_
  exact ⟨.ref s.heap.objs.size, _, I.laid (t' := tk) (fun b ob e => k b ob (Heap.lt_size e) e) (Nat.le_refl _) (set_ok SI), rfl, q _ ks (I.hok.fresh (Nat.le_refl _)) T⟩
theorem call_sortedS (hc : X.calm = true) : CallR X (.builtin "sorted") (fun xs H Q => ∃ (p : Addr) (ks : List Int), xs = [.ref p] ∧ H p = some (setO X.prog X.w p ks) ∧ ks.length < 64 ∧ ∀ (l : Addr) (ms : List Int), H l = none → ms.Perm ks → ms.Pairwise (· ≤ ·) → Q (.ref l) (upd H l (.lst (ms.map V.int)))) := by
  intro pins s σ H xs us Q I r h
  obtain ⟨p, ks, rfl, hp, h64, q⟩ := h
  obtain ⟨u, rfl, ru⟩ := vals1 r
  cases ru
  obtain ⟨SI, _, _⟩ : ObjOk X.prog X.w H s.heap p (setO X.prog X.w p ks) := I.hok p _ hp
  refine sorted_I SI (I.ok.hd hc) h64 ?_
  rintro l h' tk d' out ms k hl ⟨e, he⟩ a1 a2 a3
  have hf := I.hok.none hl
  refine ⟨.ref l, _, ((I.drawn d').laidAt (t' := tk) k hl (show ObjOk X.prog X.w _ _ _ (.lst (ms.map V.int)) from ⟨?_, out.toList, e, vals_of_ints a1, ?_⟩)), rfl, q l ms hf a2 a3⟩
  · rw [List.length_map, a2.length_eq, sizeLine_eq]; omega
  · simpa [seqObj] using he
end
end L2
namespace L2
open PySem PySem.Spec PyProof.Rows
/-! ### dict(xs), xs a list of pairs whose first is an int; d.get(k) -/
theorem keys_miss : typeLookup (.type "list") "keys" = pure none := am_miss_of_fast (by decide +kernel)
section
variable {prog : Program} {w : World} {A : Around} {E : Value → Shared → Prop} {s : Shared}
theorem nokeys {l : Addr} {o : Obj} {xs : Array Value} {k : Nat} {Q : Option Value → Shared → Prop} (hx : s.heap.get? l = some o) (hc : o.cls = .type "list") (hdat : o.data = .seq xs k) (hdn : o.dict = none) (hA : A.handled = none)
    (h : ∀ h' tk, (∀ b ob, s.heap.get? b = some ob → h'.get? b = some ob) → Q none { s with heap := h', toks := tk }) : wpAny (model prog w) A (getAttr? (.ref l) "keys") Q E s := by
  obtain ⟨c, dct, dat, sl⟩ := o
  simp only at hc hdat hdn
  subst hc hdat hdn
  obtain ⟨hp, g, d, tk, os⟩ := s
  have hT : ∀ tk', (⟨hp, g, d, tk', os⟩ : Shared).TypeIs (.ref l) "list" := fun _ => ⟨_, hx, rfl⟩
  have f1 := sub_AttributeError
  have f3 := PySem.F.slot_list_getattribute.lookup
  have f4 := PySem.F.slot_list_getattribute.bind (.ref l)
  have f5 := am_list_getattr_none
  unfold getAttr? getAttrBy? getAttrBy
  repeat (any_goals (first | assumption | exact hT _ | ((with_reducible show wpAny _ _ (call (Value.builtin "list.__getattribute__") _ _) _ _ _); refine call_meets PySem.F.slot_list_getattribute (hT _) am_entry_list_getattribute (PySem.F.args_list_getattribute_2 _ _) (meets_getattribute_miss_list l xs k sl "keys" _ keys_miss (by decide +kernel) (by decide +kernel)) ⟨hx, hA, fun h' tk' e hx' => ?_⟩) | wp_step))
  obtain ⟨t', u', he⟩ := hx'.there
  show wpAny _ _ (getattributeRaised _ _ _ _ _ _ _) _ _ _
  unfold getattributeRaised
  repeat (any_goals (first | assumption | wp_step))
  exact h _ _ hx'.keeps
end
end L2
namespace L2
open PySem PySem.Spec PyProof.Rows
theorem du_entry : entryFor table "dict.update.loop" = some Builtin.«dict.update.loop» := entryFor_of_tree (by kernel_rfl)
theorem du_plain : plainId "dict.update.loop" = true := by decide +kernel
section
variable {prog : Program} {w : World} {A : Around} {E : Value → Shared → Prop} {s : Shared} {R : Result → Shared → Prop} {K : Type} [DecidableEq K] {knd : KeyKind prog w K}
/-- the pairs are there -/
def PairsIn (knd : KeyKind prog w K) (h : Heap) (items : Array Value) (ps : List (K × Value)) (bad : List Addr) : Prop := items.size = ps.length ∧ ∀ (i : Nat) (v : Value) (p : K × Value), items[i]? = some v → ps[i]? = some p → ∃ a kv, v = .ref a ∧ a ∉ bad ∧ knd.is p.1 kv = true ∧ h.IsTuple a #[kv, p.2]
theorem loop_D {I l d : Addr} {items : Array Value} {ps : List (K × Value)} {h0 : Heap} (hne : l ≠ I) (hdI : d ≠ I) (hdl : d ≠ l) (hh : A.in1.handled = none) (hP : PairsIn knd h0 items ps [d, I]) (hz : ps.length ≤ sizeLine) :
    ∀ (m i : Nat) (s : Shared), ps.length - i = m → i ≤ ps.length → s.heap.IsListIter I l i → s.heap.IsList l items → s.heap.DictOf knd d (merged [] (ps.take i)) → (∀ b o, b ∉ [d, I] → h0.get? b = some o → s.heap.get? b = some o) →
      (∀ h' tk, h'.DictOf knd d (merged [] ps) → (∀ b o, b ∉ [d, I] → h0.get? b = some o → h'.get? b = some o) → R (.ok (.ret .none)) { s with heap := h', toks := tk }) → codeAny (model prog w) A (.builtin "dict.update.loop" ⟨[.ref d, .ref I, rawInt i, .none], []⟩) R s := by
  intro m
  induction m with
  | zero =>
    intro i s e1 e2 it hl hD kp r
    have : i = ps.length := by omega
    subst this
    rw [List.take_length] at hD
    refine codeAny_builtin du_entry ?_
    rw [Around.under_plainId du_plain _]
    show wpAny _ A.in1 (pyNext (.ref I) >>= _) _ _ s
    refine wpAny_bind (wpAny_pyNext_list_end hh it hl (by simp [hP.1]) fun h' eb => ?_)
    refine wpAny_bind (wpAny_pure (wpAny_pure (r h' s.toks (hD.at fun o e => eb _ _ hdI e) fun b o hb e => eb b o (fun z => hb (by rw [z]; simp)) (kp b o hb e))))
  | succ m ih =>
    intro i s e1 e2 it hl hD kp r
    have lt : i < ps.length := by omega
    have lti : i < items.size := by rw [hP.1]; exact lt
    refine codeAny_builtin du_entry ?_
    rw [Around.under_plainId du_plain _]
    show wpAny _ A.in1 (pyNext (.ref I) >>= _) _ _ s
    refine wpAny_bind (wpAny_pyNext_list_item it hl (Array.getElem?_eq_getElem lti) fun h1 it1 sb => ?_)
    obtain ⟨a, kv, ev, na, hk, ⟨o, ho, hc, n, hd⟩⟩ := hP.2 i _ _ (Array.getElem?_eq_getElem lti) (List.getElem?_eq_getElem lt)
    rw [ev]
    have naI : a ≠ I := fun z => na (by rw [z]; simp)
    have ho1 : h1.get? a = some o := (sb.2 a naI).trans (kp a o na ho)
    have hD1 : h1.DictOf knd d (merged [] (ps.take i)) := hD.at fun o e => (sb.2 d hdI).trans e
    have hl1 : h1.IsList l items := let ⟨ol, a1, a2⟩ := hl; ⟨ol, (sb.2 l hne).trans a1, a2⟩
    refine wpAny_bind (wpAny_holding (wpAny_bind (wpAny_tryCatch ?_)))
    unfold Builtin.Dict.pairItems
    refine wpAny_bind (wpAny_typeOf (T := "tuple") ⟨o, ho1, hc⟩ ?_)
    rw [if_pos (by decide)]
    refine wpAny_bind (wpAny_seqItems ho1 hd (wpAny_pure ?_))
    have lm : (merged [] (ps.take i)).length ≤ sizeLine := by
      have := merged_length_le ([] : List (K × Value)) (ps.take i)
      rw [List.length_take, List.length_nil] at this
      omega
    show wpAny _ _ (holding [kv, ps[i].2] (dictSet d kv ps[i].2)) _ _ _
    refine wpAny_holding (wpAny_dictSet_pairs (knd := knd) (k := ps[i].1) hk hD1 (fun h2 hD2 sb2 => ?_) lm)
    refine wpAny_pure ⟨plainId_quiet du_plain _, ?_⟩
    have ei : rawInt ((i : Int) + 1) = rawInt ((i + 1 : Nat) : Int) := by congr 1
    show codeAny (model prog w) A (.builtin "dict.update.loop" ⟨[.ref d, .ref I, rawInt ((i : Int) + 1), .none], []⟩) R _
    rw [ei]
    refine ih (i + 1) _ (by omega) lt ?_ ?_ ?_ (fun b o hb e => ?_) fun h' tk hD' kp' => r h' tk hD' kp'
    · obtain ⟨oi, a1, a2⟩ := it1
      exact ⟨oi, (sb2.2 I (Ne.symm hdI)).trans a1, a2⟩
    · obtain ⟨ol, a1, a2⟩ := hl1
      exact ⟨ol, (sb2.2 l (Ne.symm hdl)).trans a1, a2⟩
    · rw [merged_take_succ [] ps i ps[i] (List.getElem?_eq_getElem lt)]
      exact hD2
    · have n1 : b ≠ d := fun z => hb (by rw [z]; simp)
      have n2 : b ≠ I := fun z => hb (by rw [z]; simp)
      exact (sb2.2 b n1).trans ((sb.2 b n2).trans (kp b o hb e))
theorem call_D {l : Addr} {items : Array Value} {ps : List (K × Value)} {Q : Value → Shared → Prop} (hh : A.handled = none) (hl : s.heap.IsList l items) (hdn : ∃ o, s.heap.get? l = some o ∧ o.dict = none) (hP : PairsIn knd s.heap items ps []) (hz : ps.length ≤ sizeLine)
    (h : ∀ h' tk, h'.DictOf knd s.heap.objs.size (merged [] ps) → (∀ b o, s.heap.get? b = some o → h'.get? b = some o) → Q (.ref s.heap.objs.size) { s with heap := h', toks := tk }) : wpAny (model prog w) A (call (.type "dict") [.ref l]) Q E s := by
  refine callType_codes (Q₁ := fun obj s₁ => obj = .ref s.heap.objs.size ∧ s₁ = { s with heap := s.heap.push { cls := .type "dict", data := .dict #[] } }) PySem.F.kt_called_dict (PySem.F.kt_typeCall_dict_1 _) PySem.F.entry_dict_init (kt_code_dict_new _ ⟨rfl, rfl⟩) ?_
  rintro obj s₁ ⟨rfl, rfl⟩
  have hnew : (s.heap.push { cls := .type "dict", data := .dict #[] }).DictOf knd s.heap.objs.size [] := Heap.DictOf.new s.heap
  obtain ⟨ol, hol, hcl, nl, hdl⟩ := id hl
  obtain ⟨ol', hol', hdn⟩ := hdn
  rw [hol] at hol'
  cases hol'
  have lt := Heap.lt_size hol
  have hol1 := Heap.get?_push_of_some { cls := .type "dict", data := .dict #[] } hol
  refine ⟨hnew.typeIs, PySem.F.args_dict_init_2 _ _, ?_⟩
  unfold Builtin.«dict.__init__»
  refine wpAny_bind ?_
  unfold Builtin.Dict.selfAndRest
  refine wpAny_bind (wpAny_notOrdered_dict hnew.typeIs ?_)
  refine (show wpAny _ _ (pure (s.heap.objs.size, [Value.ref l])) _ _ _ from wpAny_pure ?_)
  show wpAny _ _ (Builtin.Dict.updateFrom "dict.__init__" s.heap.objs.size (.ref l) [] .none) _ _ _
  unfold Builtin.Dict.updateFrom
  refine wpAny_bind (wpAny_typeOf (T := "list") ⟨ol, hol1, hcl⟩ ?_)
  rw [if_pos (by decide)]
  refine wpAny_bind (nokeys hol1 hcl hdl hdn (by simp [hh]) fun h1 tk k1 => ?_)
  rw [if_pos (show (none : Option Value).isNone = true from rfl)]
  have hl1 : h1.IsList l items := ⟨ol, k1 _ _ hol1, hcl, nl, hdl⟩
  have hD1 : h1.DictOf knd s.heap.objs.size [] := hnew.at fun o e => k1 _ _ e
  have sz1 : s.heap.objs.size < h1.objs.size := let ⟨_, _, _, e, _⟩ := hD1; Heap.lt_size e
  refine wpAny_bind (wpAny_rule (wpAny_bind (wpAny_pyIter_list hl1 ?_)))
  refine wpAny_pure ⟨plainId_quiet du_plain _, ?_⟩
  have k0 : ∀ b o, s.heap.get? b = some o → h1.get? b = some o := fun b o e => k1 _ _ (Heap.get?_push_of_some _ e)
  refine loop_D (knd := knd) (h0 := h1) (ps := ps) (items := items) (I := h1.objs.size) (l := l) (Nat.ne_of_lt (Nat.lt_trans lt sz1)) (Nat.ne_of_lt sz1) (Nat.ne_of_gt lt) (by simp [hh]) ⟨hP.1, fun i v p a1 a2 => ?_⟩ hz _ 0 _ rfl (Nat.zero_le _) ⟨_, Heap.get?_push_size _ rfl, rfl, rfl⟩ (hl1.push _) (hD1.push _) (fun b o _ e => Heap.get?_push_of_some _ e) fun h' tk' hD' kp => ⟨rfl, h h' tk' hD' fun b o e => kp b o (fun z => ?_) (k0 _ _ e)⟩
  · obtain ⟨a, kv, e1, _, e2, o, e3, e4⟩ := hP.2 i v p a1 a2
    have la := Heap.lt_size e3
    refine ⟨a, kv, e1, fun z => ?_, e2, o, k0 _ _ e3, e4⟩
    rcases List.mem_cons.mp z with z | z
    · exact absurd z (Nat.ne_of_lt la)
    · exact absurd (List.mem_singleton.mp z) (Nat.ne_of_lt (Nat.lt_trans la sz1))
  · have lb := Heap.lt_size e
    rcases List.mem_cons.mp z with z | z
    · exact absurd z (Nat.ne_of_lt lb)
    · exact absurd (List.mem_singleton.mp z) (Nat.ne_of_lt (Nat.lt_trans lb sz1))
end
end L2
namespace L2
open PySem PySem.Spec PyProof.Rows
section
variable {X : Cx}
theorem call_dictP (hc : X.calm = true) : CallR X (.type "dict") (fun xs H Q => ∃ (p : Addr) (ys : List V) (ps : List (Int × V)), xs = [.ref p] ∧ SqL X.K H p ys ∧ H p = some (.lst ys) ∧ Paired (fun y (kv : Int × V) => ∃ a, y = .ref a ∧ H a = some (.tup [.int kv.1, kv.2])) ys ps ∧ (ps.map (·.1)).Nodup ∧ ps.length ≤ 1000 ∧
    ∀ l, H l = none → Q (.ref l) (upd H l (.dK (ps.map fun kv => (Sum.inl kv.1, kv.2))))) := by
  intro pins s σ H xs us Q I r h
  obtain ⟨p, ys, ps, rfl, hq, hp, hps, nd, hz, q⟩ := h
  obtain ⟨u, rfl, ru⟩ := vals1 r
  cases ru
  obtain ⟨_, its, n, rv, ho⟩ : ObjOk X.prog X.w H s.heap p (.lst ys) := I.hok p _ hp
  have hl := rv.length
  have hlp := Paired.length hps
  -- the values behind
  obtain ⟨vs, hv, hin⟩ : ∃ vs : List (Key × Value), KV (ps.map fun kv => ((Sum.inl kv.1 : Key), kv.2)) vs ∧ PairsIn (mixKind X.prog X.w) s.heap its.toArray vs [] := by
    have key : ∀ (ys : List V) (ps : List (Int × V)) (its : List Value), Paired (fun y (kv : Int × V) => ∃ a, y = .ref a ∧ H a = some (.tup [.int kv.1, kv.2])) ys ps → Vals ys its → ∃ vs : List (Key × Value), KV (ps.map fun kv => ((Sum.inl kv.1 : Key), kv.2)) vs ∧ its.length = vs.length ∧
        ∀ (i : Nat) (v : Value) (p : Key × Value), its[i]? = some v → vs[i]? = some p → ∃ a kv, v = .ref a ∧ a ∉ ([] : List Addr) ∧ (mixKind X.prog X.w).is p.1 kv = true ∧ s.heap.IsTuple a #[kv, p.2] := by
      intro ys ps its hps rv
      induction hps generalizing its with
      | nil => cases rv; exact ⟨[], .nil, rfl, fun i v p e => by simp at e⟩
      | cons r t ih =>
        rename_i y kv ys' ps'
        cases rv with
        | cons r1 rv' =>
          rename_i u us'
          obtain ⟨vs, h1, h2, h3⟩ := ih us' rv'
          obtain ⟨a, e, ha⟩ := r
          subst e
          cases r1
          obtain ⟨js, rj, pj, _⟩ := I.tuple (SqT.of ha)
          obtain ⟨u1, u2, ej, ru1, ru2⟩ := rj.two
          subst ej
          obtain ⟨tk, rfl⟩ := ru1
          refine ⟨(Sum.inl kv.1, u2) :: vs, .cons ⟨rfl, ru2⟩ h1, by simp [h2], fun i v p e1 e2 => ?_⟩
          cases i with
          | zero =>
            simp only [List.getElem?_cons_zero, Option.some.injEq] at e1 e2
            subst e1 e2
            exact ⟨a, .int kv.1 tk, rfl, by simp, keyIs_int kv.1 tk, pj⟩
          | succ i => exact h3 i v p (by simpa using e1) (by simpa using e2)
    obtain ⟨vs, h1, h2, h3⟩ := key ys ps its hps rv
    exact ⟨vs, h1, by simpa using h2, fun i v p e1 e2 => h3 i v p (by simpa using e1) e2⟩
  have lv : vs.length = ps.length := by have := Paired.length hv; simpa using this.symm
  have keysv : vs.map (·.1) = ps.map fun kv => (Sum.inl kv.1 : Key) := by
    have : ∀ {a : List (Key × V)} {b : List (Key × Value)}, KV a b → b.map (·.1) = a.map (·.1) := by
      intro a b z
      unfold KV at z
      induction z with
      | nil => rfl
      | cons r _ ih => rw [List.map_cons, List.map_cons, ih, r.1]
    rw [this hv, List.map_map]
    rfl
  have ndv : (vs.map (·.1)).Nodup := by
    rw [keysv]
    have : (ps.map fun kv => (Sum.inl kv.1 : Key)) = (ps.map (·.1)).map Sum.inl := by rw [List.map_map]; rfl
    rw [this]
    exact List.Pairwise.map _ (fun a b ne z => ne (Sum.inl.inj z)) nd
  refine call_D (knd := mixKind X.prog X.w) (items := its.toArray) (ps := vs) (I.ok.hd hc) ⟨_, ho, rfl, n, rfl⟩ ⟨_, ho, rfl⟩ hin (by rw [lv, sizeLine_eq]; omega) fun h' tk hD k => ?_
  rw [merged_nil_of_nodup vs ndv] at hD
  refine ⟨.ref s.heap.objs.size, _, I.laid (t' := tk) (fun b ob e => k b ob e) (Nat.le_refl _) (show ObjOk X.prog X.w _ h' s.heap.objs.size (.dK (ps.map fun kv => (Sum.inl kv.1, kv.2))) from ⟨?_, beq_eq_false_iff_ne.mpr (Ne.symm (Nat.ne_of_lt I.big)), vs, hv, hD⟩), rfl, q _ (I.hok.fresh (Nat.le_refl _))⟩
  rw [List.length_map, sizeLine_eq]
  omega
end
end L2
namespace L2
open PySem PySem.Spec PyProof.Rows
/-! ### range(n) as a thing, list of it; xs[i] += k -/
section
variable {X : Cx}
theorem call_range1 : CallR X (.type "range") (fun xs H Q => ∃ n : Int, xs = [.int n] ∧ ∀ l, H l = none → Q (.ref l) (upd H l (.rng 0 n))) := by
  intro pins s σ H xs us Q I r h
  obtain ⟨n, rfl, q⟩ := h
  obtain ⟨u, rfl, t, rfl⟩ := vals1 r
  exact call_range_1 ⟨.ref s.heap.objs.size, _, I.laid (t' := s.toks + 1 + 1) (fun b ob e => Heap.get?_push_of_some _ e) (Nat.le_refl _) (show ObjOk X.prog X.w _ _ s.heap.objs.size (.rng 0 n) from ⟨_, _, _, Heap.get?_push_size _ rfl⟩), rfl, q _ (I.hok.fresh (Nat.le_refl _))⟩
theorem ints_of_items {n : Nat} {acc : Array Value} (h : ItemsOf (fun i v => ∃ t, v = Value.int (0 + (i : Int) * 1) t) acc n) : IntsAre acc.toList ((List.range n).map fun (k : Nat) => (k : Int)) := by
  have key : ∀ (l : List Value) (lo : Nat), (∀ (i : Nat) (v : Value), l[i]? = some v → ∃ t, v = .int ((lo + i : Nat) : Int) t) → IntsAre l ((List.range' lo l.length).map fun (k : Nat) => (k : Int)) := by
    intro l
    induction l with
    | nil => intro lo _; exact .nil
    | cons v l ih =>
      intro lo hv
      obtain ⟨t, e⟩ := hv 0 v rfl
      rw [List.length_cons, List.range'_succ, List.map_cons, e]
      refine .cons _ _ (ih (lo + 1) fun i v' q => ?_)
      obtain ⟨t', e'⟩ := hv (i + 1) v' (by simpa using q)
      exact ⟨t', by rw [e']; congr 1; omega⟩
  have := key acc.toList 0 fun i v q => by
    obtain ⟨t, e⟩ := h.2 i v (by rw [← Array.getElem?_toList]; exact q)
    exact ⟨t, by rw [e]; congr 1; omega⟩
  rw [show acc.toList.length = n by rw [Array.length_toList]; exact h.1, ← List.range_eq_range'] at this
  exact this
theorem call_listR (hc : X.calm = true) : CallR X (.type "list") (fun xs H Q => ∃ (p : Addr) (n : Nat), xs = [.ref p] ∧ H p = some (.rng 0 n) ∧ n ≤ 1000 ∧ ∀ l, H l = none → Q (.ref l) (upd H l (.lst (((List.range n).map fun (k : Nat) => (k : Int)).map V.int)))) := by
  intro pins s σ H xs us Q I r h
  obtain ⟨p, n, rfl, hp, hn, q⟩ := h
  obtain ⟨u, rfl, ru⟩ := vals1 r
  cases ru
  obtain ⟨t, u, v, ho⟩ : ObjOk X.prog X.w H s.heap p (.rng 0 n) := I.hok p _ hp
  have hz : Builtin.Range.rangeSize 0 n 1 = (n : Int) := by
    unfold Builtin.Range.rangeSize
    rw [if_pos (by decide)]
    split <;> omega
  have fl : ∀ k : Int, 0 ≤ k → k ≤ 2000 → Builtin.Range.rangeFitsLong k = true := fun k h1 h2 => by
    have : (2 : Int) ^ 63 = 9223372036854775808 := by decide
    unfold Builtin.Range.rangeFitsLong
    simp only [Bool.and_eq_true, decide_eq_true_eq]
    omega
  have hs : Builtin.Range.small 0 n 1 = true := by
    unfold Builtin.Range.small
    rw [hz, fl 0 (by decide) (by decide), fl n (by omega) (by omega), fl 1 (by decide) (by decide), if_pos (by decide), show (n : Int) + (1 - 1) = n by omega, fl n (by omega) (by omega)]
    simp
  refine call_list_range (I.ok.hd hc) ho hs hz (by omega) fun h' tk acc c k hS it => ?_
  have hi := ints_of_items it
  exact ⟨.ref s.heap.objs.size, _, I.laid (t' := tk) (fun b ob e => k b ob e) (Nat.le_refl _) (show ObjOk X.prog X.w _ h' s.heap.objs.size (.lst (((List.range n).map fun (k : Nat) => (k : Int)).map V.int)) from ⟨by simp [sizeLine_eq]; omega, acc.toList, c, vals_of_ints hi, by simpa using hS⟩), rfl, q _ (I.hok.fresh (Nat.le_refl _))⟩
/-- xs[i] by values, 0 ≤ i -/
theorem get_list : PGet X (fun x y H Q => ∃ p xs i j v, x = .ref p ∧ y = .int i ∧ i = (j : Nat) ∧ SqL X.K H p xs ∧ xs[j]? = some v ∧ Q v H) := by
  intro pins s σ H x y v u Q I rx ry h
  obtain ⟨p, xs, i, j, z, rfl, rfl, rfl, hq, he, q⟩ := h
  cases rx
  obtain ⟨t, rfl⟩ := ry
  obtain ⟨its, r, pl, hz⟩ := I.list hq
  obtain ⟨w, ew, rw'⟩ := r.get he
  have hl := r.length
  have hn := line63
  have lt := (List.getElem?_eq_some_iff.mp he).1
  exact wpAny_getItem_list pl.isList (by omega) (by omega) (by simpa using ew) ⟨z, H, I, rw', q⟩
end
end L2
namespace L2
open PySem PySem.Spec PyProof.Rows
/-- for x, y in zip(a, b) over lists that the body leaves as they are -/
theorem for_zip {K : PySem.W.Frag} {a b : Addr} {xs zs : List V} {g : TG} {tb : TS} {D : Ends} {σ : St} {H : Hp} (len : zs.length ≤ xs.length) (Pv : Nat → St → Hp → Prop) (h0 : Pv 0 σ H) (hl : ∀ i σ H, i ≤ zs.length → Pv i σ H → SqL K H a xs ∧ SqL K H b zs)
    (hs : ∀ i x z p σ H, xs[i]? = some x → zs[i]? = some z → H p = none → Pv i σ H → g (.ref p) σ (upd H p (.tup [x, z])) fun σ2 H2 => tb { D with nx := Pv (i + 1), ct := Pv (i + 1), bk := D.nx } σ2 H2) (hd : ∀ σ H, Pv zs.length σ H → D.nx σ H) :
    ∃ W : Nat → Nat → St → Hp → Prop, (∃ m, W 0 m σ H) ∧ ∀ i m σ H, W i m σ H →
      ((Itz K a b).stop i H ∧ D.nx σ H) ∨ ((Itz K a b).go i H ∧ ∃ N : St → Hp → Prop, (∀ σ' H', N σ' H' → ∃ m', m' < m ∧ W (i + 1) m' σ' H') ∧ ∀ x H', (Itz K a b).yld i H x H' → g x σ H' fun σ2 H2 => tb { D with nx := N, ct := N, bk := D.nx } σ2 H2) := by
  refine ⟨fun i m σ H => m = zs.length - i ∧ i ≤ zs.length ∧ Pv i σ H, ⟨zs.length, by simp, Nat.zero_le _, h0⟩, ?_⟩
  rintro i m σ H ⟨rfl, hi, p⟩
  obtain ⟨q1, q2⟩ := hl i σ H hi p
  by_cases hlt : i < zs.length
  · refine .inr ⟨⟨xs, zs, xs[i]'(by omega), zs[i], q1, q2, by simp [show i < xs.length by omega], by simp [hlt]⟩, Pv (i + 1), fun σ' H' p' => ⟨zs.length - (i + 1), by omega, rfl, hlt, p'⟩, fun x H' y => ?_⟩
    obtain ⟨pa, z1, z2, hp, rfl, y1, y2, rfl⟩ := y
    exact hs i z1 z2 pa σ _ (y1 xs q1) (y2 zs q2) hp p
  · have e : i = zs.length := by omega
    subst e
    exact .inl ⟨⟨xs, zs, q1, q2, .inr (Nat.le_refl _)⟩, hd σ H p⟩
end L2
namespace WB
open PySem
theorem bt_isinstance : bootBuiltins "isinstance" = some (.builtin "isinstance") := by decide +kernel
theorem bt_int : bootBuiltins "int" = some (.type "int") := by decide +kernel
theorem bt_bool : bootBuiltins "bool" = some (.type "bool") := by decide +kernel
theorem bt_list : bootBuiltins "list" = some (.type "list") := by decide +kernel
theorem bt_tuple : bootBuiltins "tuple" = some (.type "tuple") := by decide +kernel
theorem bt_len : bootBuiltins "len" = some (.builtin "len") := by decide +kernel
theorem bt_all : bootBuiltins "all" = some (.builtin "all") := by decide +kernel
theorem bt_range : bootBuiltins "range" = some (.type "range") := by decide +kernel
theorem bt_min : bootBuiltins "min" = some (.builtin "min") := by decide +kernel
theorem bt_max : bootBuiltins "max" = some (.builtin "max") := by decide +kernel
theorem bt_sum : bootBuiltins "sum" = some (.builtin "sum") := by decide +kernel
theorem bt_sorted : bootBuiltins "sorted" = some (.builtin "sorted") := by decide +kernel
theorem bt_set : bootBuiltins "set" = some (.type "set") := by decide +kernel
theorem bt_dict : bootBuiltins "dict" = some (.type "dict") := by decide +kernel
end WB
namespace WR
open PySem L2
def top (i : Nat) : Stmt := PySem.Challenge.pw_wellroads_k06_whole_errands.main.body.getD i (.Pass ⟨0, 0, 0, 0⟩)
abbrev s_is_number : Stmt := top 7
abbrev s_is_whole : Stmt := top 8
abbrev s_is_road : Stmt := top 9
abbrev s_is_tree : Stmt := top 10
abbrev s_steps : Stmt := top 11
abbrev s_reached : Stmt := top 12
abbrev s_Tree_init : Stmt := inClass (top 13) 0
abbrev s_Tree_roads : Stmt := inClass (top 13) 1
abbrev s_need_village : Stmt := top 14
abbrev s_way : Stmt := top 15
abbrev s_errand : Stmt := top 17
abbrev s_there_and_back : Stmt := top 18
abbrev s_long : Stmt := top 19
abbrev s__law_cell_at : Stmt := top 21
abbrev s__law_draw : Stmt := top 22
abbrev s__law_told : Stmt := top 23
abbrev s__law_name : Stmt := top 24
abbrev s__law_rows : Stmt := top 25
abbrev s__law_gone : Stmt := top 26
abbrev s__law_long : Stmt := top 27
abbrev s_law : Stmt := top 28
structure Adr where
  f_is_number : Addr
  d_is_number : FuncData
  f_is_whole : Addr
  d_is_whole : FuncData
  f_is_road : Addr
  d_is_road : FuncData
  f_is_tree : Addr
  d_is_tree : FuncData
  f_steps : Addr
  d_steps : FuncData
  f_reached : Addr
  d_reached : FuncData
  f_Tree_init : Addr
  d_Tree_init : FuncData
  f_Tree_roads : Addr
  d_Tree_roads : FuncData
  f_need_village : Addr
  d_need_village : FuncData
  f_way : Addr
  d_way : FuncData
  f_errand : Addr
  d_errand : FuncData
  f_there_and_back : Addr
  d_there_and_back : FuncData
  f_long : Addr
  d_long : FuncData
  f__law_cell_at : Addr
  d__law_cell_at : FuncData
  f__law_draw : Addr
  d__law_draw : FuncData
  f__law_told : Addr
  d__law_told : FuncData
  f__law_name : Addr
  d__law_name : FuncData
  f__law_rows : Addr
  d__law_rows : FuncData
  f__law_gone : Addr
  d__law_gone : FuncData
  f__law_long : Addr
  d__law_long : FuncData
  f_law : Addr
  d_law : FuncData
  C_RoadError : Addr
  C_BadTree : Addr
  C_NoVillage : Addr
  C_Tree : Addr
  k_MOST_VILLAGES : Tok
  k_MOST_LENGTH : Tok
structure Txt (K : PySem.W.Frag) (mg : Str → Option Value) (t : Adr) : Prop where
  z_ValueError : mg "ValueError" = none
  z_all : mg "all" = none
  z_bool : mg "bool" = none
  z_dict : mg "dict" = none
  z_int : mg "int" = none
  z_isinstance : mg "isinstance" = none
  z_len : mg "len" = none
  z_list : mg "list" = none
  z_max : mg "max" = none
  z_min : mg "min" = none
  z_range : mg "range" = none
  z_set : mg "set" = none
  z_sorted : mg "sorted" = none
  z_sum : mg "sum" = none
  z_tuple : mg "tuple" = none
  z_zip : mg "zip" = none
  g_MOST_VILLAGES : mg "MOST_VILLAGES" = some (.int 12 t.k_MOST_VILLAGES)
  g_MOST_LENGTH : mg "MOST_LENGTH" = some (.int 1000000 t.k_MOST_LENGTH)
  F_is_number : Fun K "is_number" "is_number" s_is_number t.f_is_number t.d_is_number
  b_is_number : Binds K t.d_is_number ["value"] []
  m_is_number : mg "is_number" = some (.ref t.f_is_number)
  F_is_whole : Fun K "is_whole" "is_whole" s_is_whole t.f_is_whole t.d_is_whole
  b_is_whole : Binds K t.d_is_whole ["value", "least", "most"] []
  m_is_whole : mg "is_whole" = some (.ref t.f_is_whole)
  F_is_road : Fun K "is_road" "is_road" s_is_road t.f_is_road t.d_is_road
  b_is_road : Binds K t.d_is_road ["road", "villages"] []
  m_is_road : mg "is_road" = some (.ref t.f_is_road)
  F_is_tree : Fun K "is_tree" "is_tree" s_is_tree t.f_is_tree t.d_is_tree
  b_is_tree : Binds K t.d_is_tree ["villages", "roads"] []
  m_is_tree : mg "is_tree" = some (.ref t.f_is_tree)
  F_steps : Fun K "steps" "steps" s_steps t.f_steps t.d_steps
  b_steps : Binds K t.d_steps ["roads", "village"] []
  m_steps : mg "steps" = some (.ref t.f_steps)
  F_reached : Fun K "reached" "reached" s_reached t.f_reached t.d_reached
  b_reached : Binds K t.d_reached ["roads", "start"] []
  m_reached : mg "reached" = some (.ref t.f_reached)
  F_Tree_init : Fun K "__init__" "Tree.__init__" s_Tree_init t.f_Tree_init t.d_Tree_init
  b_Tree_init : Binds K t.d_Tree_init ["self", "villages", "roads"] []
  M_Tree : Mk K t.C_Tree t.f_Tree_init
  F_Tree_roads : Fun K "roads" "Tree.roads" s_Tree_roads t.f_Tree_roads t.d_Tree_roads
  b_Tree_roads : Binds K t.d_Tree_roads ["self"] []
  M_Tree_roads : Meth K t.C_Tree "roads" t.f_Tree_roads
  F_need_village : Fun K "need_village" "need_village" s_need_village t.f_need_village t.d_need_village
  b_need_village : Binds K t.d_need_village ["tree", "village"] []
  m_need_village : mg "need_village" = some (.ref t.f_need_village)
  F_way : Fun K "way" "way" s_way t.f_way t.d_way
  b_way : Binds K t.d_way ["tree", "one", "other"] []
  m_way : mg "way" = some (.ref t.f_way)
  F_errand : Fun K "errand" "errand" s_errand t.f_errand t.d_errand
  b_errand : Binds K t.d_errand ["tree", "one", "other"] []
  m_errand : mg "errand" = some (.ref t.f_errand)
  F_there_and_back : Fun K "there_and_back" "there_and_back" s_there_and_back t.f_there_and_back t.d_there_and_back
  b_there_and_back : Binds K t.d_there_and_back ["roads", "here", "closed"] []
  m_there_and_back : mg "there_and_back" = some (.ref t.f_there_and_back)
  F_long : Fun K "long" "long" s_long t.f_long t.d_long
  b_long : Binds K t.d_long ["tree", "walk"] []
  m_long : mg "long" = some (.ref t.f_long)
  F__law_cell_at : Fun K "_law_cell_at" "_law_cell_at" s__law_cell_at t.f__law_cell_at t.d__law_cell_at
  b__law_cell_at : Binds K t.d__law_cell_at ["_law_script", "_law_k"] []
  m__law_cell_at : mg "_law_cell_at" = some (.ref t.f__law_cell_at)
  F__law_draw : Fun K "_law_draw" "_law_draw" s__law_draw t.f__law_draw t.d__law_draw
  b__law_draw : Binds K t.d__law_draw ["_law_cell", "_law_k", "_law_many"] []
  m__law_draw : mg "_law_draw" = some (.ref t.f__law_draw)
  F__law_told : Fun K "_law_told" "_law_told" s__law_told t.f__law_told t.d__law_told
  b__law_told : Binds K t.d__law_told ["_law_script", "_law_first", "_law_most"] []
  m__law_told : mg "_law_told" = some (.ref t.f__law_told)
  F__law_name : Fun K "_law_name" "_law_name" s__law_name t.f__law_name t.d__law_name
  b__law_name : Binds K t.d__law_name ["_law_k", "_law_villages", "_law_turn"] []
  m__law_name : mg "_law_name" = some (.ref t.f__law_name)
  F__law_rows : Fun K "_law_rows" "_law_rows" s__law_rows t.f__law_rows t.d__law_rows
  b__law_rows : Binds K t.d__law_rows ["_law_told_here"] []
  m__law_rows : mg "_law_rows" = some (.ref t.f__law_rows)
  F__law_gone : Fun K "_law_gone" "_law_gone" s__law_gone t.f__law_gone t.d__law_gone
  b__law_gone : Binds K t.d__law_gone ["_law_told_here", "_law_walk"] []
  m__law_gone : mg "_law_gone" = some (.ref t.f__law_gone)
  F__law_long : Fun K "_law_long" "_law_long" s__law_long t.f__law_long t.d__law_long
  b__law_long : Binds K t.d__law_long ["_law_told_here", "_law_walk"] []
  m__law_long : mg "_law_long" = some (.ref t.f__law_long)
  F_law : Fun K "law" "law" s_law t.f_law t.d_law
  b_law : Binds K t.d_law ["_law_script"] []
  m_law : mg "law" = some (.ref t.f_law)
  cl_Tree : Cls K t.C_Tree
  m_Tree : mg "Tree" = some (.ref t.C_Tree)
  n_Tree_road_list : NoAttr K t.C_Tree "road_list"
  n_Tree_size : NoAttr K t.C_Tree "size"
theorem sc_is_number : FnScope ["value"] ["value"] (defScope s_is_number) := ⟨rfl, rfl, rfl, by decide +kernel, rfl, by decide +kernel, by decide +kernel⟩
theorem sc_is_whole : FnScope ["value", "least", "most"] ["value", "least", "most"] (defScope s_is_whole) := ⟨rfl, rfl, rfl, by decide +kernel, rfl, by decide +kernel, by decide +kernel⟩
theorem sc_is_road : FnScope ["road", "villages", "end"] ["road", "villages"] (defScope s_is_road) := ⟨rfl, rfl, rfl, by decide +kernel, rfl, by decide +kernel, by decide +kernel⟩
theorem sc_is_tree : FnScope ["villages", "roads"] ["villages", "roads"] (defScope s_is_tree) := ⟨rfl, rfl, rfl, by decide +kernel, rfl, by decide +kernel, by decide +kernel⟩
theorem sc_steps : FnScope ["roads", "village", "ends", "first", "second", "length"] ["roads", "village"] (defScope s_steps) := ⟨rfl, rfl, rfl, by decide +kernel, rfl, by decide +kernel, by decide +kernel⟩
theorem sc_reached : FnScope ["roads", "start", "found", "waiting", "here", "there", "length"] ["roads", "start"] (defScope s_reached) := ⟨rfl, rfl, rfl, by decide +kernel, rfl, by decide +kernel, by decide +kernel⟩
theorem sc_Tree_init : FnScope ["self", "villages", "roads"] ["self", "villages", "roads"] (defScope s_Tree_init) := ⟨rfl, rfl, rfl, by decide +kernel, rfl, by decide +kernel, by decide +kernel⟩
theorem sc_Tree_roads : FnScope ["self"] ["self"] (defScope s_Tree_roads) := ⟨rfl, rfl, rfl, by decide +kernel, rfl, by decide +kernel, by decide +kernel⟩
theorem sc_need_village : FnScope ["tree", "village"] ["tree", "village"] (defScope s_need_village) := ⟨rfl, rfl, rfl, by decide +kernel, rfl, by decide +kernel, by decide +kernel⟩
theorem sc_way : FnScope ["tree", "one", "other", "found", "villages"] ["tree", "one", "other"] (defScope s_way) := ⟨rfl, rfl, rfl, by decide +kernel, rfl, by decide +kernel, by decide +kernel⟩
theorem sc_errand : FnScope ["tree", "one", "other", "line", "villages", "here"] ["tree", "one", "other"] (defScope s_errand) := ⟨rfl, rfl, rfl, by decide +kernel, rfl, by decide +kernel, by decide +kernel⟩
theorem sc_there_and_back : FnScope ["roads", "here", "closed", "villages", "there", "length"] ["roads", "here", "closed"] (defScope s_there_and_back) := ⟨rfl, rfl, rfl, by decide +kernel, rfl, by decide +kernel, by decide +kernel⟩
theorem sc_long : FnScope ["tree", "walk", "village", "roads", "total", "here", "there", "length"] ["tree", "walk"] (defScope s_long) := ⟨rfl, rfl, rfl, by decide +kernel, rfl, by decide +kernel, by decide +kernel⟩
theorem sc__law_cell_at : FnScope ["_law_script", "_law_k"] ["_law_script", "_law_k"] (defScope s__law_cell_at) := ⟨rfl, rfl, rfl, by decide +kernel, rfl, by decide +kernel, by decide +kernel⟩
theorem sc__law_draw : FnScope ["_law_cell", "_law_k", "_law_many", "_law_primes", "_law_blend"] ["_law_cell", "_law_k", "_law_many"] (defScope s__law_draw) := ⟨rfl, rfl, rfl, by decide +kernel, rfl, by decide +kernel, by decide +kernel⟩
theorem sc__law_told : FnScope ["_law_script", "_law_first", "_law_most", "_law_cell", "_law_other", "_law_villages", "_law_greatest", "_law_turn", "_law_roads", "_law_k", "_law_above", "_law_ends", "_law_road"] ["_law_script", "_law_first", "_law_most"] (defScope s__law_told) := ⟨rfl, rfl, rfl, by decide +kernel, rfl, by decide +kernel, by decide +kernel⟩
theorem sc__law_name : FnScope ["_law_k", "_law_villages", "_law_turn"] ["_law_k", "_law_villages", "_law_turn"] (defScope s__law_name) := ⟨rfl, rfl, rfl, by decide +kernel, rfl, by decide +kernel, by decide +kernel⟩
theorem sc__law_rows : FnScope ["_law_told_here", "_law_rows_here", "_law_start", "_law_found", "_law_turn", "_law_one", "_law_other", "_law_length"] ["_law_told_here"] (defScope s__law_rows) := ⟨rfl, rfl, rfl, by decide +kernel, rfl, by decide +kernel, by decide +kernel⟩
theorem sc__law_gone : FnScope ["_law_told_here", "_law_walk", "_law_found", "_law_k", "_law_steps"] ["_law_told_here", "_law_walk"] (defScope s__law_gone) := ⟨rfl, rfl, rfl, by decide +kernel, rfl, by decide +kernel, by decide +kernel⟩
theorem sc__law_long : FnScope ["_law_told_here", "_law_walk", "_law_gone_here"] ["_law_told_here", "_law_walk"] (defScope s__law_long) := ⟨rfl, rfl, rfl, by decide +kernel, rfl, by decide +kernel, by decide +kernel⟩
theorem sc_law : FnScope ["_law_script", "_law_told_here", "_law_tree", "_law_rows_here", "_law_one", "_law_other", "_law_again", "_law_found", "_law_gone_here", "_law_at", "_law_here", "_law_there", "_law_length", "_law_forth", "_law_back", "_law_bent"] ["_law_script"] (defScope s_law) := ⟨rfl, rfl, rfl, by decide +kernel, rfl, by decide +kernel, by decide +kernel⟩
end WR
namespace WR
open PySem L2
theorem ite_f {c : Bool} {A B : Prop} (e : c = false) (h : B) : if c = true then A else B := by rw [e]; exact iteF h
theorem ite_t {c : Bool} {A B : Prop} (e : c = true) (h : A) : if c = true then A else B := by rw [e]; exact iteT h
/-! ### what isinstance says -/
section
variable {K : PySem.W.Frag}
theorem kit_ii : PySem.W.kitOne K (.type "int") (.type "int") = some true := by rfl
theorem kit_ib : PySem.W.kitOne K (.type "int") (.type "bool") = some false := by rfl
theorem kit_bi : PySem.W.kitOne K (.type "bool") (.type "int") = some true := by rfl
theorem kit_bb : PySem.W.kitOne K (.type "bool") (.type "bool") = some true := by rfl
theorem kit_si : PySem.W.kitOne K (.type "str") (.type "int") = some false := by rfl
theorem kit_ni : PySem.W.kitOne K (.type "NoneType") (.type "int") = some false := by rfl
theorem kit_li : PySem.W.kitOne K (.type "list") (.type "int") = some false := by rfl
theorem kit_ti : PySem.W.kitOne K (.type "tuple") (.type "int") = some false := by rfl
theorem kit_ll : PySem.W.kitOne K (.type "list") (.type "list") = some true := by rfl
theorem kit_tt : PySem.W.kitOne K (.type "tuple") (.type "tuple") = some true := by rfl
end
/-- a whole number between two -/
def wholeV (x : V) (a b : Int) : Bool := match x with
  | .int i => decide (a ≤ i) && decide (i ≤ b)
  | _ => false
/-- kinds of values that are handed in -/
inductive KindV (H : Hp) : V → Prop where
  | int (i : Int) : KindV H (.int i)
  | bl (b : Bool) : KindV H (.bl b)
  | str (x : Str) : KindV H (.str x)
  | non : KindV H .non
  | lst {a : Addr} {xs : List V} (h : H a = some (.lst xs)) : KindV H (.ref a)
  | tup {a : Addr} {xs : List V} (h : H a = some (.tup xs)) : KindV H (.ref a)
/-- a whole number, no truth -/
def numV (x : V) : Bool := match x with
  | .int _ => true
  | _ => false
def sp_is_number : Sp := fun vs H Q _ => ∃ (x : V), vs = [x] ∧ KindV H x ∧ Q (.bl (numV x)) H
def sp_is_whole : Sp := fun vs H Q _ => ∃ (x : V) (a b : Int), vs = [x, .int a, .int b] ∧ KindV H x ∧ Q (.bl (wholeV x a b)) H
section
variable {P : Program} {w : World} {K : PySem.W.Frag} {mg : Str → Option Value} {base : Heap} {t : Adr}
theorem hu8_of {A : Around} {k : Nat} (hr : Room k A) : A.units + 8 < cLine := by have := hr.units; omega
theorem hu9_of {A : Around} {k : Nat} (hr : Room k A) : A.units + 8 + 1 < cLine := by have := hr.units; omega
theorem ok_is_number (TT : Txt K mg t) : FnOk P w K mg base CX0 1 t.f_is_number t.d_is_number ["value"] sp_is_number := by
  refine TT.F_is_number.ok sc_is_number (fun vs H Q E h => ?_) (fun cdv A outer s H vs Q E hr h => ?_)
  · obtain ⟨x, rfl, _⟩ := h
    rfl
  · obtain ⟨x, rfl, hk, q⟩ := h
    refine ⟨_, (pss_one (ps_ret (pe_and (pe_callB call_isinst rfl TT.z_isinstance WB.bt_isinstance (pa_cons (pv 0) (pa_cons (pe_bltn (v := .ty "int") rfl TT.z_int WB.bt_int rfl) pa_nil))) (pe_one (pe_not (pe_callB call_isinst rfl TT.z_isinstance WB.bt_isinstance (pa_cons (pv 0) (pa_cons (pe_bltn (v := .ty "bool") rfl TT.z_bool WB.bt_bool rfl) pa_nil)))))))), ?_⟩
    cases hk with
    | int i => exact ⟨_, rfl, _, "int", .type "int", true, rfl, .int _, kit_ii, true, rfl, iteT ⟨_, rfl, _, "bool", .type "int", false, rfl, .int _, kit_ib, false, rfl, q⟩⟩
    | bl b' => exact ⟨_, rfl, _, "int", .type "bool", true, rfl, .bl _, kit_bi, true, rfl, iteT ⟨_, rfl, _, "bool", .type "bool", true, rfl, .bl _, kit_bb, true, rfl, q⟩⟩
    | str y => exact ⟨_, rfl, _, "int", .type "str", false, rfl, .str _, kit_si, false, rfl, iteF q⟩
    | non => exact ⟨_, rfl, _, "int", .type "NoneType", false, rfl, .non, kit_ni, false, rfl, iteF q⟩
    | lst h => exact ⟨_, rfl, _, "int", .type "list", false, rfl, .lst h, kit_li, false, rfl, iteF q⟩
    | tup h => exact ⟨_, rfl, _, "int", .type "tuple", false, rfl, .tup h, kit_ti, false, rfl, iteF q⟩
theorem ok_is_whole (TT : Txt K mg t) : FnOk P w K mg base CX0 2 t.f_is_whole t.d_is_whole ["value", "least", "most"] sp_is_whole := by
  refine TT.F_is_whole.ok sc_is_whole (fun vs H Q E h => ?_) (fun cdv A outer s H vs Q E hr h => ?_)
  · obtain ⟨x, a, b, rfl, _⟩ := h
    rfl
  · obtain ⟨x, a, b, rfl, hk, q⟩ := h
    refine ⟨_, (pss_one (ps_ret (pe_and (pe_call (ok_is_number TT) (hr.mono (by decide)) rfl TT.m_is_number TT.F_is_number.kp TT.b_is_number .nil pass0 (pa_cons (pv 0) pa_nil)) (pe_one (pe_chain op_le op_le (pv 1) (pv 0) (pv 2)))))), ?_⟩
    refine ⟨_, rfl, x, rfl, hk, _, rfl, ?_⟩
    cases hk with
    | int i =>
      refine iteT ⟨_, rfl, _, rfl, _, _, rfl, rfl, _, rfl, ite2 (fun h1 => ?_) (fun h1 => ?_)⟩
      · refine ⟨_, rfl, _, _, rfl, rfl, ?_⟩
        have e : wholeV (.int i) a b = decide (i ≤ b) := by show (decide (a ≤ i) && decide (i ≤ b)) = _; rw [h1]; rfl
        rw [e] at q; exact q
      · have e : wholeV (.int i) a b = false := by
          show (decide (a ≤ i) && decide (i ≤ b)) = _
          have : decide (a ≤ i) = false := by simpa using h1
          rw [this]; rfl
        rw [e] at q; exact q
    | bl b' => exact iteF q
    | str y => exact iteF q
    | non => exact iteF q
    | lst h => exact iteF q
    | tup h => exact iteF q
end
end WR
namespace WR
open PySem L2
theorem nocut2 (x y z : V) : ¬ (HT.sIx [x, y, z].length 0 none = 0 ∧ HT.sIx [x, y, z].length [x, y, z].length (some 2) = [x, y, z].length) := fun h => absurd h.2 (by show ¬ (2 = 3); decide)
def roadB (n : Int) (r : Road) : Bool := wholeV (.int r.1) 0 (n - 1) && wholeV (.int r.2.1) 0 (n - 1) && !decide (r.1 = r.2.1) && wholeV (.int r.2.2) 1 1000000
def sp_is_road : Sp := fun vs H Q _ => ∃ (p : Addr) (n : Int) (r : Road), vs = [.ref p, .int n] ∧ H p = some (.tup [.int r.1, .int r.2.1, .int r.2.2]) ∧ ∀ H', Same H H' → Q (.bl (roadB n r)) H'
section
variable {P : Program} {w : World} {K : PySem.W.Frag} {mg : Str → Option Value} {base : Heap} {t : Adr}
theorem ok_is_road (TT : Txt K mg t) : FnOk P w K mg base CX0 3 t.f_is_road t.d_is_road ["road", "villages"] sp_is_road := by
  refine TT.F_is_road.ok sc_is_road (fun vs H Q E h => ?_) (fun cdv A outer s H vs Q E hr h => ?_)
  · obtain ⟨p, n, r, rfl, _⟩ := h
    rfl
  · obtain ⟨p, n, ⟨a, b, l⟩, rfl, hp, k⟩ := h
    simp only at hp
    refine ⟨_, (pss_cons (ps_if (PW.pt (pw_or (pt_not (pt_val (pe_callB call_isinst rfl TT.z_isinstance WB.bt_isinstance (pa_cons (pv 0) (pa_cons (pe_bltn (v := .ty "tuple") rfl TT.z_tuple WB.bt_tuple rfl) pa_nil))))) (pw_or1 (pt_cmpR op_ne (pe_callB call_len_seq rfl TT.z_len WB.bt_len (pa_cons (pv 0) pa_nil)) pe_int (nomark _))))) (pss_one (ps_ret pe_bl)) pss_nil) (pss_cons (ps_for PassesOwn.never rfl (pi_tup (pe_slice sl_tup (pv 0) po_none (po_some pe_int))) (pg_name (i := 2) sc_is_road.nd rfl (Or.inl rfl)) (pss_one (ps_if (pt_not (pt_val (pe_call (ok_is_whole TT) (hr.mono (by decide)) rfl TT.m_is_whole TT.F_is_whole.kp TT.b_is_whole .nil pass0 (pa_cons (pv 2) (pa_cons pe_int (pa_cons (pe_op op_sub (pv 1) pe_int) pa_nil)))))) (pss_one (ps_ret pe_bl)) pss_nil))) (pss_one (ps_ret (pe_and (pe_cmpR op_ne (pe_ix ix_tup (pv 0) pe_int (fun _ _ => rfl)) (pe_ix ix_tup (pv 0) pe_int (fun _ _ => rfl)) (nomark _)) (pe_one (pe_call (ok_is_whole TT) (hr.mono (by decide)) rfl TT.m_is_whole TT.F_is_whole.kp TT.b_is_whole .nil pass0 (pa_cons (pe_ix ix_tup (pv 0) pe_int (fun _ _ => rfl)) (pa_cons pe_int (pa_cons (pe_glob (v := .int 1000000) rfl TT.g_MOST_LENGTH ⟨_, rfl⟩) pa_nil)))))))))), ?_⟩
    -- if not isinstance(road, tuple) or len(road) != 3
    refine ⟨_, rfl, _, "tuple", .type "tuple", true, rfl, .tup hp, kit_tt, true, rfl, iteF ?_⟩
    refine ⟨_, rfl, p, _, rfl, .inr (SqT.of hp), rfl, _, rfl, iteF ?_⟩
    -- for end in road[:2]
    refine ⟨_, rfl, 2, rfl, p, _, rfl, SqT.of hp, nocut2 _ _ _, fun q hq => ?_⟩
    have s1 : Same H (upd H q (.tup [.int a, .int b])) := same_new hq
    refine ⟨q, rfl, ⟨_, SqT.of upd_same⟩, for_tup (K := K) (a := q) (xs := [.int a, .int b]) (fun i σ H2 => (∃ v, σ = [some (.ref p), some (.int n), v]) ∧ H2 = upd H q (.tup [.int a, .int b]) ∧ (0 < i → wholeV (.int a) 0 (n - 1) = true) ∧ (1 < i → wholeV (.int b) 0 (n - 1) = true))
      ⟨⟨none, rfl⟩, rfl, fun h => absurd h (by decide), fun h => absurd h (by decide)⟩ (fun i σ H2 _ ⟨_, e, _⟩ => by rw [e]; exact SqT.of upd_same) ?_ ?_⟩
    · rintro i x σ H2 hi ⟨⟨v, rfl⟩, rfl, w1, w2⟩
      have cases2 : (i = 0 ∧ x = .int a) ∨ (i = 1 ∧ x = .int b) := by
        match i, hi with
        | 0, hi => exact .inl ⟨rfl, (Option.some.inj hi).symm⟩
        | 1, hi => exact .inr ⟨rfl, (Option.some.inj hi).symm⟩
      rcases cases2 with ⟨rfl, rfl⟩ | ⟨rfl, rfl⟩
      · refine ⟨_, rfl, _, rfl, _, _, rfl, rfl, _, _, _, rfl, .int _, _, rfl, ?_⟩
        cases e : wholeV (.int a) 0 (n - 1) with
        | true => exact iteF ⟨⟨_, rfl⟩, rfl, fun _ => rfl, fun h => absurd h (by decide)⟩
        | false =>
          refine iteT ?_
          have : roadB n (a, b, l) = false := by show (wholeV (.int a) 0 (n - 1) && _ && _ && _) = false; rw [e]; rfl
          rw [this] at k
          exact k _ s1
      · refine ⟨_, rfl, _, rfl, _, _, rfl, rfl, _, _, _, rfl, .int _, _, rfl, ?_⟩
        cases e : wholeV (.int b) 0 (n - 1) with
        | true => exact iteF ⟨⟨_, rfl⟩, rfl, fun _ => w1 (by decide), fun _ => rfl⟩
        | false =>
          refine iteT ?_
          have : roadB n (a, b, l) = false := by show (wholeV (.int a) 0 (n - 1) && wholeV (.int b) 0 (n - 1) && _ && _) = false; rw [e, Bool.and_false]; rfl
          rw [this] at k
          exact k _ s1
    · rintro σ H2 ⟨⟨v, rfl⟩, rfl, w1, w2⟩
      have hp2 := s1 _ _ hp
      have e1 := w1 (by show 0 < 2; decide)
      have e2 := w2 (by show 1 < 2; decide)
      -- return road[0] != road[1] and is_whole(road[2], 1, MOST_LENGTH)
      refine ⟨_, rfl, p, _, 0, _, rfl, rfl, SqT.of hp2, atI_nat (j := 0) rfl, _, rfl, p, _, 1, _, rfl, rfl, SqT.of hp2, atI_nat (j := 1) rfl, rfl, _, rfl, ?_⟩
      by_cases ab : a = b
      · have hf : (!decide (V.int a = V.int b)) = false := by rw [ab]; simp
        rw [hf]
        refine iteF ?_
        have : roadB n (a, b, l) = false := by show (wholeV (.int a) 0 (n - 1) && wholeV (.int b) 0 (n - 1) && !decide (a = b) && _) = false; rw [ab]; simp
        rw [this] at k
        exact k _ s1
      · have hf : (!decide (V.int a = V.int b)) = true := by simpa using ab
        rw [hf]
        refine iteT ?_
        refine ⟨_, rfl, p, _, 2, _, rfl, rfl, SqT.of hp2, atI_nat (j := 2) rfl, _, _, _, rfl, .int _, ?_⟩
        have : roadB n (a, b, l) = wholeV (.int l) 1 1000000 := by show (wholeV (.int a) 0 (n - 1) && wholeV (.int b) 0 (n - 1) && !decide (a = b) && _) = _; rw [e1, e2]; simp [ab]
        rw [this] at k
        exact k _ s1
end
end WR
namespace WR
open PySem L2
def sp_steps : Sp := fun vs H Q _ => ∃ (p : Addr) (rs : List Road) (v : Int), vs = [.ref p, .int v] ∧ RoadsAt H p rs ∧ rs.length ≤ 1000 ∧ ∀ q H', H q = none → Same H H' → PairsAt H' q (stepsM rs v) → Q (.ref q) H'
theorem PairsAt.snoc {H : Hp} {q a : Addr} {ps : List (Int × Int)} {xs : List V} {y l : Int} (hq : H q = some (.lst xs)) (hr : Reps H xs (ps.map pairD)) (ha : H a = none) (hH : H' = upd (upd H a (.tup [.int y, .int l])) q (.lst (xs ++ [.ref a]))) : PairsAt H' q (ps ++ [(y, l)]) := by
  subst hH
  have hne : q ≠ a := ne_of_none hq ha
  have k1 : Same H (upd H a (.tup [.int y, .int l])) := same_new ha
  have k2 : ∀ b ys, (upd H a (.tup [.int y, .int l])) b = some (.tup ys) → (upd (upd H a (.tup [.int y, .int l])) q (.lst (xs ++ [.ref a]))) b = some (.tup ys) := fun b ys e => by
    rw [upd_ne]
    · exact e
    · intro z; subst z; rw [k1 _ _ hq] at e; cases e
  refine ⟨_, upd_same, ?_⟩
  rw [List.map_append]
  refine Reps.append (Reps.froz (H := upd H a (.tup [.int y, .int l])) k2 ?_ (hr.keep k1)) (.cons (pairD_mk (k2 _ _ upd_same)) .nil)
  clear hr
  induction ps with
  | nil => unfold List.map Frozs; trivial
  | cons p t ih => rw [List.map_cons]; unfold Frozs; exact ⟨by unfold pairD Froz Frozs Frozs Frozs Froz; simp, ih⟩
section
variable {P : Program} {w : World} {K : PySem.W.Frag} {mg : Str → Option Value} {base : Heap} {t : Adr}
theorem ok_steps (TT : Txt K mg t) : FnOk P w K mg base CX0 1 t.f_steps t.d_steps ["roads", "village"] sp_steps := by
  refine TT.F_steps.ok sc_steps (fun vs H Q E h => ?_) (fun cdv A outer s H vs Q E hr h => ?_)
  · obtain ⟨p, rs, v, rfl, _⟩ := h
    rfl
  · obtain ⟨p, rs, v, rfl, ⟨xs, hp, hxs⟩, hlen, k⟩ := h
    refine ⟨_, (pss_cons (ps_set (i := 2) sc_steps.nd rfl (Or.inl rfl) (pe_lst pa_nil)) (pss_cons (ps_for PassesOwn.never rfl (pi_list (pv 0)) (pg_tup rfl (pgs_cons (pg_name (i := 3) sc_steps.nd rfl (Or.inl rfl)) (pgs_cons (pg_name (i := 4) sc_steps.nd rfl (Or.inl rfl)) (pgs_cons (pg_name (i := 5) sc_steps.nd rfl (Or.inl rfl)) pgs_nil)))) (pss_cons (ps_if (pt_cmpR op_eq (pv 3) (pv 1) (nomark _)) (pss_one (ps_expr (pe_bm PySem.F.plainAttrs_list PySem.F.slot_list_append PySem.F.type_list_append mt_append (pv 2) (pa_cons (pe_tup (pa_cons (pv 4) (pa_cons (pv 5) pa_nil))) pa_nil)))) pss_nil) (pss_one (ps_if (pt_cmpR op_eq (pv 4) (pv 1) (nomark _)) (pss_one (ps_expr (pe_bm PySem.F.plainAttrs_list PySem.F.slot_list_append PySem.F.type_list_append mt_append (pv 2) (pa_cons (pe_tup (pa_cons (pv 3) (pa_cons (pv 5) pa_nil))) pa_nil)))) pss_nil)))) (pss_one (ps_ret (pv 2))))), ?_⟩
    -- ends = []
    refine ⟨Nat.zero_le _, fun q hq => ?_⟩
    have hlx := hxs.length
    rw [List.length_map] at hlx
    -- for first, second, length in roads
    refine ⟨_, rfl, p, rfl, ⟨_, SqL.of (same_new hq _ _ hp)⟩, for_list (K := K) (a := p) (xs := xs) (fun i σ H2 => (∃ v1 v2 v3, σ = [some (.ref p), some (.int v), some (.ref q), v1, v2, v3]) ∧ Same H H2 ∧ PairsAt H2 q (stepsM (rs.take i) v) ∧ i ≤ rs.length)
      ⟨⟨none, none, none, rfl⟩, same_new hq, ⟨[], upd_same, .nil⟩, Nat.zero_le _⟩ (fun i σ H2 _ ⟨_, e, _⟩ => SqL.of (e _ _ hp)) ?_ ?_⟩
    · rintro i x σ H2 hi ⟨⟨v1, v2, v3, rfl⟩, s2, hE, hil⟩
      obtain ⟨⟨ra, rb, rl⟩, a, hri, rfl, ha⟩ := RoadsAt.get hp hxs hi
      have ha2 := s2 _ _ ha
      have hlt : i < rs.length := (List.getElem?_eq_some_iff.mp hri).1
      refine ⟨a, _, rfl, SqT.of ha2, rfl, _, _, rfl, _, _, rfl, _, _, rfl, rfl, ?_⟩
      -- if first == village: ends.append((second, length))
      have step : ∀ {H3 : Hp} {ps : List (Int × Int)} {y l : Int}, Same H H3 → PairsAt H3 q ps → ps.length ≤ 2000 → ∀ (N : Hp → Prop), (∀ H4, Same H H4 → PairsAt H4 q (ps ++ [(y, l)]) → N H4) →
          (∀ c : Addr, H3 c = none → ∃ l' xs y', V.ref q = .ref l' ∧ [V.ref c] = [y'] ∧ (upd H3 c (.tup [.int y, .int l])) l' = some (.lst xs) ∧ xs.length < sizeLine ∧ N (upd (upd H3 c (.tup [.int y, .int l])) l' (.lst (xs ++ [y'])))) := by
        intro H3 ps y l s3 ⟨ys, hq3, hys⟩ hl3 N hN c hc
        have e1 := hys.length
        rw [List.length_map] at e1
        refine ⟨q, ys, .ref c, rfl, rfl, same_new hc _ _ hq3, by rw [e1, sizeLine_eq]; omega, hN _ (fun b o e => ?_) (PairsAt.snoc hq3 hys hc rfl)⟩
        have hbq : b ≠ q := ne_of_none e hq
        rw [upd_ne hbq]
        exact same_new hc _ _ (s3 _ _ e)
      have hb1 := stepsM_length (rs.take i) v
      rw [List.length_take] at hb1
      have e2 := stepsM_take (v := v) hri
      refine ⟨_, rfl, _, rfl, rfl, _, rfl, ite2 (fun c1 => ?_) (fun c1 => ?_)⟩
      · have c1 : ra = v := by simpa using c1
        obtain ⟨ys, hq2, hys⟩ := hE
        refine ⟨_, rfl, .inl ⟨rfl, _, SqL.of hq2⟩, _, rfl, _, rfl, by show 2 ≤ sizeLine; decide, step s2 ⟨ys, hq2, hys⟩ (by omega) _ fun H4 s4 hE4 => ?_⟩
        -- if second == village: ends.append((first, length))
        refine ⟨_, rfl, _, rfl, rfl, _, rfl, ite2 (fun c2 => ?_) (fun c2 => ?_)⟩
        · have c2 : rb = v := by simpa using c2
          obtain ⟨zs, hq4, hzs⟩ := hE4
          refine ⟨_, rfl, .inl ⟨rfl, _, SqL.of hq4⟩, _, rfl, _, rfl, by show 2 ≤ sizeLine; decide, step s4 ⟨zs, hq4, hzs⟩ (by rw [List.length_append]; simp only [List.length_cons, List.length_nil]; omega) _ fun H5 s5 hE5 => ?_⟩
          refine ⟨⟨_, _, _, rfl⟩, s5, ?_, hlt⟩
          rw [e2]
          simp only [stepsOf, c1, c2, if_true]
          rw [← List.append_assoc]
          simpa [c1, c2] using hE5
        · have c2 : ¬ rb = v := by simpa using c2
          refine ⟨⟨_, _, _, rfl⟩, s4, ?_, hlt⟩
          rw [e2]
          simp only [stepsOf, c1, c2, if_true, if_false, List.append_nil]
          exact hE4
      · have c1 : ¬ ra = v := by simpa using c1
        refine ⟨_, rfl, _, rfl, rfl, _, rfl, ite2 (fun c2 => ?_) (fun c2 => ?_)⟩
        · have c2 : rb = v := by simpa using c2
          obtain ⟨zs, hq4, hzs⟩ := hE
          refine ⟨_, rfl, .inl ⟨rfl, _, SqL.of hq4⟩, _, rfl, _, rfl, by show 2 ≤ sizeLine; decide, step s2 ⟨zs, hq4, hzs⟩ (by omega) _ fun H5 s5 hE5 => ?_⟩
          refine ⟨⟨_, _, _, rfl⟩, s5, ?_, hlt⟩
          rw [e2]
          simp only [stepsOf, c1, c2, if_true, if_false, List.nil_append]
          exact hE5
        · have c2 : ¬ rb = v := by simpa using c2
          refine ⟨⟨_, _, _, rfl⟩, s2, ?_, hlt⟩
          rw [e2]
          simp only [stepsOf, c1, c2, if_false, List.append_nil]
          exact hE
    · rintro σ H2 ⟨⟨v1, v2, v3, rfl⟩, s2, hE, _⟩
      rw [hlx, List.take_length] at hE
      exact ⟨_, rfl, k q H2 hq s2 hE⟩
end
end WR
namespace WR
open PySem L2
/-- the pairs of a dict of ways -/
def Fnd (H : Hp) (kvs : List (Key × V)) (tab : List Ent) : Prop := Paired (fun (kv : Key × V) (e : Ent) => kv.1 = Sum.inl e.1 ∧ Rep H kv.2 (pairD e.2)) kvs tab
theorem froz_pair (p : Int × Int) : Froz (pairD p) := by unfold pairD Froz Frozs Frozs Frozs Froz; simp
theorem Fnd.froz {H H' : Hp} {kvs : List (Key × V)} {tab : List Ent} (h : Fnd H kvs tab) (k : ∀ b xs, H b = some (.tup xs) → H' b = some (.tup xs)) : Fnd H' kvs tab := Paired.mapP h fun _ _ z => ⟨z.1, z.2.froz k (froz_pair _)⟩
theorem Fnd.none {H : Hp} {kvs : List (Key × V)} {tab : List Ent} (h : Fnd H kvs tab) {x : Int} (hx : x ∉ keys tab) : valV kvs (Sum.inl x : Key) = none := by
  unfold Fnd at h
  induction h with
  | nil => rfl
  | cons r t ih =>
    rename_i kv e kvs' tab'
    unfold keys at hx
    rw [List.map_cons, List.mem_cons] at hx
    rw [valV_neg]
    · exact ih fun z => hx (.inr z)
    · rw [r.1]
      intro z
      exact hx (.inl (Sum.inl.inj z).symm)
theorem Fnd.some {H : Hp} {kvs : List (Key × V)} {tab : List Ent} (h : Fnd H kvs tab) {x p d : Int} (nd : (keys tab).Nodup) (hx : (x, p, d) ∈ tab) : ∃ a, valV kvs (Sum.inl x : Key) = Option.some (.ref a) ∧ H a = Option.some (.tup [.int p, .int d]) := by
  unfold Fnd at h
  induction h with
  | nil => simp at hx
  | cons r t ih =>
    rename_i kv e kvs' tab'
    unfold keys at nd
    rw [List.map_cons] at nd
    obtain ⟨n1, n2⟩ := List.nodup_cons.mp nd
    rcases List.mem_cons.mp hx with z | z
    · subst z
      rw [valV_pos r.1]
      obtain ⟨a, e, ha⟩ := pairD_at r.2
      exact ⟨a, by rw [e], ha⟩
    · rw [valV_neg]
      · exact ih n2 z
      · rw [r.1]
        intro q
        exact n1 (List.mem_map.mpr ⟨_, z, (Sum.inl.inj q).symm⟩)
theorem Fnd.length {H : Hp} {kvs : List (Key × V)} {tab : List Ent} (h : Fnd H kvs tab) : kvs.length = tab.length := Paired.length h
theorem Fnd.snoc {H : Hp} {kvs : List (Key × V)} {tab : List Ent} (h : Fnd H kvs tab) {y p d : Int} {a : Addr} (hy : y ∉ keys tab) (ha : H a = Option.some (.tup [.int p, .int d])) : Fnd H (putK kvs (Sum.inl y : Key) (.ref a)) (tab ++ [(y, p, d)]) := by
  rw [putK_new _ (h.none hy)]
  exact Paired.snoc h ⟨rfl, pairD_mk ha⟩
def FoundD (H : Hp) (q : Addr) (tab : List Ent) : Prop := ∃ kvs, H q = some (.dK kvs) ∧ Fnd H kvs tab
def sp_reached : Sp := fun vs H Q _ => ∃ (p : Addr) (rs : List Road) (s : Int), vs = [.ref p, .int s] ∧ RoadsAt H p rs ∧ rs.length ≤ 1000 ∧
  ∀ q tab H', H q = none → Same H H' → FoundD H' q tab → Tab rs s tab → (∀ x ∈ keys tab, Closed rs tab x) → Q (.ref q) H'
theorem PairsAt.get {H : Hp} {ps : List (Int × Int)} {xs : List V} (h : Reps H xs (ps.map pairD)) {i : Nat} {x : V} (hx : xs[i]? = some x) : ∃ r a, ps[i]? = some r ∧ x = .ref a ∧ H a = some (.tup [.int r.1, .int r.2]) := by
  obtain ⟨d, hd, hr⟩ := h.at hx
  rw [List.getElem?_map] at hd
  cases q : ps[i]? with
  | none => rw [q] at hd; cases hd
  | some r =>
    rw [q] at hd
    cases hd
    obtain ⟨a, e, ha⟩ := pairD_at hr
    exact ⟨r, a, rfl, e, ha⟩
theorem last_map {ws : List Int} {h : Int} : ((ws ++ [h]).map V.int)[((ws ++ [h]).map V.int).length - 1]? = some (.int h) := by simp
theorem drop_map {ws : List Int} {h : Int} : ((ws ++ [h]).map V.int).dropLast = ws.map V.int := by simp
theorem nil_or_snoc {α : Type} (l : List α) : l = [] ∨ ∃ r a, l = r ++ [a] := by
  rcases List.eq_nil_or_concat l with h | ⟨r, a, h⟩
  · exact .inl h
  · exact .inr ⟨r, a, by rw [h, List.concat_eq_append]⟩
section
variable {P : Program} {w : World} {K : PySem.W.Frag} {mg : Str → Option Value} {base : Heap} {t : Adr}
theorem ok_reached (TT : Txt K mg t) : FnOk P w K mg base CX0 2 t.f_reached t.d_reached ["roads", "start"] sp_reached := by
  refine TT.F_reached.ok sc_reached (fun vs H Q E h => ?_) (fun cdv A outer sh H vs Q E hr h => ?_)
  · obtain ⟨p, rs, s, rfl, _⟩ := h
    rfl
  · obtain ⟨p, rs, s, rfl, hR, hlen, k⟩ := h
    have hu := hu_of hr
    refine ⟨_, (pss_cons (ps_set (i := 2) sc_reached.nd rfl (Or.inl rfl) (pe_disp (pps_cons (pv 1) (pe_tup (pa_cons (pv 1) (pa_cons pe_int pa_nil))) pps_nil) rfl rfl (fun h => nomatch h) (by decide))) (pss_cons (ps_set (i := 3) sc_reached.nd rfl (Or.inl rfl) (pe_lst (pa_cons (pv 1) pa_nil))) (pss_cons (ps_while PassesOwn.never (pt_truth (pv 3) (fun _ => rfl)) (pss_cons (ps_set (i := 4) sc_reached.nd rfl (Or.inl rfl) (pe_bm0 PySem.F.plainAttrs_list PySem.F.slot_list_pop PySem.F.type_list_pop mt_pop (pv 3))) (pss_one (ps_for PassesOwn.never rfl (pi_list (pe_call (ok_steps TT) (hr.mono (by decide)) rfl TT.m_steps TT.F_steps.kp TT.b_steps .nil pass0 (pa_cons (pv 0) (pa_cons (pv 4) pa_nil)))) (pg_tup rfl (pgs_cons (pg_name (i := 5) sc_reached.nd rfl (Or.inl rfl)) (pgs_cons (pg_name (i := 6) sc_reached.nd rfl (Or.inl rfl)) pgs_nil))) (pss_one (ps_if (pt_cmp (pc_dnotin hu (pv 5) (pv 2))) (pss_cons (ps_dput hu (pv 2) (pv 5) (pe_tup (pa_cons (pv 4) (pa_cons (pe_op op_add (pe_ix ix_tup (pe_dget hu (pv 2) (pv 4) (fun _ _ => rfl)) pe_int (fun _ _ => rfl)) (pv 6)) pa_nil))) rfl) (pss_one (ps_expr (pe_bm PySem.F.plainAttrs_list PySem.F.slot_list_append PySem.F.type_list_append mt_append (pv 3) (pa_cons (pv 5) pa_nil))))) pss_nil)))))) (pss_one (ps_ret (pv 2)))))), ?_⟩
    -- found = {start: (start, 0)}
    intro q hq
    refine ⟨_, rfl, _, rfl, by show 2 ≤ sizeLine; decide, fun a ha => ?_⟩
    have hqa : q ≠ a := fun z => by subst z; rw [upd_same] at ha; cases ha
    have ha0 : H a = none := by rw [upd_ne hqa.symm] at ha; exact ha
    refine ⟨by rw [upd_ne hqa, upd_same], [(Sum.inl s, .ref a)], rfl, by show 1 ≤ 15; decide, ?_⟩
    -- waiting = [start]
    refine ⟨_, rfl, by show 1 ≤ sizeLine; decide, fun u hu0 => ?_⟩
    have huq : u ≠ q := fun z => by subst z; rw [upd_same] at hu0; cases hu0
    have hua : u ≠ a := fun z => by subst z; rw [upd_ne hqa.symm, upd_same] at hu0; cases hu0
    have hun : H u = none := by rw [upd_ne huq, upd_ne hua, upd_ne huq] at hu0; exact hu0
    -- while waiting
    refine ⟨fun m σ H2 => ∃ tab ws kvs v4 v5 v6, σ = [some (.ref p), some (.int s), some (.ref q), some (.ref u), v4, v5, v6] ∧ Same H H2 ∧ H2 q = some (.dK kvs) ∧ Fnd H2 kvs tab ∧ H2 u = some (.lst (ws.map V.int)) ∧ RI rs s tab ws ∧ m = ws.length + 2 * (2 * rs.length + 1 - tab.length) ∧ m ≤ 4 * rs.length + 1, ⟨_, [(s, s, 0)], [s], [(Sum.inl s, .ref a)], none, none, none, rfl, ?_, ?_, ?_, upd_same, RI.begin rs s, rfl, by simp only [List.length_cons, List.length_nil]; omega⟩, ?_⟩
    · intro b o e
      rw [upd_ne (ne_of_none e hun), upd_ne (ne_of_none e hq), upd_ne (ne_of_none e ha0), upd_ne (ne_of_none e hq)]
      exact e
    · rw [upd_ne huq.symm, upd_same]; rfl
    · refine .cons ⟨rfl, pairD_mk ?_⟩ .nil
      rw [upd_ne hua.symm, upd_ne hqa.symm, upd_same]
    · rintro m σ H2 ⟨tab, ws, kvs, v4, v5, v6, rfl, s2, hq2, hF, hu2, I, rfl, hm0⟩
      refine ⟨_, rfl, _, .inl ⟨_, SqL.of hu2, rfl⟩, ?_⟩
      rcases nil_or_snoc ws with rfl | ⟨ws', h, rfl⟩
      · refine iteF ?_
        exact ⟨_, rfl, k q tab H2 hq s2 ⟨kvs, hq2, hF⟩ I.T I.fin⟩
      · have et : (!((ws' ++ [h]).map V.int).isEmpty) = true := by simp
        rw [et]
        refine iteT ⟨_, fun σ' H' z => z, ?_⟩
        -- here = waiting.pop()
        refine ⟨_, rfl, .inl ⟨rfl, _, SqL.of hu2⟩, u, _, _, rfl, rfl, hu2, last_map, ?_⟩
        rw [drop_map]
        have J := I.pop
        have uq : u ≠ q := huq
        have s3 : Same H (upd H2 u (.lst (ws'.map V.int))) := fun b o e => by rw [upd_ne (ne_of_none e hun)]; exact s2 _ _ e
        -- for there, length in steps(roads, here)
        refine ⟨_, rfl, _, rfl, p, rs, h, rfl, hR.keep s3, hlen, fun c H3 hc s4 hP => ?_⟩
        obtain ⟨xs, hcx, hxs⟩ := hP
        have hq3 : H3 q = some (.dK kvs) := s4 _ _ (by rw [upd_ne uq.symm]; exact hq2)
        have hu3 : H3 u = some (.lst (ws'.map V.int)) := s4 _ _ upd_same
        have hcq : c ≠ q := fun z => by subst z; rw [upd_ne uq.symm, hq2] at hc; cases hc
        have hcu : c ≠ u := fun z => by subst z; rw [upd_same] at hc; cases hc
        have hF3 : Fnd H3 kvs tab := hF.froz fun b ys e => s4 _ _ (by rw [upd_ne]; exact e; intro z; subst z; rw [hu2] at e; cases e)
        have hlx := hxs.length
        rw [List.length_map] at hlx
        refine ⟨c, rfl, ⟨_, SqL.of hcx⟩, for_list (K := K) (a := c) (xs := xs) (fun j σ H4 => ∃ tab2 ws2 kvs2 v5 v6, σ = [some (.ref p), some (.int s), some (.ref q), some (.ref u), some (.int h), v5, v6] ∧ (∀ b o, b ≠ q → b ≠ u → H3 b = some o → H4 b = some o) ∧ H4 q = some (.dK kvs2) ∧ Fnd H4 kvs2 tab2 ∧ H4 u = some (.lst (ws2.map V.int)) ∧ RJ rs s h j tab2 ws2 ∧ ws2.length + 2 * (2 * rs.length + 1 - tab2.length) < (ws' ++ [h]).length + 2 * (2 * rs.length + 1 - tab.length))
          ⟨tab, ws', kvs, v5, v6, rfl, fun _ _ _ _ e => e, hq3, hF3, hu3, J, by rw [List.length_append]; simp only [List.length_cons, List.length_nil]; omega⟩ (fun j σ H4 _ ⟨_, _, _, _, _, _, e, _⟩ => SqL.of (e _ _ hcq hcu hcx)) ?_ ?_⟩
        · rintro j x σ H4 hj ⟨tab2, ws2, kvs2, v5', v6', rfl, s5, hq4, hF4, hu4, J2, hm⟩
          obtain ⟨⟨y, l⟩, b, hpj, rfl, hb⟩ := PairsAt.get hxs hj
          have hbq : b ≠ q := ne_of hb hq3 (by intro z; cases z)
          have hbu : b ≠ u := ne_of hb hu3 (by intro z; cases z)
          have hb4 := s5 _ _ hbq hbu hb
          refine ⟨b, _, rfl, SqT.of hb4, rfl, _, _, rfl, _, _, rfl, rfl, ?_⟩
          -- if there not in found
          refine ⟨_, rfl, _, rfl, q, _, rfl, DGet.k (k := Sum.inl y) hq4, _, rfl, ?_⟩
          by_cases hy : y ∈ keys tab2
          · obtain ⟨py, dy, hmy⟩ := mem_keys.mp hy
            obtain ⟨a', e', _⟩ := hF4.some J2.T.nd hmy
            rw [e']
            exact iteF ⟨tab2, ws2, kvs2, _, _, rfl, s5, hq4, hF4, hu4, J2.skip hpj hy, hm⟩
          · have e' := hF4.none hy
            rw [e']
            refine iteT ?_
            -- found[there] = (here, found[here][1] + length)
            obtain ⟨ph, dh, hmh⟩ := mem_keys.mp J2.here
            obtain ⟨a', e2, ha'⟩ := hF4.some J2.T.nd hmh
            refine ⟨_, rfl, _, rfl, _, rfl, q, _, rfl, .inl ⟨kvs2, Sum.inl h, .inl hq4, rfl, e2.symm⟩, a', _, 1, _, rfl, rfl, SqT.of ha', atI_nat (j := 1) rfl, _, rfl, _, _, rfl, rfl, by show 2 ≤ sizeLine; decide, fun d hd => ?_⟩
            have hdq : d ≠ q := fun z => by subst z; rw [hq4] at hd; cases hd
            have hdu : d ≠ u := fun z => by subst z; rw [hu4] at hd; cases hd
            have hbound := J2.T.bound
            have hkl := hF4.length
            refine ⟨_, rfl, _, rfl, q, _, rfl, DPut.k (k := Sum.inl y) (by rw [upd_ne hdq.symm]; exact hq4) (by rw [hkl, sizeLine_eq]; omega), ?_⟩
            -- waiting.append(there)
            have hu5 : (upd (upd H4 d (.tup [.int h, .int (dh + l)])) q (.dK (putK kvs2 (Sum.inl y : Key) (.ref d)))) u = some (.lst (ws2.map V.int)) := by rw [upd_ne uq, upd_ne hdu.symm]; exact hu4
            have hwl : ws2.length ≤ 4001 := by omega
            refine ⟨_, rfl, .inl ⟨rfl, _, SqL.of hu5⟩, _, rfl, u, _, _, rfl, rfl, hu5, by rw [List.length_map, sizeLine_eq]; omega, ?_⟩
            have J3 := J2.add hpj hy hmh
            have hbound3 := J3.T.bound
            rw [List.length_append] at hbound3
            refine ⟨tab2 ++ [(y, h, dh + l)], ws2 ++ [y], _, _, _, rfl, fun b' o n1 n2 e => ?_, by rw [upd_ne uq.symm, upd_same], ?_, by rw [upd_same, List.map_append]; rfl, J3, ?_⟩
            · rw [upd_ne n2, upd_ne n1]
              have e4 := s5 _ _ n1 n2 e
              rw [upd_ne (ne_of_none e4 hd)]
              exact e4
            · have hd6 : (upd (upd (upd H4 d (.tup [.int h, .int (dh + l)])) q (.dK (putK kvs2 (Sum.inl y : Key) (.ref d)))) u (.lst (ws2.map V.int ++ [V.int y]))) d = some (.tup [.int h, .int (dh + l)]) := by rw [upd_ne hdu, upd_ne hdq, upd_same]
              refine (hF4.froz fun b' ys e => ?_).snoc hy hd6
              have n1 : b' ≠ q := ne_of e hq4 (by intro z; cases z)
              have n2 : b' ≠ u := ne_of e hu4 (by intro z; cases z)
              rw [upd_ne n2, upd_ne n1, upd_ne (ne_of_none e hd)]
              exact e
            · rw [List.length_append, List.length_append]
              simp only [List.length_cons, List.length_nil] at *
              omega
        · rintro σ H4 ⟨tab2, ws2, kvs2, v5', v6', rfl, s5, hq4, hF4, hu4, J2, hm⟩
          rw [hlx] at J2
          refine ⟨_, hm, tab2, ws2, kvs2, _, _, _, rfl, fun b o e => ?_, hq4, hF4, hu4, J2.fin, rfl, by omega⟩
          exact s5 _ _ (ne_of_none e hq) (ne_of_none e hun) (s4 _ _ (s3 _ _ e))
end
end WR
namespace WR
open PySem L2
theorem wholeV_iff {i a b : Int} : wholeV (.int i) a b = true ↔ a ≤ i ∧ i ≤ b := by
  show (decide (a ≤ i) && decide (i ≤ b)) = true ↔ _
  simp
theorem roadB_all {n : Nat} {rs : List Road} : (rs.map (roadB n)).all id = true ↔ Roads n rs := by
  rw [List.all_eq_true]
  have e : ∀ r : Road, roadB n r = true ↔ (0 ≤ r.1 ∧ r.1 ≤ (n : Int) - 1) ∧ (0 ≤ r.2.1 ∧ r.2.1 ≤ (n : Int) - 1) ∧ r.1 ≠ r.2.1 ∧ 1 ≤ r.2.2 ∧ r.2.2 ≤ 1000000 := fun r => by
    unfold roadB
    rw [Bool.and_eq_true, Bool.and_eq_true, Bool.and_eq_true, wholeV_iff, wholeV_iff, wholeV_iff]
    simp only [Bool.not_eq_true', decide_eq_false_iff_not, and_assoc]
  constructor
  · intro h
    have h' : ∀ r ∈ rs, roadB n r = true := fun r hr => h _ (List.mem_map.mpr ⟨r, hr, rfl⟩)
    exact ⟨fun r hr => by have := (e r).mp (h' r hr); omega, fun r hr => by have := (e r).mp (h' r hr); omega, fun r hr => ((e r).mp (h' r hr)).2.2.1, fun r hr => ((e r).mp (h' r hr)).2.2.2⟩
  · intro R x hx
    obtain ⟨r, hr, rfl⟩ := List.mem_map.mp hx
    refine (e r).mpr ?_
    have a1 := R.lo r hr; have a2 := R.hi r hr; have a3 := R.ne r hr; have a4 := R.ps r hr
    exact ⟨⟨a1.1, by omega⟩, ⟨a1.2, by omega⟩, a3, a4⟩
/-- it is a tree of the document's size -/
def IsTree (n : Int) (rs : List Road) : Prop := 1 ≤ n ∧ n ≤ 12 ∧ Tree n.toNat rs
def sp_is_tree : Sp := fun vs H Q _ => ∃ (p : Addr) (n : Int) (rs : List Road), vs = [.int n, .ref p] ∧ RoadsAt H p rs ∧ rs.length ≤ 1000 ∧ ∀ b H', Same H H' → (b = true ↔ IsTree n rs) → Q (.bl b) H'
section
variable {P : Program} {w : World} {K : PySem.W.Frag} {mg : Str → Option Value} {base : Heap} {t : Adr}
theorem ok_is_tree (TT : Txt K mg t) : FnOk P w K mg base CX0 4 t.f_is_tree t.d_is_tree ["villages", "roads"] sp_is_tree := by
  refine TT.F_is_tree.ok sc_is_tree (fun vs H Q E h => ?_) (fun cdv A outer sh H vs Q E hr h => ?_)
  · obtain ⟨p, n, rs, rfl, _⟩ := h
    rfl
  · obtain ⟨p, n, rs, rfl, hR, hlen, k⟩ := h
    have hu := hu_of hr
    refine ⟨_, (pss_cons (ps_if (pt_not (pt_val (pe_call (ok_is_whole TT) (hr.mono (by decide)) rfl TT.m_is_whole TT.F_is_whole.kp TT.b_is_whole .nil pass0 (pa_cons (pv 0) (pa_cons pe_int (pa_cons (pe_glob (v := .int 12) rfl TT.g_MOST_VILLAGES ⟨_, rfl⟩) pa_nil)))))) (pss_one (ps_ret pe_bl)) pss_nil) (pss_cons (ps_if (PW.pt (pw_or (pt_not (pt_val (pe_callB call_isinst rfl TT.z_isinstance WB.bt_isinstance (pa_cons (pv 1) (pa_cons (pe_bltn (v := .ty "list") rfl TT.z_list WB.bt_list rfl) pa_nil))))) (pw_or1 (pt_cmpR op_ne (pe_callB call_len_seq rfl TT.z_len WB.bt_len (pa_cons (pv 1) pa_nil)) (pe_op op_sub (pv 0) pe_int) (nomark _))))) (pss_one (ps_ret pe_bl)) pss_nil) (pss_cons (ps_if (pt_not (pt_val (pe_callB (call_all rfl) rfl TT.z_all WB.bt_all (pa_cons (pe_comp rfl (N := ["road", "villages"]) (fr := [(1, 0)]) (compOk (N0 := ["villages", "roads"]) (N := ["road", "villages"]) (fr := [(1, 0)]) (sc0 := defScope s_is_tree) rfl ⟨rfl, rfl⟩ (by decide +kernel)) (pi_list (pv 1)) (fun _ _ _ _ _ => ⟨(pg_name (i := 0) (show (["road", "villages"] : List Str).Nodup by decide +kernel) rfl (Or.inl rfl)), pf_none, (pe_call (ok_is_road TT) (hr.mono (by decide)) rfl TT.m_is_road TT.F_is_road.kp TT.b_is_road .nil pass0 (pa_cons (pv 0) (pa_cons (pv 1) pa_nil)))⟩)) pa_nil)))) (pss_one (ps_ret pe_bl)) pss_nil) (pss_one (ps_ret (pe_cmpR op_eq (pe_callB call_lenD rfl TT.z_len WB.bt_len (pa_cons (pe_call (ok_reached TT) (hr.mono (by decide)) rfl TT.m_reached TT.F_reached.kp TT.b_reached .nil pass0 (pa_cons (pv 1) (pa_cons pe_int pa_nil))) pa_nil)) (pv 0) (nomark _))))))), ?_⟩
    obtain ⟨xs, hp, hxs⟩ := hR
    have hlx := hxs.length
    rw [List.length_map] at hlx
    refine ⟨_, rfl, _, _, _, rfl, .int _, _, rfl, ?_⟩
    cases e1 : wholeV (.int n) 1 12 with
    | false => exact iteT (k false H (Same.refl H) ⟨fun z => (nomatch z), fun z => by rw [wholeV_iff.mpr ⟨z.1, z.2.1⟩] at e1; cases e1⟩)
    | true =>
      obtain ⟨n1, n2⟩ := wholeV_iff.mp e1
      obtain ⟨m, rfl⟩ := Int.eq_ofNat_of_zero_le (show 0 ≤ n by omega)
      refine iteF ⟨_, rfl, _, "list", .type "list", true, rfl, .lst hp, kit_ll, true, rfl, iteF ?_⟩
      refine ⟨_, rfl, p, _, rfl, .inl (SqL.of hp), _, rfl, _, _, rfl, rfl, rfl, _, rfl, ?_⟩
      rw [hlx]
      by_cases e2 : rs.length + 1 = m
      · have hd : (!decide (V.int (rs.length : Int) = V.int ((m : Int) - 1))) = false := by
          have : (rs.length : Int) = (m : Int) - 1 := by omega
          rw [this]; simp
        refine ite_f hd ?_
        -- all([is_road(road, villages) for road in roads])
        refine ⟨_, rfl, p, rfl, ⟨_, SqL.of hp⟩, fun acc hacc => comp_list (K := K) (xs := xs) (fun i τ ys H2 => (∃ v, τ = [v, some (.int m)]) ∧ ys = ((rs.take i).map (roadB m)).map V.bl ∧ H2 acc = some (.lst ys) ∧ Same H H2 ∧ i ≤ rs.length) ⟨⟨_, rfl⟩, rfl, upd_same, same_new hacc, Nat.zero_le _⟩
          (fun i τ ys H2 _ ⟨_, _, h3, h4, _⟩ => ⟨SqL.of (h4 _ _ hp), h3⟩) ?_ ?_⟩
        · rintro i x τ ys H2 R hi ⟨⟨v, rfl⟩, rfl, h3, h4, h5⟩ hR
          obtain ⟨r, a, hri, rfl, ha⟩ := RoadsAt.get hp hxs hi
          have hlt : i < rs.length := (List.getElem?_eq_some_iff.mp hri).1
          refine noifN ?_
          refine ⟨_, rfl, _, rfl, a, m, r, rfl, h4 _ _ ha, fun H' s' => ⟨s' _ _ h3, by simp only [List.length_map, List.length_take]; rw [sizeLine_eq]; omega, hR _ _ _ ⟨⟨_, rfl⟩, ?_, upd_same, fun b o e => ?_, hlt⟩⟩⟩
          · rw [List.take_add_one, hri]; simp
          · rw [upd_ne (ne_of_none e hacc)]; exact s' _ _ (h4 _ _ e)
        · rintro τ ys H2 ⟨⟨v, rfl⟩, rfl, h3, h4, h5⟩
          rw [hlx, List.take_length] at h3
          refine ⟨acc, rs.map (roadB m), rfl, SqL.of h3, _, rfl, ?_⟩
          cases e3 : (rs.map (roadB m)).all id with
          | false => exact iteT (k false H2 h4 ⟨fun z => (nomatch z), fun z => by have := roadB_all.mpr z.2.2.roads; simp only [Int.toNat_natCast] at this; rw [this] at e3; cases e3⟩)
          | true =>
            refine iteF ?_
            have R := roadB_all.mp e3
            -- return len(reached(roads, 0)) == villages
            refine ⟨_, rfl, p, rs, 0, rfl, ⟨xs, h4 _ _ hp, hxs.keep h4⟩, hlen, fun q tab H3 hq s3 ⟨kvs, hqd, hF⟩ T hc => ⟨q, kvs, rfl, hqd, _, rfl, rfl, ?_⟩⟩
            refine k _ H3 (h4.trans s3) ?_
            rw [hF.length]
            have := tree_iff R e2 T hc
            simp only [decide_eq_true_eq, V.int.injEq]
            constructor
            · intro z
              exact ⟨n1, n2, by simp only [Int.toNat_natCast]; exact this.mp (by omega)⟩
            · intro z
              have z3 := z.2.2
              simp only [Int.toNat_natCast] at z3
              have := this.mpr z3
              omega
      · have hd : (!decide (V.int (rs.length : Int) = V.int ((m : Int) - 1))) = true := by
          have : ¬ (rs.length : Int) = (m : Int) - 1 := by omega
          simp [this]
        refine ite_t hd ?_
        exact k false H (Same.refl H) ⟨fun z => (nomatch z), fun z => by have := z.2.2.count; simp only [Int.toNat_natCast] at this; exact absurd this e2⟩
end
end WR
namespace WR
open PySem L2
/-! ### a Tree -/
theorem f_ne : ¬ (("size" : Str) = "road_list") := by decide +kernel
def flds (n : Int) (q : Addr) : List (Str × V) := putF "road_list" (.ref q) (putF "size" (.int n) [])
theorem flds_size (n : Int) (q : Addr) : (flds n q).lookup ("size" : Str) = some (.int n) := by
  unfold flds
  rw [lookup_putF, if_neg f_ne, lookup_putF, if_pos rfl]
theorem flds_roads (n : Int) (q : Addr) : (flds n q).lookup ("road_list" : Str) = some (.ref q) := by
  unfold flds
  rw [lookup_putF, if_pos rfl]
theorem flds_no (n : Int) (q : Addr) {m : Str} (h1 : ¬ m = "road_list") (h2 : ¬ m = "size") : (flds n q).lookup m = none := by
  unfold flds
  rw [lookup_putF, if_neg h1, lookup_putF, if_neg h2]
  all_goals rfl
/-- a Tree stands at x, its list of roads at q -/
structure TreeAt (C : Addr) (H : Hp) (x q : Addr) (n : Int) (rs : List Road) : Prop where
  ob : ∃ dx, H x = some (.ins C dx (flds n q))
  rd : RoadsAt H q rs
  ok : IsTree n rs
theorem TreeAt.keep {C : Addr} {H H' : Hp} {x q : Addr} {n : Int} {rs : List Road} (T : TreeAt C H x q n rs) (k : Same H H') : TreeAt C H' x q n rs := ⟨let ⟨dx, h⟩ := T.ob; ⟨dx, k _ _ h⟩, T.rd.keep k, T.ok⟩
theorem IsTree.len {n : Int} {rs : List Road} (h : IsTree n rs) : rs.length ≤ 1000 := by
  have := h.2.2.count
  have := h.2.1
  omega
def sp_Tree_init (C : Addr) : Sp := fun vs H Q _ => ∃ (x dx p : Addr) (n : Int) (rs : List Road), vs = [.ref x, .int n, .ref p] ∧ H x = some (.ins C dx []) ∧ RoadsAt H p rs ∧ IsTree n rs ∧
  ∀ q H', H q = none → TreeAt C H' x q n rs → (∀ b o, H b = some o → b ≠ x → H' b = some o) → Q .non H'
def sp_Tree_roads (C : Addr) : Sp := fun vs H Q _ => ∃ (x q : Addr) (n : Int) (rs : List Road), vs = [.ref x] ∧ TreeAt C H x q n rs ∧ ∀ p H', H p = none → Same H H' → RoadsAt H' p rs → Q (.ref p) H'
def sp_need_village (C : Addr) : Sp := fun vs H Q _ => ∃ (x q : Addr) (n : Int) (rs : List Road) (v : Int), vs = [.ref x, .int v] ∧ TreeAt C H x q n rs ∧ InV n.toNat v ∧ ∀ H', Same H H' → Q .non H'
section
variable {P : Program} {w : World} {K : PySem.W.Frag} {mg : Str → Option Value} {base : Heap} {t : Adr}
theorem ok_Tree_init (TT : Txt K mg t) : FnOk P w K mg base CX0 5 t.f_Tree_init t.d_Tree_init ["self", "villages", "roads"] (sp_Tree_init t.C_Tree) := by
  refine TT.F_Tree_init.ok sc_Tree_init (fun vs H Q E h => ?_) (fun cdv A outer sh H vs Q E hr h => ?_)
  · obtain ⟨x, dx, p, n, rs, rfl, _⟩ := h
    rfl
  · obtain ⟨x, dx, p, n, rs, rfl, hx, hR, hT, k⟩ := h
    refine ⟨_, (pss_cons (ps_if (pt_not (pt_val (pe_call (ok_is_tree TT) (hr.mono (by decide)) rfl TT.m_is_tree TT.F_is_tree.kp TT.b_is_tree .nil pass0 (pa_cons (pv 1) (pa_cons (pv 2) pa_nil))))) (pss_one ps_never) pss_nil) (pss_cons (ps_fld (pv 0) (pv 1) rfl) (pss_one (ps_fld (pv 0) (pe_callTy call_list_of rfl TT.z_list WB.bt_list (pa_cons (pv 2) pa_nil)) rfl)))), ?_⟩
    refine ⟨_, rfl, _, rfl, p, n, rs, rfl, hR, hT.len, fun b H1 s1 hb => ⟨b, rfl, ?_⟩⟩
    refine ite_f (by rw [hb.mpr hT]; rfl) ?_
    -- self.size = villages
    refine ⟨_, rfl, _, rfl, x, t.C_Tree, dx, _, rfl, s1 _ _ hx, TT.cl_Tree, TT.n_Tree_size, by show 0 < 1000; decide, ?_⟩
    -- self.road_list = list(roads)
    obtain ⟨xs, hp, hxs⟩ := hR
    have hpx : p ≠ x := ne_of hp hx (by intro z; cases z)
    refine ⟨_, rfl, p, _, rfl, .inl (SqL.of (by rw [upd_ne hpx]; exact s1 _ _ hp)), fun q hq => ?_⟩
    have hqx : q ≠ x := fun z => by subst z; rw [upd_same] at hq; cases hq
    have hq1 : H1 q = none := by rw [upd_ne hqx] at hq; exact hq
    have hq0 : H q = none := s1.free hq1
    refine ⟨_, rfl, x, t.C_Tree, dx, _, rfl, by rw [upd_ne hqx.symm, upd_same], TT.cl_Tree, TT.n_Tree_road_list, by show 1 < 1000; decide, ?_⟩
    have kp : ∀ b o, H b = some o → b ≠ x → upd (upd (upd H1 x (.ins t.C_Tree dx (putF "size" (.int n) []))) q (.lst xs)) x (.ins t.C_Tree dx (flds n q)) b = some o := fun b o e hb => by
      rw [upd_ne hb, upd_ne (ne_of_none e hq0), upd_ne hb]
      exact s1 _ _ e
    refine k q _ hq0 ⟨⟨dx, upd_same⟩, ⟨xs, by rw [upd_ne hqx, upd_same], ?_⟩, hT⟩ kp
    refine hxs.froz (fun b ys e => kp b _ e ?_) (frozs_roads rs)
    intro z; subst z; rw [hx] at e; cases e
theorem ok_Tree_roads (TT : Txt K mg t) : FnOk P w K mg base CX0 1 t.f_Tree_roads t.d_Tree_roads ["self"] (sp_Tree_roads t.C_Tree) := by
  refine TT.F_Tree_roads.ok sc_Tree_roads (fun vs H Q E h => ?_) (fun cdv A outer sh H vs Q E hr h => ?_)
  · obtain ⟨x, q, n, rs, rfl, _⟩ := h
    rfl
  · obtain ⟨x, q, n, rs, rfl, ⟨⟨dx, hx⟩, ⟨xs, hq, hxs⟩, hT⟩, k⟩ := h
    refine ⟨_, (pss_one (ps_ret (pe_callTy call_list_of rfl TT.z_list WB.bt_list (pa_cons (pe_fld (pv 0) rfl) pa_nil)))), ?_⟩
    refine ⟨_, rfl, x, t.C_Tree, dx, _, _, rfl, hx, TT.cl_Tree, TT.n_Tree_road_list, flds_roads _ _, q, _, rfl, .inl (SqL.of hq), fun p hp => ?_⟩
    exact k p _ hp (same_new hp) ⟨xs, upd_same, hxs.keep (same_new hp)⟩
end
end WR
namespace WR
open PySem L2
section
variable {P : Program} {w : World} {K : PySem.W.Frag} {mg : Str → Option Value} {base : Heap} {t : Adr}
theorem ok_need_village (TT : Txt K mg t) : FnOk P w K mg base CX0 3 t.f_need_village t.d_need_village ["tree", "village"] (sp_need_village t.C_Tree) := by
  refine TT.F_need_village.ok sc_need_village (fun vs H Q E h => ?_) (fun cdv A outer sh H vs Q E hr h => ?_)
  · obtain ⟨x, q, n, rs, v, rfl, _⟩ := h
    rfl
  · obtain ⟨x, q, n, rs, v, rfl, ⟨⟨dx, hx⟩, hR, hT⟩, hv, k⟩ := h
    refine ⟨_, (pss_one (ps_if (pt_not (pt_val (pe_call (ok_is_whole TT) (hr.mono (by decide)) rfl TT.m_is_whole TT.F_is_whole.kp TT.b_is_whole .nil pass0 (pa_cons (pv 1) (pa_cons pe_int (pa_cons (pe_op op_sub (pe_fld (pv 0) rfl) pe_int) pa_nil)))))) (pss_one ps_never) pss_nil)), ?_⟩
    refine ⟨_, rfl, _, rfl, x, t.C_Tree, dx, _, _, rfl, hx, TT.cl_Tree, TT.n_Tree_size, flds_size _ _, _, _, rfl, rfl, _, _, _, rfl, .int _, _, rfl, ?_⟩
    refine ite_f ?_ (k H (Same.refl H))
    have := hT.1
    have h1 := hv.1
    have h2 := hv.2
    rw [wholeV_iff.mpr ⟨h1, by omega⟩]
    rfl
end
end WR
namespace WR
open PySem L2
theorem upList_last (par : Int → Int) (k : Nat) (t : Int) : (upList par k t).map V.int = ((List.range k).map fun (j : Nat) => V.int (up par j t)) ++ [V.int (up par k t)] := by
  unfold upList
  rw [List.range_succ, List.map_append, List.map_append, List.map_map]
  rfl
theorem atI_up (par : Int → Int) (k : Nat) (t : Int) : atI ((upList par k t).map V.int) (-1) = some (.int (up par k t)) := by
  rw [upList_last]
  exact atI_last _ _
/-- the way from one to the other -/
def WayOf (n : Nat) (rs : List Road) (one other : Int) (ws : List Int) : Prop := ∃ (par : Int → Int) (idx : Int → Nat) (rk : Int → Nat) (k : Nat), Span n rs other par idx (far n rs other) rk ∧ up par k one = other ∧ (∀ j, j < k → InV n (up par j one) ∧ up par j one ≠ other) ∧ ws = upList par k one
def sp_far (C : Addr) : Sp := fun vs H Q _ => ∃ (x q : Addr) (n : Int) (rs : List Road) (one other : Int), vs = [.ref x, .int one, .int other] ∧ TreeAt C H x q n rs ∧ InV n.toNat one ∧ InV n.toNat other ∧ ∀ H', Same H H' → Q (.int (far n.toNat rs one other)) H'
def sp_way (C : Addr) : Sp := fun vs H Q _ => ∃ (x q : Addr) (n : Int) (rs : List Road) (one other : Int), vs = [.ref x, .int one, .int other] ∧ TreeAt C H x q n rs ∧ InV n.toNat one ∧ InV n.toNat other ∧
  ∀ p ws H', H p = none → Same H H' → H' p = some (.lst (ws.map V.int)) → WayOf n.toNat rs one other ws → Q (.ref p) H'
/-- how far it is from s to each -/
def rowM (n : Nat) (rs : List Road) (s : Int) : List Int := (List.range n).map fun (x : Nat) => far n rs s x
def sp_distances_from (C : Addr) : Sp := fun vs H Q _ => ∃ (x q : Addr) (n : Int) (rs : List Road) (v : Int), vs = [.ref x, .int v] ∧ TreeAt C H x q n rs ∧ InV n.toNat v ∧
  ∀ p H', H p = none → Same H H' → H' p = some (.lst ((rowM n.toNat rs v).map V.int)) → Q (.ref p) H'
/-- new lists, one a row -/
def RowsNew (H H' : Hp) (p : Addr) (rows : List (List Int)) : Prop := ∃ ps : List Addr, H' p = some (.lst (ps.map V.ref)) ∧ Paired (fun r row => H r = none ∧ r ≠ p ∧ H' r = some (.lst (row.map V.int))) ps rows
def rowsM (n : Nat) (rs : List Road) : List (List Int) := (List.range n).map fun (s : Nat) => rowM n rs s
def sp_distances (C : Addr) : Sp := fun vs H Q _ => ∃ (x q : Addr) (n : Int) (rs : List Road), vs = [.ref x] ∧ TreeAt C H x q n rs ∧ ∀ p H', H p = none → Same H H' → RowsNew H H' p (rowsM n.toNat rs) → Q (.ref p) H'
theorem flds_noroads (n : Int) (q : Addr) : (flds n q).lookup ("roads" : Str) = none := flds_no n q (by decide +kernel) (by decide +kernel)
end WR
namespace WR
open PySem L2
section
variable {P : Program} {w : World} {K : PySem.W.Frag} {mg : Str → Option Value} {base : Heap} {t : Adr}
theorem ok_way (TT : Txt K mg t) : FnOk P w K mg base CX0 4 t.f_way t.d_way ["tree", "one", "other"] (sp_way t.C_Tree) := by
  refine TT.F_way.ok sc_way (fun vs H Q E h => ?_) (fun cdv A outer sh H vs Q E hr h => ?_)
  · obtain ⟨x, q, n, rs, one, other, rfl, _⟩ := h
    rfl
  · obtain ⟨x, q, n, rs, one, other, rfl, T, h1, h2, k⟩ := h
    have hu := hu_of hr
    refine ⟨_, (pss_cons (ps_expr (pe_call (ok_need_village TT) (hr.mono (by decide)) rfl TT.m_need_village TT.F_need_village.kp TT.b_need_village .nil pass0 (pa_cons (pv 0) (pa_cons (pv 1) pa_nil)))) (pss_cons (ps_expr (pe_call (ok_need_village TT) (hr.mono (by decide)) rfl TT.m_need_village TT.F_need_village.kp TT.b_need_village .nil pass0 (pa_cons (pv 0) (pa_cons (pv 2) pa_nil)))) (pss_cons (ps_set (i := 3) sc_way.nd rfl (Or.inl rfl) (pe_call (ok_reached TT) (hr.mono (by decide)) rfl TT.m_reached TT.F_reached.kp TT.b_reached .nil pass0 (pa_cons (pe_meth0 (pv 0) TT.cl_Tree TT.M_Tree_roads (ok_Tree_roads TT) (hr.mono (by decide)) TT.b_Tree_roads .nil pass0) (pa_cons (pv 2) pa_nil)))) (pss_cons (ps_set (i := 4) sc_way.nd rfl (Or.inl rfl) (pe_lst (pa_cons (pv 1) pa_nil))) (pss_cons (ps_while PassesOwn.never (pt_cmpR op_ne (pe_ix ix_list (pv 4) (pe_un un_neg pe_int) (fun _ _ => rfl)) (pv 2) (nomark _)) (pss_one (ps_expr (pe_bm PySem.F.plainAttrs_list PySem.F.slot_list_append PySem.F.type_list_append mt_append (pv 4) (pa_cons (pe_ix ix_tup (pe_dget hu (pv 3) (pe_ix ix_list (pv 4) (pe_un un_neg pe_int) (fun _ _ => rfl)) (fun _ _ => rfl)) pe_int (fun _ _ => rfl)) pa_nil))))) (pss_one (ps_ret (pv 4)))))))), ?_⟩
    refine ⟨_, rfl, _, rfl, x, q, n, rs, one, rfl, T, h1, fun H1 s1 => ?_⟩
    refine ⟨_, rfl, _, rfl, x, q, n, rs, other, rfl, T.keep s1, h2, fun H2 s2 => ?_⟩
    have s12 := s1.trans s2
    obtain ⟨dx, hx⟩ := (T.keep s12).ob
    refine ⟨_, rfl, x, dx, _, rfl, hx, flds_noroads _ _, x, q, n, rs, rfl, T.keep s12, fun p H3 hp s3 hR => ?_⟩
    refine ⟨_, rfl, p, rs, other, rfl, hR, T.ok.len, fun q' tab H4 hq' s4 hF hT hc => ?_⟩
    obtain ⟨kvs, hk, hF⟩ := hF
    have s14 := (s12.trans s3).trans s4
    obtain ⟨par, idx, rk, S, hv, _, val⟩ := T.ok.2.2.table h2 hT hc
    obtain ⟨m, hm1, hm2⟩ := S.reach one h1
    -- villages = [one]
    refine ⟨_, rfl, by show 1 ≤ sizeLine; decide, fun u hu0 => ?_⟩
    have huq : u ≠ q' := fun z => by subst z; rw [hk] at hu0; cases hu0
    have hu1 : H u = none := s14.free hu0
    have hn12 := T.ok.2.1
    -- while villages[-1] != other
    refine ⟨fun c σ H5 => ∃ j, j ≤ m ∧ c = m - j ∧ σ = [some (.ref x), some (.int one), some (.int other), some (.ref q'), some (.ref u)] ∧ (∀ b o, b ≠ u → H4 b = some o → H5 b = some o) ∧ H5 u = some (.lst ((upList par j one).map V.int)), ⟨_, 0, Nat.zero_le _, rfl, rfl, fun b o hb e => by rw [upd_ne hb]; exact e, upd_same⟩, ?_⟩
    rintro c σ H5 ⟨j, hj, rfl, rfl, s5, hu5⟩
    refine ⟨_, rfl, 1, rfl, u, _, -1, _, rfl, rfl, SqL.of hu5, atI_up _ _ _, _, rfl, rfl, _, rfl, ?_⟩
    by_cases e : up par j one = other
    · refine ite_f (by rw [e]; simp) ?_
      have hjm : j = m := by
        refine Decidable.byContradiction fun ne => ?_
        exact (hm2 j (by omega)).2 e
      subst hjm
      exact ⟨_, rfl, k u _ H5 hu1 (fun b o e => s5 _ _ (ne_of_none e hu1) (s14 _ _ e)) hu5 ⟨par, idx, rk, j, S, hm1, hm2, rfl⟩⟩
    · refine ite_t (by simpa using e) ?_
      have hjm : j < m := by
        refine Decidable.byContradiction fun ne => ?_
        have : j = m := by omega
        subst this
        exact e hm1
      refine ⟨fun σ' H' => ∃ j', j' = j + 1 ∧ σ' = [some (.ref x), some (.int one), some (.int other), some (.ref q'), some (.ref u)] ∧ (∀ b o, b ≠ u → H4 b = some o → H' b = some o) ∧ H' u = some (.lst ((upList par j' one).map V.int)), ?_, ?_⟩
      · rintro σ' H' ⟨j', rfl, rfl, a, b⟩
        exact ⟨m - (j + 1), by omega, j + 1, hjm, rfl, rfl, a, b⟩
      · obtain ⟨i1, i2⟩ := hm2 j hjm
        obtain ⟨pj, dj, hmj⟩ := mem_keys.mp (hv _ i1)
        obtain ⟨a, ea, ha⟩ := hF.some hT.nd hmj
        have hau : a ≠ u := fun z => by subst z; rw [ha] at hu0; cases hu0
        have hk5 := s5 _ _ huq.symm hk
        refine ⟨_, rfl, .inl ⟨rfl, _, SqL.of hu5⟩, _, rfl, _, rfl, 1, rfl, u, _, -1, _, rfl, rfl, SqL.of hu5, atI_up _ _ _, q', _, rfl, .inl ⟨kvs, Sum.inl _, .inl hk5, rfl, ea.symm⟩, a, _, 0, _, rfl, rfl, SqT.of (s5 _ _ hau ha), atI_nat (j := 0) rfl, u, _, _, rfl, rfl, hu5, ?_, ?_⟩
        · rw [List.length_map, upList_length, sizeLine_eq]
          have : m ≤ 100 := by
            have := nodup_le (S.up_nodup hm2) (m := vil n.toNat) fun z hz => by
              unfold upList at hz
              obtain ⟨j', hj', rfl⟩ := List.mem_map.mp hz
              have := List.mem_range.mp hj'
              by_cases q : j' < m
              · exact mem_vil.mpr (hm2 j' q).1
              · have : j' = m := by omega
                rw [this, hm1]; exact mem_vil.mpr h2
            rw [upList_length, vil_length] at this
            omega
          omega
        · refine ⟨j + 1, rfl, rfl, fun b o hb e => by rw [upd_ne hb]; exact s5 _ _ hb e, ?_⟩
          rw [upd_same, upList_succ, List.map_append, up_succ, (val _ _ _ hmj).2]
          rfl
end
end WR
namespace WR
open PySem L2
theorem rowM_take {n : Nat} {rs : List Road} {s : Int} {i : Nat} (h : i < n) : (rowM n rs s).take (i + 1) = (rowM n rs s).take i ++ [far n rs s i] := by
  have hl : (rowM n rs s)[i]? = some (far n rs s i) := by
    unfold rowM
    rw [List.getElem?_map, List.getElem?_range h]
    rfl
  rw [List.take_add_one, hl]
  rfl
theorem rowM_length (n : Nat) (rs : List Road) (s : Int) : (rowM n rs s).length = n := by simp [rowM]
theorem rowsM_length (n : Nat) (rs : List Road) : (rowsM n rs).length = n := by simp [rowsM]
theorem rowsM_take {n : Nat} {rs : List Road} {i : Nat} (h : i < n) : (rowsM n rs).take (i + 1) = (rowsM n rs).take i ++ [rowM n rs i] := by
  have hl : (rowsM n rs)[i]? = some (rowM n rs i) := by
    unfold rowsM
    rw [List.getElem?_map, List.getElem?_range h]
    rfl
  rw [List.take_add_one, hl]
  rfl
end WR
namespace WR
open PySem L2
def sp_cell_at (K : PySem.W.Frag) : Sp := fun vs H Q _ => ∃ (a : Addr) (ns : List Int) (k : Int), vs = [.ref a, .int k] ∧ SqL K H a (ns.map V.int) ∧ 0 ≤ k ∧ ∀ c, Q (.int c) H
def sp_draw : Sp := fun vs H Q _ => ∃ (cell k many : Int), vs = [.int cell, .int k, .int many] ∧ 0 ≤ k ∧ k < 2 ^ 62 ∧ 0 < many ∧ ∀ r H', 0 ≤ r → r < many → Same H H' → Q (.int r) H'
def sp_name : Sp := fun vs H Q _ => ∃ (k n turn : Int), vs = [.int k, .int n, .int turn] ∧ IsTurn turn ∧ Q (.int (nameM k n turn)) H
section
variable {P : Program} {w : World} {K : PySem.W.Frag} {mg : Str → Option Value} {base : Heap} {t : Adr}
theorem ok__law_cell_at (TT : Txt K mg t) : FnOk P w K mg base CX0 1 t.f__law_cell_at t.d__law_cell_at ["_law_script", "_law_k"] (sp_cell_at K) := by
  refine TT.F__law_cell_at.ok sc__law_cell_at (fun vs H Q E h => ?_) (fun cdv A outer sh H vs Q E hr h => ?_)
  · obtain ⟨a, ns, k, rfl, _⟩ := h
    rfl
  · obtain ⟨a, ns, k, rfl, hS, h0, q⟩ := h
    refine ⟨_, (pss_cons (ps_if (pt_cmpR op_lt (pv 1) (pe_callB call_len_seq rfl TT.z_len WB.bt_len (pa_cons (pv 0) pa_nil)) (nomark _)) (pss_one (ps_ret (pe_ix ix_list (pv 0) (pv 1) (fun _ _ => rfl)))) pss_nil) (pss_one (ps_ret pe_int))), ?_⟩
    refine ⟨_, rfl, _, rfl, a, _, rfl, .inl hS, _, _, rfl, rfl, _, rfl, ite2 (fun c => ?_) (fun c => ?_)⟩
    · have c : k < ((ns.map V.int).length : Int) := by simpa using c
      rw [List.length_map] at c
      obtain ⟨j, rfl⟩ := Int.eq_ofNat_of_zero_le h0
      have hj : j < ns.length := by omega
      refine ⟨_, rfl, _, rfl, a, _, _, .int ns[j], rfl, rfl, hS, atI_nat (j := j) (by rw [List.getElem?_map, List.getElem?_eq_getElem hj]; rfl), q _⟩
    · exact q 0
def primes : List V := [.int 1000003, .int 1000033, .int 1000037, .int 1000039, .int 1000081, .int 1000099, .int 1000117, .int 1000121]
theorem prime_at {m : Int} (h0 : 0 ≤ m) (h1 : m < 8) : ∃ p : Int, atI primes m = some (.int p) ∧ 0 < p := by
  obtain ⟨j, rfl⟩ := Int.eq_ofNat_of_zero_le h0
  have hj : j < 8 := by omega
  match j, hj with
  | 0, _ => exact ⟨1000003, by rfl, by decide⟩
  | 1, _ => exact ⟨1000033, by rfl, by decide⟩
  | 2, _ => exact ⟨1000037, by rfl, by decide⟩
  | 3, _ => exact ⟨1000039, by rfl, by decide⟩
  | 4, _ => exact ⟨1000081, by rfl, by decide⟩
  | 5, _ => exact ⟨1000099, by rfl, by decide⟩
  | 6, _ => exact ⟨1000117, by rfl, by decide⟩
  | 7, _ => exact ⟨1000121, by rfl, by decide⟩
theorem ok__law_draw (TT : Txt K mg t) : FnOk P w K mg base CX0 1 t.f__law_draw t.d__law_draw ["_law_cell", "_law_k", "_law_many"] sp_draw := by
  refine TT.F__law_draw.ok sc__law_draw (fun vs H Q E h => ?_) (fun cdv A outer sh H vs Q E hr h => ?_)
  · obtain ⟨cell, k, many, rfl, _⟩ := h
    rfl
  · obtain ⟨cell, k, many, rfl, k0, k1, hm, q⟩ := h
    refine ⟨_, (pss_cons (ps_set (i := 3) sc__law_draw.nd rfl (Or.inl rfl) (pe_tup (pa_cons pe_int (pa_cons pe_int (pa_cons pe_int (pa_cons pe_int (pa_cons pe_int (pa_cons pe_int (pa_cons pe_int (pa_cons pe_int pa_nil)))))))))) (pss_cons (ps_set (i := 4) sc__law_draw.nd rfl (Or.inl rfl) (pe_op op_add (pe_op op_add (pe_op op_mul (pv 0) pe_int) (pe_op op_mul (pv 1) pe_int)) (pe_op op_mul (pe_op op_mod (pe_op op_fdiv (pv 0) pe_int) pe_int) pe_int))) (pss_one (ps_ret (pe_op op_mod (pe_op op_mod (pv 4) (pe_ix ix_tup (pv 3) (pe_op op_mod (pv 1) pe_int) (fun _ _ => rfl))) (pv 2)))))), ?_⟩
    refine ⟨by show 8 ≤ sizeLine; decide, fun p hp => ?_⟩
    refine ⟨_, rfl, _, _, rfl, rfl, .inr ⟨by decide, by decide⟩, _, rfl, _, _, rfl, rfl, .inr ⟨by decide, by decide⟩, _, _, rfl, rfl, _, rfl, _, _, rfl, rfl, ⟨by decide, by decide⟩, _, _, rfl, rfl, (by show (0 : Int) < 1000003; decide), _, _, rfl, rfl, .inr ⟨by decide, by decide⟩, _, _, rfl, rfl, ?_⟩
    obtain ⟨pr, e, hp0⟩ := prime_at (m := k % 8) (Int.emod_nonneg _ (by decide)) (Int.emod_lt_of_pos _ (by decide))
    refine ⟨_, rfl, _, rfl, _, rfl, _, _, rfl, rfl, (by show (0 : Int) < 8; decide), p, primes, _, _, rfl, rfl, SqT.of upd_same, e, _, _, rfl, rfl, hp0, _, rfl, _, _, rfl, rfl, hm, ?_⟩
    exact q _ _ (Int.emod_nonneg _ (by omega)) (Int.emod_lt_of_pos _ hm) (same_new hp)
theorem ok__law_name (TT : Txt K mg t) : FnOk P w K mg base CX0 1 t.f__law_name t.d__law_name ["_law_k", "_law_villages", "_law_turn"] sp_name := by
  refine TT.F__law_name.ok sc__law_name (fun vs H Q E h => ?_) (fun cdv A outer sh H vs Q E hr h => ?_)
  · obtain ⟨k, n, turn, rfl, _⟩ := h
    rfl
  · obtain ⟨k, n, turn, rfl, ht, q⟩ := h
    refine ⟨_, (pss_cons (ps_if (PW.pt (pw_and (pt_cmpR op_gt (pv 1) pe_int (nomark _)) (pw_and1 (PW.pt (pw_or (pt_cmpR op_eq (pv 2) pe_int (nomark _)) (pw_or1 (pt_cmpR op_ne (pe_op op_mod (pv 1) (pv 2)) pe_int (nomark _)))))))) (pss_one (ps_ret (pe_op op_mod (pe_op op_mul (pv 0) (pv 2)) (pv 1)))) pss_nil) (pss_one (ps_ret (pv 0)))), ?_⟩
    have tp : 0 < turn := by rcases ht with rfl | rfl | rfl | rfl <;> decide
    have tm : CMul k turn := by rcases ht with rfl | rfl | rfl | rfl <;> exact .inr ⟨by decide, by decide⟩
    refine ⟨_, rfl, _, _, rfl, rfl, _, rfl, ite2 (fun c1 => ?_) (fun c1 => ?_)⟩
    · have c1 : 1 < n := by simpa using c1
      refine ⟨_, rfl, rfl, _, rfl, ite2 (fun c2 => ?_) (fun c2 => ?_)⟩
      · have c2 : turn = 1 := by simpa using c2
        refine iteT ⟨_, rfl, _, rfl, _, _, rfl, rfl, tm, _, rfl, _, _, rfl, rfl, by omega, ?_⟩
        have : nameM k n turn = k * turn % n := by unfold nameM; rw [if_pos ⟨c1, .inl c2⟩]
        rw [this] at q
        exact q
      · have c2 : ¬ turn = 1 := by simpa using c2
        refine ⟨_, rfl, _, rfl, _, _, rfl, rfl, tp, rfl, _, rfl, ?_⟩
        by_cases c3 : n % turn = 0
        · refine ite_f (by show (!decide (V.int (n % turn) = V.int 0)) = false; rw [c3]; simp) ?_
          have : nameM k n turn = k := by unfold nameM; rw [if_neg (fun z => z.2.elim c2 fun y => y c3)]
          rw [this] at q
          exact ⟨_, rfl, q⟩
        · refine ite_t (by simpa using c3) ⟨_, rfl, _, rfl, _, _, rfl, rfl, tm, _, rfl, _, _, rfl, rfl, by omega, ?_⟩
          have : nameM k n turn = k * turn % n := by unfold nameM; rw [if_pos ⟨c1, .inr c3⟩]
          rw [this] at q
          exact q
    · have c1 : ¬ 1 < n := by simpa using c1
      have : nameM k n turn = k := by unfold nameM; rw [if_neg (fun z => c1 z.1)]
      rw [this] at q
      exact iteF ⟨_, rfl, q⟩
end
end WR
namespace WR
open PySem L2
def sp_told (K : PySem.W.Frag) : Sp := fun vs H Q _ => ∃ (a : Addr) (ns : List Int) (first most : Int), vs = [.ref a, .int first, .int most] ∧ SqL K H a (ns.map V.int) ∧ 0 ≤ first ∧ 1 ≤ most ∧ most ≤ 12 ∧
  ∀ p q n rs H', H p = none → H q = none → p ≠ q → Same H H' → H' p = some (.tup [.int n, .ref q]) → RoadsAt H' q rs → IsTree n rs → n ≤ most → Q (.ref p) H'
theorem putAt_map {α β : Type} (f : α → β) (l : List α) (p : Nat) (x : α) : (putAt l p x).map f = putAt (l.map f) p (f x) := by
  unfold putAt
  rw [List.map_append, List.map_cons, List.map_take, List.map_drop]
theorem Reps.putAt {H : Hp} {xs : List V} {ds : List Dt} {x : V} {d : Dt} (p : Nat) (h : Reps H xs ds) (hx : Rep H x d) : Reps H (xs.take p ++ x :: xs.drop p) (WR.putAt ds p d) := by
  unfold WR.putAt
  exact Reps.append (h.take p) (.cons hx (h.drop p))
theorem four_at {a b c d m : Int} (h0 : 0 ≤ m) (h1 : m < 4) : ∃ v : Int, atI [V.int a, V.int b, V.int c, V.int d] m = some (.int v) ∧ (v = a ∨ v = b ∨ v = c ∨ v = d) := by
  obtain ⟨j, rfl⟩ := Int.eq_ofNat_of_zero_le h0
  have hj : j < 4 := by omega
  match j, hj with
  | 0, _ => exact ⟨a, by rfl, .inl rfl⟩
  | 1, _ => exact ⟨b, by rfl, .inr (.inl rfl)⟩
  | 2, _ => exact ⟨c, by rfl, .inr (.inr (.inl rfl))⟩
  | 3, _ => exact ⟨d, by rfl, .inr (.inr (.inr rfl))⟩
section
variable {P : Program} {w : World} {K : PySem.W.Frag} {mg : Str → Option Value} {base : Heap} {t : Adr}
theorem ok__law_told (TT : Txt K mg t) : FnOk P w K mg base CX0 2 t.f__law_told t.d__law_told ["_law_script", "_law_first", "_law_most"] (sp_told K) := by
  refine TT.F__law_told.ok sc__law_told (fun vs H Q E h => ?_) (fun cdv A outer sh H vs Q E hr h => ?_)
  · obtain ⟨a, ns, first, most, rfl, _⟩ := h
    rfl
  · obtain ⟨a, ns, first, most, rfl, hS, hf, m1, m2, k⟩ := h
    refine ⟨_, (pss_cons (ps_set (i := 3) sc__law_told.nd rfl (Or.inl rfl) (pe_call (ok__law_cell_at TT) (hr.mono (by decide)) rfl TT.m__law_cell_at TT.F__law_cell_at.kp TT.b__law_cell_at .nil pass0 (pa_cons (pv 0) (pa_cons (pv 1) pa_nil)))) (pss_cons (ps_set (i := 4) sc__law_told.nd rfl (Or.inl rfl) (pe_call (ok__law_cell_at TT) (hr.mono (by decide)) rfl TT.m__law_cell_at TT.F__law_cell_at.kp TT.b__law_cell_at .nil pass0 (pa_cons (pv 0) (pa_cons (pe_op op_add (pv 1) pe_int) pa_nil)))) (pss_cons (ps_set (i := 5) sc__law_told.nd rfl (Or.inl rfl) (pe_op op_add pe_int (pe_op op_mod (pv 3) (pe_callB (call_min2 rfl) rfl TT.z_min WB.bt_min (pa_cons (pv 2) (pa_cons pe_int pa_nil)))))) (pss_cons (ps_join (ps_if (pt_cmpR op_eq (pe_op op_mod (pe_op op_fdiv (pv 3) pe_int) pe_int) pe_int (nomark _)) (pss_one (ps_set (i := 5) sc__law_told.nd rfl (Or.inl rfl) (pe_op op_add pe_int (pe_op op_mod (pe_op op_fdiv (pv 3) pe_int) (pv 2))))) pss_nil) (fun σ H => ∃ cell other n0, 1 ≤ n0 ∧ n0 ≤ most ∧ σ = [some (.ref a), some (.int first), some (.int most), some (.int cell), some (.int other), some (.int n0), none, none, none, none, none, none, none]) (fun σ H σ' H' => H = H' ∧ ∃ n : Int, 1 ≤ n ∧ n ≤ most ∧ σ' = σ.set 5 (some (.int n))) ?j0) (pss_cons (ps_set (i := 6) sc__law_told.nd rfl (Or.inl rfl) (pe_ix ix_tup (pe_tup (pa_cons pe_int (pa_cons pe_int (pa_cons pe_int (pa_cons pe_int pa_nil))))) (pe_op op_mod (pe_op op_fdiv (pv 3) pe_int) pe_int) (fun _ _ => rfl))) (pss_cons (ps_set (i := 7) sc__law_told.nd rfl (Or.inl rfl) (pe_ix ix_tup (pe_tup (pa_cons pe_int (pa_cons pe_int (pa_cons pe_int (pa_cons pe_int pa_nil))))) (pe_op op_mod (pe_op op_fdiv (pv 3) pe_int) pe_int) (fun _ _ => rfl))) (pss_cons (ps_set (i := 8) sc__law_told.nd rfl (Or.inl rfl) (pe_lst pa_nil)) (pss_cons (ps_for PassesOwn.never rfl (pi_range2 rfl TT.z_range (pa_cons pe_int (pa_cons (pv 5) pa_nil))) (pg_name (i := 9) sc__law_told.nd rfl (Or.inl rfl)) (pss_cons (ps_set (i := 10) sc__law_told.nd rfl (Or.inl rfl) (pe_call (ok__law_draw TT) (hr.mono (by decide)) rfl TT.m__law_draw TT.F__law_draw.kp TT.b__law_draw .nil pass0 (pa_cons (pv 4) (pa_cons (pv 9) (pa_cons (pv 9) pa_nil))))) (pss_cons (ps_join (ps_if (pt_cmpR op_eq (pe_op op_mod (pe_op op_fdiv (pv 3) pe_int) pe_int) pe_int (nomark _)) (pss_one (ps_set (i := 10) sc__law_told.nd rfl (Or.inl rfl) (pe_callB (call_max2 rfl) rfl TT.z_max WB.bt_max (pa_cons pe_int (pa_cons (pe_op op_sub (pe_op op_sub (pv 9) pe_int) (pe_call (ok__law_draw TT) (hr.mono (by decide)) rfl TT.m__law_draw TT.F__law_draw.kp TT.b__law_draw .nil pass0 (pa_cons (pv 4) (pa_cons (pv 9) (pa_cons pe_int pa_nil))))) pa_nil))))) pss_nil) (fun σ H => ∃ v0 v1 v2 cell other v5 v6 v7 v8 k above v11 v12, σ = [v0, v1, v2, some (.int cell), some (.int other), v5, v6, v7, v8, some (.int k), some (.int above), v11, v12] ∧ 1 ≤ k ∧ k < 100 ∧ 0 ≤ above ∧ above < k) (fun σ H σ' H' => Same H H' ∧ ∃ ab : Int, 0 ≤ ab ∧ (∀ k, σ[9]? = some (some (.int k)) → ab < k) ∧ σ' = σ.set 10 (some (.int ab))) ?j1) (pss_cons (ps_set (i := 11) sc__law_told.nd rfl (Or.inl rfl) (pe_tup (pa_cons (pe_call (ok__law_name TT) (hr.mono (by decide)) rfl TT.m__law_name TT.F__law_name.kp TT.b__law_name .nil pass0 (pa_cons (pv 9) (pa_cons (pv 5) (pa_cons (pv 7) pa_nil)))) (pa_cons (pe_call (ok__law_name TT) (hr.mono (by decide)) rfl TT.m__law_name TT.F__law_name.kp TT.b__law_name .nil pass0 (pa_cons (pv 10) (pa_cons (pv 5) (pa_cons (pv 7) pa_nil)))) pa_nil)))) (pss_cons (ps_join (ps_if (pt_cmpR op_eq (pe_call (ok__law_draw TT) (hr.mono (by decide)) rfl TT.m__law_draw TT.F__law_draw.kp TT.b__law_draw .nil pass0 (pa_cons (pv 4) (pa_cons (pe_op op_add (pv 9) pe_int) (pa_cons pe_int pa_nil)))) pe_int (nomark _)) (pss_one (ps_set (i := 11) sc__law_told.nd rfl (Or.inl rfl) (pe_tup (pa_cons (pe_ix ix_tup (pv 11) pe_int (fun _ _ => rfl)) (pa_cons (pe_ix ix_tup (pv 11) pe_int (fun _ _ => rfl)) pa_nil))))) pss_nil) (fun σ H => ∃ v0 v1 v2 v3 other v5 v6 v7 v8 k v10 e v12 x y, σ = [v0, v1, v2, v3, some (.int other), v5, v6, v7, v8, some (.int k), v10, some (.ref e), v12] ∧ 1 ≤ k ∧ k < 100 ∧ H e = some (.tup [.int x, .int y])) (fun σ H σ' H' => Same H H' ∧ ∀ e x y, σ[11]? = some (some (.ref e)) → H e = some (.tup [.int x, .int y]) → ∃ e' x' y', σ' = σ.set 11 (some (.ref e')) ∧ H' e' = some (.tup [.int x', .int y']) ∧ ((x' = x ∧ y' = y) ∨ (x' = y ∧ y' = x))) ?j2) (pss_cons (ps_set (i := 12) sc__law_told.nd rfl (Or.inl rfl) (pe_tup (pa_cons (pe_ix ix_tup (pv 11) pe_int (fun _ _ => rfl)) (pa_cons (pe_ix ix_tup (pv 11) pe_int (fun _ _ => rfl)) (pa_cons (pe_op op_add pe_int (pe_call (ok__law_draw TT) (hr.mono (by decide)) rfl TT.m__law_draw TT.F__law_draw.kp TT.b__law_draw .nil pass0 (pa_cons (pv 4) (pa_cons (pe_op op_add (pv 9) pe_int) (pa_cons (pv 6) pa_nil))))) pa_nil))))) (pss_one (ps_expr (pe_bm PySem.F.plainAttrs_list PySem.F.slot_list_insert PySem.F.type_list_insert mt_insert (pv 8) (pa_cons (pe_call (ok__law_draw TT) (hr.mono (by decide)) rfl TT.m__law_draw TT.F__law_draw.kp TT.b__law_draw .nil pass0 (pa_cons (pv 4) (pa_cons (pe_op op_add (pv 9) pe_int) (pa_cons (pe_op op_add (pe_callB call_len_seq rfl TT.z_len WB.bt_len (pa_cons (pv 8) pa_nil)) pe_int) pa_nil)))) (pa_cons (pv 12) pa_nil))))))))))) (pss_one (ps_ret (pe_tup (pa_cons (pv 5) (pa_cons (pv 8) pa_nil))))))))))))), ?_⟩
    case j0 =>
      rintro σ H0 ⟨cell, other, n0, n01, n02, rfl⟩
      refine ⟨_, rfl, _, _, rfl, rfl, ⟨by decide, by decide⟩, _, _, rfl, rfl, (by show (0 : Int) < 6; decide), rfl, _, rfl, ite2 (fun _ => ?_) (fun _ => ?_)⟩
      · refine ⟨_, rfl, _, _, rfl, rfl, ⟨by decide, by decide⟩, _, rfl, _, _, rfl, rfl, by omega, _, _, rfl, rfl, rfl, _, ?_, ?_, rfl⟩
        · have := Int.emod_nonneg (cell / 42) (show most ≠ 0 by omega); omega
        · have := Int.emod_lt_of_pos (cell / 42) (show 0 < most by omega); omega
      · exact ⟨rfl, n0, n01, n02, rfl⟩
    case j1 =>
      rintro σ H0 ⟨v0, v1, v2, cell, other, v5, v6, v7, v8, kk, above, v11, v12, rfl, k1, k2, a1, a2⟩
      refine ⟨_, rfl, _, _, rfl, rfl, ⟨by decide, by decide⟩, _, _, rfl, rfl, (by show (0 : Int) < 3; decide), rfl, _, rfl, ite2 (fun _ => ?_) (fun _ => ?_)⟩
      · refine ⟨_, rfl, _, _, rfl, rfl, _, rfl, _, rfl, other, kk, 2, rfl, by omega, by omega, by decide, fun r H3 r0 r1 s3 => ⟨_, _, rfl, rfl, _, _, rfl, s3, _, ?_, fun k' e => ?_, rfl⟩⟩
        · split <;> omega
        · have e : kk = k' := by simpa using e
          subst e
          split <;> omega
      · exact ⟨Same.refl _, above, a1, fun k' e => by have e : kk = k' := by simpa using e
                                                      omega, rfl⟩
    case j2 =>
      rintro σ H0 ⟨v0, v1, v2, v3, other, v5, v6, v7, v8, kk, v10, e, v12, x, y, rfl, k1, k2, he⟩
      refine ⟨_, rfl, _, rfl, _, _, rfl, rfl, other, _, 2, rfl, by omega, by omega, by decide, fun r H3 r0 r1 s3 => ⟨rfl, _, rfl, ite2 (fun _ => ?_) (fun _ => ?_)⟩⟩
      · have he3 := s3 _ _ he
        refine ⟨_, rfl, e, _, 1, _, rfl, rfl, SqT.of he3, atI_nat (j := 1) rfl, _, rfl, e, _, 0, _, rfl, rfl, SqT.of he3, atI_nat (j := 0) rfl, by show 2 ≤ sizeLine; decide, fun c hc => ⟨s3.trans (same_new hc), fun e' x' y' q1 q2 => ?_⟩⟩
        have q1 : e = e' := by simpa using q1
        subst q1
        rw [he] at q2
        have q2 : x = x' ∧ y = y' := by simpa using q2
        obtain ⟨rfl, rfl⟩ := q2
        exact ⟨c, y, x, rfl, upd_same, .inr ⟨rfl, rfl⟩⟩
      · refine ⟨s3, fun e' x' y' q1 q2 => ?_⟩
        have q1 : e = e' := by simpa using q1
        subst q1
        rw [he] at q2
        have q2 : x = x' ∧ y = y' := by simpa using q2
        obtain ⟨rfl, rfl⟩ := q2
        exact ⟨e, x, y, rfl, s3 _ _ he, .inl ⟨rfl, rfl⟩⟩
    -- cell, other
    refine ⟨_, rfl, _, rfl, a, ns, first, rfl, hS, hf, fun cell => ?_⟩
    refine ⟨_, rfl, _, rfl, _, _, rfl, rfl, a, ns, _, rfl, hS, by omega, fun other => ?_⟩
    -- villages = 1 + cell % min(most, 7)
    refine ⟨_, rfl, _, rfl, _, _, rfl, ?_⟩
    have hmin : 0 < (if (7 : Int) < most then 7 else most) ∧ (if (7 : Int) < most then 7 else most) ≤ most := by split <;> omega
    generalize (if (7 : Int) < most then (7 : Int) else most) = mn at hmin ⊢
    refine ⟨_, _, rfl, rfl, hmin.1, _, _, rfl, rfl, ?_⟩
    refine ⟨⟨cell, other, 1 + cell % mn, ?_, ?_, rfl⟩, ?_⟩
    · have := Int.emod_nonneg cell (show mn ≠ 0 by omega); omega
    · have := Int.emod_lt_of_pos cell (show 0 < mn by omega); omega
    rintro σ' H' ⟨rfl, n, n1, n2, rfl⟩
    obtain ⟨N, rfl⟩ := Int.eq_ofNat_of_zero_le (show 0 ≤ n by omega)
    -- greatest, turn
    refine ⟨by show 4 ≤ sizeLine; decide, fun g hg => ?_⟩
    obtain ⟨gr, e1, hgr⟩ := four_at (a := 1) (b := 4) (c := 9) (d := 1000000) (m := cell / 12 % 4) (Int.emod_nonneg _ (by decide)) (Int.emod_lt_of_pos _ (by decide))
    refine ⟨_, rfl, _, _, rfl, rfl, ⟨by decide, by decide⟩, _, _, rfl, rfl, (by show (0 : Int) < 4; decide), g, _, _, _, rfl, rfl, SqT.of upd_same, e1, ?_⟩
    refine ⟨by show 4 ≤ sizeLine; decide, fun u hu => ?_⟩
    obtain ⟨turn, e2, htn⟩ := four_at (a := 1) (b := 5) (c := 7) (d := 11) (m := cell / 48 % 4) (Int.emod_nonneg _ (by decide)) (Int.emod_lt_of_pos _ (by decide))
    refine ⟨_, rfl, _, _, rfl, rfl, ⟨by decide, by decide⟩, _, _, rfl, rfl, (by show (0 : Int) < 4; decide), u, _, _, _, rfl, rfl, SqT.of upd_same, e2, ?_⟩
    have htn : IsTurn turn := htn
    have hgr1 : 1 ≤ gr ∧ gr ≤ 1000000 := by omega
    -- roads = []
    refine ⟨Nat.zero_le _, fun q hq => ?_⟩
    have s1 : Same H (upd H g (.tup [.int 1, .int 4, .int 9, .int 1000000])) := same_new hg
    have s2 := s1.trans (same_new (o := .tup [.int 1, .int 5, .int 7, .int 11]) hu)
    have hq0 : H q = none := s2.free hq
    have s3 := s2.trans (same_new (o := .lst []) hq)
    -- for k in range(1, villages)
    refine ⟨_, rfl, 1, N, rfl, ⟨by decide, by decide, by omega, by omega⟩, ?_⟩
    have eN : ((N : Int) - 1).toNat = N - 1 := by omega
    rw [eN]
    refine for_range (lo := 1) (n := N - 1) (fun i σ H2 => (∃ v1 v2 v3 v4, σ = [some (.ref a), some (.int first), some (.int most), some (.int cell), some (.int other), some (.int N), some (.int gr), some (.int turn), some (.ref q), v1, v2, v3, v4]) ∧ Same H H2 ∧ ∃ rs, RoadsAt H2 q rs ∧ Built N turn (i + 1) rs)
      ⟨⟨none, none, none, none, rfl⟩, s3, [], ⟨[], upd_same, .nil⟩, Built.begin N turn⟩ ?_ ?_
    · rintro i σ H2 hi ⟨⟨v1, v2, v3, v4, rfl⟩, s4, rs, hR, B⟩
      -- above = draw(other, k, k)
      refine ⟨_, rfl, _, rfl, _, rfl, other, _, _, rfl, by omega, by omega, by omega, fun r1 H3 r10 r11 s5 => ?_⟩
      refine ⟨⟨_, _, _, cell, other, _, _, _, _, 1 + i, r1, _, _, rfl, by omega, by omega, r10, r11⟩, ?_⟩
      rintro σ' H4 ⟨s6, ab, ab0, ab1, rfl⟩
      have ab1 := ab1 _ rfl
      obtain ⟨B', rfl⟩ := Int.eq_ofNat_of_zero_le ab0
      -- ends = (name(k), name(above))
      refine ⟨_, rfl, _, rfl, _, rfl, 1 + i, N, turn, rfl, htn, _, rfl, _, rfl, _, rfl, B', N, turn, rfl, htn, by show 2 ≤ sizeLine; decide, fun e he => ?_⟩
      refine ⟨⟨_, _, _, _, other, _, _, _, _, 1 + i, _, e, _, _, _, rfl, by omega, by omega, upd_same⟩, ?_⟩
      rintro σ' H5 ⟨s7, hends⟩
      obtain ⟨e', x', y', rfl, he', hxy⟩ := hends _ _ _ rfl upd_same
      -- road = (ends[0], ends[1], 1 + draw(other, k + 5, greatest))
      refine ⟨_, rfl, e', _, 0, _, rfl, rfl, SqT.of he', atI_nat (j := 0) rfl, _, rfl, e', _, 1, _, rfl, rfl, SqT.of he', atI_nat (j := 1) rfl, _, rfl, _, rfl, _, _, rfl, rfl, _, rfl, other, _, gr, rfl, by omega, by omega, by omega, fun r3 H6 r30 r31 s8 => ⟨_, _, rfl, rfl, by show 3 ≤ sizeLine; decide, fun d hd => ?_⟩⟩
      -- roads.insert(draw(other, k + 3, len(roads) + 1), road)
      have s46 : Same H2 H6 := fun b o z => s8 _ _ (s7 _ _ (same_new he _ _ (s6 _ _ (s5 _ _ z))))
      obtain ⟨xs, hqx, hxs⟩ := hR
      have hqd : q ≠ d := ne_of_none (s46 _ _ hqx) hd
      have hlx := hxs.length
      rw [List.length_map] at hlx
      have hBl := B.len
      have hq7 := same_new (o := .tup [.int x', .int y', .int (1 + r3)]) hd _ _ (s46 _ _ hqx)
      refine ⟨_, rfl, .inl ⟨rfl, _, SqL.of hq7⟩, _, rfl, _, rfl, _, _, rfl, rfl, _, rfl, q, _, rfl, .inl (SqL.of hq7), _, _, rfl, rfl, other, _, _, rfl, by omega, by omega, by omega, fun r4 H8 r40 r41 s9 => ?_⟩
      have hq8 := s9 _ _ hq7
      refine ⟨_, rfl, q, xs, r4, _, rfl, rfl, hq8, by rw [hlx, sizeLine_eq]; omega, r40, by omega, ⟨_, _, _, _, rfl⟩, ?_, ?_⟩
      · intro b o z
        rw [upd_ne (ne_of_none z hq0)]
        exact s9 _ _ (same_new hd _ _ (s46 _ _ (s4 _ _ z)))
      · obtain ⟨pp, rfl⟩ := Int.eq_ofNat_of_zero_le r40
        have kt : ∀ b ys, H8 b = some (.tup ys) → (upd H8 q (.lst (xs.take (pp : Int).toNat ++ .ref d :: xs.drop (pp : Int).toNat))) b = some (.tup ys) := fun b ys z => by
          rw [upd_ne]; exact z; intro w; subst w; rw [hq8] at z; cases z
        refine ⟨putAt rs pp (x', y', 1 + r3), ⟨_, upd_same, ?_⟩, ?_⟩
        · rw [putAt_map]
          have h8 : Reps H8 xs (rs.map roadD) := hxs.keep fun b o z => s9 _ _ (same_new hd _ _ (s46 _ _ z))
          refine Reps.putAt _ (h8.froz kt (frozs_roads rs)) ?_
          exact roadD_mk (kt _ _ (s9 _ _ upd_same))
        · have e3 : (1 : Int) + (i : Int) = ((i + 1 : Nat) : Int) := by omega
          rw [e3] at hxy
          refine B.step htn (by omega) (by omega) (a := B') (by omega) (by omega) (l := 1 + r3) (by omega) (by omega) ?_
          rcases hxy with ⟨rfl, rfl⟩ | ⟨rfl, rfl⟩
          · exact .inl rfl
          · exact .inr rfl
    · rintro σ H2 ⟨⟨v1, v2, v3, v4, rfl⟩, s4, rs, hR, B⟩
      refine ⟨_, rfl, _, rfl, by show 2 ≤ sizeLine; decide, fun p hp => ?_⟩
      have hpq : p ≠ q := fun z => by subst z; obtain ⟨xs, h1, _⟩ := hR; rw [h1] at hp; cases hp
      have eN2 : N - 1 + 1 = N := by omega
      rw [eN2] at B
      refine k p q N rs _ (s4.free hp) hq0 hpq (s4.trans (same_new hp)) upd_same (hR.keep (same_new hp)) ⟨n1, by omega, ?_⟩ n2
      exact B.tree htn (by omega)
end
end WR
namespace WR
open PySem L2
/-- the law's dict of a table -/
def dictT (tab : List Ent) : List (Key × V) := tab.map fun e => (Sum.inl e.1, V.int e.2.2)
theorem dictT_val (x : Int) : ∀ tab : List Ent, valV (dictT tab) (Sum.inl x : Key) = (look tab x).map fun pd => V.int pd.2
  | [] => rfl
  | e :: r => by
    have ih := dictT_val x r
    unfold dictT look at *
    rw [List.map_cons, List.find?_cons]
    by_cases h : e.1 = x
    · rw [valV_pos (by rw [h]), decide_eq_true h]
      rfl
    · rw [valV_neg (fun z => h (Sum.inl.inj z)), decide_eq_false h]
      exact ih
theorem dictT_some {tab : List Ent} {x : Int} (nd : (keys tab).Nodup) (h : x ∈ keys tab) : valV (dictT tab) (Sum.inl x : Key) = some (.int (dist tab x)) := by
  rw [dictT_val]
  obtain ⟨p, hm⟩ := look_key nd h
  rw [look_mem nd hm]
  rfl
theorem dictT_none {tab : List Ent} {x : Int} (h : x ∉ keys tab) : valV (dictT tab) (Sum.inl x : Key) = none := by
  rw [dictT_val, look_none h]
  rfl
theorem dictT_put {tab : List Ent} {y p d : Int} (h : y ∉ keys tab) : putK (dictT tab) (Sum.inl y : Key) (.int d) = dictT (tab ++ [(y, p, d)]) := by
  rw [putK_new _ (dictT_none h)]
  unfold dictT
  rw [List.map_append]
  rfl
theorem dictT_len (tab : List Ent) : (dictT tab).length = tab.length := by simp [dictT]
def sp_rows : Sp := fun vs H Q _ => ∃ (p q : Addr) (n : Int) (rs : List Road), vs = [.ref p] ∧ H p = some (.tup [.int n, .ref q]) ∧ RoadsAt H q rs ∧ IsTree n rs ∧ ∀ r H', H r = none → Same H H' → RowsNew H H' r (rowsM n.toNat rs) → Q (.ref r) H'
section
variable {P : Program} {w : World} {K : PySem.W.Frag} {mg : Str → Option Value} {base : Heap} {t : Adr}
theorem ok__law_rows (TT : Txt K mg t) : FnOk P w K mg base CX0 1 t.f__law_rows t.d__law_rows ["_law_told_here"] sp_rows := by
  refine TT.F__law_rows.ok sc__law_rows (fun vs H Q E h => ?_) (fun cdv A outer sh H vs Q E hr h => ?_)
  · obtain ⟨p, q, n, rs, rfl, _⟩ := h
    rfl
  · obtain ⟨p, q, n, rs, rfl, hp, hR, hT, k⟩ := h
    have hu := hu_of hr
    refine ⟨_, (pss_cons (ps_set (i := 1) sc__law_rows.nd rfl (Or.inl rfl) (pe_lst pa_nil)) (pss_cons (ps_for PassesOwn.never rfl (pi_range1 rfl TT.z_range (pa_cons (pe_ix ix_tup (pv 0) pe_int (fun _ _ => rfl)) pa_nil)) (pg_name (i := 2) sc__law_rows.nd rfl (Or.inl rfl)) (pss_cons (ps_set (i := 3) sc__law_rows.nd rfl (Or.inr rfl) (pe_disp (pps_cons (pv 2) pe_int pps_nil) rfl rfl (fun h => nomatch h) (by decide))) (pss_cons (ps_for PassesOwn.never rfl (pi_range1 rfl TT.z_range (pa_cons (pe_ix ix_tup (pv 0) pe_int (fun _ _ => rfl)) pa_nil)) (pg_name (i := 4) sc__law_rows.nd rfl (Or.inl rfl)) (pss_one (ps_for PassesOwn.never rfl (pi_list (pe_ix ix_tup (pv 0) pe_int (fun _ _ => rfl))) (pg_tup rfl (pgs_cons (pg_name (i := 5) sc__law_rows.nd rfl (Or.inl rfl)) (pgs_cons (pg_name (i := 6) sc__law_rows.nd rfl (Or.inl rfl)) (pgs_cons (pg_name (i := 7) sc__law_rows.nd rfl (Or.inl rfl)) pgs_nil)))) (pss_one (ps_if (PW.pt (pw_and (pt_cmp (pc_din hu (pv 5) (pv 3))) (pw_and1 (pt_cmp (pc_dnotin hu (pv 6) (pv 3)))))) (pss_one (ps_dput hu (pv 3) (pv 6) (pe_op op_add (pe_dget hu (pv 3) (pv 5) (fun _ _ => rfl)) (pv 7)) rfl)) (pss_one (ps_if (PW.pt (pw_and (pt_cmp (pc_din hu (pv 6) (pv 3))) (pw_and1 (pt_cmp (pc_dnotin hu (pv 5) (pv 3)))))) (pss_one (ps_dput hu (pv 3) (pv 5) (pe_op op_add (pe_dget hu (pv 3) (pv 6) (fun _ _ => rfl)) (pv 7)) rfl)) pss_nil))))))) (pss_one (ps_expr (pe_bm PySem.F.plainAttrs_list PySem.F.slot_list_append PySem.F.type_list_append mt_append (pv 1) (pa_cons (pe_comp rfl (N := ["_law_village", "_law_found"]) (fr := [(1, 3)]) (compOk (N0 := ["_law_told_here", "_law_rows_here", "_law_start", "_law_found", "_law_turn", "_law_one", "_law_other", "_law_length"]) (N := ["_law_village", "_law_found"]) (fr := [(1, 3)]) (sc0 := defScope s__law_rows) rfl ⟨rfl, rfl⟩ (by decide +kernel)) (pi_range1 rfl TT.z_range (pa_cons (pe_ix ix_tup (pv 0) pe_int (fun _ _ => rfl)) pa_nil)) (fun _ _ _ _ _ => ⟨(pg_name (i := 0) (show (["_law_village", "_law_found"] : List Str).Nodup by decide +kernel) rfl (Or.inl rfl)), pf_none, (pe_dget hu (pv 1) (pv 0) (fun _ _ => rfl))⟩)) pa_nil))))))) (pss_one (ps_ret (pv 1))))), ?_⟩
    obtain ⟨xs, hq, hxs⟩ := hR
    obtain ⟨n1, n2, W⟩ := hT
    obtain ⟨N, rfl⟩ := Int.eq_ofNat_of_zero_le (show 0 ≤ n by omega)
    simp only [Int.toNat_natCast] at W k
    have hlx := hxs.length
    rw [List.length_map] at hlx
    have hW := W.count
    refine ⟨Nat.zero_le _, fun r hr0 => ?_⟩
    -- for start in range(told[0])
    refine ⟨_, rfl, p, _, 0, _, rfl, rfl, SqT.of (same_new hr0 _ _ hp), atI_nat (j := 0) rfl, N, rfl, by omega, by omega, ?_⟩
    rw [Int.toNat_natCast]
    refine for_range (lo := 0) (n := N) (fun i σ H2 => (∃ v2 v3 v4 v5 v6 v7, σ = [some (.ref p), some (.ref r), v2, v3, v4, v5, v6, v7]) ∧ Same H H2 ∧ ∃ ps : List Addr, H2 r = some (.lst (ps.map V.ref)) ∧ Paired (fun c row => H c = none ∧ c ≠ r ∧ H2 c = some (.lst (row.map V.int))) ps ((rowsM N rs).take i))
      ⟨⟨none, none, none, none, none, none, rfl⟩, same_new hr0, [], upd_same, .nil⟩ ?_ ?_
    · rintro i σ H2 hi ⟨⟨v2, v3, v4, v5, v6, v7, rfl⟩, s2, ps, hr2, hps⟩
      have hs : InV N (0 + (i : Int)) := ⟨by omega, by omega⟩
      generalize hse : (0 + (i : Int)) = s at hs ⊢
      -- found = {start: 0}
      intro d hd
      refine ⟨_, rfl, upd_same, [(Sum.inl s, .int 0)], rfl, by show 1 ≤ 15; decide, ?_⟩
      rw [upd_upd]
      have hrd : r ≠ d := ne_of_none hr2 hd
      have hd0 : H d = none := s2.free hd
      have hp2 : (upd H2 d (.dK (mergeK [] [(Sum.inl s, .int 0)]))) p = some (.tup [.int N, .ref q]) := same_new hd _ _ (s2 _ _ hp)
      have hpd : p ≠ d := ne_of_none (s2 _ _ hp) hd
      have hqd : q ≠ d := ne_of_none (s2 _ _ hq) hd
      -- for turn in range(told[0])
      refine ⟨_, rfl, p, _, 0, _, rfl, rfl, SqT.of hp2, atI_nat (j := 0) rfl, N, rfl, by omega, by omega, ?_⟩
      rw [Int.toNat_natCast]
      refine for_range (lo := 0) (n := N) (fun j σ H3 => (∃ v4 v5 v6 v7, σ = [some (.ref p), some (.ref r), some (.int s), some (.ref d), v4, v5, v6, v7]) ∧ (∀ b o, b ≠ d → H2 b = some o → H3 b = some o) ∧ H3 d = some (.dK (dictT (relaxN rs j [(s, s, 0)]))))
        ⟨⟨_, _, _, _, rfl⟩, fun b o hb e => by rw [upd_ne hb]; exact e, by rw [upd_same]; rfl⟩ ?_ ?_
      · rintro j σ H3 hj ⟨⟨v4', v5', v6', v7', rfl⟩, s3, hd3⟩
        have T0 : Tab rs s (relaxN rs j [(s, s, 0)]) := (Tab.one rs s).relaxN j
        -- for one, other, length in told[1]
        refine ⟨_, rfl, p, _, 1, _, rfl, rfl, SqT.of (s3 _ _ hpd (s2 _ _ hp)), atI_nat (j := 1) rfl, q, rfl, ⟨_, SqL.of (s3 _ _ hqd (s2 _ _ hq))⟩, for_list (K := K) (a := q) (xs := xs) (fun l σ H4 => (∃ v4 v5 v6 v7, σ = [some (.ref p), some (.ref r), some (.int s), some (.ref d), v4, v5, v6, v7]) ∧ (∀ b o, b ≠ d → H2 b = some o → H4 b = some o) ∧ H4 d = some (.dK (dictT ((rs.take l).foldl relax1 (relaxN rs j [(s, s, 0)])))))
          ⟨⟨_, _, _, _, rfl⟩, s3, hd3⟩ (fun l σ H4 _ ⟨_, e, _⟩ => SqL.of (e _ _ hqd (s2 _ _ hq))) ?_ ?_⟩
        · rintro l x σ H4 hl ⟨⟨v4'', v5'', v6'', v7'', rfl⟩, s4, hd4⟩
          obtain ⟨⟨ra, rb, rl⟩, a, hrl, rfl, ha⟩ := RoadsAt.get hq hxs hl
          have had : a ≠ d := ne_of_none (s2 _ _ ha) hd
          have T1 : Tab rs s ((rs.take l).foldl relax1 (relaxN rs j [(s, s, 0)])) := T0.relaxL _ fun z hz => List.mem_of_mem_take hz
          have next : (rs.take (l + 1)).foldl relax1 (relaxN rs j [(s, s, 0)]) = relax1 ((rs.take l).foldl relax1 (relaxN rs j [(s, s, 0)])) (ra, rb, rl) := by
            rw [List.take_add_one, hrl, List.foldl_append]
            rfl
          rw [next]
          generalize (rs.take l).foldl relax1 (relaxN rs j [(s, s, 0)]) = tab at T1 hd4 ⊢
          have bnd := T1.bound
          refine ⟨a, _, rfl, SqT.of (s4 _ _ had (s2 _ _ ha)), rfl, _, _, rfl, _, _, rfl, _, _, rfl, rfl, ?_⟩
          have put : ∀ {y pp dd : Int}, y ∉ keys tab → ∀ (H5 : Hp), H5 = upd H4 d (.dK (putK (dictT tab) (Sum.inl y : Key) (.int dd))) → relax1 tab (ra, rb, rl) = tab ++ [(y, pp, dd)] →
              (∀ b o, b ≠ d → H2 b = some o → H5 b = some o) ∧ H5 d = some (.dK (dictT (relax1 tab (ra, rb, rl)))) := by
            rintro y pp dd hy H5 rfl he
            refine ⟨fun b o hb e => by rw [upd_ne hb]; exact s4 _ _ hb e, ?_⟩
            rw [upd_same, he, dictT_put hy]
          by_cases c1 : ra ∈ keys tab
          · refine ⟨_, rfl, _, rfl, d, _, rfl, DGet.k (k := Sum.inl ra) hd4, _, rfl, ?_⟩
            rw [dictT_some T1.nd c1]
            refine iteT ⟨_, rfl, _, rfl, d, _, rfl, DGet.k (k := Sum.inl rb) hd4, _, rfl, ?_⟩
            by_cases c2 : rb ∈ keys tab
            · rw [dictT_some T1.nd c2]
              refine iteF ⟨_, rfl, _, rfl, d, _, rfl, DGet.k (k := Sum.inl rb) hd4, _, rfl, ?_⟩
              rw [dictT_some T1.nd c2]
              refine iteT ⟨_, rfl, _, rfl, d, _, rfl, DGet.k (k := Sum.inl ra) hd4, _, rfl, ?_⟩
              rw [dictT_some T1.nd c1]
              refine iteF ⟨⟨_, _, _, _, rfl⟩, s4, ?_⟩
              have : relax1 tab (ra, rb, rl) = tab := by unfold relax1; rw [if_neg (fun z => z.2 c2), if_neg (fun z => z.2 c1)]
              rw [this]; exact hd4
            · rw [dictT_none c2]
              refine iteT ⟨_, rfl, _, rfl, d, _, rfl, .inl ⟨_, Sum.inl ra, .inl hd4, rfl, (dictT_some T1.nd c1).symm⟩, _, rfl, _, _, rfl, rfl, _, rfl, _, rfl, d, _, rfl, DPut.k (k := Sum.inl rb) hd4 (by rw [dictT_len, sizeLine_eq]; omega), ?_⟩
              have := put (pp := ra) c2 _ rfl (by unfold relax1; rw [if_pos ⟨c1, c2⟩])
              exact ⟨⟨_, _, _, _, rfl⟩, this.1, this.2⟩
          · refine ⟨_, rfl, _, rfl, d, _, rfl, DGet.k (k := Sum.inl ra) hd4, _, rfl, ?_⟩
            rw [dictT_none c1]
            refine iteF (iteF ⟨_, rfl, _, rfl, d, _, rfl, DGet.k (k := Sum.inl rb) hd4, _, rfl, ?_⟩)
            by_cases c2 : rb ∈ keys tab
            · rw [dictT_some T1.nd c2]
              refine iteT ⟨_, rfl, _, rfl, d, _, rfl, DGet.k (k := Sum.inl ra) hd4, _, rfl, ?_⟩
              rw [dictT_none c1]
              refine iteT ⟨_, rfl, _, rfl, d, _, rfl, .inl ⟨_, Sum.inl rb, .inl hd4, rfl, (dictT_some T1.nd c2).symm⟩, _, rfl, _, _, rfl, rfl, _, rfl, _, rfl, d, _, rfl, DPut.k (k := Sum.inl ra) hd4 (by rw [dictT_len, sizeLine_eq]; omega), ?_⟩
              have := put (pp := rb) c1 _ rfl (by unfold relax1; rw [if_neg (fun z => c1 z.1), if_pos ⟨c2, c1⟩])
              exact ⟨⟨_, _, _, _, rfl⟩, this.1, this.2⟩
            · rw [dictT_none c2]
              refine iteF (iteF ⟨⟨_, _, _, _, rfl⟩, s4, ?_⟩)
              have : relax1 tab (ra, rb, rl) = tab := by unfold relax1; rw [if_neg (fun z => c1 z.1), if_neg (fun z => c2 z.1)]
              rw [this]; exact hd4
        · rintro σ H4 ⟨⟨v4'', v5'', v6'', v7'', rfl⟩, s4, hd4⟩
          rw [hlx, List.take_length] at hd4
          exact ⟨⟨_, _, _, _, rfl⟩, s4, hd4⟩
      · rintro σ H3 ⟨⟨v4', v5', v6', v7', rfl⟩, s3, hd3⟩
        have T1 : Tab rs s (relaxN rs N [(s, s, 0)]) := (Tab.one rs s).relaxN N
        have hall := relax_all W.roads W.conn hs
        -- rows.append([found[village] for village in range(told[0])])
        refine ⟨_, rfl, .inl ⟨rfl, _, SqL.of (s3 _ _ hrd hr2)⟩, ?_⟩
        refine ⟨_, rfl, p, _, 0, _, rfl, rfl, SqT.of (s3 _ _ hpd (s2 _ _ hp)), atI_nat (j := 0) rfl, N, rfl, by omega, by omega, fun acc hacc => ?_⟩
        rw [Int.toNat_natCast]
        refine comp_range (k := N) (fun l τ ys H4 => (∃ o, τ = [o, some (.ref d)]) ∧ ys = ((rowM N rs s).take l).map V.int ∧ H4 = upd H3 acc (.lst ys)) ⟨⟨_, rfl⟩, rfl, rfl⟩ (fun l τ ys H4 _ ⟨_, _, h3⟩ => by rw [h3, upd_same]) ?_ ?_
        · rintro l τ ys H4 R hl ⟨⟨o, rfl⟩, rfl, rfl⟩ hR'
          have hlv : InV N (0 + (l : Int)) := ⟨by omega, by omega⟩
          have hda : d ≠ acc := ne_of_none hd3 hacc
          refine noifN ?_
          refine ⟨_, rfl, _, rfl, d, _, rfl, .inl ⟨_, Sum.inl _, .inl (by rw [upd_ne hda]; exact hd3), rfl, (dictT_some T1.nd (hall _ hlv)).symm⟩, upd_same, by rw [List.length_map, List.length_take, rowM_length, sizeLine_eq]; omega, hR' _ _ _ ⟨⟨_, rfl⟩, ?_, upd_upd⟩⟩
          rw [rowM_take hl, List.map_append]
          simp [far]
        · rintro τ ys H4 ⟨_, rfl, rfl⟩
          rw [List.take_of_length_le (by rw [rowM_length]; exact Nat.le_refl _)]
          have hra : r ≠ acc := ne_of_none (s3 _ _ hrd hr2) hacc
          have hpl : ps.length ≤ N := by
            have := Paired.length hps
            rw [List.length_take, rowsM_length] at this
            omega
          have hacc0 : H acc = none := by
            cases e : H acc with
            | none => rfl
            | some o =>
              have h2 := s2 _ _ e
              rw [s3 _ _ (ne_of_none h2 hd) h2] at hacc
              cases hacc
          refine ⟨r, _, _, rfl, rfl, by rw [upd_ne hra]; exact s3 _ _ hrd hr2, by rw [List.length_map, sizeLine_eq]; omega, ?_⟩
          refine ⟨⟨_, _, _, _, _, _, rfl⟩, fun b o e => ?_, ps ++ [acc], by rw [upd_same, List.map_append]; rfl, ?_⟩
          · rw [upd_ne (ne_of_none e hr0), upd_ne (ne_of_none e hacc0)]
            exact s3 _ _ (ne_of_none e hd0) (s2 _ _ e)
          · rw [rowsM_take hi]
            refine Paired.snoc (Paired.mapP hps fun c row ⟨a1, a2, a3⟩ => ⟨a1, a2, ?_⟩) ⟨hacc0, hra.symm, ?_⟩
            · have hcd : c ≠ d := ne_of_none a3 hd
              rw [upd_ne a2, upd_ne (ne_of_none (s3 _ _ hcd a3) hacc)]
              exact s3 _ _ hcd a3
            · rw [upd_ne hra.symm, upd_same, ← hse]
              simp
    · rintro σ H2 ⟨⟨v2, v3, v4, v5, v6, v7, rfl⟩, s2, ps, hr2, hps⟩
      rw [List.take_of_length_le (by rw [rowsM_length]; exact Nat.le_refl _)] at hps
      exact ⟨_, rfl, k r H2 hr0 s2 ⟨ps, hr2, hps⟩⟩
end
end WR
namespace WR
open PySem L2
def intsD (ns : List Int) : Dt := .lst (ns.map fun i => .v (.int i))
theorem reps_ints {H : Hp} : ∀ ns : List Int, Reps H (ns.map V.int) (ns.map fun i => .v (.int i))
  | [] => .nil
  | n :: r => .cons (.int n) (reps_ints r)
theorem rep_ints {H : Hp} {a : Addr} {ns : List Int} (h : H a = some (.lst (ns.map V.int))) : Rep H (.ref a) (intsD ns) := by
  unfold intsD Rep
  exact ⟨a, _, rfl, h, reps_ints ns⟩
theorem dep_ints (ns : List Int) : depD (intsD ns) ≤ 8 := by
  unfold intsD depD
  have : depDs (ns.map fun i => Dt.v (.int i)) = 0 := by
    induction ns with
    | nil => rfl
    | cons n r ih => rw [List.map_cons]; unfold depDs depD; rw [ih]; rfl
  omega
theorem map_v_inj : ∀ {a b : List Int}, (a.map fun i => Dt.v (.int i)) = (b.map fun i => Dt.v (.int i)) → a = b
  | [], [], _ => rfl
  | [], _ :: _, h => by simp at h
  | _ :: _, [], h => by simp at h
  | x :: r, y :: t, h => by
    rw [List.map_cons, List.map_cons] at h
    injection h with h1 h2
    injection h1 with h1
    injection h1 with h1
    rw [h1, map_v_inj h2]
theorem eq_ints (a b : List Int) : eqD (intsD a) (intsD b) = decide (a = b) := by
  by_cases h : a = b
  · rw [h, eqD_refl]; simp
  · rw [decide_eq_false h]
    cases e : eqD (intsD a) (intsD b) with
    | false => rfl
    | true =>
      have := eqD_eq e
      unfold intsD at this
      injection this with this
      exact absurd (map_v_inj this) h
/-- two sorted pairs -/
theorem sort2 {ms : List Int} {x y : Int} (p : ms.Perm [x, y]) (s : ms.Pairwise (· ≤ ·)) : ms = if x ≤ y then [x, y] else [y, x] := by
  have hl := p.length_eq
  match ms, hl with
  | [a, b], _ =>
    have hab : a ≤ b := by
      have := List.pairwise_cons.mp s
      exact this.1 b (by simp)
    have ha : a = x ∨ a = y := by have := p.mem_iff (a := a); simpa using this
    have hsum : a + b = x + y := by
      rcases ha with rfl | rfl
      · have := (List.perm_cons a).mp p
        have := List.singleton_perm_singleton.mp this
        omega
      · have := (List.perm_cons a).mp (p.trans (List.Perm.swap a x []))
        have := List.singleton_perm_singleton.mp this
        omega
    split
    · rcases ha with rfl | rfl
      · have : b = y := by omega
        rw [this]
      · have : b = x := by omega
        subst this
        have : a = b := by omega
        rw [this]
    · rcases ha with rfl | rfl
      · exfalso; omega
      · have : b = x := by omega
        rw [this]
theorem sort2_eq {m1 m2 : List Int} {x y z u : Int} (p1 : m1.Perm [x, y]) (s1 : m1.Pairwise (· ≤ ·)) (p2 : m2.Perm [z, u]) (s2 : m2.Pairwise (· ≤ ·)) : m1 = m2 ↔ (x = z ∧ y = u) ∨ (x = u ∧ y = z) := by
  rw [sort2 p1 s1, sort2 p2 s2]
  constructor
  · intro h
    split at h <;> split at h <;> (simp at h; omega)
  · rintro (⟨rfl, rfl⟩ | ⟨rfl, rfl⟩)
    · rfl
    · split <;> split <;> simp <;> omega
theorem cutV_pair {xs : List V} {i : Nat} {x y : V} (h1 : xs[i]? = some x) (h2 : xs[i + 1]? = some y) : cutV xs (some ((1 + (i : Int)) - 1)) (some ((1 + (i : Int)) + 1)) = [x, y] := by
  have e1 : (1 + (i : Int)) - 1 = ((i : Nat) : Int) := by omega
  have e2 : (1 + (i : Int)) + 1 = ((i + 2 : Nat) : Int) := by omega
  have hl := (List.getElem?_eq_some_iff.mp h2).1
  unfold cutV
  rw [e1, e2, HT.sIx_nat, HT.sIx_nat]
  have m1 : min i xs.length = i := by omega
  have m2 : min (i + 2) xs.length = i + 2 := by omega
  rw [m1, m2]
  have d1 : xs.drop i = x :: xs.drop (i + 1) := by
    rw [List.drop_eq_getElem_cons (by omega)]
    obtain ⟨_, e⟩ := List.getElem?_eq_some_iff.mp h1
    rw [e]
  have d2 : xs.drop (i + 1) = y :: xs.drop (i + 2) := by
    rw [List.drop_eq_getElem_cons hl]
    obtain ⟨_, e⟩ := List.getElem?_eq_some_iff.mp h2
    rw [e]
  rw [d1, d2, show i + 2 - i = 2 by omega]
  rfl
end WR
namespace WR
open PySem L2
def spLaw (K : PySem.W.Frag) : Sp := fun vs H Q _ => ∃ (a : Addr) (ns : List Int), vs = [.ref a] ∧ SqL K H a (ns.map V.int) ∧ ns.length ≤ 63 ∧ ∀ H', Q (.bl true) H'
theorem paired_get {α β : Type} {F : α → β → Prop} : ∀ {l : List α} {m : List β} {i : Nat} {b : β}, Paired F l m → m[i]? = some b → ∃ a, l[i]? = some a ∧ F a b
  | _, _, _, _, .nil, e => by simp at e
  | _, _, 0, _, .cons r _, e => by simp at e; subst e; exact ⟨_, rfl, r⟩
  | _, _, i + 1, b, .cons _ t, e => by
    obtain ⟨a, h1, h2⟩ := paired_get (i := i) (b := b) t (by simpa using e)
    exact ⟨a, by simpa using h1, h2⟩
theorem rowsM_get {n : Nat} {rs : List Road} {i : Nat} (h : i < n) : (rowsM n rs)[i]? = some (rowM n rs i) := by
  unfold rowsM
  rw [List.getElem?_map, List.getElem?_range h]
  rfl
theorem rowM_get {n : Nat} {rs : List Road} {s : Int} {i : Nat} (h : i < n) : (rowM n rs s)[i]? = some (far n rs s i) := by
  unfold rowM
  rw [List.getElem?_map, List.getElem?_range h]
  rfl
/-- a fresh thing is written: what stood before stands -/
theorem same_upd {H H' : Hp} {p : Addr} {o : HO} (s : Same H H') (h : H p = none) : Same H (upd H' p o) := fun b u e => by rw [upd_ne (ne_of_none e h)]; exact s _ _ e
end WR
namespace WR
open PySem L2
/-! ### rows of ints -/
def RowsAt (H : Hp) (r : Addr) (rows : List (List Int)) : Prop := ∃ ps : List Addr, H r = some (.lst (ps.map V.ref)) ∧ Paired (fun c row => H c = some (.lst (row.map V.int))) ps rows
theorem RowsNew.at {H H' : Hp} {r : Addr} {rows : List (List Int)} (h : RowsNew H H' r rows) : RowsAt H' r rows := let ⟨ps, h1, h2⟩ := h; ⟨ps, h1, Paired.mapP h2 fun _ _ z => z.2.2⟩
theorem rows_get {H : Hp} {ps : List Addr} {rows : List (List Int)} (h : Paired (fun c row => H c = some (.lst (row.map V.int))) ps rows) {i : Nat} {row : List Int} (hi : rows[i]? = some row) : ∃ c, (ps.map V.ref)[i]? = some (.ref c) ∧ H c = some (.lst (row.map V.int)) := by
  obtain ⟨c, h1, h2⟩ := paired_get h hi
  exact ⟨c, by rw [List.getElem?_map, h1]; rfl, h2⟩
theorem ints_get {ns : List Int} {i : Nat} {x : V} (h : (ns.map V.int)[i]? = some x) : ∃ v, ns[i]? = some v ∧ x = .int v := by
  rw [List.getElem?_map] at h
  cases q : ns[i]? with
  | none => rw [q] at h; cases h
  | some v => rw [q] at h; cases h; exact ⟨v, rfl, rfl⟩
theorem ints_at {ns : List Int} {i : Nat} {v : Int} (h : ns[i]? = some v) : (ns.map V.int)[i]? = some (.int v) := by rw [List.getElem?_map, h]; rfl
theorem at_getD {ns : List Int} {i : Nat} (h : i < ns.length) : ns[i]? = some (ns.getD i 0) := by rw [List.getD_eq_getElem?_getD, List.getElem?_eq_getElem h]; rfl
/-- the places below i at which P holds -/
def placesTo (P : Nat → Bool) (i : Nat) : List Int := ((List.range i).filter P).map fun (k : Nat) => (k : Int)
theorem placesTo_succ (P : Nat → Bool) (i : Nat) : placesTo P (i + 1) = placesTo P i ++ (if P i = true then [(i : Int)] else []) := by
  unfold placesTo
  rw [List.range_succ, List.filter_append, List.map_append]
  congr 1
  by_cases h : P i = true
  · rw [if_pos h]; simp [h]
  · rw [if_neg h]; simp [h]
theorem placesTo_len (P : Nat → Bool) (i : Nat) : (placesTo P i).length ≤ i := by
  unfold placesTo
  rw [List.length_map]
  exact Nat.le_trans (List.length_filter_le _ _) (by simp)
/-- where the least stands -/
def leastP (ns : List Int) : List Int := placesTo (fun k => decide (ns.getD k 0 = minI ns)) ns.length
/-- the sum of the first i products -/
def dotTo (a b : Nat → Int) (i : Nat) : List Int := (List.range i).map fun k => a k * b k
end WR
namespace WR
open PySem L2
theorem inV_ints (a : Int) : ∀ ns : List Int, inV (.int a) (ns.map V.int) = decide (a ∈ ns)
  | [] => by simp [inV]
  | n :: ns => by
    have ih := inV_ints a ns
    unfold inV at ih ⊢
    rw [List.map_cons, List.any_cons, ih]
    by_cases e : n = a
    · subst e; simp [eqV]
    · have : eqV (.int n) (.int a) = false := by simpa [eqV] using e
      rw [this]
      simp [Ne.symm e]
theorem flat_ints : ∀ ns : List Int, (ns.map V.int).all flatV = true
  | [] => rfl
  | _ :: ns => flat_ints ns
def segM (rs : List Road) (f : Nat) (v : Int) (cl : List Int) (p : Int × Int) : List Int := if p.1 ∈ cl then [] else backM rs f p.1 [v] ++ [v]
theorem backM_succ (rs : List Road) (f : Nat) (v : Int) (cl : List Int) : backM rs (f + 1) v cl = v :: (stepsM rs v).flatMap (segM rs f v cl) := rfl
theorem flat_take {α : Type} (g : α → List Int) {L : List α} {j : Nat} {a : α} (h : L[j]? = some a) : (L.take (j + 1)).flatMap g = (L.take j).flatMap g ++ g a := by
  rw [List.take_add_one, h, List.flatMap_append]
  simp
theorem flat_le {α : Type} (g : α → List Int) (L : List α) (j : Nat) : ((L.take j).flatMap g).length ≤ (L.flatMap g).length := by
  conv => rhs; rw [← List.take_append_drop j L, List.flatMap_append, List.length_append]
  omega
theorem seg_le {α : Type} (g : α → List Int) {L : List α} {j : Nat} {a : α} (h : L[j]? = some a) : ((L.take j).flatMap g).length + (g a).length ≤ (L.flatMap g).length := by
  have := flat_le g L (j + 1)
  rw [flat_take g h, List.length_append] at this
  exact this
def sp_back (f : Nat) : Sp := fun vs H Q _ => ∃ (p c : Addr) (rs : List Road) (v : Int) (cs : List Int), vs = [.ref p, .int v, .ref c] ∧ RoadsAt H p rs ∧ rs.length ≤ 1000 ∧ H c = some (.lst (cs.map V.int)) ∧ Fits rs f v cs ∧ (backM rs f v cs).length ≤ 1000 ∧
  ∀ q H', H q = none → Same H H' → H' q = some (.lst ((backM rs f v cs).map V.int)) → Q (.ref q) H'
section
variable {P : Program} {w : World} {K : PySem.W.Frag} {mg : Str → Option Value} {base : Heap} {t : Adr}
theorem ok_back (TT : Txt K mg t) : ∀ f : Nat, FnOk P w K mg base CX0 (f + 2) t.f_there_and_back t.d_there_and_back ["roads", "here", "closed"] (sp_back f) := by
  intro f
  induction f with
  | zero =>
    refine TT.F_there_and_back.ok sc_there_and_back (fun vs H Q E h => ?_) (fun cdv A outer sh H vs Q E hr h => ?_)
    · obtain ⟨p, c, rs, v, cs, rfl, _⟩ := h
      rfl
    · obtain ⟨p, c, rs, v, cs, rfl, _, _, _, hf, _⟩ := h
      exact hf.elim
  | succ f ih =>
    refine TT.F_there_and_back.ok sc_there_and_back (fun vs H Q E h => ?_) (fun cdv A outer sh H vs Q E hr h => ?_)
    · obtain ⟨p, c, rs, v, cs, rfl, _⟩ := h
      rfl
    · obtain ⟨p, c, rs, v, cs, rfl, hR, hlen, hc, hf, hb, k⟩ := h
      refine ⟨_, (pss_cons (ps_set (i := 3) sc_there_and_back.nd rfl (Or.inl rfl) (pe_lst (pa_cons (pv 1) pa_nil))) (pss_cons (ps_for PassesOwn.never rfl (pi_list (pe_call (ok_steps TT) (hr.mono (by omega)) rfl TT.m_steps TT.F_steps.kp TT.b_steps .nil pass0 (pa_cons (pv 0) (pa_cons (pv 1) pa_nil)))) (pg_tup rfl (pgs_cons (pg_name (i := 4) sc_there_and_back.nd rfl (Or.inl rfl)) (pgs_cons (pg_name (i := 5) sc_there_and_back.nd rfl (Or.inl rfl)) pgs_nil))) (pss_one (ps_if (pt_cmpR op_notIn_seq (pv 4) (pv 2) (by with_unfolding_all rfl)) (pss_cons (ps_expr (pe_bm PySem.F.plainAttrs_list PySem.F.slot_list_extend PySem.F.type_list_extend mt_extend (pv 3) (pa_cons (pe_call ih (hr.mono (by omega)) rfl TT.m_there_and_back TT.F_there_and_back.kp TT.b_there_and_back .nil pass0 (pa_cons (pv 0) (pa_cons (pv 4) (pa_cons (pe_lst (pa_cons (pv 1) pa_nil)) pa_nil)))) pa_nil))) (pss_one (ps_expr (pe_bm PySem.F.plainAttrs_list PySem.F.slot_list_append PySem.F.type_list_append mt_append (pv 3) (pa_cons (pv 1) pa_nil))))) pss_nil))) (pss_one (ps_ret (pv 3))))), ?_⟩
      rw [backM_succ] at hb k
      simp only [List.length_cons] at hb
      -- villages = [here]
      refine ⟨_, rfl, by show 1 ≤ sizeLine; decide, fun q hq => ?_⟩
      have s1 : Same H (upd H q (.lst [.int v])) := same_new hq
      -- for there, length in steps(roads, here)
      refine ⟨_, rfl, _, rfl, p, rs, v, rfl, hR.keep s1, hlen, fun d H2 hd s2 hP => ?_⟩
      obtain ⟨xs, hdx, hxs⟩ := hP
      have hq2 : H2 q = some (.lst [.int v]) := s2 _ _ upd_same
      have hdq : d ≠ q := fun z => by subst z; rw [upd_same] at hd; cases hd
      have s12 : Same H H2 := s1.trans s2
      have hcq : c ≠ q := ne_of_none hc hq
      have hlx := hxs.length
      rw [List.length_map] at hlx
      refine ⟨d, rfl, ⟨_, SqL.of hdx⟩, for_list (K := K) (a := d) (xs := xs) (fun j σ H3 => (∃ v4 v5, σ = [some (.ref p), some (.int v), some (.ref c), some (.ref q), v4, v5]) ∧ (∀ b o, b ≠ q → H2 b = some o → H3 b = some o) ∧ H3 q = some (.lst ((v :: ((stepsM rs v).take j).flatMap (segM rs f v cs)).map V.int)))
        ⟨⟨none, none, rfl⟩, fun _ _ _ e => e, hq2⟩ (fun j σ H3 _ ⟨_, e, _⟩ => SqL.of (e _ _ hdq hdx)) ?_ ?_⟩
      · rintro j x σ H3 hj ⟨⟨v4, v5, rfl⟩, s3, hq3⟩
        obtain ⟨⟨y, l⟩, a, hpj, rfl, ha⟩ := PairsAt.get hxs hj
        have haq : a ≠ q := ne_of ha hq2 (by intro z; cases z)
        have hc3 : H3 c = some (.lst (cs.map V.int)) := s3 _ _ hcq (s12 _ _ hc)
        have sl := seg_le (segM rs f v cs) hpj
        have mem : (y, l) ∈ stepsM rs v := List.mem_of_getElem? hpj
        refine ⟨a, _, rfl, SqT.of (s3 _ _ haq ha), rfl, _, _, rfl, _, _, rfl, rfl, ?_⟩
        -- if there not in closed
        refine ⟨_, rfl, _, rfl, c, _, rfl, .inl (SqL.of hc3), rfl, flat_ints cs, _, rfl, ?_⟩
        rw [show (if true = true then !inV (.int y) (cs.map V.int) else inV (.int y) (cs.map V.int)) = !decide (y ∈ cs) by rw [inV_ints]; rfl]
        by_cases m : y ∈ cs
        · have e : segM rs f v cs (y, l) = [] := if_pos m
          refine ite_f (by simpa using m) ⟨⟨_, _, rfl⟩, s3, ?_⟩
          rw [flat_take _ hpj, e, List.append_nil]; exact hq3
        · have e : segM rs f v cs (y, l) = backM rs f y [v] ++ [v] := if_neg m
          rw [e, List.length_append, List.length_singleton] at sl
          refine ite_t (by simpa using m) ?_
          -- villages.extend(there_and_back(roads, there, [here]))
          refine ⟨_, rfl, .inl ⟨rfl, _, SqL.of hq3⟩, _, rfl, _, rfl, _, rfl, by show 1 ≤ sizeLine; decide, fun c2 hc2 => ?_⟩
          have s4 : Same H3 (upd H3 c2 (.lst [.int v])) := same_new hc2
          have hpq : ∀ b o, H b = some o → H3 b = some o := fun b o z => s3 _ _ (ne_of_none z hq) (s12 _ _ z)
          refine ⟨p, c2, rs, y, [v], rfl, hR.keep (fun b o z => s4 _ _ (hpq _ _ z)), hlen, upd_same, hf (y, l) mem m, by omega, fun r H5 hr5 s5 hr => ?_⟩
          have hq5 := s5 _ _ (s4 _ _ hq3)
          refine ⟨q, r, _, _, rfl, rfl, hq5, hr, by rw [List.length_map, List.length_map, List.length_cons, sizeLine_eq]; omega, ?_⟩
          -- villages.append(here)
          refine ⟨_, rfl, .inl ⟨rfl, _, SqL.of upd_same⟩, _, rfl, q, _, _, rfl, rfl, upd_same, by rw [List.length_append, List.length_map, List.length_map, List.length_cons, sizeLine_eq]; omega, ?_⟩
          refine ⟨⟨_, _, rfl⟩, fun b o hb' z => ?_, ?_⟩
          · rw [upd_ne hb', upd_ne hb']; exact s5 _ _ (s4 _ _ (s3 _ _ hb' z))
          · rw [upd_same, flat_take _ hpj, e]
            simp only [List.map_cons, List.map_append, List.cons_append, List.append_assoc, List.map_nil]
      · rintro σ H3 ⟨⟨v4, v5, rfl⟩, s3, hq3⟩
        rw [hlx, List.take_length] at hq3
        exact ⟨_, rfl, k q H3 hq (fun b o z => s3 _ _ (ne_of_none z hq) (s12 _ _ z)) hq3⟩
end
/-- an errand as the document tells it -/
def sp_errand (C : Addr) : Sp := fun vs H Q _ => ∃ (x q : Addr) (n : Int) (rs : List Road) (one other : Int), vs = [.ref x, .int one, .int other] ∧ TreeAt C H x q n rs ∧ InV n.toNat one ∧ InV n.toNat other ∧
  ∀ p R H', H p = none → Same H H' → H' p = some (.lst ((one :: R).map V.int)) → lastW one R = other → Walk rs one R → R.length ≤ 2 * rs.length → (∀ y, InV n.toNat y → y ∈ one :: R) →
    (∀ i a b l, rs[i]? = some (a, b, l) → cnt rs i one R = if far n.toNat rs one other = far n.toNat rs one a + l + far n.toNat rs b other ∨ far n.toNat rs one other = far n.toNat rs one b + l + far n.toNat rs a other then 1 else 2) → Q (.ref p) H'
section
variable {P : Program} {w : World} {K : PySem.W.Frag} {mg : Str → Option Value} {base : Heap} {t : Adr}
theorem ok_there_and_back (TT : Txt K mg t) : FnOk P w K mg base CX0 14 t.f_there_and_back t.d_there_and_back ["roads", "here", "closed"] (fun vs H Q E => ∃ f, f ≤ 12 ∧ sp_back f vs H Q E) where
  len := fun vs H Q E ⟨f, _, h⟩ => (ok_back (P := P) (w := w) (base := base) TT f).len vs H Q E h
  run := fun A outer s H args us vs Q E hr he hb hv ⟨f, hf, h⟩ => (ok_back (P := P) (w := w) (base := base) TT f).run A outer s H args us vs Q E (hr.mono (by omega)) he hb hv h
theorem ok_errand (TT : Txt K mg t) : FnOk P w K mg base CX0 15 t.f_errand t.d_errand ["tree", "one", "other"] (sp_errand t.C_Tree) := by
  refine TT.F_errand.ok sc_errand (fun vs H Q E h => ?_) (fun cdv A outer sh H vs Q E hr h => ?_)
  · obtain ⟨x, q, n, rs, one, other, rfl, _⟩ := h
    rfl
  · obtain ⟨x, q, n, rs, one, other, rfl, T, h1, h2, k⟩ := h
    refine ⟨_, (pss_cons (ps_set (i := 3) sc_errand.nd rfl (Or.inl rfl) (pe_call (ok_way TT) (hr.mono (by decide)) rfl TT.m_way TT.F_way.kp TT.b_way .nil pass0 (pa_cons (pv 0) (pa_cons (pv 1) (pa_cons (pv 2) pa_nil))))) (pss_cons (ps_set (i := 4) sc_errand.nd rfl (Or.inl rfl) (pe_lst pa_nil)) (pss_cons (ps_for PassesOwn.never rfl (pi_list (pv 3)) (pg_name (i := 5) sc_errand.nd rfl (Or.inl rfl)) (pss_one (ps_expr (pe_bm PySem.F.plainAttrs_list PySem.F.slot_list_extend PySem.F.type_list_extend mt_extend (pv 4) (pa_cons (pe_call (ok_there_and_back TT) (hr.mono (by decide)) rfl TT.m_there_and_back TT.F_there_and_back.kp TT.b_there_and_back .nil pass0 (pa_cons (pe_meth0 (pv 0) TT.cl_Tree TT.M_Tree_roads (ok_Tree_roads TT) (hr.mono (by decide)) TT.b_Tree_roads .nil pass0) (pa_cons (pv 5) (pa_cons (pv 3) pa_nil)))) pa_nil))))) (pss_one (ps_ret (pv 4)))))), ?_⟩
    -- line = way(tree, one, other)
    refine ⟨_, rfl, _, rfl, _, rfl, x, q, n, rs, one, other, rfl, T, h1, h2, fun l ws H1 hl0 s1 hl hW => ?_⟩
    obtain ⟨par, idx, rk, m, S, hm1, hm2, rfl⟩ := hW
    have W := T.ok.2.2
    have n2 := T.ok.2.1
    obtain ⟨fits, R, e1, e2, e3, e4, e5, e6⟩ := W.errand S h1 hm1 hm2
    have hrl := W.count
    have hn12 : n.toNat ≤ 12 := by omega
    -- villages = []
    refine ⟨Nat.zero_le _, fun u hu => ?_⟩
    have s2 : Same H1 (upd H1 u (.lst [])) := same_new hu
    have hul : u ≠ l := fun z => by subst z; rw [hl] at hu; cases hu
    have hu0 : H u = none := s1.free hu
    let g : Int → List Int := fun v => backM rs n.toNat v (upList par m one)
    have tot : ((upList par m one).flatMap g).length ≤ 100 := by
      show ((upList par m one).flatMap fun v => backM rs n.toNat v (upList par m one)).length ≤ 100
      rw [e1, List.length_cons]; omega
    -- for here in line
    refine ⟨_, rfl, l, rfl, ⟨_, SqL.of (s2 _ _ hl)⟩, for_list (K := K) (a := l) (xs := (upList par m one).map V.int) (fun j σ H2 => (∃ v5, σ = [some (.ref x), some (.int one), some (.int other), some (.ref l), some (.ref u), v5]) ∧ Same H1 H2 ∧ H2 u = some (.lst ((((upList par m one).take j).flatMap g).map V.int)))
      ⟨⟨none, rfl⟩, s2, upd_same⟩ (fun j σ H2 _ ⟨_, e, _⟩ => SqL.of (e _ _ hl)) ?_ ?_⟩
    · rintro j z σ H2 hj ⟨⟨v5, rfl⟩, s3, hu2⟩
      obtain ⟨v, hv, rfl⟩ : ∃ v, (upList par m one)[j]? = some v ∧ z = .int v := by
        rw [List.getElem?_map] at hj
        cases q : (upList par m one)[j]? with
        | none => rw [q] at hj; cases hj
        | some v => rw [q] at hj; cases hj; exact ⟨v, rfl, rfl⟩
      have T2 := (T.keep s1).keep s3
      obtain ⟨dx, hx⟩ := T2.ob
      have sl := seg_le g hv
      refine ⟨_, rfl, .inl ⟨rfl, _, SqL.of hu2⟩, _, rfl, x, dx, _, rfl, hx, flds_noroads _ _, x, q, n, rs, rfl, T2, fun p H3 hp s4 hR => ?_⟩
      have hl3 := s4 _ _ (s3 _ _ hl)
      refine ⟨_, rfl, _, rfl, n.toNat, hn12, p, l, rs, v, upList par m one, rfl, hR, T.ok.len, hl3, fits v (List.mem_of_getElem? hv), by show (g v).length ≤ 1000; omega, fun r H4 hr4 s5 hr => ?_⟩
      refine ⟨u, r, _, _, rfl, rfl, s5 _ _ (s4 _ _ hu2), hr, by rw [List.length_map, List.length_map, sizeLine_eq]; show _ + (g v).length ≤ _; omega, ⟨_, rfl⟩, same_upd ((s3.trans s4).trans s5) hu, ?_⟩
      rw [upd_same, flat_take g hv, List.map_append]
    · rintro σ H2 ⟨⟨v5, rfl⟩, s3, hu2⟩
      rw [List.length_map, List.take_length] at hu2
      rw [show (upList par m one).flatMap g = one :: R from e1] at hu2
      exact ⟨_, rfl, k u R H2 hu0 (s1.trans s3) hu2 e2 e3 e4 e5 e6⟩
end
end WR
namespace WR
open PySem L2
/-! ### how long a row of villages is -/
def sp_long (C : Addr) : Sp := fun vs H Q _ => ∃ (x q u : Addr) (n : Int) (rs : List Road) (ws : List Int), vs = [.ref x, .ref u] ∧ TreeAt C H x q n rs ∧ H u = some (.lst (ws.map V.int)) ∧ (∀ y ∈ ws, InV n.toNat y) ∧ ws.length ≤ 100 ∧
  (WalkAt rs ws → ∀ H', Same H H' → Q (.int (longTo rs ws (ws.length - 1))) H') ∧ (¬ WalkAt rs ws → ∀ H', Same H H' → Q .non H')
/-- a dict of pairs of ints -/
def pairsK (L : List (Int × Int)) : List (Key × V) := (L.map fun p => (p.1, V.int p.2)).map fun kv => (Sum.inl kv.1, kv.2)
theorem pairsK_none {y : Int} : ∀ {L : List (Int × Int)}, (∀ l, (y, l) ∉ L) → valV (pairsK L) (Sum.inl y : Key) = none
  | [], _ => rfl
  | p :: L, h => by
    show valV ((Sum.inl p.1, V.int p.2) :: pairsK L) (Sum.inl y : Key) = none
    rw [valV_neg]
    · exact pairsK_none fun l z => h l (List.mem_cons_of_mem _ z)
    · intro z
      have z : p.1 = y := Sum.inl.inj z
      exact h p.2 (by rw [← z]; exact List.mem_cons_self ..)
theorem pairsK_some {y l : Int} : ∀ {L : List (Int × Int)}, (L.map (·.1)).Nodup → (y, l) ∈ L → valV (pairsK L) (Sum.inl y : Key) = some (.int l)
  | [], _, h => (nomatch h)
  | p :: L, nd, h => by
    rw [List.map_cons, List.nodup_cons] at nd
    show valV ((Sum.inl p.1, V.int p.2) :: pairsK L) (Sum.inl y : Key) = _
    rcases List.mem_cons.mp h with z | z
    · subst z
      exact valV_pos rfl
    · rw [valV_neg]
      · exact pairsK_some nd.2 z
      · intro q
        have q : p.1 = y := Sum.inl.inj q
        exact nd.1 (List.mem_map.mpr ⟨_, z, q.symm⟩)
theorem pairs_at {H : Hp} : ∀ {L : List (Int × Int)} {xs : List V}, Reps H xs (L.map pairD) → Paired (fun y (kv : Int × V) => ∃ a, y = .ref a ∧ H a = some (.tup [.int kv.1, kv.2])) xs (L.map fun p => (p.1, V.int p.2))
  | [], xs, h => by
    have : xs = [] := List.length_eq_zero_iff.mp (by have := h.length; simpa using this)
    subst this
    exact .nil
  | p :: L, xs, h => by
    rw [List.map_cons] at h
    unfold Reps at h
    obtain ⟨x, r, rfl, h1, h2⟩ := h
    obtain ⟨a, e, ha⟩ := pairD_at h1
    exact .cons ⟨a, e, ha⟩ (pairs_at h2)
theorem cut_from1 {xs : List V} : cutV xs (some 1) none = xs.drop 1 := by
  unfold cutV
  rw [show (1 : Int) = ((1 : Nat) : Int) from rfl, HT.sIx_nat]
  show List.take (xs.length - min 1 xs.length) (List.drop (min 1 xs.length) xs) = xs.drop 1
  cases xs with
  | nil => rfl
  | cons x xs =>
    have : min 1 (x :: xs).length = 1 := by simp only [List.length_cons]; omega
    rw [this]
    exact List.take_of_length_le (by simp)
theorem getD_of {ws : List Int} {i : Nat} {v : Int} (h : ws[i]? = some v) : ws.getD i 0 = v := by rw [List.getD_eq_getElem?_getD, h]; rfl
section
variable {P : Program} {w : World} {K : PySem.W.Frag} {mg : Str → Option Value} {base : Heap} {t : Adr}
theorem ok_long (TT : Txt K mg t) : FnOk P w K mg base CX0 4 t.f_long t.d_long ["tree", "walk"] (sp_long t.C_Tree) := by
  refine TT.F_long.ok sc_long (fun vs H Q E h => ?_) (fun cdv A outer sh H vs Q E hr h => ?_)
  · obtain ⟨x, q, u, n, rs, ws, rfl, _⟩ := h
    rfl
  · obtain ⟨x, q, u, n, rs, ws, rfl, T, hu0, hin, hl, k1, k2⟩ := h
    have hu := hu_of hr
    refine ⟨_, (pss_cons (ps_for PassesOwn.never rfl (pi_list (pv 1)) (pg_name (i := 2) sc_long.nd rfl (Or.inl rfl)) (pss_one (ps_expr (pe_call (ok_need_village TT) (hr.mono (by decide)) rfl TT.m_need_village TT.F_need_village.kp TT.b_need_village .nil pass0 (pa_cons (pv 0) (pa_cons (pv 2) pa_nil)))))) (pss_cons (ps_set (i := 3) sc_long.nd rfl (Or.inl rfl) (pe_meth0 (pv 0) TT.cl_Tree TT.M_Tree_roads (ok_Tree_roads TT) (hr.mono (by decide)) TT.b_Tree_roads .nil pass0)) (pss_cons (ps_set (i := 4) sc_long.nd rfl (Or.inl rfl) pe_int) (pss_cons (ps_for PassesOwn.never rfl (pi_zip rfl TT.z_zip (pa_cons (pv 1) (pa_cons (pe_slice sl_list (pv 1) (po_some pe_int) po_none) pa_nil))) (pg_tup rfl (pgs_cons (pg_name (i := 5) sc_long.nd rfl (Or.inl rfl)) (pgs_cons (pg_name (i := 6) sc_long.nd rfl (Or.inl rfl)) pgs_nil))) (pss_cons (ps_set (i := 7) sc_long.nd rfl (Or.inl rfl) (pe_dget1 hu (pe_callTy (call_dictP rfl) rfl TT.z_dict WB.bt_dict (pa_cons (pe_call (ok_steps TT) (hr.mono (by decide)) rfl TT.m_steps TT.F_steps.kp TT.b_steps .nil pass0 (pa_cons (pv 3) (pa_cons (pv 5) pa_nil))) pa_nil)) (pv 6) ⟨rfl, rfl, rfl, rfl⟩)) (pss_cons (ps_if (pt_cmp (pc_isN (pv 7))) (pss_one (ps_ret pe_non)) pss_nil) (pss_one (ps_aug (i := 4) sc_long.nd rfl (Or.inl rfl) (pv 7) ip_add))))) (pss_one (ps_ret (pv 4))))))), ?_⟩
    have W := T.ok.2.2
    -- for village in walk
    refine ⟨_, rfl, u, rfl, ⟨_, SqL.of hu0⟩, for_list (K := K) (a := u) (xs := ws.map V.int) (fun j σ H2 => (∃ v2, σ = [some (.ref x), some (.ref u), v2, none, none, none, none, none]) ∧ Same H H2) ⟨⟨none, rfl⟩, Same.refl _⟩ (fun j σ H2 _ ⟨_, e⟩ => SqL.of (e _ _ hu0)) ?_ ?_⟩
    · rintro j z σ H2 hj ⟨⟨v2, rfl⟩, s2⟩
      obtain ⟨v, hv, rfl⟩ := ints_get hj
      exact ⟨_, rfl, _, rfl, x, q, n, rs, v, rfl, T.keep s2, hin v (List.mem_of_getElem? hv), fun H3 s3 => ⟨⟨_, rfl⟩, s2.trans s3⟩⟩
    rintro σ H2 ⟨⟨v2, rfl⟩, s2⟩
    -- roads, total
    have T2 := T.keep s2
    obtain ⟨dx, hx⟩ := T2.ob
    refine ⟨_, rfl, x, dx, _, rfl, hx, flds_noroads _ _, x, q, n, rs, rfl, T2, fun p H3 hp s3 hR => ?_⟩
    have s13 := s2.trans s3
    have hu3 := s13 _ _ hu0
    -- for here, there in zip(walk, walk[1:])
    refine ⟨_, rfl, _, rfl, 1, rfl, u, _, rfl, SqL.of hu3, fun c hc => ?_⟩
    rw [cut_from1]
    have s4 : Same H3 (upd H3 c (.lst ((ws.map V.int).drop 1))) := same_new hc
    have hc4 : upd H3 c (.lst ((ws.map V.int).drop 1)) c = some (.lst ((ws.map V.int).drop 1)) := upd_same
    generalize upd H3 c (.lst ((ws.map V.int).drop 1)) = H4 at s4 hc4
    have hR4 := hR.keep s4
    have lz : ((ws.map V.int).drop 1).length = ws.length - 1 := by simp
    refine ⟨u, c, _, _, rfl, SqL.of (s4 _ _ hu3), SqL.of hc4, for_zip (K := K) (a := u) (b := c) (xs := ws.map V.int) (zs := (ws.map V.int).drop 1) (by simp) (fun i σ H5 => (∃ v5 v6 v7, σ = [some (.ref x), some (.ref u), v2, some (.ref p), some (.int (longTo rs ws i)), v5, v6, v7]) ∧ Same H4 H5 ∧ WalkTo rs ws i)
      ⟨⟨none, none, none, by rw [longTo_zero]; rfl⟩, Same.refl _, fun j hj => absurd hj (Nat.not_lt_zero _)⟩ (fun i σ H5 _ ⟨_, e, _⟩ => ⟨SqL.of (e _ _ (s4 _ _ hu3)), SqL.of (e _ _ hc4)⟩) ?_ ?_⟩
    · rintro i y1 y2 pa σ H5 hi1 hi2 hpa ⟨⟨v5, v6, v7, rfl⟩, s5, wk⟩
      obtain ⟨a, ha, rfl⟩ := ints_get hi1
      have hi2' : (ws.map V.int)[i + 1]? = some y2 := by rw [List.getElem?_drop, Nat.add_comm] at hi2; exact hi2
      obtain ⟨b, hb, rfl⟩ := ints_get hi2'
      have ga := getD_of ha
      have gb := getD_of hb
      have ia := hin a (List.mem_of_getElem? ha)
      refine ⟨pa, _, rfl, SqT.of upd_same, rfl, _, _, rfl, _, _, rfl, rfl, ?_⟩
      have s6 : Same H4 (upd H5 pa (.tup [.int a, .int b])) := s5.trans (same_new hpa)
      generalize upd H5 pa (.tup [.int a, .int b]) = H6 at s6
      -- length = dict(steps(roads, here)).get(there)
      refine ⟨_, rfl, _, rfl, p, rs, a, rfl, hR4.keep s6, T.ok.len, fun d H7 hd s7 hP => ?_⟩
      obtain ⟨xs, hdx, hxs⟩ := hP
      have nd := W.steps_nodup ia
      have sl := stepsM_length rs a
      have tl := T.ok.len
      refine ⟨d, xs, (stepsM rs a).map fun p => (p.1, V.int p.2), rfl, SqL.of hdx, hdx, pairs_at hxs, by rw [List.map_map]; exact nd, by rw [List.length_map]; have := W.count; have := T.ok.2.1; omega, fun dd hdd => ?_⟩
      have s8 : Same H4 (upd H7 dd (.dK (pairsK (stepsM rs a)))) := (s6.trans s7).trans (same_new hdd)
      refine ⟨dd, rfl, .inl ⟨_, .inl upd_same⟩, _, rfl, valV (pairsK (stepsM rs a)) (Sum.inl b : Key), .inl ⟨_, Sum.inl b, .inl upd_same, rfl, rfl⟩, ?_⟩
      by_cases ex : ∃ l, (b, l) ∈ stepsM rs a
      · obtain ⟨l, hl'⟩ := ex
        obtain ⟨j, hj⟩ := mem_stepsM.mp hl'
        rw [pairsK_some nd hl']
        refine ⟨_, rfl, _, rfl, ite_f (by rfl) ?_⟩
        refine ⟨_, rfl, _, rfl, _, _, rfl, rfl, ⟨some (.int a), some (.int b), some (.int l), ?_⟩, s8, ?_⟩
        · rw [W.long_succ (k := i) (by rw [ga, gb]; exact hj)]; rfl
        · intro j' hj'
          by_cases e : j' = i
          · subst e; exact ⟨j, l, by rw [ga, gb]; exact hj⟩
          · exact wk j' (by omega)
      · rw [pairsK_none fun l z => ex ⟨l, z⟩]
        refine ⟨_, rfl, _, rfl, iteT ?_⟩
        refine k2 (fun z => ?_) _ ((s13.trans s4).trans s8)
        have lt := (List.getElem?_eq_some_iff.mp hb).1
        obtain ⟨j, l, hj⟩ := z i (by omega)
        rw [ga, gb] at hj
        exact ex ⟨l, mem_stepsM.mpr ⟨j, hj⟩⟩
    · rintro σ H5 ⟨⟨v5, v6, v7, rfl⟩, s5, wk⟩
      rw [lz] at wk ⊢
      exact ⟨_, rfl, k1 (wk.at (by omega)) _ ((s13.trans s4).trans s5)⟩
end
end WR
namespace WR
open PySem L2
/-! ### how often each road is gone, by the law's own look -/
def sp_gone : Sp := fun vs H Q _ => ∃ (p q u : Addr) (n : Int) (rs : List Road) (ws : List Int), vs = [.ref p, .ref u] ∧ H p = some (.tup [.int n, .ref q]) ∧ RoadsAt H q rs ∧ IsTree n rs ∧ H u = some (.lst (ws.map V.int)) ∧ ws.length ≤ 100 ∧
  (WalkAt rs ws → ∀ r H', H r = none → Same H H' → H' r = some (.lst ((goneM rs ws (ws.length - 1)).map V.int)) → Q (.ref r) H') ∧ (¬ WalkAt rs ws → ∀ H', Same H H' → Q .non H')
def sp_law_long : Sp := fun vs H Q _ => ∃ (p q u : Addr) (n : Int) (rs : List Road) (ws : List Int), vs = [.ref p, .ref u] ∧ H p = some (.tup [.int n, .ref q]) ∧ RoadsAt H q rs ∧ IsTree n rs ∧ H u = some (.lst (ws.map V.int)) ∧ ws.length ≤ 100 ∧
  (WalkAt rs ws → ∀ H', Same H H' → Q (.int (longTo rs ws (ws.length - 1))) H') ∧ (¬ WalkAt rs ws → ∀ H', Same H H' → Q .non H')
theorem head_places {P : Nat → Bool} : ∀ {m : Nat}, placesTo P m ≠ [] → ∃ (j : Nat) (r : List Int), placesTo P m = (j : Int) :: r ∧ j < m ∧ P j = true := by
  intro m h
  unfold placesTo at h ⊢
  cases q : (List.range m).filter P with
  | nil => rw [q] at h; exact absurd rfl h
  | cons j r =>
    have mem : j ∈ (List.range m).filter P := by rw [q]; exact List.mem_cons_self ..
    have mem := List.mem_filter.mp mem
    exact ⟨j, r.map fun (k : Nat) => (k : Int), rfl, List.mem_range.mp mem.1, mem.2⟩
theorem ixN_nat {m i : Nat} (h : i < m) : ixN m (i : Int) = some i := by unfold ixN; rw [if_pos (by omega), if_pos (by omega), Int.toNat_natCast]
theorem map_set_int (l : List Int) (j : Nat) (v : Int) : (l.map V.int).set j (.int v) = (l.set j v).map V.int := by rw [List.map_set]
section
variable {P : Program} {w : World} {K : PySem.W.Frag} {mg : Str → Option Value} {base : Heap} {t : Adr}
theorem ok__law_gone (TT : Txt K mg t) : FnOk P w K mg base CX0 1 t.f__law_gone t.d__law_gone ["_law_told_here", "_law_walk"] sp_gone := by
  refine TT.F__law_gone.ok sc__law_gone (fun vs H Q E h => ?_) (fun cdv A outer sh H vs Q E hr h => ?_)
  · obtain ⟨p, q, u, n, rs, ws, rfl, _⟩ := h
    rfl
  · obtain ⟨p, q, u, n, rs, ws, rfl, hp, ⟨xs, hq, hxs⟩, hT, hu, hl, k1, k2⟩ := h
    have hu8 := hu8_of hr
    refine ⟨_, (pss_cons (ps_setC (i := 2) sc__law_gone.nd rfl rfl rfl (N := ["_law_road"]) (fr := []) (compOk (N0 := ["_law_told_here", "_law_walk", "_law_found", "_law_k", "_law_steps"]) (N := ["_law_road"]) (fr := []) (sc0 := defScope s__law_gone) rfl ⟨rfl, rfl⟩ (by decide +kernel)) (pi_list (pe_ix ix_tup (pv 0) pe_int (fun _ _ => rfl))) (fun _ _ _ _ _ => ⟨(pg_name (i := 0) (show (["_law_road"] : List Str).Nodup by decide +kernel) rfl (Or.inl rfl)), pf_none, pe_int⟩)) (pss_cons (ps_for PassesOwn.never rfl (pi_range2 rfl TT.z_range (pa_cons pe_int (pa_cons (pe_callB call_len_seq rfl TT.z_len WB.bt_len (pa_cons (pv 1) pa_nil)) pa_nil))) (pg_name (i := 3) sc__law_gone.nd rfl (Or.inr rfl)) (pss_cons (ps_setC (i := 4) sc__law_gone.nd rfl rfl rfl (N := ["_law_at", "_law_told_here", "_law_walk", "_law_k"]) (fr := [(1, 0), (2, 1), (3, 3)]) (compOk (N0 := ["_law_told_here", "_law_walk", "_law_found", "_law_k", "_law_steps"]) (N := ["_law_at", "_law_told_here", "_law_walk", "_law_k"]) (fr := [(1, 0), (2, 1), (3, 3)]) (sc0 := defScope s__law_gone) rfl ⟨rfl, rfl⟩ (by decide +kernel)) (pi_range1 rfl TT.z_range (pa_cons (pe_callB call_len_seq rfl TT.z_len WB.bt_len (pa_cons (pe_ix ix_tup (pv 0) pe_int (fun _ _ => rfl)) pa_nil)) pa_nil)) (fun _ _ _ _ _ => ⟨(pg_name (i := 0) (show (["_law_at", "_law_told_here", "_law_walk", "_law_k"] : List Str).Nodup by decide +kernel) rfl (Or.inl rfl)), (pf_one (pt_cmpR (op_eqD (k := 8) hu8) (pe_callB (call_sortedTK (K := K) rfl rfl) rfl TT.z_sorted WB.bt_sorted (pa_cons (pe_slice (sl_tupK (K := K) rfl) (pe_ix (ix_listK (K := K) rfl) (pe_ix (ix_tupK (K := K) rfl) (pv 1) pe_int (fun _ _ => rfl)) (pv 0) (fun _ _ => rfl)) po_none (po_some pe_int)) pa_nil)) (pe_callB (call_sortedLK (K := K) rfl) rfl TT.z_sorted WB.bt_sorted (pa_cons (pe_slice (sl_listK (K := K) rfl) (pv 2) (po_some (pe_op op_sub (pv 3) pe_int)) (po_some (pe_op op_add (pv 3) pe_int))) pa_nil)) (nomark _))), (pv 0)⟩)) (pss_cons (ps_if (pt_cmpR (op_eqD (k := 8) hu8) (pv 4) (pe_lst pa_nil) (nomark _)) (pss_one (ps_ret pe_non)) pss_nil) (pss_one (ps_augS (pv 2) (pe_ix ix_list (pv 4) pe_int (fun _ _ => rfl)) get_list pe_int ip_add set_list))))) (pss_one (ps_ret (pv 2))))), ?_⟩
    have W := hT.2.2
    have hlen := hT.len
    have hlx := hxs.length
    rw [List.length_map] at hlx
    -- found = [0 for road in told[1]]
    refine ⟨_, rfl, p, _, 1, _, rfl, rfl, SqT.of hp, atI_nat (j := 1) rfl, q, rfl, ⟨_, SqL.of hq⟩, fun f hf => comp_list (K := K) (xs := xs) (fun i τ ys H2 => (∃ v, τ = [v]) ∧ ys = ((rs.take i).map fun _ => (0 : Int)).map V.int ∧ H2 f = some (.lst ys) ∧ Same H H2) ⟨⟨_, rfl⟩, rfl, upd_same, same_new hf⟩
      (fun i τ ys H2 _ ⟨_, _, h3, h4⟩ => ⟨SqL.of (h4 _ _ hq), h3⟩) ?_ ?_⟩
    · rintro i x τ ys H2 R hi ⟨⟨v, rfl⟩, rfl, h3, h4⟩ hR
      obtain ⟨r, a, hri, rfl, ha⟩ := RoadsAt.get hq hxs hi
      refine noifN ?_
      refine ⟨h3, by simp only [List.length_map, List.length_take, sizeLine_eq]; omega, hR _ _ _ ⟨⟨_, rfl⟩, ?_, upd_same, same_upd h4 hf⟩⟩
      rw [List.take_add_one, hri]; simp
    rintro τ ys H2 ⟨⟨v, rfl⟩, rfl, h3, h4⟩
    rw [hlx, List.take_length, ← goneM_zero rs ws] at h3
    -- for k in range(1, len(walk))
    refine ⟨_, rfl, u, _, rfl, .inl (SqL.of (h4 _ _ hu)), 1, _, rfl, ⟨by decide, by decide, by rw [List.length_map]; omega, by rw [List.length_map]; omega⟩, ?_⟩
    have eN : ((((ws.map V.int).length : Nat) : Int) - 1).toNat = ws.length - 1 := by rw [List.length_map]; omega
    rw [eN]
    refine for_range (lo := 1) (n := ws.length - 1) (fun i σ H3 => (∃ v3 v4, σ = [some (.ref p), some (.ref u), some (.ref f), v3, v4]) ∧ Same H H3 ∧ H3 f = some (.lst ((goneM rs ws i).map V.int)) ∧ WalkTo rs ws i)
      ⟨⟨none, none, rfl⟩, h4, h3, fun j hj => absurd hj (Nat.not_lt_zero _)⟩ ?_ ?_
    · rintro i σ H3 hi ⟨⟨v3, v4, rfl⟩, s3, hf3, wk⟩
      have g0 : ws[i]? = some (ws.getD i 0) := at_getD (by omega)
      have g1 : ws[i + 1]? = some (ws.getD (i + 1) 0) := at_getD (by omega)
      -- steps
      refine ⟨_, rfl, p, _, 1, _, rfl, rfl, SqT.of (s3 _ _ hp), atI_nat (j := 1) rfl, q, _, rfl, .inl (SqL.of (s3 _ _ hq)), rs.length, by rw [hlx], by omega, by omega, fun acc hacc => ?_⟩
      rw [Int.toNat_natCast]
      refine comp_range (k := rs.length) (fun l τ ys H4 => (∃ v, τ = [v, some (.ref p), some (.ref u), some (.int (1 + i))]) ∧ ys = (placesTo (fun l => isRoad rs l (ws.getD i 0) (ws.getD (i + 1) 0)) l).map V.int ∧ H4 acc = some (.lst ys) ∧ Same H3 H4) ⟨⟨_, rfl⟩, rfl, upd_same, same_new hacc⟩
        (fun l τ ys H4 _ ⟨_, _, h5, _⟩ => h5) ?_ ?_
      · rintro l τ ys H4 R hl' ⟨⟨v, rfl⟩, rfl, h5, h6⟩ hR
        obtain ⟨⟨ra, rb, rl⟩, a, hrl, hax, ha⟩ := RoadsAt.get (rs := rs) (i := l) hq hxs (List.getElem?_eq_getElem (by omega))
        have s34 : Same H H4 := s3.trans h6
        have hq4 := s34 _ _ hq
        have ha4 := s34 _ _ ha
        have hu4 := s34 _ _ hu
        have hp4 := s34 _ _ hp
        refine ⟨_, rfl, p, _, 1, _, rfl, rfl, SqT.of hp4, atI_nat (j := 1) rfl, _, rfl, q, _, _, .ref a, rfl, rfl, SqL.of hq4, atI_int (j := l) (by omega) (by rw [List.getElem?_eq_getElem (by omega), hax]), 2, rfl, a, _, rfl, SqT.of ha4, nocut2 _ _ _, fun c hc => ⟨c, [ra, rb], rfl, SqT.of upd_same, by show 2 < 64; decide, fun l1 m1 hl1 p1 q1 => ?_⟩⟩
        have s5 := (same_new (o := .tup [.int ra, .int rb]) hc).trans (same_new (o := .lst (m1.map V.int)) hl1)
        refine ⟨_, rfl, _, rfl, _, _, rfl, rfl, _, rfl, _, rfl, _, _, rfl, rfl, _, rfl, u, _, rfl, SqL.of (s5 _ _ hu4), fun c2 hc2 => ⟨c2, [ws.getD i 0, ws.getD (i + 1) 0], rfl, SqL.of (by rw [upd_same]; exact congrArg (fun z => some (HO.lst z)) (cutV_pair (ints_at g0) (ints_at g1))), by show 2 < 64; decide, fun l2 m2 hl2 p2 q2 => ?_⟩⟩
        have s6 := same_new (o := .lst (cutV (ws.map V.int) (some ((1 + (i : Int)) - 1)) (some ((1 + (i : Int)) + 1)))) hc2
        have s7 := same_new (o := .lst (m2.map V.int)) hl2
        refine ⟨_, _, rep_ints (s7 _ _ (s6 _ _ upd_same)), rep_ints upd_same, dep_ints _, _, rfl, ?_⟩
        rw [eq_ints]
        have hiff := sort2_eq p1 q1 p2 q2
        have s37 : Same H4 _ := (s5.trans s6).trans s7
        have sc := placesTo_succ (fun l => isRoad rs l (ws.getD i 0) (ws.getD (i + 1) 0)) l
        have pl := placesTo_len (fun l => isRoad rs l (ws.getD i 0) (ws.getD (i + 1) 0)) l
        have iff2 : isRoad rs l (ws.getD i 0) (ws.getD (i + 1) 0) = true ↔ m1 = m2 := by
          rw [hiff]
          unfold isRoad
          rw [hrl]
          simp only [Bool.or_eq_true, Bool.and_eq_true, decide_eq_true_eq]
        by_cases c3 : m1 = m2
        · refine ite_t (decide_eq_true c3) ⟨_, rfl, s37 _ _ h5, by rw [List.length_map, sizeLine_eq]; omega, hR _ _ _ ⟨⟨_, rfl⟩, ?_, upd_same, fun b o e => by rw [upd_ne (ne_of_none e hacc)]; exact s37 _ _ (h6 _ _ e)⟩⟩
          rw [sc, if_pos (iff2.mpr c3), List.map_append, Int.zero_add]; rfl
        · refine ite_f (decide_eq_false c3) (hR _ _ _ ⟨⟨_, rfl⟩, ?_, s37 _ _ h5, fun b o e => s37 _ _ (h6 _ _ e)⟩)
          rw [sc, if_neg (fun z => c3 (iff2.mp z)), List.append_nil]
      · rintro τ ys H4 ⟨⟨v, rfl⟩, rfl, h5, h6⟩
        have s34 : Same H H4 := s3.trans h6
        have hf4 := h6 _ _ hf3
        -- if steps == []
        refine ⟨_, rfl, Nat.zero_le _, fun e he => ?_⟩
        have s5 : Same H4 (upd H4 e (.lst [])) := same_new he
        refine ⟨intsD _, intsD [], rep_ints (s5 _ _ h5), rep_ints (ns := []) upd_same, dep_ints _, _, rfl, ?_⟩
        rw [eq_ints]
        by_cases c : placesTo (fun l => isRoad rs l (ws.getD i 0) (ws.getD (i + 1) 0)) rs.length = []
        · refine ite_t (decide_eq_true c) (k2 (fun z => ?_) _ (s34.trans s5))
          obtain ⟨j, l, hj⟩ := z i (by omega)
          have mem : (j : Int) ∈ placesTo (fun l => isRoad rs l (ws.getD i 0) (ws.getD (i + 1) 0)) rs.length := by
            unfold placesTo
            exact List.mem_map.mpr ⟨j, List.mem_filter.mpr ⟨List.mem_range.mpr hj.lt, isRoad_iff.mpr ⟨l, hj⟩⟩, rfl⟩
          rw [c] at mem
          cases mem
        · refine ite_f (decide_eq_false c) ?_
          obtain ⟨j, r, ej, hj, hr'⟩ := head_places c
          obtain ⟨l, jn⟩ := isRoad_iff.mp hr'
          have h5' := s5 _ _ h5
          rw [ej] at h5'
          have hf5 := s5 _ _ hf4
          -- found[steps[0]] += 1
          refine ⟨_, rfl, _, rfl, acc, _, 0, _, rfl, rfl, SqL.of h5', atI_nat (j := 0) rfl, f, _, _, j, _, rfl, rfl, rfl, SqL.of hf5, ints_at (goneM_get hj), _, _, rfl, rfl, f, _, _, j, rfl, rfl, hf5, ixN_nat (by rw [List.length_map, goneM_length]; exact hj), ⟨_, _, rfl⟩, ?_, ?_, ?_⟩
          · exact same_upd (s34.trans s5) hf
          · rw [upd_same, map_set_int, W.gone_succ jn]
          · intro j' hj'
            by_cases e' : j' = i
            · subst e'; exact ⟨j, l, jn⟩
            · exact wk j' (by omega)
    · rintro σ H3 ⟨⟨v3, v4, rfl⟩, s3, hf3, wk⟩
      exact ⟨_, rfl, k1 (wk.at (by omega)) f H3 hf s3 hf3⟩
end
end WR
namespace WR
open PySem L2
section
variable {P : Program} {w : World} {K : PySem.W.Frag} {mg : Str → Option Value} {base : Heap} {t : Adr}
theorem ok__law_long (TT : Txt K mg t) : FnOk P w K mg base CX0 2 t.f__law_long t.d__law_long ["_law_told_here", "_law_walk"] sp_law_long := by
  refine TT.F__law_long.ok sc__law_long (fun vs H Q E h => ?_) (fun cdv A outer sh H vs Q E hr h => ?_)
  · obtain ⟨p, q, u, n, rs, ws, rfl, _⟩ := h
    rfl
  · obtain ⟨p, q, u, n, rs, ws, rfl, hp, hR, hT, hu, hl, k1, k2⟩ := h
    refine ⟨_, (pss_cons (ps_set (i := 2) sc__law_long.nd rfl (Or.inr rfl) (pe_call (ok__law_gone TT) (hr.mono (by decide)) rfl TT.m__law_gone TT.F__law_gone.kp TT.b__law_gone .nil pass0 (pa_cons (pv 0) (pa_cons (pv 1) pa_nil)))) (pss_cons (ps_if (pt_cmp (pc_isN (pv 2))) (pss_one (ps_ret pe_non)) pss_nil) (pss_one (ps_ret (pe_callB (call_sumL rfl) rfl TT.z_sum WB.bt_sum (pa_cons (pe_comp rfl (N := ["_law_at", "_law_gone_here", "_law_told_here"]) (fr := [(1, 2), (2, 0)]) (compOk (N0 := ["_law_told_here", "_law_walk", "_law_gone_here"]) (N := ["_law_at", "_law_gone_here", "_law_told_here"]) (fr := [(1, 2), (2, 0)]) (sc0 := defScope s__law_long) rfl ⟨rfl, rfl⟩ (by decide +kernel)) (pi_range1 rfl TT.z_range (pa_cons (pe_callB call_len_seq rfl TT.z_len WB.bt_len (pa_cons (pv 2) pa_nil)) pa_nil)) (fun _ _ _ _ _ => ⟨(pg_name (i := 0) (show (["_law_at", "_law_gone_here", "_law_told_here"] : List Str).Nodup by decide +kernel) rfl (Or.inl rfl)), pf_none, (pe_op op_mul (pe_ix (ix_listK (K := K) rfl) (pv 1) (pv 0) (fun _ _ => rfl)) (pe_ix (ix_tupK (K := K) rfl) (pe_ix (ix_listK (K := K) rfl) (pe_ix (ix_tupK (K := K) rfl) (pv 2) pe_int (fun _ _ => rfl)) (pv 0) (fun _ _ => rfl)) pe_int (fun _ _ => rfl)))⟩)) pa_nil)))))), ?_⟩
    have hlen := hT.len
    refine ⟨_, rfl, _, rfl, p, q, u, n, rs, ws, rfl, hp, hR, hT, hu, hl, fun wk g H1 hg0 s1 hg => ?_, fun wk H1 s1 => ?_⟩
    · refine ⟨_, rfl, _, rfl, ite_f (by rfl) ?_⟩
      obtain ⟨xs, hq, hxs⟩ := hR
      have hlx := hxs.length
      rw [List.length_map] at hlx
      refine ⟨_, rfl, g, _, rfl, .inl (SqL.of hg), rs.length, by rw [List.length_map, goneM_length], by omega, by omega, fun acc hacc => ?_⟩
      rw [Int.toNat_natCast]
      refine comp_range (k := rs.length) (fun i τ ys H2 => (∃ o, τ = [o, some (.ref g), some (.ref p)]) ∧ ys = ((List.range i).map fun (i : Nat) => (cntTo rs ws i (ws.length - 1) : Int) * (rs.getD i (0, 0, 0)).2.2).map V.int ∧ H2 acc = some (.lst ys) ∧ Same H1 H2) ⟨⟨_, rfl⟩, rfl, upd_same, same_new hacc⟩
        (fun i τ ys H2 _ ⟨_, _, h3, _⟩ => h3) ?_ ?_
      · rintro i τ ys H2 R hi ⟨⟨o, rfl⟩, rfl, h3, h4⟩ hR'
        obtain ⟨⟨ra, rb, rl⟩, a, hri, hax, ha⟩ := RoadsAt.get (rs := rs) (i := i) hq hxs (List.getElem?_eq_getElem (by omega))
        have s2 := s1.trans h4
        have cl := cntTo_le rs ws i (ws.length - 1)
        have gl : (rs.getD i (0, 0, 0)).2.2 = rl := by rw [List.getD_eq_getElem?_getD, hri]; rfl
        refine noifN ?_
        refine ⟨_, rfl, _, rfl, g, _, _, .int (cntTo rs ws i (ws.length - 1) : Int), rfl, rfl, SqL.of (h4 _ _ hg), atI_int (j := i) (by omega) (ints_at (goneM_get hi)), _, rfl, p, _, 1, _, rfl, rfl, SqT.of (s2 _ _ hp), atI_nat (j := 1) rfl, _, rfl, q, _, _, .ref a, rfl, rfl, SqL.of (s2 _ _ hq), atI_int (j := i) (by omega) (by rw [List.getElem?_eq_getElem (by omega), hax]), a, _, 2, _, rfl, rfl, SqT.of (s2 _ _ ha), atI_nat (j := 2) rfl, _, _, rfl, rfl, .inl ⟨by omega, by omega⟩, h3, by simp only [List.length_map, List.length_range, sizeLine_eq]; omega, hR' _ _ _ ⟨⟨_, rfl⟩, ?_, upd_same, fun b o e => by rw [upd_ne (ne_of_none e hacc)]; exact h4 _ _ e⟩⟩
        rw [List.range_succ, List.map_append, List.map_append, List.map_cons, List.map_nil, gl]
        rfl
      · rintro τ ys H2 ⟨⟨o, rfl⟩, rfl, h3, h4⟩
        exact ⟨acc, _, rfl, SqL.of h3, k1 wk _ (s1.trans h4)⟩
    · exact ⟨_, rfl, _, rfl, iteT (k2 wk _ s1)⟩
end
theorem range_vil (n : Nat) : ((List.range n).map fun (k : Nat) => (k : Int)) = vil n := rfl
theorem vil_rising (n : Nat) : (vil n).Pairwise (· < ·) := by
  unfold vil
  exact List.Pairwise.map _ (fun a b h => by omega) List.pairwise_lt_range
theorem walk_in {n : Nat} {rs : List Road} (R : Roads n rs) : ∀ {ws : List Int} {u : Int}, InV n u → Walk rs u ws → ∀ y ∈ u :: ws, InV n y
  | [], _, hu, _ => fun y hy => by rw [List.mem_singleton.mp hy]; exact hu
  | v :: ws, u, hu, ⟨⟨i, l, j⟩, h⟩ => fun y hy => by
    rcases List.mem_cons.mp hy with rfl | hy
    · exact hu
    · exact walk_in R (R.joins j).2.1 h y hy
theorem last_at : ∀ (R : List Int) (u : Int), atI ((u :: R).map V.int) (-1) = some (.int (lastW u R))
  | [], u => atI_last [] (V.int u)
  | v :: R, u => by
    have ih := last_at R v
    have e : ∀ (l : List V) (x : V), l ≠ [] → atI (x :: l) (-1) = atI l (-1) := by
      intro l x h
      obtain ⟨l', y, rfl⟩ : ∃ l' y, l = l' ++ [y] := by
        rcases nil_or_snoc l with z | ⟨r, a, z⟩
        · exact absurd z h
        · exact ⟨r, a, z⟩
      rw [← List.cons_append, atI_last, atI_last]
    rw [List.map_cons, e _ _ (by simp)]
    exact ih
end WR
namespace WR
open PySem L2
theorem inV_two (v a b : Int) : inV (.int v) [.int a, .int b] = decide (v = a ∨ v = b) := by
  have := inV_ints v [a, b]
  rw [show [V.int a, V.int b] = [a, b].map V.int from rfl, this]
  simp
theorem walk_none (rs : List Road) (v : Int) : WalkAt rs [v] := fun j h => by simp at h
theorem walk_nil (rs : List Road) : WalkAt rs [] := fun j h => by simp at h
section
variable {P : Program} {w : World} {K : PySem.W.Frag} {mg : Str → Option Value} {base : Heap} {t : Adr}
theorem ok_law (TT : Txt K mg t) : FnOk P w K mg base CX0 17 t.f_law t.d_law ["_law_script"] (spLaw K) := by
  refine TT.F_law.ok sc_law (fun vs H Q E h => ?_) (fun cdv A outer sh H vs Q E hr h => ?_)
  · obtain ⟨a, ns, rfl, _⟩ := h
    rfl
  · obtain ⟨a, ns, rfl, hS, hlen, k⟩ := h
    have hu8 := hu8_of hr
    have hu9 := hu9_of hr
    refine ⟨_, (pss_cons (ps_set (i := 1) sc_law.nd rfl (Or.inl rfl) (pe_call (ok__law_told TT) (hr.mono (by decide)) rfl TT.m__law_told TT.F__law_told.kp TT.b__law_told .nil pass0 (pa_cons (pv 0) (pa_cons pe_int (pa_cons pe_int pa_nil))))) (pss_cons (ps_set (i := 2) sc_law.nd rfl (Or.inl rfl) (pe_make TT.M_Tree (ok_Tree_init TT) (hr.mono (by decide)) rfl TT.m_Tree TT.b_Tree_init .nil pass0 (pa_cons (pe_ix ix_tup (pv 1) pe_int (fun _ _ => rfl)) (pa_cons (pe_ix ix_tup (pv 1) pe_int (fun _ _ => rfl)) pa_nil)))) (pss_cons (ps_set (i := 3) sc_law.nd rfl (Or.inl rfl) (pe_call (ok__law_rows TT) (hr.mono (by decide)) rfl TT.m__law_rows TT.F__law_rows.kp TT.b__law_rows .nil pass0 (pa_cons (pv 1) pa_nil))) (pss_cons (ps_set (i := 4) sc_law.nd rfl (Or.inl rfl) (pe_op op_mod (pe_call (ok__law_cell_at TT) (hr.mono (by decide)) rfl TT.m__law_cell_at TT.F__law_cell_at.kp TT.b__law_cell_at .nil pass0 (pa_cons (pv 0) (pa_cons pe_int pa_nil))) (pe_ix ix_tup (pv 1) pe_int (fun _ _ => rfl)))) (pss_cons (ps_set (i := 5) sc_law.nd rfl (Or.inl rfl) (pe_op op_mod (pe_call (ok__law_cell_at TT) (hr.mono (by decide)) rfl TT.m__law_cell_at TT.F__law_cell_at.kp TT.b__law_cell_at .nil pass0 (pa_cons (pv 0) (pa_cons pe_int pa_nil))) (pe_ix ix_tup (pv 1) pe_int (fun _ _ => rfl)))) (pss_cons (ps_join (ps_if (pt_cmpR op_eq (pe_op op_mod (pe_op op_fdiv (pe_call (ok__law_cell_at TT) (hr.mono (by decide)) rfl TT.m__law_cell_at TT.F__law_cell_at.kp TT.b__law_cell_at .nil pass0 (pa_cons (pv 0) (pa_cons pe_int pa_nil))) pe_int) pe_int) pe_int (nomark _)) (pss_one (ps_set (i := 5) sc_law.nd rfl (Or.inl rfl) (pv 4))) pss_nil) (fun σ H => ∃ v1 v2 v3 one other, σ = [some (.ref a), v1, v2, v3, some (.int one), some (.int other), none, none, none, none, none, none, none, none, none, none] ∧ SqL K H a (ns.map V.int)) (fun σ H σ' H' => H = H' ∧ ∃ c : Int, (σ[4]? = some (some (.int c)) ∨ σ[5]? = some (some (.int c))) ∧ σ' = σ.set 5 (some (.int c))) ?j0) (pss_cons (ps_for PassesOwn.never rfl (pi_range1 rfl TT.z_range (pa_cons pe_int pa_nil)) (pg_name (i := 6) sc_law.nd rfl (Or.inl rfl)) (pss_cons (ps_set (i := 7) sc_law.nd rfl (Or.inl rfl) (pe_call (ok_errand TT) (hr.mono (by decide)) rfl TT.m_errand TT.F_errand.kp TT.b_errand .nil pass0 (pa_cons (pv 2) (pa_cons (pv 4) (pa_cons (pv 5) pa_nil))))) (pss_cons (ps_if (PW.pt (pw_or (pt_not (pt_val (pe_callB call_isinst rfl TT.z_isinstance WB.bt_isinstance (pa_cons (pv 7) (pa_cons (pe_bltn (v := .ty "list") rfl TT.z_list WB.bt_list rfl) pa_nil))))) (pw_or (pt_cmpR op_ne (pe_ix ix_list (pv 7) pe_int (fun _ _ => rfl)) (pv 4) (nomark _)) (pw_or1 (pt_cmpR op_ne (pe_ix ix_list (pv 7) (pe_un un_neg pe_int) (fun _ _ => rfl)) (pv 5) (nomark _)))))) (pss_one (ps_ret pe_bl)) pss_nil) (pss_cons (ps_if (pt_cmpR (op_neL (k := 8) hu9) (pe_callB (call_sortedS rfl) rfl TT.z_sorted WB.bt_sorted (pa_cons (pe_callTy (call_setI rfl) rfl TT.z_set WB.bt_set (pa_cons (pv 7) pa_nil)) pa_nil)) (pe_callTy (call_listR rfl) rfl TT.z_list WB.bt_list (pa_cons (pe_callTy call_range1 rfl TT.z_range WB.bt_range (pa_cons (pe_ix ix_tup (pv 1) pe_int (fun _ _ => rfl)) pa_nil)) pa_nil)) (nomark _)) (pss_one (ps_ret pe_bl)) pss_nil) (pss_cons (ps_set (i := 8) sc_law.nd rfl (Or.inl rfl) (pe_call (ok__law_gone TT) (hr.mono (by decide)) rfl TT.m__law_gone TT.F__law_gone.kp TT.b__law_gone .nil pass0 (pa_cons (pv 1) (pa_cons (pv 7) pa_nil)))) (pss_cons (ps_if (pt_cmp (pc_isN (pv 8))) (pss_one (ps_ret pe_bl)) pss_nil) (pss_cons (ps_for PassesOwn.never rfl (pi_range1 rfl TT.z_range (pa_cons (pe_callB call_len_seq rfl TT.z_len WB.bt_len (pa_cons (pv 8) pa_nil)) pa_nil)) (pg_name (i := 9) sc_law.nd rfl (Or.inl rfl)) (pss_cons (ps_asg (pe_ix ix_list (pe_ix ix_tup (pv 1) pe_int (fun _ _ => rfl)) (pv 9) (fun _ _ => rfl)) (pg_tup rfl (pgs_cons (pg_name (i := 10) sc_law.nd rfl (Or.inl rfl)) (pgs_cons (pg_name (i := 11) sc_law.nd rfl (Or.inl rfl)) (pgs_cons (pg_name (i := 12) sc_law.nd rfl (Or.inl rfl)) pgs_nil))))) (pss_cons (ps_set (i := 13) sc_law.nd rfl (Or.inl rfl) (pe_op op_add (pe_op op_add (pe_ix ix_list (pe_ix ix_list (pv 3) (pv 4) (fun _ _ => rfl)) (pv 10) (fun _ _ => rfl)) (pv 12)) (pe_ix ix_list (pe_ix ix_list (pv 3) (pv 11) (fun _ _ => rfl)) (pv 5) (fun _ _ => rfl)))) (pss_cons (ps_set (i := 14) sc_law.nd rfl (Or.inl rfl) (pe_op op_add (pe_op op_add (pe_ix ix_list (pe_ix ix_list (pv 3) (pv 4) (fun _ _ => rfl)) (pv 11) (fun _ _ => rfl)) (pv 12)) (pe_ix ix_list (pe_ix ix_list (pv 3) (pv 10) (fun _ _ => rfl)) (pv 5) (fun _ _ => rfl)))) (pss_one (ps_if (pt_cmpR op_ne (pe_ix ix_list (pv 8) (pv 9) (fun _ _ => rfl)) (pe_op op_sub pe_int (pe_callTy call_int1 rfl TT.z_int WB.bt_int (pa_cons (pe_cmpR op_in_seq (pe_ix ix_list (pe_ix ix_list (pv 3) (pv 4) (fun _ _ => rfl)) (pv 5) (fun _ _ => rfl)) (pe_tup (pa_cons (pv 13) (pa_cons (pv 14) pa_nil))) (by with_unfolding_all rfl)) pa_nil))) (nomark _)) (pss_one (ps_ret pe_bl)) pss_nil)))))) (pss_cons (ps_if (pt_cmpR op_ne (pe_call (ok_long TT) (hr.mono (by decide)) rfl TT.m_long TT.F_long.kp TT.b_long .nil pass0 (pa_cons (pv 2) (pa_cons (pv 7) pa_nil))) (pe_call (ok__law_long TT) (hr.mono (by decide)) rfl TT.m__law_long TT.F__law_long.kp TT.b__law_long .nil pass0 (pa_cons (pv 1) (pa_cons (pv 7) pa_nil))) (nomark _)) (pss_one (ps_ret pe_bl)) pss_nil) (pss_cons (ps_set (i := 15) sc_law.nd rfl (Or.inl rfl) (pe_callTy call_list_of rfl TT.z_list WB.bt_list (pa_cons (pv 7) pa_nil))) (pss_cons (ps_asg (pe_op op_mod (pe_call (ok__law_cell_at TT) (hr.mono (by decide)) rfl TT.m__law_cell_at TT.F__law_cell_at.kp TT.b__law_cell_at .nil pass0 (pa_cons (pv 0) (pa_cons pe_int pa_nil))) (pe_ix ix_tup (pv 1) pe_int (fun _ _ => rfl))) (pg_sub (pv 15) (pe_op op_mod (pe_call (ok__law_cell_at TT) (hr.mono (by decide)) rfl TT.m__law_cell_at TT.F__law_cell_at.kp TT.b__law_cell_at .nil pass0 (pa_cons (pv 0) (pa_cons pe_int pa_nil))) (pe_callB call_len_seq rfl TT.z_len WB.bt_len (pa_cons (pv 15) pa_nil))) set_list)) (pss_cons (ps_if (pt_cmpR op_ne (pe_call (ok_long TT) (hr.mono (by decide)) rfl TT.m_long TT.F_long.kp TT.b_long .nil pass0 (pa_cons (pv 2) (pa_cons (pv 15) pa_nil))) (pe_call (ok__law_long TT) (hr.mono (by decide)) rfl TT.m__law_long TT.F__law_long.kp TT.b__law_long .nil pass0 (pa_cons (pv 1) (pa_cons (pv 15) pa_nil))) (nomark _)) (pss_one (ps_ret pe_bl)) pss_nil) (pss_one (ps_expr (pe_bm0 PySem.F.plainAttrs_list PySem.F.slot_list_clear PySem.F.type_list_clear mt_clear (pv 7))))))))))))))) (pss_one (ps_ret (pe_and (pe_cmpR op_eq (pe_call (ok_long TT) (hr.mono (by decide)) rfl TT.m_long TT.F_long.kp TT.b_long .nil pass0 (pa_cons (pv 2) (pa_cons (pe_lst (pa_cons (pv 4) pa_nil)) pa_nil))) pe_int (nomark _)) (pe_one (pe_cmpR op_eq (pe_call (ok_long TT) (hr.mono (by decide)) rfl TT.m_long TT.F_long.kp TT.b_long .nil pass0 (pa_cons (pv 2) (pa_cons (pe_lst pa_nil) pa_nil))) pe_int (nomark _))))))))))))), ?_⟩
    case j0 =>
      rintro σ H0 ⟨v1, v2, v3, one, other, rfl, hS0⟩
      exact ⟨_, rfl, a, ns, 3, rfl, hS0, by decide, fun cc => ⟨_, _, rfl, rfl, ⟨by decide, by decide⟩, _, _, rfl, rfl, (by show (0 : Int) < 4; decide), rfl, _, rfl, ite2 (fun _ => ⟨_, rfl, rfl, one, .inl rfl, rfl⟩) (fun _ => ⟨rfl, other, .inr rfl, rfl⟩)⟩⟩
    -- told, tree, rows
    refine ⟨_, rfl, a, ns, 0, 12, rfl, hS, by decide, by decide, by decide, fun p q n rs H1 hp0 hq0 hpq s1 hp hR hT hn => ?_⟩
    refine ⟨_, rfl, p, _, 0, _, rfl, rfl, SqT.of hp, atI_nat (j := 0) rfl, _, rfl, p, _, 1, _, rfl, rfl, SqT.of hp, atI_nat (j := 1) rfl, fun x dx hx hdx hne => ?_⟩
    have s2 : Same H1 (upd (upd H1 dx (.own x)) x (.ins t.C_Tree dx [])) := (by grind [upd, same_iff])
    refine ⟨x, dx, q, n, rs, rfl, upd_same, hR.keep s2, hT, fun tq H2 htq T kp => ⟨rfl, ?_⟩⟩
    have s3 : Same H1 H2 := fun b o e => kp _ _ (s2 _ _ e) (ne_of_none e hx)
    refine ⟨_, rfl, p, q, n, rs, rfl, s3 _ _ hp, hR.keep s3, hT, fun r H3 hr3 s4 hrows => ?_⟩
    have T3 := T.keep s4
    have hp3 : H3 p = some (.tup [.int n, .ref q]) := (by grind [upd, same_iff])
    have hR3 : RoadsAt H3 q rs := hR.keep (s3.trans s4)
    have hS3 := (s1.trans (s3.trans s4)).seq hS
    have rows3 := hrows.at
    have n1 := hT.1
    have n2 := hT.2.1
    have W := hT.2.2
    obtain ⟨N, rfl⟩ := Int.eq_ofNat_of_zero_le (show 0 ≤ n by omega)
    simp only [Int.toNat_natCast] at rows3 W
    have hN12 : N ≤ 12 := by omega
    have hN0 : 0 < N := by omega
    have hcount := W.count
    clear hrows hr3 s4 s3 kp T htq s2 hne hdx hx hR hp s1 hpq hq0 hp0 hS
    -- one, other
    refine ⟨_, rfl, a, ns, 2, rfl, hS3, by decide, fun c1 => ⟨_, rfl, p, _, 0, _, rfl, rfl, SqT.of hp3, atI_nat (j := 0) rfl, _, _, rfl, rfl, by omega, ?_⟩⟩
    refine ⟨_, rfl, a, ns, 3, rfl, hS3, by decide, fun c2 => ⟨_, rfl, p, _, 0, _, rfl, rfl, SqT.of hp3, atI_nat (j := 0) rfl, _, _, rfl, rfl, by omega, ?_⟩⟩
    refine ⟨⟨_, _, _, _, _, rfl, hS3⟩, ?_⟩
    rintro σ' H' ⟨rfl, oth, hoth, rfl⟩
    have inN : ∀ c : Int, ∃ o : Nat, c % (N : Int) = o ∧ o < N := fun c => by
      obtain ⟨o, ho⟩ := Int.eq_ofNat_of_zero_le (Int.emod_nonneg c (show (N : Int) ≠ 0 by omega))
      have := Int.emod_lt_of_pos c (show 0 < (N : Int) by omega)
      exact ⟨o, ho, by omega⟩
    obtain ⟨o1, ho1, hb1⟩ := inN c1
    obtain ⟨o2, ho2, hb2⟩ : ∃ o2 : Nat, oth = o2 ∧ o2 < N := by
      rcases hoth with z | z
      · have z : c1 % (N : Int) = oth := by
          have z' : some (some (V.int (c1 % (N : Int)))) = some (some (V.int oth)) := z
          simpa using z'
        exact ⟨o1, by omega, hb1⟩
      · have z : c2 % (N : Int) = oth := by
          have z' : some (some (V.int (c2 % (N : Int)))) = some (some (V.int oth)) := z
          simpa using z'
        obtain ⟨o, h1, h2⟩ := inN c2
        exact ⟨o, by omega, h2⟩
    subst ho2
    clear hoth
    have v1 : InV N (o1 : Int) := ⟨by omega, by omega⟩
    have v2 : InV N (o2 : Int) := ⟨by omega, by omega⟩
    obtain ⟨rp, hrp, hrows⟩ := rows3
    have row : ∀ {H5 : Hp}, Same H3 H5 → ∀ {o : Nat}, o < N → ∃ c, H5 c = some (.lst ((rowM N rs o).map V.int)) ∧ (rp.map V.ref)[o]? = some (.ref c) := fun {H5} s {o} ho => by
      obtain ⟨c, e1, e2⟩ := rows_get hrows (rowsM_get (n := N) (rs := rs) (i := o) ho)
      exact ⟨c, s _ _ e2, e1⟩
    -- for again in range(2)
    refine ⟨2, rfl, by decide, by decide, for_range (lo := 0) (n := 2) (fun i σ H' => (∃ v6 v7 v8 v9 v10 v11 v12 v13 v14 v15, σ = [some (.ref a), some (.ref p), some (.ref x), some (.ref r), some (.int o1), some (.int o2), v6, v7, v8, v9, v10, v11, v12, v13, v14, v15]) ∧ Same H3 H') ⟨⟨_, _, _, _, _, _, _, _, _, _, by rw [← ho1]; rfl⟩, Same.refl _⟩ ?_ ?_⟩
    · rintro i σ H4 hi ⟨⟨v6, v7, v8, v9, v10, v11, v12, v13, v14, v15, rfl⟩, s⟩
      -- found = errand(tree, one, other)
      refine ⟨_, rfl, _, rfl, _, rfl, x, tq, N, rs, o1, o2, rfl, T3.keep s, v1, v2, fun f R H5 hf s5 hfl e1 e2 e3 e4 e5 => ?_⟩
      simp only [Int.toNat_natCast] at e4 e5
      have wk : WalkAt rs ((o1 : Int) :: R) := walk_at e2
      have hin := walk_in W.roads v1 e2
      have hl24 : ((o1 : Int) :: R).length ≤ 24 := by rw [List.length_cons]; omega
      refine ⟨_, rfl, _, "list", .type "list", true, rfl, .lst hfl, kit_ll, true, rfl, iteF ?_⟩
      refine ⟨_, rfl, f, _, 0, _, rfl, rfl, SqL.of hfl, atI_nat (j := 0) rfl, _, rfl, rfl, _, rfl, ite_f (by show (!decide (V.int (o1 : Int) = V.int (o1 : Int))) = false; simp) ?_⟩
      refine ⟨_, rfl, 1, rfl, f, _, -1, _, rfl, rfl, SqL.of hfl, last_at _ _, _, rfl, rfl, _, rfl, ite_f (by rw [e1]; show (!decide (V.int (o2 : Int) = V.int (o2 : Int))) = false; simp) ?_⟩
      have s15 : Same H3 H5 := s.trans s5
      have hf4 : H3 f = none := s.free hf
      -- sorted(set(found)) != list(range(told[0]))
      refine ⟨_, rfl, f, (o1 : Int) :: R, rfl, SqL.of hfl, by omega, fun st ks hst Tk => ⟨st, ks, rfl, upd_same, by have := Tk.len; omega, fun so ms hso pm sm => ?_⟩⟩
      have s6 : Same H5 (upd (upd H5 st (setO P w st ks)) so (.lst (ms.map V.int))) := (same_new hst).trans (same_new hso)
      have hso6 : upd (upd H5 st (setO P w st ks)) so (.lst (ms.map V.int)) so = some (.lst (ms.map V.int)) := upd_same
      have evil : ms = vil N := by
        have nd : ms.Nodup := pm.nodup_iff.mpr Tk.1
        refine rising_eq (rising_of sm nd) (vil_rising N) fun z => ?_
        rw [pm.mem_iff, Tk.2 z, mem_vil]
        exact ⟨fun h => hin z h, fun h => e4 z h⟩
      subst evil
      have hp6 := s6 _ _ (s15 _ _ hp3)
      refine ⟨_, rfl, p, _, 0, _, rfl, rfl, SqT.of hp6, atI_nat (j := 0) rfl, N, rfl, fun rg hrg => ⟨rg, N, rfl, upd_same, by omega, fun lr hlr => ?_⟩⟩
      rw [range_vil]
      have s7 : Same H5 _ := s6.trans ((same_new (o := .rng 0 N) hrg).trans (same_new (o := .lst ((vil N).map V.int)) hlr))
      refine ⟨so, lr, _, _, _, _, rfl, rfl, .inl ⟨((same_new (o := .rng 0 N) hrg).trans (same_new (o := .lst ((vil N).map V.int)) hlr)) _ _ hso6, upd_same⟩, reps_ints (vil N), reps_ints (vil N), by have := dep_ints (vil N); unfold intsD depD at this; omega, _, rfl, ite_f (by rw [eqDs_refl]; rfl) ?_⟩
      revert s7
      generalize upd (upd (upd (upd H5 st _) so _) rg _) lr _ = H7
      intro s7
      have s17 : Same H3 H7 := s15.trans s7
      have hf7 := s7 _ _ hfl
      clear hso6 hp6 hlr hrg hso hst s6 pm sm Tk s5
      -- gone_here = _law_gone(told, found)
      refine ⟨_, rfl, _, rfl, p, q, f, N, rs, (o1 : Int) :: R, rfl, s17 _ _ hp3, hR3.keep s17, hT, hf7, by omega, fun _ g H8 hg s8 hgl => ?_, fun nw => absurd wk nw⟩
      refine ⟨_, rfl, _, rfl, ite_f (by rfl) ?_⟩
      have s18 := s17.trans s8
      have hf8 := s8 _ _ hf7
      have gl := goneM_length rs ((o1 : Int) :: R) (((o1 : Int) :: R).length - 1)
      refine ⟨_, rfl, g, _, rfl, .inl (SqL.of hgl), rs.length, by rw [List.length_map, gl], by omega, by omega, ?_⟩
      rw [Int.toNat_natCast]
      refine for_range (lo := 0) (n := rs.length) (fun j σ H' => (∃ v9 v10 v11 v12 v13 v14, σ = [some (.ref a), some (.ref p), some (.ref x), some (.ref r), some (.int o1), some (.int o2), some (.int (0 + i)), some (.ref f), some (.ref g), v9, v10, v11, v12, v13, v14, v15]) ∧ Same H8 H') ⟨⟨_, _, _, _, _, _, rfl⟩, Same.refl _⟩ ?_ ?_
      · rintro j σ H9 hj ⟨⟨v9, v10, v11, v12, v13, v14, rfl⟩, s9⟩
        have s19 := s18.trans s9
        obtain ⟨xs, hq, hxs⟩ := hR3.keep s19
        have hlx := hxs.length
        rw [List.length_map] at hlx
        obtain ⟨⟨ra, rb, rl⟩, ad, hri, hax, ha⟩ := RoadsAt.get (rs := rs) (i := j) hq hxs (List.getElem?_eq_getElem (by omega))
        have jn := W.roads.joins (show Joins rs j ra rb rl from .inl hri)
        obtain ⟨A', rfl⟩ := Int.eq_ofNat_of_zero_le jn.1.1
        obtain ⟨B', rfl⟩ := Int.eq_ofNat_of_zero_le jn.2.1.1
        have hA : A' < N := by have := jn.1.2; omega
        have hB : B' < N := by have := jn.2.1.2; omega
        have hp9 := s19 _ _ hp3
        have hr9 := s19 _ _ hrp
        obtain ⟨r1, hr1, gr1⟩ := row s19 hb1
        obtain ⟨r2, hr2, gr2⟩ := row s19 hA
        obtain ⟨r3, hr3, gr3⟩ := row s19 hB
        have at1 : ∀ {o u : Nat}, u < N → atI ((rowM N rs o).map V.int) (u : Int) = some (.int (far N rs o u)) := fun {o u} hu' => atI_nat (ints_at (rowM_get hu'))
        -- here, there, length = told[1][at]
        refine ⟨_, rfl, p, _, 1, _, rfl, rfl, SqT.of hp9, atI_nat (j := 1) rfl, _, rfl, q, _, _, .ref ad, rfl, rfl, SqL.of hq, atI_int (j := j) (by omega) (by rw [List.getElem?_eq_getElem (by omega), hax]), ad, _, rfl, SqT.of ha, rfl, _, _, rfl, _, _, rfl, _, _, rfl, rfl, ?_⟩
        -- forth, back
        refine ⟨_, rfl, _, rfl, r, _, _, .ref r1, rfl, rfl, SqL.of hr9, atI_nat gr1, _, rfl, r1, _, _, _, rfl, rfl, SqL.of hr1, at1 hA, _, rfl, _, _, rfl, rfl, _, rfl, _, rfl, r, _, _, .ref r3, rfl, rfl, SqL.of hr9, atI_nat gr3, _, rfl, r3, _, _, _, rfl, rfl, SqL.of hr3, at1 hb2, _, _, rfl, rfl, ?_⟩
        refine ⟨_, rfl, _, rfl, r, _, _, .ref r1, rfl, rfl, SqL.of hr9, atI_nat gr1, _, rfl, r1, _, _, _, rfl, rfl, SqL.of hr1, at1 hB, _, rfl, _, _, rfl, rfl, _, rfl, _, rfl, r, _, _, .ref r2, rfl, rfl, SqL.of hr9, atI_nat gr2, _, rfl, r2, _, _, _, rfl, rfl, SqL.of hr2, at1 hb2, _, _, rfl, rfl, ?_⟩
        -- gone_here[at] != 2 - int(..)
        refine ⟨_, rfl, _, rfl, g, _, _, .int (cntTo rs ((o1 : Int) :: R) j (((o1 : Int) :: R).length - 1) : Int), rfl, rfl, SqL.of (s9 _ _ hgl), atI_int (j := j) (by omega) (ints_at (goneM_get hj)), ?_⟩
        refine ⟨_, rfl, _, rfl, r, _, _, .ref r1, rfl, rfl, SqL.of hr9, atI_nat gr1, _, rfl, r1, _, _, _, rfl, rfl, SqL.of hr1, at1 hb2, _, rfl, _, rfl, by show 2 ≤ sizeLine; decide, fun tp htp => ?_⟩
        refine ⟨tp, _, rfl, .inr (SqT.of upd_same), rfl, rfl, .inr ⟨_, rfl, _, _, rfl, rfl, rfl, _, rfl, ?_⟩⟩
        rw [show ∀ (v b c : Int), (if false = true then !inV (.int v) [.int b, .int c] else inV (.int v) [.int b, .int c]) = decide (v = b ∨ v = c) from fun v b c => inV_two v b c]
        have ce := e5 j A' B' rl hri
        rw [cnt_to] at ce
        have el : ((o1 : Int) :: R).length - 1 = R.length := rfl
        rw [el, ce]
        refine ite_f ?_ ⟨⟨_, _, _, _, _, _, rfl⟩, s9.trans (same_new htp)⟩
        by_cases c : far N rs o1 o2 = far N rs o1 A' + rl + far N rs B' o2 ∨ far N rs o1 o2 = far N rs o1 B' + rl + far N rs A' o2
        · rw [if_pos c, decide_eq_true c]; rfl
        · rw [if_neg c, decide_eq_false c]; rfl
      rintro σ H9 ⟨⟨v9', v10', v11', v12', v13', v14', rfl⟩, s9⟩
      have s19 := s18.trans s9
      have hf9 := s9 _ _ hf8
      -- long(tree, found) != _law_long(told, found)
      refine ⟨_, rfl, _, rfl, x, tq, f, N, rs, (o1 : Int) :: R, rfl, T3.keep s19, hf9, hin, by omega, fun _ H10 s10 => ?_, fun nw => absurd wk nw⟩
      have s110 := s19.trans s10
      refine ⟨_, rfl, _, rfl, p, q, f, N, rs, (o1 : Int) :: R, rfl, s110 _ _ hp3, hR3.keep s110, hT, s10 _ _ hf9, by omega, fun _ H11 s11 => ⟨rfl, _, rfl, ite_f (by simp) ?_⟩, fun nw => absurd wk nw⟩
      have s111 := s110.trans s11
      have hf11 := s11 _ _ (s10 _ _ hf9)
      -- bent = list(found)
      refine ⟨_, rfl, f, _, rfl, .inl (SqL.of hf11), fun b hb => ?_⟩
      have s12 : Same H11 (upd H11 b (.lst (((o1 : Int) :: R).map V.int))) := same_new hb
      have hb12 : upd H11 b (.lst (((o1 : Int) :: R).map V.int)) b = some (.lst (((o1 : Int) :: R).map V.int)) := upd_same
      have hbn : H3 b = none := s111.free hb
      have hbf : f ≠ b := ne_of_none hf11 hb
      generalize upd H11 b (.lst (((o1 : Int) :: R).map V.int)) = H12 at s12 hb12
      have s112 := s111.trans s12
      have hS12 := s112.seq hS3
      have hp12 := s112 _ _ hp3
      refine ⟨_, rfl, a, ns, 5, rfl, hS12, by decide, fun c5 => ⟨_, rfl, p, _, 0, _, rfl, rfl, SqT.of hp12, atI_nat (j := 0) rfl, _, _, rfl, rfl, by omega, ?_⟩⟩
      obtain ⟨o5, ho5, hb5⟩ := inN c5
      have i5 : InV N (c5 % (N : Int)) := ⟨by omega, by omega⟩
      refine ⟨_, rfl, _, rfl, a, ns, 4, rfl, hS12, by decide, fun c4 => ⟨_, rfl, b, _, rfl, .inl (SqL.of hb12), _, _, rfl, rfl, by rw [List.length_map, List.length_cons]; omega, ?_⟩⟩
      have lpos : (0 : Int) < (((o1 : Int) :: R).map V.int).length := by rw [List.length_map, List.length_cons]; omega
      obtain ⟨o4, ho4⟩ := Int.eq_ofNat_of_zero_le (Int.emod_nonneg c4 (show ((((o1 : Int) :: R).map V.int).length : Int) ≠ 0 by omega))
      have hb4 : o4 < (((o1 : Int) :: R).map V.int).length := by have := Int.emod_lt_of_pos c4 lpos; omega
      refine ⟨b, _, _, o4, rfl, rfl, hb12, (congrArg _ ho4).trans (ixN_nat hb4), ?_⟩
      have hin2 : ∀ y ∈ ((o1 : Int) :: R).set o4 (c5 % (N : Int)), InV N y := fun y hy => by
        rcases List.mem_or_eq_of_mem_set hy with z | z
        · exact hin y z
        · rw [z]; exact i5
      have hl2 : (((o1 : Int) :: R).set o4 (c5 % (N : Int))).length ≤ 24 := by rw [List.length_set]; exact hl24
      have hb13 : upd H12 b (.lst ((((o1 : Int) :: R).map V.int).set o4 (.int (c5 % (N : Int))))) b = some (.lst ((((o1 : Int) :: R).set o4 (c5 % (N : Int))).map V.int)) := by rw [upd_same, map_set_int]
      have s113 : Same H3 (upd H12 b (.lst ((((o1 : Int) :: R).map V.int).set o4 (.int (c5 % (N : Int)))))) := same_upd s112 hbn
      have hf13 : upd H12 b (.lst ((((o1 : Int) :: R).map V.int).set o4 (.int (c5 % (N : Int))))) f = some (.lst (((o1 : Int) :: R).map V.int)) := by rw [upd_ne hbf]; exact s12 _ _ hf11
      revert hb13 s113 hf13
      generalize upd H12 b _ = H13
      intro hb13 s113 hf13
      generalize ((o1 : Int) :: R).set o4 (c5 % (N : Int)) = bs at hin2 hl2 hb13
      -- long(tree, bent) != _law_long(told, bent)
      have fin : ∀ H15, Same H13 H15 → ∃ a' b' xs', V.ref f = .ref a' ∧ ([] : List V) = [] ∧ H15 a' = some (.lst xs') ∧ Same H3 (upd H15 a' (.lst [])) := fun H15 s15' => ⟨f, f, _, rfl, rfl, s15' _ _ hf13, same_upd (s113.trans s15') hf4⟩
      refine ⟨_, rfl, _, rfl, x, tq, b, N, rs, bs, rfl, T3.keep s113, hb13, hin2, by omega, fun wk2 H14 s14 => ?_, fun nw2 H14 s14 => ?_⟩
      · have s114 := s113.trans s14
        refine ⟨_, rfl, _, rfl, p, q, b, N, rs, bs, rfl, s114 _ _ hp3, hR3.keep s114, hT, s14 _ _ hb13, by omega, fun _ H15 s15' => ⟨rfl, _, rfl, ite_f (by simp) ?_⟩, fun nw => absurd wk2 nw⟩
        exact ⟨_, rfl, .inl ⟨rfl, _, SqL.of (s15' _ _ (s14 _ _ hf13))⟩, f, _, rfl, rfl, s15' _ _ (s14 _ _ hf13), ⟨_, _, _, _, _, _, _, _, _, _, rfl⟩, same_upd (s114.trans s15') hf4⟩
      · have s114 := s113.trans s14
        refine ⟨_, rfl, _, rfl, p, q, b, N, rs, bs, rfl, s114 _ _ hp3, hR3.keep s114, hT, s14 _ _ hb13, by omega, fun wk2 => absurd wk2 nw2, fun _ H15 s15' => ⟨rfl, _, rfl, ite_f (by simp) ?_⟩⟩
        exact ⟨_, rfl, .inl ⟨rfl, _, SqL.of (s15' _ _ (s14 _ _ hf13))⟩, f, _, rfl, rfl, s15' _ _ (s14 _ _ hf13), ⟨_, _, _, _, _, _, _, _, _, _, rfl⟩, same_upd (s114.trans s15') hf4⟩
    · rintro σ H4 ⟨⟨v6, v7, v8, v9, v10, v11, v12, v13, v14, v15, rfl⟩, s⟩
      -- return long(tree, [one]) == 0 and long(tree, []) == 0
      refine ⟨_, rfl, _, rfl, by show 1 ≤ sizeLine; decide, fun l hl => ?_⟩
      have s5 : Same H3 (upd H4 l (.lst [.int o1])) := s.trans (same_new hl)
      refine ⟨x, tq, l, N, rs, [(o1 : Int)], rfl, T3.keep s5, upd_same, fun y hy => by rw [List.mem_singleton.mp hy]; exact v1, by show 1 ≤ 100; decide, fun _ H6 s6 => ?_, fun nw => absurd (walk_none rs o1) nw⟩
      refine ⟨rfl, _, rfl, ite_t (by show decide (V.int (longTo rs [(o1 : Int)] 0) = V.int 0) = true; rw [longTo_zero]; simp) ?_⟩
      have s16 := s5.trans s6
      refine ⟨_, rfl, Nat.zero_le _, fun e he => ?_⟩
      have s7 : Same H3 (upd H6 e (.lst [])) := s16.trans (same_new he)
      refine ⟨x, tq, e, N, rs, [], rfl, T3.keep s7, upd_same, fun y hy => absurd hy List.not_mem_nil, by decide, fun _ H8 s8 => ?_, fun nw => absurd (walk_nil rs) nw⟩
      refine ⟨rfl, ?_⟩
      rw [show ([] : List Int).length - 1 = 0 from rfl, longTo_zero]
      exact k _
end
end WR
namespace WR
open PySem L2
theorem binds1 {K : PySem.W.Frag} {x qual a0 : Str} {st : Stmt} {f : Addr} {fd : FuncData} (F : Fun K x qual st f fd) (h : ∀ (kV doc pm : Value) (an : Option Addr) (cdv ct u0 : Value), bindArgs (PySem.W.fnOf x qual (defArgs st) (defBody st) (defScope st) .none kV doc pm an cdv ct) ⟨[u0], []⟩ = pure [(a0, u0)]) : Binds K fd [a0] [] :=
  F.binds (ps := [a0]) fun kV doc pm an cdv ct us hl => match us, hl with | [u0], _ => h kV doc pm an cdv ct u0
theorem binds2 {K : PySem.W.Frag} {x qual a0 a1 : Str} {st : Stmt} {f : Addr} {fd : FuncData} (F : Fun K x qual st f fd) (h : ∀ (kV doc pm : Value) (an : Option Addr) (cdv ct u0 u1 : Value), bindArgs (PySem.W.fnOf x qual (defArgs st) (defBody st) (defScope st) .none kV doc pm an cdv ct) ⟨[u0, u1], []⟩ = pure [(a0, u0), (a1, u1)]) : Binds K fd [a0, a1] [] :=
  F.binds (ps := [a0, a1]) fun kV doc pm an cdv ct us hl => match us, hl with | [u0, u1], _ => h kV doc pm an cdv ct u0 u1
theorem binds3 {K : PySem.W.Frag} {x qual a0 a1 a2 : Str} {st : Stmt} {f : Addr} {fd : FuncData} (F : Fun K x qual st f fd) (h : ∀ (kV doc pm : Value) (an : Option Addr) (cdv ct u0 u1 u2 : Value), bindArgs (PySem.W.fnOf x qual (defArgs st) (defBody st) (defScope st) .none kV doc pm an cdv ct) ⟨[u0, u1, u2], []⟩ = pure [(a0, u0), (a1, u1), (a2, u2)]) : Binds K fd [a0, a1, a2] [] :=
  F.binds (ps := [a0, a1, a2]) fun kV doc pm an cdv ct us hl => match us, hl with | [u0, u1, u2], _ => h kV doc pm an cdv ct u0 u1 u2
theorem all_mk {l : PySem.W.OpenLaw} {w : World} {K : PySem.W.Frag} {h : Heap} {mg : Str → Option Value} {fa : Addr} (X : K.In h) (G : h.Ns mainGlobals mg) (hfa : mg "law" = some (.ref fa))
    {f_is_number : Addr} {oc_0 kV_0 dc_0 pm_0 cd_0 ct_0 : Value} {od_0 an_0 : Option Addr} {sl_0 : Array (Option Value)}
    {f_is_whole : Addr} {oc_1 kV_1 dc_1 pm_1 cd_1 ct_1 : Value} {od_1 an_1 : Option Addr} {sl_1 : Array (Option Value)}
    {f_is_road : Addr} {oc_2 kV_2 dc_2 pm_2 cd_2 ct_2 : Value} {od_2 an_2 : Option Addr} {sl_2 : Array (Option Value)}
    {f_is_tree : Addr} {oc_3 kV_3 dc_3 pm_3 cd_3 ct_3 : Value} {od_3 an_3 : Option Addr} {sl_3 : Array (Option Value)}
    {f_steps : Addr} {oc_4 kV_4 dc_4 pm_4 cd_4 ct_4 : Value} {od_4 an_4 : Option Addr} {sl_4 : Array (Option Value)}
    {f_reached : Addr} {oc_5 kV_5 dc_5 pm_5 cd_5 ct_5 : Value} {od_5 an_5 : Option Addr} {sl_5 : Array (Option Value)}
    {f_Tree_init : Addr} {oc_6 kV_6 dc_6 pm_6 cd_6 ct_6 : Value} {od_6 an_6 : Option Addr} {sl_6 : Array (Option Value)}
    {f_Tree_roads : Addr} {oc_7 kV_7 dc_7 pm_7 cd_7 ct_7 : Value} {od_7 an_7 : Option Addr} {sl_7 : Array (Option Value)}
    {f_need_village : Addr} {oc_8 kV_8 dc_8 pm_8 cd_8 ct_8 : Value} {od_8 an_8 : Option Addr} {sl_8 : Array (Option Value)}
    {f_way : Addr} {oc_9 kV_9 dc_9 pm_9 cd_9 ct_9 : Value} {od_9 an_9 : Option Addr} {sl_9 : Array (Option Value)}
    {f_errand : Addr} {oc_10 kV_10 dc_10 pm_10 cd_10 ct_10 : Value} {od_10 an_10 : Option Addr} {sl_10 : Array (Option Value)}
    {f_there_and_back : Addr} {oc_11 kV_11 dc_11 pm_11 cd_11 ct_11 : Value} {od_11 an_11 : Option Addr} {sl_11 : Array (Option Value)}
    {f_long : Addr} {oc_12 kV_12 dc_12 pm_12 cd_12 ct_12 : Value} {od_12 an_12 : Option Addr} {sl_12 : Array (Option Value)}
    {f__law_cell_at : Addr} {oc_13 kV_13 dc_13 pm_13 cd_13 ct_13 : Value} {od_13 an_13 : Option Addr} {sl_13 : Array (Option Value)}
    {f__law_draw : Addr} {oc_14 kV_14 dc_14 pm_14 cd_14 ct_14 : Value} {od_14 an_14 : Option Addr} {sl_14 : Array (Option Value)}
    {f__law_told : Addr} {oc_15 kV_15 dc_15 pm_15 cd_15 ct_15 : Value} {od_15 an_15 : Option Addr} {sl_15 : Array (Option Value)}
    {f__law_name : Addr} {oc_16 kV_16 dc_16 pm_16 cd_16 ct_16 : Value} {od_16 an_16 : Option Addr} {sl_16 : Array (Option Value)}
    {f__law_rows : Addr} {oc_17 kV_17 dc_17 pm_17 cd_17 ct_17 : Value} {od_17 an_17 : Option Addr} {sl_17 : Array (Option Value)}
    {f__law_gone : Addr} {oc_18 kV_18 dc_18 pm_18 cd_18 ct_18 : Value} {od_18 an_18 : Option Addr} {sl_18 : Array (Option Value)}
    {f__law_long : Addr} {oc_19 kV_19 dc_19 pm_19 cd_19 ct_19 : Value} {od_19 an_19 : Option Addr} {sl_19 : Array (Option Value)}
    {f_law : Addr} {oc_20 kV_20 dc_20 pm_20 cd_20 ct_20 : Value} {od_20 an_20 : Option Addr} {sl_20 : Array (Option Value)}
    {C_Tree : Addr}
    {t_MOST_VILLAGES : Tok}
    {t_MOST_LENGTH : Tok}
    (aC_Tree : PySem.W.nsIn K mainGlobals "Tree" = some (some (.ref C_Tree)))
    (a_is_number : PySem.W.nsIn K mainGlobals "is_number" = some (some (.ref f_is_number)))
    (l_is_number : K.lookup f_is_number = some ⟨oc_0, od_0, .func (PySem.W.fnOf "is_number" "is_number" (defArgs s_is_number) (defBody s_is_number) (defScope s_is_number) .none kV_0 dc_0 pm_0 an_0 cd_0 ct_0), sl_0⟩)
    (c_is_number : PySem.W.codeIn K cd_0 "is_number" = true)
    (k_is_number : PySem.W.keepIn K (.ref f_is_number) = true)
    (a_is_whole : PySem.W.nsIn K mainGlobals "is_whole" = some (some (.ref f_is_whole)))
    (l_is_whole : K.lookup f_is_whole = some ⟨oc_1, od_1, .func (PySem.W.fnOf "is_whole" "is_whole" (defArgs s_is_whole) (defBody s_is_whole) (defScope s_is_whole) .none kV_1 dc_1 pm_1 an_1 cd_1 ct_1), sl_1⟩)
    (c_is_whole : PySem.W.codeIn K cd_1 "is_whole" = true)
    (k_is_whole : PySem.W.keepIn K (.ref f_is_whole) = true)
    (a_is_road : PySem.W.nsIn K mainGlobals "is_road" = some (some (.ref f_is_road)))
    (l_is_road : K.lookup f_is_road = some ⟨oc_2, od_2, .func (PySem.W.fnOf "is_road" "is_road" (defArgs s_is_road) (defBody s_is_road) (defScope s_is_road) .none kV_2 dc_2 pm_2 an_2 cd_2 ct_2), sl_2⟩)
    (c_is_road : PySem.W.codeIn K cd_2 "is_road" = true)
    (k_is_road : PySem.W.keepIn K (.ref f_is_road) = true)
    (a_is_tree : PySem.W.nsIn K mainGlobals "is_tree" = some (some (.ref f_is_tree)))
    (l_is_tree : K.lookup f_is_tree = some ⟨oc_3, od_3, .func (PySem.W.fnOf "is_tree" "is_tree" (defArgs s_is_tree) (defBody s_is_tree) (defScope s_is_tree) .none kV_3 dc_3 pm_3 an_3 cd_3 ct_3), sl_3⟩)
    (c_is_tree : PySem.W.codeIn K cd_3 "is_tree" = true)
    (k_is_tree : PySem.W.keepIn K (.ref f_is_tree) = true)
    (a_steps : PySem.W.nsIn K mainGlobals "steps" = some (some (.ref f_steps)))
    (l_steps : K.lookup f_steps = some ⟨oc_4, od_4, .func (PySem.W.fnOf "steps" "steps" (defArgs s_steps) (defBody s_steps) (defScope s_steps) .none kV_4 dc_4 pm_4 an_4 cd_4 ct_4), sl_4⟩)
    (c_steps : PySem.W.codeIn K cd_4 "steps" = true)
    (k_steps : PySem.W.keepIn K (.ref f_steps) = true)
    (a_reached : PySem.W.nsIn K mainGlobals "reached" = some (some (.ref f_reached)))
    (l_reached : K.lookup f_reached = some ⟨oc_5, od_5, .func (PySem.W.fnOf "reached" "reached" (defArgs s_reached) (defBody s_reached) (defScope s_reached) .none kV_5 dc_5 pm_5 an_5 cd_5 ct_5), sl_5⟩)
    (c_reached : PySem.W.codeIn K cd_5 "reached" = true)
    (k_reached : PySem.W.keepIn K (.ref f_reached) = true)
    (a_Tree_init : PySem.W.findIn K (.ref C_Tree) "__init__" = some (some (.ref f_Tree_init)))
    (i_Tree_init : PySem.W.isFn K (.ref f_Tree_init) = true)
    (l_Tree_init : K.lookup f_Tree_init = some ⟨oc_6, od_6, .func (PySem.W.fnOf "__init__" "Tree.__init__" (defArgs s_Tree_init) (defBody s_Tree_init) (defScope s_Tree_init) .none kV_6 dc_6 pm_6 an_6 cd_6 ct_6), sl_6⟩)
    (c_Tree_init : PySem.W.codeIn K cd_6 "Tree.__init__" = true)
    (k_Tree_init : PySem.W.keepIn K (.ref f_Tree_init) = true)
    (a_Tree_roads : PySem.W.findIn K (.ref C_Tree) "roads" = some (some (.ref f_Tree_roads)))
    (i_Tree_roads : PySem.W.isFn K (.ref f_Tree_roads) = true)
    (l_Tree_roads : K.lookup f_Tree_roads = some ⟨oc_7, od_7, .func (PySem.W.fnOf "roads" "Tree.roads" (defArgs s_Tree_roads) (defBody s_Tree_roads) (defScope s_Tree_roads) .none kV_7 dc_7 pm_7 an_7 cd_7 ct_7), sl_7⟩)
    (c_Tree_roads : PySem.W.codeIn K cd_7 "Tree.roads" = true)
    (k_Tree_roads : PySem.W.keepIn K (.ref f_Tree_roads) = true)
    (a_need_village : PySem.W.nsIn K mainGlobals "need_village" = some (some (.ref f_need_village)))
    (l_need_village : K.lookup f_need_village = some ⟨oc_8, od_8, .func (PySem.W.fnOf "need_village" "need_village" (defArgs s_need_village) (defBody s_need_village) (defScope s_need_village) .none kV_8 dc_8 pm_8 an_8 cd_8 ct_8), sl_8⟩)
    (c_need_village : PySem.W.codeIn K cd_8 "need_village" = true)
    (k_need_village : PySem.W.keepIn K (.ref f_need_village) = true)
    (a_way : PySem.W.nsIn K mainGlobals "way" = some (some (.ref f_way)))
    (l_way : K.lookup f_way = some ⟨oc_9, od_9, .func (PySem.W.fnOf "way" "way" (defArgs s_way) (defBody s_way) (defScope s_way) .none kV_9 dc_9 pm_9 an_9 cd_9 ct_9), sl_9⟩)
    (c_way : PySem.W.codeIn K cd_9 "way" = true)
    (k_way : PySem.W.keepIn K (.ref f_way) = true)
    (a_errand : PySem.W.nsIn K mainGlobals "errand" = some (some (.ref f_errand)))
    (l_errand : K.lookup f_errand = some ⟨oc_10, od_10, .func (PySem.W.fnOf "errand" "errand" (defArgs s_errand) (defBody s_errand) (defScope s_errand) .none kV_10 dc_10 pm_10 an_10 cd_10 ct_10), sl_10⟩)
    (c_errand : PySem.W.codeIn K cd_10 "errand" = true)
    (k_errand : PySem.W.keepIn K (.ref f_errand) = true)
    (a_there_and_back : PySem.W.nsIn K mainGlobals "there_and_back" = some (some (.ref f_there_and_back)))
    (l_there_and_back : K.lookup f_there_and_back = some ⟨oc_11, od_11, .func (PySem.W.fnOf "there_and_back" "there_and_back" (defArgs s_there_and_back) (defBody s_there_and_back) (defScope s_there_and_back) .none kV_11 dc_11 pm_11 an_11 cd_11 ct_11), sl_11⟩)
    (c_there_and_back : PySem.W.codeIn K cd_11 "there_and_back" = true)
    (k_there_and_back : PySem.W.keepIn K (.ref f_there_and_back) = true)
    (a_long : PySem.W.nsIn K mainGlobals "long" = some (some (.ref f_long)))
    (l_long : K.lookup f_long = some ⟨oc_12, od_12, .func (PySem.W.fnOf "long" "long" (defArgs s_long) (defBody s_long) (defScope s_long) .none kV_12 dc_12 pm_12 an_12 cd_12 ct_12), sl_12⟩)
    (c_long : PySem.W.codeIn K cd_12 "long" = true)
    (k_long : PySem.W.keepIn K (.ref f_long) = true)
    (a__law_cell_at : PySem.W.nsIn K mainGlobals "_law_cell_at" = some (some (.ref f__law_cell_at)))
    (l__law_cell_at : K.lookup f__law_cell_at = some ⟨oc_13, od_13, .func (PySem.W.fnOf "_law_cell_at" "_law_cell_at" (defArgs s__law_cell_at) (defBody s__law_cell_at) (defScope s__law_cell_at) .none kV_13 dc_13 pm_13 an_13 cd_13 ct_13), sl_13⟩)
    (c__law_cell_at : PySem.W.codeIn K cd_13 "_law_cell_at" = true)
    (k__law_cell_at : PySem.W.keepIn K (.ref f__law_cell_at) = true)
    (a__law_draw : PySem.W.nsIn K mainGlobals "_law_draw" = some (some (.ref f__law_draw)))
    (l__law_draw : K.lookup f__law_draw = some ⟨oc_14, od_14, .func (PySem.W.fnOf "_law_draw" "_law_draw" (defArgs s__law_draw) (defBody s__law_draw) (defScope s__law_draw) .none kV_14 dc_14 pm_14 an_14 cd_14 ct_14), sl_14⟩)
    (c__law_draw : PySem.W.codeIn K cd_14 "_law_draw" = true)
    (k__law_draw : PySem.W.keepIn K (.ref f__law_draw) = true)
    (a__law_told : PySem.W.nsIn K mainGlobals "_law_told" = some (some (.ref f__law_told)))
    (l__law_told : K.lookup f__law_told = some ⟨oc_15, od_15, .func (PySem.W.fnOf "_law_told" "_law_told" (defArgs s__law_told) (defBody s__law_told) (defScope s__law_told) .none kV_15 dc_15 pm_15 an_15 cd_15 ct_15), sl_15⟩)
    (c__law_told : PySem.W.codeIn K cd_15 "_law_told" = true)
    (k__law_told : PySem.W.keepIn K (.ref f__law_told) = true)
    (a__law_name : PySem.W.nsIn K mainGlobals "_law_name" = some (some (.ref f__law_name)))
    (l__law_name : K.lookup f__law_name = some ⟨oc_16, od_16, .func (PySem.W.fnOf "_law_name" "_law_name" (defArgs s__law_name) (defBody s__law_name) (defScope s__law_name) .none kV_16 dc_16 pm_16 an_16 cd_16 ct_16), sl_16⟩)
    (c__law_name : PySem.W.codeIn K cd_16 "_law_name" = true)
    (k__law_name : PySem.W.keepIn K (.ref f__law_name) = true)
    (a__law_rows : PySem.W.nsIn K mainGlobals "_law_rows" = some (some (.ref f__law_rows)))
    (l__law_rows : K.lookup f__law_rows = some ⟨oc_17, od_17, .func (PySem.W.fnOf "_law_rows" "_law_rows" (defArgs s__law_rows) (defBody s__law_rows) (defScope s__law_rows) .none kV_17 dc_17 pm_17 an_17 cd_17 ct_17), sl_17⟩)
    (c__law_rows : PySem.W.codeIn K cd_17 "_law_rows" = true)
    (k__law_rows : PySem.W.keepIn K (.ref f__law_rows) = true)
    (a__law_gone : PySem.W.nsIn K mainGlobals "_law_gone" = some (some (.ref f__law_gone)))
    (l__law_gone : K.lookup f__law_gone = some ⟨oc_18, od_18, .func (PySem.W.fnOf "_law_gone" "_law_gone" (defArgs s__law_gone) (defBody s__law_gone) (defScope s__law_gone) .none kV_18 dc_18 pm_18 an_18 cd_18 ct_18), sl_18⟩)
    (c__law_gone : PySem.W.codeIn K cd_18 "_law_gone" = true)
    (k__law_gone : PySem.W.keepIn K (.ref f__law_gone) = true)
    (a__law_long : PySem.W.nsIn K mainGlobals "_law_long" = some (some (.ref f__law_long)))
    (l__law_long : K.lookup f__law_long = some ⟨oc_19, od_19, .func (PySem.W.fnOf "_law_long" "_law_long" (defArgs s__law_long) (defBody s__law_long) (defScope s__law_long) .none kV_19 dc_19 pm_19 an_19 cd_19 ct_19), sl_19⟩)
    (c__law_long : PySem.W.codeIn K cd_19 "_law_long" = true)
    (k__law_long : PySem.W.keepIn K (.ref f__law_long) = true)
    (a_law : PySem.W.nsIn K mainGlobals "law" = some (some (.ref f_law)))
    (l_law : K.lookup f_law = some ⟨oc_20, od_20, .func (PySem.W.fnOf "law" "law" (defArgs s_law) (defBody s_law) (defScope s_law) .none kV_20 dc_20 pm_20 an_20 cd_20 ct_20), sl_20⟩)
    (c_law : PySem.W.codeIn K cd_20 "law" = true)
    (k_law : PySem.W.keepIn K (.ref f_law) = true)
    (pg_Tree : PySem.W.plainGet K C_Tree Str.empty = true)
    (hd_Tree : PySem.W.hasDictIn K C_Tree = true)
    (po_Tree : PySem.W.plainOver K C_Tree = true)
    (sa_Tree : PySem.W.findIn K (.ref C_Tree) "__setattr__" = some (some (.builtin "object.__setattr__")))
    (mk_Tree : PySem.W.makesIn K C_Tree = true)
    (kc_Tree : PySem.W.keepIn K (.ref C_Tree) = true)
    (nA_Tree_road_list : PySem.W.findIn K (.ref C_Tree) "road_list" = some none)
    (nA_Tree_size : PySem.W.findIn K (.ref C_Tree) "size" = some none)
    (z_ValueError : PySem.W.nsIn K mainGlobals "ValueError" = some none)
    (z_all : PySem.W.nsIn K mainGlobals "all" = some none)
    (z_bool : PySem.W.nsIn K mainGlobals "bool" = some none)
    (z_dict : PySem.W.nsIn K mainGlobals "dict" = some none)
    (z_int : PySem.W.nsIn K mainGlobals "int" = some none)
    (z_isinstance : PySem.W.nsIn K mainGlobals "isinstance" = some none)
    (z_len : PySem.W.nsIn K mainGlobals "len" = some none)
    (z_list : PySem.W.nsIn K mainGlobals "list" = some none)
    (z_max : PySem.W.nsIn K mainGlobals "max" = some none)
    (z_min : PySem.W.nsIn K mainGlobals "min" = some none)
    (z_range : PySem.W.nsIn K mainGlobals "range" = some none)
    (z_set : PySem.W.nsIn K mainGlobals "set" = some none)
    (z_sorted : PySem.W.nsIn K mainGlobals "sorted" = some none)
    (z_sum : PySem.W.nsIn K mainGlobals "sum" = some none)
    (z_tuple : PySem.W.nsIn K mainGlobals "tuple" = some none)
    (z_zip : PySem.W.nsIn K mainGlobals "zip" = some none)
    (g_MOST_VILLAGES : PySem.W.nsIn K mainGlobals "MOST_VILLAGES" = some (some (.int 12 t_MOST_VILLAGES)))
    (g_MOST_LENGTH : PySem.W.nsIn K mainGlobals "MOST_LENGTH" = some (some (.int 1000000 t_MOST_LENGTH))) :
    ∃ fd : FuncData, (∀ (s : Shared) (v : Value), BindsTo s fd ⟨[v], []⟩ [("_law_script", v)]) ∧ ∀ base : Heap, K.In base → base.Ns mainGlobals mg → FnOk l.prog w K mg base CX0 17 fa fd ["_law_script"] (spLaw K) := by
  have e := hfa.symm.trans (PySem.W.mg_of X G a_law)
  cases e
  have F_is_number := fun_mk (st := s_is_number) l_is_number c_is_number k_is_number
  have b_is_number : Binds K _ ["value"] [] := binds1 F_is_number fun _ _ _ _ _ _ _ => rfl
  have F_is_whole := fun_mk (st := s_is_whole) l_is_whole c_is_whole k_is_whole
  have b_is_whole : Binds K _ ["value", "least", "most"] [] := binds3 F_is_whole fun _ _ _ _ _ _ _ _ _ => rfl
  have F_is_road := fun_mk (st := s_is_road) l_is_road c_is_road k_is_road
  have b_is_road : Binds K _ ["road", "villages"] [] := binds2 F_is_road fun _ _ _ _ _ _ _ _ => rfl
  have F_is_tree := fun_mk (st := s_is_tree) l_is_tree c_is_tree k_is_tree
  have b_is_tree : Binds K _ ["villages", "roads"] [] := binds2 F_is_tree fun _ _ _ _ _ _ _ _ => rfl
  have F_steps := fun_mk (st := s_steps) l_steps c_steps k_steps
  have b_steps : Binds K _ ["roads", "village"] [] := binds2 F_steps fun _ _ _ _ _ _ _ _ => rfl
  have F_reached := fun_mk (st := s_reached) l_reached c_reached k_reached
  have b_reached : Binds K _ ["roads", "start"] [] := binds2 F_reached fun _ _ _ _ _ _ _ _ => rfl
  have F_Tree_init := fun_mk (st := s_Tree_init) l_Tree_init c_Tree_init k_Tree_init
  have b_Tree_init : Binds K _ ["self", "villages", "roads"] [] := binds3 F_Tree_init fun _ _ _ _ _ _ _ _ _ => rfl
  have F_Tree_roads := fun_mk (st := s_Tree_roads) l_Tree_roads c_Tree_roads k_Tree_roads
  have b_Tree_roads : Binds K _ ["self"] [] := binds1 F_Tree_roads fun _ _ _ _ _ _ _ => rfl
  have F_need_village := fun_mk (st := s_need_village) l_need_village c_need_village k_need_village
  have b_need_village : Binds K _ ["tree", "village"] [] := binds2 F_need_village fun _ _ _ _ _ _ _ _ => rfl
  have F_way := fun_mk (st := s_way) l_way c_way k_way
  have b_way : Binds K _ ["tree", "one", "other"] [] := binds3 F_way fun _ _ _ _ _ _ _ _ _ => rfl
  have F_errand := fun_mk (st := s_errand) l_errand c_errand k_errand
  have b_errand : Binds K _ ["tree", "one", "other"] [] := binds3 F_errand fun _ _ _ _ _ _ _ _ _ => rfl
  have F_there_and_back := fun_mk (st := s_there_and_back) l_there_and_back c_there_and_back k_there_and_back
  have b_there_and_back : Binds K _ ["roads", "here", "closed"] [] := binds3 F_there_and_back fun _ _ _ _ _ _ _ _ _ => rfl
  have F_long := fun_mk (st := s_long) l_long c_long k_long
  have b_long : Binds K _ ["tree", "walk"] [] := binds2 F_long fun _ _ _ _ _ _ _ _ => rfl
  have F__law_cell_at := fun_mk (st := s__law_cell_at) l__law_cell_at c__law_cell_at k__law_cell_at
  have b__law_cell_at : Binds K _ ["_law_script", "_law_k"] [] := binds2 F__law_cell_at fun _ _ _ _ _ _ _ _ => rfl
  have F__law_draw := fun_mk (st := s__law_draw) l__law_draw c__law_draw k__law_draw
  have b__law_draw : Binds K _ ["_law_cell", "_law_k", "_law_many"] [] := binds3 F__law_draw fun _ _ _ _ _ _ _ _ _ => rfl
  have F__law_told := fun_mk (st := s__law_told) l__law_told c__law_told k__law_told
  have b__law_told : Binds K _ ["_law_script", "_law_first", "_law_most"] [] := binds3 F__law_told fun _ _ _ _ _ _ _ _ _ => rfl
  have F__law_name := fun_mk (st := s__law_name) l__law_name c__law_name k__law_name
  have b__law_name : Binds K _ ["_law_k", "_law_villages", "_law_turn"] [] := binds3 F__law_name fun _ _ _ _ _ _ _ _ _ => rfl
  have F__law_rows := fun_mk (st := s__law_rows) l__law_rows c__law_rows k__law_rows
  have b__law_rows : Binds K _ ["_law_told_here"] [] := binds1 F__law_rows fun _ _ _ _ _ _ _ => rfl
  have F__law_gone := fun_mk (st := s__law_gone) l__law_gone c__law_gone k__law_gone
  have b__law_gone : Binds K _ ["_law_told_here", "_law_walk"] [] := binds2 F__law_gone fun _ _ _ _ _ _ _ _ => rfl
  have F__law_long := fun_mk (st := s__law_long) l__law_long c__law_long k__law_long
  have b__law_long : Binds K _ ["_law_told_here", "_law_walk"] [] := binds2 F__law_long fun _ _ _ _ _ _ _ _ => rfl
  have F_law := fun_mk (st := s_law) l_law c_law k_law
  have b_law : Binds K _ ["_law_script"] [] := binds1 F_law fun _ _ _ _ _ _ _ => rfl
  have TT : Txt K mg { f_is_number := f_is_number, d_is_number := _, f_is_whole := f_is_whole, d_is_whole := _, f_is_road := f_is_road, d_is_road := _, f_is_tree := f_is_tree, d_is_tree := _, f_steps := f_steps, d_steps := _, f_reached := f_reached, d_reached := _, f_Tree_init := f_Tree_init, d_Tree_init := _, f_Tree_roads := f_Tree_roads, d_Tree_roads := _, f_need_village := f_need_village, d_need_village := _, f_way := f_way, d_way := _, f_errand := f_errand, d_errand := _, f_there_and_back := f_there_and_back, d_there_and_back := _, f_long := f_long, d_long := _, f__law_cell_at := f__law_cell_at, d__law_cell_at := _, f__law_draw := f__law_draw, d__law_draw := _, f__law_told := f__law_told, d__law_told := _, f__law_name := f__law_name, d__law_name := _, f__law_rows := f__law_rows, d__law_rows := _, f__law_gone := f__law_gone, d__law_gone := _, f__law_long := f__law_long, d__law_long := _, f_law := fa, d_law := _, C_RoadError := 0, C_BadTree := 0, C_NoVillage := 0, C_Tree := C_Tree, k_MOST_VILLAGES := t_MOST_VILLAGES, k_MOST_LENGTH := t_MOST_LENGTH } := {
    z_ValueError := PySem.W.mg_none_of X G z_ValueError,
    z_all := PySem.W.mg_none_of X G z_all,
    z_bool := PySem.W.mg_none_of X G z_bool,
    z_dict := PySem.W.mg_none_of X G z_dict,
    z_int := PySem.W.mg_none_of X G z_int,
    z_isinstance := PySem.W.mg_none_of X G z_isinstance,
    z_len := PySem.W.mg_none_of X G z_len,
    z_list := PySem.W.mg_none_of X G z_list,
    z_max := PySem.W.mg_none_of X G z_max,
    z_min := PySem.W.mg_none_of X G z_min,
    z_range := PySem.W.mg_none_of X G z_range,
    z_set := PySem.W.mg_none_of X G z_set,
    z_sorted := PySem.W.mg_none_of X G z_sorted,
    z_sum := PySem.W.mg_none_of X G z_sum,
    z_tuple := PySem.W.mg_none_of X G z_tuple,
    z_zip := PySem.W.mg_none_of X G z_zip,
    g_MOST_VILLAGES := PySem.W.mg_of X G g_MOST_VILLAGES,
    g_MOST_LENGTH := PySem.W.mg_of X G g_MOST_LENGTH,
    F_is_number := F_is_number,
    b_is_number := b_is_number,
    m_is_number := PySem.W.mg_of X G a_is_number,
    F_is_whole := F_is_whole,
    b_is_whole := b_is_whole,
    m_is_whole := PySem.W.mg_of X G a_is_whole,
    F_is_road := F_is_road,
    b_is_road := b_is_road,
    m_is_road := PySem.W.mg_of X G a_is_road,
    F_is_tree := F_is_tree,
    b_is_tree := b_is_tree,
    m_is_tree := PySem.W.mg_of X G a_is_tree,
    F_steps := F_steps,
    b_steps := b_steps,
    m_steps := PySem.W.mg_of X G a_steps,
    F_reached := F_reached,
    b_reached := b_reached,
    m_reached := PySem.W.mg_of X G a_reached,
    F_Tree_init := F_Tree_init,
    b_Tree_init := b_Tree_init,
    M_Tree := ⟨mk_Tree, a_Tree_init, i_Tree_init, kc_Tree⟩,
    F_Tree_roads := F_Tree_roads,
    b_Tree_roads := b_Tree_roads,
    M_Tree_roads := ⟨a_Tree_roads, i_Tree_roads, k_Tree_roads⟩,
    F_need_village := F_need_village,
    b_need_village := b_need_village,
    m_need_village := PySem.W.mg_of X G a_need_village,
    F_way := F_way,
    b_way := b_way,
    m_way := PySem.W.mg_of X G a_way,
    F_errand := F_errand,
    b_errand := b_errand,
    m_errand := PySem.W.mg_of X G a_errand,
    F_there_and_back := F_there_and_back,
    b_there_and_back := b_there_and_back,
    m_there_and_back := PySem.W.mg_of X G a_there_and_back,
    F_long := F_long,
    b_long := b_long,
    m_long := PySem.W.mg_of X G a_long,
    F__law_cell_at := F__law_cell_at,
    b__law_cell_at := b__law_cell_at,
    m__law_cell_at := PySem.W.mg_of X G a__law_cell_at,
    F__law_draw := F__law_draw,
    b__law_draw := b__law_draw,
    m__law_draw := PySem.W.mg_of X G a__law_draw,
    F__law_told := F__law_told,
    b__law_told := b__law_told,
    m__law_told := PySem.W.mg_of X G a__law_told,
    F__law_name := F__law_name,
    b__law_name := b__law_name,
    m__law_name := PySem.W.mg_of X G a__law_name,
    F__law_rows := F__law_rows,
    b__law_rows := b__law_rows,
    m__law_rows := PySem.W.mg_of X G a__law_rows,
    F__law_gone := F__law_gone,
    b__law_gone := b__law_gone,
    m__law_gone := PySem.W.mg_of X G a__law_gone,
    F__law_long := F__law_long,
    b__law_long := b__law_long,
    m__law_long := PySem.W.mg_of X G a__law_long,
    F_law := F_law,
    b_law := b_law,
    m_law := PySem.W.mg_of X G a_law,
    cl_Tree := ⟨pg_Tree, hd_Tree, po_Tree, sa_Tree⟩,
    m_Tree := PySem.W.mg_of X G aC_Tree,
    n_Tree_road_list := nA_Tree_road_list,
    n_Tree_size := nA_Tree_size }
  exact ⟨_, fun s v => .of_eq rfl, fun base _ _ => ok_law TT⟩
theorem walk {l : PySem.W.OpenLaw} {q : Program} {loose : List Str} {XP : (Str → Option Value) → Heap → Prop} {YP : World → Heap → Prop} {d : DefRec} {K : Params → PySem.W.Frag} (hn : l.most = some 63) (hdf : d.params.defaults = [])
    (hY : ∀ (w : World) (h : Heap), YP w h → (K w.params).In h)
    (F : ∀ (w : World) (mg : Str → Option Value) (fa : Addr) (h : Heap), (K w.params).In h → h.Ns mainGlobals mg → mg d.name = some (.ref fa) →
      ∃ fd : FuncData, (∀ (s : Shared) (u : Value), BindsTo s fd ⟨[u], []⟩ [("_law_script", u)]) ∧ ∀ base : Heap, (K w.params).In base → base.Ns mainGlobals mg → FnOk l.prog w (K w.params) mg base CX0 17 fa fd ["_law_script"] (spLaw (K w.params))) :
    PySem.W.WalkO q loose XP YP l.row.toRowW d [] (fun f vs => PySem.call f vs) :=
  L2.walk_of (n := 63) (k := 17) (x := "_law_script") (CX := fun _ => CX0) (sp := fun w => spLaw (K w.params)) hn (by decide) hdf ⟨rfl, by decide, by decide⟩ hY F (fun _ _ a ns hl _ hS => ⟨a, ns, rfl, hS, hl, fun _ => rfl⟩) fun _ _ _ _ _ z => z
end WR
open PySem PySem.W PyProof.Rows
set_option maxRecDepth 100000 in
set_option maxHeartbeats 0 in
theorem PySem.Challenge.cw_wellroads_k06_whole_errands_holds : PySem.Challenge.rw_wellroads_k06_whole_errands.Holds := by
  w_on; o_law; k_head; (case hw => w_witness2)
  k_fill
  refine WR.walk (l := PySem.Challenge.rw_wellroads_k06_whole_errands) rfl rfl (fun w h Y => PySem.W.kIn_of Y) ?F
  case F =>
    intro w mg fa h KX G hmg
    refine' WR.all_mk KX G hmg ?aC_Tree ?a_is_number ?l_is_number ?c_is_number ?k_is_number ?a_is_whole ?l_is_whole ?c_is_whole ?k_is_whole ?a_is_road ?l_is_road ?c_is_road ?k_is_road ?a_is_tree ?l_is_tree ?c_is_tree ?k_is_tree ?a_steps ?l_steps ?c_steps ?k_steps ?a_reached ?l_reached ?c_reached ?k_reached ?a_Tree_init ?i_Tree_init ?l_Tree_init ?c_Tree_init ?k_Tree_init ?a_Tree_roads ?i_Tree_roads ?l_Tree_roads ?c_Tree_roads ?k_Tree_roads ?a_need_village ?l_need_village ?c_need_village ?k_need_village ?a_way ?l_way ?c_way ?k_way ?a_errand ?l_errand ?c_errand ?k_errand ?a_there_and_back ?l_there_and_back ?c_there_and_back ?k_there_and_back ?a_long ?l_long ?c_long ?k_long ?a__law_cell_at ?l__law_cell_at ?c__law_cell_at ?k__law_cell_at ?a__law_draw ?l__law_draw ?c__law_draw ?k__law_draw ?a__law_told ?l__law_told ?c__law_told ?k__law_told ?a__law_name ?l__law_name ?c__law_name ?k__law_name ?a__law_rows ?l__law_rows ?c__law_rows ?k__law_rows ?a__law_gone ?l__law_gone ?c__law_gone ?k__law_gone ?a__law_long ?l__law_long ?c__law_long ?k__law_long ?a_law ?l_law ?c_law ?k_law ?pg_Tree ?hd_Tree ?po_Tree ?sa_Tree ?mk_Tree ?kc_Tree ?nA_Tree_road_list ?nA_Tree_size ?z_ValueError ?z_all ?z_bool ?z_dict ?z_int ?z_isinstance ?z_len ?z_list ?z_max ?z_min ?z_range ?z_set ?z_sorted ?z_sum ?z_tuple ?z_zip ?g_MOST_VILLAGES ?g_MOST_LENGTH
    (case aC_Tree => k_is)
    (case a_is_number => k_is)
    (case l_is_number => k_is)
    (case c_is_number => k_is)
    (case k_is_number => k_is)
    (case a_is_whole => k_is)
    (case l_is_whole => k_is)
    (case c_is_whole => k_is)
    (case k_is_whole => k_is)
    (case a_is_road => k_is)
    (case l_is_road => k_is)
    (case c_is_road => k_is)
    (case k_is_road => k_is)
    (case a_is_tree => k_is)
    (case l_is_tree => k_is)
    (case c_is_tree => k_is)
    (case k_is_tree => k_is)
    (case a_steps => k_is)
    (case l_steps => k_is)
    (case c_steps => k_is)
    (case k_steps => k_is)
    (case a_reached => k_is)
    (case l_reached => k_is)
    (case c_reached => k_is)
    (case k_reached => k_is)
    (case a_Tree_init => k_is)
    (case i_Tree_init => k_is)
    (case l_Tree_init => k_is)
    (case c_Tree_init => k_is)
    (case k_Tree_init => k_is)
    (case a_Tree_roads => k_is)
    (case i_Tree_roads => k_is)
    (case l_Tree_roads => k_is)
    (case c_Tree_roads => k_is)
    (case k_Tree_roads => k_is)
    (case a_need_village => k_is)
    (case l_need_village => k_is)
    (case c_need_village => k_is)
    (case k_need_village => k_is)
    (case a_way => k_is)
    (case l_way => k_is)
    (case c_way => k_is)
    (case k_way => k_is)
    (case a_errand => k_is)
    (case l_errand => k_is)
    (case c_errand => k_is)
    (case k_errand => k_is)
    (case a_there_and_back => k_is)
    (case l_there_and_back => k_is)
    (case c_there_and_back => k_is)
    (case k_there_and_back => k_is)
    (case a_long => k_is)
    (case l_long => k_is)
    (case c_long => k_is)
    (case k_long => k_is)
    (case a__law_cell_at => k_is)
    (case l__law_cell_at => k_is)
    (case c__law_cell_at => k_is)
    (case k__law_cell_at => k_is)
    (case a__law_draw => k_is)
    (case l__law_draw => k_is)
    (case c__law_draw => k_is)
    (case k__law_draw => k_is)
    (case a__law_told => k_is)
    (case l__law_told => k_is)
    (case c__law_told => k_is)
    (case k__law_told => k_is)
    (case a__law_name => k_is)
    (case l__law_name => k_is)
    (case c__law_name => k_is)
    (case k__law_name => k_is)
    (case a__law_rows => k_is)
    (case l__law_rows => k_is)
    (case c__law_rows => k_is)
    (case k__law_rows => k_is)
    (case a__law_gone => k_is)
    (case l__law_gone => k_is)
    (case c__law_gone => k_is)
    (case k__law_gone => k_is)
    (case a__law_long => k_is)
    (case l__law_long => k_is)
    (case c__law_long => k_is)
    (case k__law_long => k_is)
    (case a_law => k_is)
    (case l_law => k_is)
    (case c_law => k_is)
    (case k_law => k_is)
    (case pg_Tree => k_is)
    (case hd_Tree => k_is)
    (case po_Tree => k_is)
    (case sa_Tree => k_is)
    (case mk_Tree => k_is)
    (case kc_Tree => k_is)
    (case nA_Tree_road_list => k_is)
    (case nA_Tree_size => k_is)
    (case z_ValueError => k_is)
    (case z_all => k_is)
    (case z_bool => k_is)
    (case z_dict => k_is)
    (case z_int => k_is)
    (case z_isinstance => k_is)
    (case z_len => k_is)
    (case z_list => k_is)
    (case z_max => k_is)
    (case z_min => k_is)
    (case z_range => k_is)
    (case z_set => k_is)
    (case z_sorted => k_is)
    (case z_sum => k_is)
    (case z_tuple => k_is)
    (case z_zip => k_is)
    (case g_MOST_VILLAGES => k_is)
    (case g_MOST_LENGTH => k_is)
